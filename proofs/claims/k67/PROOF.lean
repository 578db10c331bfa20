import PyProof.Rows.All
import Wide.All
import OpenK.AllK
import Wide.FinOn
import Lean
import PyProof.EqAt
import PyProof.EqKinds
import PyProof.TupleCall
import PyProof.NeKinds
import PyProof.ReprRoads
import PyProof.ReprLen
import PyProof.Rows.RegStrFacts
import PyProof.Draws
import PyProof.EnumStmt
import PyProof.ZipIter
import PyProof.ListNew
import PyProof.TupleOfGen
import PyProof.ListRange
import PyProof.Rows.Range3
import PyProof.SumWalkG
import PyProof.Rows.RuleB_lshift
import PyProof.AutoSeq1
import PyProof.Cells
import PyProof.AutoListH
import PyProof.DictTable
import PyProof.RulesAs
import PyProof.NsDelKeeps
import KE.KDictList
import PyProof.DictCompW
import KE.KSortTup
import PyProof.DictWalks
import PySem.Challenge.RW_joinedasks_k67_refused_by_tables
set_option Elab.async false
set_option linter.all false
set_option maxRecDepth 100000
set_option maxHeartbeats 0
abbrev FG7:=PySem.W.Frag
abbrev VS7:=PySem.Value -> PySem.Shared -> Prop
namespace L2
open PySem PySem.Spec PyProof.Rows
abbrev Key:=Sum Int Str
def Zk:Key -> Value -> Bool
 | .inl k,v=>Value.isInt k v
 | .inr x,v=>Value.isStrOf x v
def keyH (w:World):Key -> Int
 | .inl k=>hashInt k
 | .inr x=>hashStr w x
theorem z7:∀ {k:Key} {v:Value},Zk k v = true -> (∃ i t,k = Sum.inl i /\ v = Value.int i t) \/ (∃ x t,k = Sum.inr x /\ v = Value.str x t)
 | .inl i,v,h=>by
  obtain ⟨t,e⟩:=Value.isInt_shape (k:=i) (v:=v) h
  exact .inl ⟨i,t,rfl,e⟩
 | .inr x,v,h=>by
  obtain ⟨t,e⟩:=Value.isStrOf_shape (x:=x) (v:=v) h
  exact .inr ⟨x,t,rfl,e⟩
theorem ZX (i:Int) (t:Tok):Zk (.inl i) (.int i t) = true:=by simp [Zk,Value.isInt]
theorem ZY (x:Str) (t:Tok):Zk (.inr x) (.str x t) = true:=by simp [Zk,Value.isStrOf]
theorem VI (a b:Int):decide ((Sum.inl a:Key) = Sum.inl b) = (a == b):=by
 by_cases e:a = b
 ·subst e; simp
 ·have h:¬ (Sum.inl a:Key) = Sum.inl b:=fun q=>e (Sum.inl.inj q)
  rw [decide_eq_false h]
  exact (beq_eq_false_iff_ne.mpr e).symm
theorem VJ (a b:Str):decide ((Sum.inr a:Key) = Sum.inr b) = decide (a = b):=by
 by_cases e:a = b
 ·subst e; simp
 ·have h:¬ (Sum.inr a:Key) = Sum.inr b:=fun q=>e (Sum.inr.inj q)
  rw [decide_eq_false h,decide_eq_false e]
theorem VL (a:Int) (b:Str):decide ((Sum.inl a:Key) = Sum.inr b) = false:=decide_eq_false (fun q=>nomatch q)
theorem VM (a:Str) (b:Int):decide ((Sum.inr a:Key) = Sum.inl b) = false:=decide_eq_false (fun q=>nomatch q)
def z8 (prog:Program) (w:World):PySem.KeyKind prog w Key where
 is:=Zk
 hash:=keyH w
 inj:=fun v a b ha hb=>by
  rcases z7 ha with ⟨i,t,rfl,rfl⟩ | ⟨x,t,rfl,rfl⟩
  ·rcases z7 hb with ⟨j,u,rfl,e⟩ | ⟨y,u,rfl,e⟩
   ·injection e with e1 _; rw [e1]
   ·exact nomatch e
  ·rcases z7 hb with ⟨j,u,rfl,e⟩ | ⟨y,u,rfl,e⟩
   ·exact nomatch e
   ·injection e with e1 _; rw [e1]
 byValue:=fun k v h=>by
  rcases z7 h with ⟨i,t,rfl,rfl⟩ | ⟨x,t,rfl,rfl⟩ <;> rfl
 pyHash:=fun hv h=>by
  rcases z7 hv with ⟨i,t,rfl,rfl⟩ | ⟨x,t,rfl,rfl⟩
  ·exact wpAny_pyHash_int h
  ·exact wpAny_pyHash_str h
 eqBool:=fun hu hv h=>by
  rcases z7 hu with ⟨i,t,rfl,rfl⟩ | ⟨x,t,rfl,rfl⟩
  ·rcases z7 hv with ⟨j,u,rfl,rfl⟩ | ⟨y,u,rfl,rfl⟩
   ·rw [VI] at h; exact wpAny_eqBool_int h
   ·rw [VL] at h; exact SeqAt.EqAt.int_str i t y u _ _ _ _ h
  ·rcases z7 hv with ⟨j,u,rfl,rfl⟩ | ⟨y,u,rfl,rfl⟩
   ·rw [VM] at h; exact SeqAt.EqAt.str_int x t j u _ _ _ _ h
   ·rw [VJ] at h; exact wpAny_eqBool_str h
 «strs»:=fun k x t v h=>by
  rcases z7 h with ⟨i,u,rfl,e⟩ | ⟨y,u,rfl,e⟩
  ·exact nomatch e
  ·injection e with e1 _
   subst e1
   cases v <;> rfl
theorem qF (prog:Program) (w:World) (i:Int) (t:Tok):(z8 prog w).is (.inl i) (.int i t) = true:=ZX i t
theorem qG (prog:Program) (w:World) (x:Str) (t:Tok):(z8 prog w).is (.inr x) (.str x t) = true:=ZY x t
end L2
namespace L2
open PySem PySem.Spec PyProof.Rows
inductive V where
 | non | bl (b:Bool) | int (i:Int) | str (x:Str) | byt (b:Array UInt8) | flt (b:UInt64) | ref (a:Addr) | ty (n:String)
 deriving DecidableEq
def RelV:V -> Value -> Prop
 | .non,u=>u = Value.none
 | .bl b,u=>u = Value.bool b
 | .int i,u=>∃ t,u = Value.int i t
 | .str x,u=>∃ t,u = Value.str x t
 | .byt b,u=>∃ t,u = Value.bytes b t
 | .flt b,u=>∃ t,u = Value.float b t
 | .ref a,u=>u = Value.ref a
 | .ty n,u=>u = Value.type n
abbrev Vals:List V -> List Value -> Prop:=Paired RelV
theorem Vals.length {xs:List V} {us:List Value} (r:Vals xs us):xs.length = us.length:=Paired.length r
theorem Vals.get:∀ {xs:List V} {us:List Value} {i:Nat} {x:V},Vals xs us -> xs[i]? = some x -> ∃ u,us[i]? = some u /\ RelV x u
 | _,_,_,_,.nil,e=>by simp at e
 | _,_,0,_,.cons r _,e=>by simp at e; subst e; exact ⟨_,rfl,r⟩
 | _,_,i + 1,x,.cons _ t,e=>by
  obtain ⟨u,h1,h2⟩:=Vals.get (i:=i) (x:=x) t (by simpa using e)
  exact ⟨u,by simpa using h1,h2⟩
theorem Vals.set {x:V} {u:Value} (r:RelV x u):∀ {xs:List V} {us:List Value} (i:Nat),Vals xs us -> Vals (xs.set i x) (us.set i u)
 | _,_,_,.nil=>.nil
 | _,_,0,.cons _ t=>.cons r t
 | _,_,i + 1,.cons q t=>.cons q (Vals.set r i t)
theorem Vals.append:∀ {xs ys:List V} {us ws:List Value},Vals xs us -> Vals ys ws -> Vals (xs ++ ys) (us ++ ws)
 | _,_,_,_,.nil,s=>s
 | _,_,_,_,.cons r t,s=>.cons r (Vals.append t s)
theorem Vals.take:∀ {xs:List V} {us:List Value} (n:Nat),Vals xs us -> Vals (xs.take n) (us.take n)
 | _,_,0,_=>.nil
 | _,_,_ + 1,.nil=>.nil
 | _,_,n + 1,.cons r t=>.cons r (Vals.take n t)
theorem Vals.drop:∀ {xs:List V} {us:List Value} (n:Nat),Vals xs us -> Vals (xs.drop n) (us.drop n)
 | _,_,0,r=>r
 | _,_,_ + 1,.nil=>.nil
 | _,_,n + 1,.cons _ t=>Vals.drop n t
def RelO:Option V -> Option Value -> Prop
 | some v,some u=>RelV v u
 | none,none=>True
 | _,_=>False
def KV {κ:Type}:List (κ × V) -> List (κ × Value) -> Prop:=Paired fun (p:κ × V) (q:κ × Value)=>p.1 = q.1 /\ RelV p.2 q.2
def kV:Key -> V
 | .inl i=>.int i
 | .inr x=>.str x
inductive HO where
 /-- a list -/
 | lst (xs:List V)
 /-- a tuple (never changes) -/
 | tup (xs:List V)
 /-- a dict whose keys are ints and texts; one whose keys are tuples of ints and texts (the empty one is both) -/
 | dK (kvs:List (Key × V)) | dT (kvs:List (List Key × V))
 /-- a set of ints: its members,its size -/
 | set (S:Int -> Bool) (n:Nat)
 /-- an instance of the class at C,its dict at dx,its attributes -/
 | ins (C dx:Addr) (fs:List (Str × V))
 /-- the dict of the instance at x -/
 | own (x:Addr)
 /-- the dict of an exception -/
 | xd (fs:List (Str × V))
 /-- a bound method,f of x -/
 | met (f x:Addr)
 /-- a range object lo,lo + 1,.. below hi -/
 | rng (lo hi:Int)
 /-- a thing that is known to the object (the script; a dict while a loop walks it): read,never written while it is so -/
 | frz (o:Obj) (u:HO)
 /-- a code object's table -/
 | tbl (ps:Array Value)
 /-- any other thing,by what is true of its one object (a def of one's own: SetO a S n:=HO.ext fun h=>..) -/
 | ext (φ:Heap -> Prop)
abbrev Hp:=Addr -> Option HO
def upd (H:Hp) (a:Addr) (o:HO):Hp:=fun b=>if b = a then some o else H b
theorem zd {H:Hp} {a:Addr} {o:HO}:upd H a o a = some o:=by unfold upd; rw [if_pos rfl]
theorem zy {H:Hp} {a b:Addr} {o:HO} (h:b ≠ a):upd H a o b = H b:=by unfold upd; rw [if_neg h]
theorem VN {H:Hp} {a b:Addr} {o u:HO} (h:H a = some o) (h':H b = some u) (d:o ≠ u):a ≠ b:=by
 intro e; subst e; rw [h] at h'; exact d (Option.some.inj h')
theorem zx {H:Hp} {a b:Addr} {o:HO} (h:H a = some o) (h':H b = none):a ≠ b:=by
 intro e; subst e; rw [h] at h'; cases h'
section
variable (P:Program) (w:World)
def yh (H:Hp) (h:Heap) (a:Addr):HO -> Prop
 | .lst xs=>xs.length <= sizeLine /\ ∃ (its:List Value) (n:Nat),Vals xs its /\ h.get? a = some { cls:=.type "list",data:=.seq its.toArray n }
 | .tup xs=>xs.length <= sizeLine /\ ∃ its:List Value,Vals xs its /\ IsTup h a its.toArray
 | .dK kvs=>kvs.length <= sizeLine /\ (a == sysModules) = false /\ ∃ vs,KV kvs vs /\ h.DictOf (z8 P w) a vs
 | .dT kvs=>kvs.length <= sizeLine /\ (a == sysModules) = false /\ ∃ xs:List (List Key × Addr × Value),
   Paired (fun (p:List Key × V) (q:List Key × Addr × Value)=>p.1 = q.1 /\ H q.2.1 = some (.tup (p.1.map kV)) /\ RelV p.2 q.2.2) kvs xs ∧
   ∃ o es ep,h.get? a = some o /\ o.ExactDict /\ o.data = .dict es ep /\ es.toList = xs.map (entryOfKey (tupleKind (z8 P w))) /\ (xs.map (·.1)).Nodup
 | .set S n=>h.SetOf (intKind P w) a S n
 | .ins C dx fs=>H dx = some (.own a) /\ fs.length <= 1000 /\ dx ≠ a /\ h.get? a = some (PySem.W.instObj C dx) ∧
   ∃ mA,h.Ns1 dx mA /\ (∀ f,RelO (fs.lookup f) (mA f)) /\ PySem.Within mA (fs.map (·.1))
 | .own _=>∃ o,h.get? a = some o
 | .xd fs=>∃ mA,h.Ns1 a mA /\ ∀ f,RelO (fs.lookup f) (mA f)
 | .rng lo hi=>∃ t u v,h.get? a = some { cls:=.type "range",data:=.fields #[.int lo t,.int hi u,.int 1 v] }
 | .frz o u=>h.get? a = some o /\ yh H h a u
 | .tbl ps=>h.get? a = some { cls:=.none,data:=.fields ps }
 | .met f x=>h.get? a = some (PySem.W.methodObj (.ref f) (.ref x))
 | .ext φ=>φ h /\ (∃ o,h.get? a = some o) /\ ∀ h1 h2:Heap,φ h1 -> (∀ o,h1.get? a = some o -> h2.get? a = some o) -> φ h2
def HOk (H:Hp) (h:Heap):Prop:=∀ a o,H a = some o -> yh P w H h a o
end
section
variable {P:Program} {w:World} {H H':Hp} {h h':Heap} {a:Addr} {o:HO}
theorem yh.lt (x:yh P w H h a o):a < h.objs.size:=by
 cases o with
 | lst xs=>obtain ⟨_,_,_,_,e⟩:=x; exact Heap.lt_size e
 | tup xs=>obtain ⟨_,_,_,p⟩:=x; exact p.lt
 | dK kvs=>obtain ⟨_,_,_,_,o,_,_,e,_⟩:=x; exact Heap.lt_size e
 | dT kvs=>obtain ⟨_,_,_,_,o,_,_,e,_⟩:=x; exact Heap.lt_size e
 | set S n=>obtain ⟨o,_,_,_,e,_⟩:=x; exact Heap.lt_size e
 | ins C dx fs=>obtain ⟨_,_,_,e,_⟩:=x; exact Heap.lt_size e
 | own y=>obtain ⟨_,e⟩:=x; exact Heap.lt_size e
 | xd fs=>obtain ⟨_,⟨_,_,_,e,_⟩,_⟩:=x; exact Heap.lt_size e
 | rng lo hi=>obtain ⟨_,_,_,e⟩:=x; exact Heap.lt_size e
 | frz ob u=>obtain ⟨e,_⟩:=x; exact Heap.lt_size e
 | tbl ps=>exact Heap.lt_size (show h.get? a = some _ from x)
 | met f y=>exact Heap.lt_size (show h.get? a = some _ from x)
 | ext φ=>obtain ⟨_,⟨_,e⟩,_⟩:=x; exact Heap.lt_size e
theorem Paired.mapP {α β:Type} {F G:α -> β -> Prop}:∀ {l₁:List α} {l₂:List β},Paired F l₁ l₂ -> (∀ a b,F a b -> G a b) -> Paired G l₁ l₂
 | _,_,.nil,_=>.nil
 | _,_,.cons r t,f=>.cons (f _ _ r) (Paired.mapP t f)
theorem yh.stay (x:yh P w H h a o) (k:∀ b u,(b = a \/ H b = some (.own a)) -> h.get? b = some u -> h'.get? b = some u)
  (ho:∀ b,H b = some (.own a) -> H' b = some (.own a)) (ht:∀ b xs,H b = some (.tup xs) -> H' b = some (.tup xs)):yh P w H' h' a o:=by
 induction o with
 | lst xs=>obtain ⟨z,its,n,r,e⟩:=x; exact ⟨z,its,n,r,k _ _ (.inl rfl) e⟩
 | tup xs=>obtain ⟨z,its,r,ob,e,c⟩:=x; exact ⟨z,its,r,ob,k _ _ (.inl rfl) e,c⟩
 | dK kvs=>obtain ⟨z,y,vs,r,ob,es,ep,e,c⟩:=x; exact ⟨z,y,vs,r,ob,es,ep,k _ _ (.inl rfl) e,c⟩
 | dT kvs =>
  obtain ⟨z,y,xs,r,ob,es,ep,e,c⟩:=x
  exact ⟨z,y,xs,Paired.mapP r fun p q z=>⟨z.1,ht _ _ z.2.1,z.2.2⟩,ob,es,ep,k _ _ (.inl rfl) e,c⟩
 | set S n=>obtain ⟨ob,es,ep,t,e,c⟩:=x; exact ⟨ob,es,ep,t,k _ _ (.inl rfl) e,c⟩
 | ins C dx fs =>
  obtain ⟨d,z,ne,e,mA,⟨od,es,ep,e2,c⟩,r⟩:=x
  exact ⟨ho _ d,z,ne,k _ _ (.inl rfl) e,mA,⟨od,es,ep,k _ _ (.inr d) e2,c⟩,r⟩
 | own y=>obtain ⟨ob,e⟩:=x; exact ⟨ob,k _ _ (.inl rfl) e⟩
 | xd fs=>obtain ⟨mA,⟨od,es,ep,e,c⟩,r⟩:=x; exact ⟨mA,⟨od,es,ep,k _ _ (.inl rfl) e,c⟩,r⟩
 | rng lo hi=>obtain ⟨t,u,v,e⟩:=x; exact ⟨t,u,v,k _ _ (.inl rfl) e⟩
 | frz ob u ih=>obtain ⟨e,q⟩:=x; exact ⟨k _ _ (.inl rfl) e,ih q⟩
 | tbl ps =>
  have e:h.get? a = some { cls:=.none,data:=.fields ps }:=x
  show h'.get? a = some { cls:=.none,data:=.fields ps }
  exact k a _ (.inl rfl) e
 | met f y =>
  have e:h.get? a = some (PySem.W.methodObj (.ref f) (.ref y)):=x
  show h'.get? a = some (PySem.W.methodObj (.ref f) (.ref y))
  exact k a _ (.inl rfl) e
 | ext φ=>obtain ⟨p,⟨o,e⟩,st⟩:=x; exact ⟨st _ _ p fun o q=>k _ _ (.inl rfl) q,⟨o,k _ _ (.inl rfl) e⟩,st⟩
theorem HOk.lt (x:HOk P w H h) (e:H a = some o):a < h.objs.size:=(x a o e).lt
theorem HOk.fresh (x:HOk P w H h) (e:h.objs.size <= a):H a = none:=by
 cases q:H a with
 | none=>rfl
 | some u=>exact absurd (Nat.lt_of_lt_of_le (x.lt q) e) (Nat.lt_irrefl _)
theorem HOk.kept (x:HOk P w H h) (k:∀ b u,h.get? b = some u -> h'.get? b = some u):HOk P w H h':=fun a o e =>
 (x a o e).stay (fun b u _ q=>k b u q) (fun _ q=>q) fun _ _ q=>q
theorem HOk.laid (x:HOk P w H h) (k:∀ b u,h.get? b = some u -> h'.get? b = some u) (hp:h.objs.size <= a) (new:yh P w (upd H a o) h' a o):HOk P w (upd H a o) h':=fun b u e=>by
 have hn:=x.fresh hp
 by_cases hb:b = a
 ·subst hb; rw [zd] at e; cases e; exact new
 ·rw [zy hb] at e
  exact (x b u e).stay (fun c v _ q=>k c v q) (fun c q=>by rw [zy (zx q hn)]; exact q) fun c xs q=>by rw [zy (zx q hn)]; exact q
end
def Rd (H:Hp) (a:Addr) (u:HO):Prop:=H a = some u \/ ∃ o,H a = some (.frz o u)
theorem Rd.of {H:Hp} {a:Addr} {u:HO} (h:H a = some u):Rd H a u:=.inl h
theorem Rd.ok {P:Program} {w:World} {H:Hp} {h:Heap} {a:Addr} {u:HO} (r:Rd H a u) (x:HOk P w H h):yh P w H h a u:=by
 rcases r with r | ⟨o,r⟩
 ·exact x a u r
 ·obtain ⟨_,q⟩:=x a _ r
  exact q
def Mut:Option HO -> Prop
 | some (.lst _)=>True
 | some (.dK _)=>True
 | some (.dT _)=>True
 | some (.set _ _)=>True
 | some (.ins _ _ _)=>True
 | some (.ext _)=>True
 | _=>False
section
variable {P:Program} {w:World} {H:Hp} {h h':Heap} {x e:Addr} {o':HO}
theorem HOk.write (ok:HOk P w H h) (mu:Mut (H x)) (he:e = x \/ H e = some (.own x)) (k:∀ b u,b ≠ e -> h.get? b = some u -> h'.get? b = some u) (heo:∃ u,h'.get? e = some u)
  (new:yh P w (upd H x o') h' x o'):HOk P w (upd H x o') h':=fun b u q=>by
 have nown:∀ c y,H c = some (.own y) -> c ≠ x:=fun c y r z=>by subst z; rw [r] at mu; exact mu
 have ntup:∀ c xs,H c = some (.tup xs) -> c ≠ x:=fun c xs r z=>by subst z; rw [r] at mu; exact mu
 by_cases hb:b = x
 ·subst hb; rw [zd] at q; cases q; exact new
 ·rw [zy hb] at q
  by_cases hbe:b = e
  ·have q':H b = some (.own x):=by
    rcases he with z | z
    ·exact absurd (hbe.trans z) hb
    ·rw [hbe]; exact z
   rw [q] at q'; cases q'
   obtain ⟨v,hv⟩:=heo
   exact ⟨v,by rw [hbe]; exact hv⟩
  ·refine (ok b u q).stay (fun c v hc r=>k c v ?_ r) (fun c r=>by rw [zy (nown c b r)]; exact r) fun c xs r=>by rw [zy (ntup c xs r)]; exact r
   rcases hc with rfl | hc
   ·exact hbe
   ·rintro rfl
    rcases he with z | z
    ·exact nown c b hc z
    ·rw [hc] at z; cases z; exact hb rfl
end
structure Un (fs ex:List Addr) (H H':Hp) (h h':Heap):Prop where
 keep:∀ b o,h.get? b = some o -> H b = none -> b ∉ fs -> b ∉ ex -> h'.get? b = some o
 slot:∀ b o,h.get? b = some o -> H b = none -> b ∈ fs -> b ∉ ex -> ∃ sl,h'.get? b = some { o with slots:=sl }
 free:∀ b o,h.get? b = some o -> H b = none -> b ∉ ex -> H' b = none
 there:∀ b o,h.get? b = some o -> b ∉ ex -> ∃ o',h'.get? b = some o'
 tups:∀ b xs,H b = some (.tup xs) -> H' b = some (.tup xs)
 frzs:∀ b o u,H b = some (.frz o u) -> H' b = some (.frz o u)
 tbls:∀ b ps,H b = some (.tbl ps) -> ∃ more,H' b = some (.tbl (ps ++ more))
section
variable {fs fs' ex ex':List Addr} {H H1 H2:Hp} {h h1 h2 h':Heap} {a x e:Addr} {o:HO}
theorem Un.any (u:Un fs ex H H1 h h1) {b:Addr} {ob:Obj} (q:h.get? b = some ob) (n:H b = none) (hx:b ∉ ex):∃ sl,h1.get? b = some { ob with slots:=sl }:=by
 by_cases hb:b ∈ fs
 ·exact u.slot b ob q n hb hx
 ·exact ⟨ob.slots,u.keep b ob q n hb hx⟩
theorem Un.trans (a:Un fs ex H H1 h h1) (b:Un fs ex H1 H2 h1 h2):Un fs ex H H2 h h2 where
 keep:=fun c ob q n hc hx=>b.keep c ob (a.keep c ob q n hc hx) (a.free c ob q n hx) hc hx
 slot:=fun c ob q n hc hx=>by
  obtain ⟨sl,e1⟩:=a.slot c ob q n hc hx
  obtain ⟨sl',e2⟩:=b.slot c _ e1 (a.free c ob q n hx) hc hx
  exact ⟨sl',e2⟩
 free:=fun c ob q n hx=>by
  obtain ⟨o',e1⟩:=a.there c ob q hx
  exact b.free c o' e1 (a.free c ob q n hx) hx
 there:=fun c ob q hx=>by
  obtain ⟨o',e1⟩:=a.there c ob q hx
  exact b.there c o' e1 hx
 tups:=fun c xs q=>b.tups c xs (a.tups c xs q)
 frzs:=fun c ob xs q=>b.frzs c ob xs (a.frzs c ob xs q)
 tbls:=fun c ps q=>by
  obtain ⟨m1,e1⟩:=a.tbls c ps q
  obtain ⟨m2,e2⟩:=b.tbls c _ e1
  exact ⟨m1 ++ m2,by rw [e2,Array.append_assoc]⟩
theorem Un.kept (k:∀ b u,h.get? b = some u -> h'.get? b = some u):Un fs ex H H h h' :=
 ⟨fun b ob q _ _ _=>k b ob q,fun b ob q _ _ _=>⟨ob.slots,k b ob q⟩,fun _ _ _ n _=>n,fun b ob q _=>⟨ob,k b ob q⟩,fun _ _ q=>q,fun _ _ _ q=>q,fun _ ps q=>⟨#[],by rw [q]; simp⟩⟩
theorem Un.refl:Un fs ex H H h h:=Un.kept fun _ _ q=>q
theorem Un.laid (k:∀ b u,h.get? b = some u -> h'.get? b = some u) (hp:h.objs.size <= a) (hn:H a = none):Un fs ex H (upd H a o) h h' where
 keep:=fun b u q _ _ _=>k b u q
 slot:=fun b u q _ _ _=>⟨u.slots,k b u q⟩
 free:=fun b u q n _=>by rw [zy (Nat.ne_of_lt (Nat.lt_of_lt_of_le (Heap.lt_size q) hp))]; exact n
 there:=fun b u q _=>⟨u,k b u q⟩
 tups:=fun b xs q=>by rw [zy (zx q hn)]; exact q
 frzs:=fun b u xs q=>by rw [zy (zx q hn)]; exact q
 tbls:=fun b ps q=>⟨#[],by rw [zy (zx q hn),q]; simp⟩
theorem Un.write (mu:Mut (H x)) (he:e = x \/ H e = some (.own x)) (k:∀ b u,b ≠ e -> h.get? b = some u -> h'.get? b = some u) (heo:∃ u,h'.get? e = some u):Un fs ex H (upd H x o) h h':=by
 have hx:∀ b,H b = none -> b ≠ x:=fun b n z=>by subst z; rw [n] at mu; exact mu
 have hb:∀ b,H b = none -> b ≠ e:=fun b n z=>by
  subst z
  rcases he with r | r
  ·exact hx b n r
  ·rw [n] at r; cases r
 have hm:∀ b u,H b = some u -> ¬ Mut (some u) -> b ≠ x:=fun b u q nm z=>by subst z; rw [q] at mu; exact nm mu
 refine ⟨fun b u q n _ _=>k b u (hb b n) q,fun b u q n _ _=>⟨u.slots,k b u (hb b n) q⟩,fun b u q n _=>by rw [zy (hx b n)]; exact n,fun b u q _=>?_,
  fun b xs q=>by rw [zy (hm b _ q fun z=>z)]; exact q,fun b u xs q=>by rw [zy (hm b _ q fun z=>z)]; exact q,fun b ps q=>⟨#[],by rw [zy (hm b _ q fun z=>z),q]; simp⟩⟩
 by_cases hbe:b = e
 ·subst hbe; exact heo
 ·exact ⟨u,k b u hbe q⟩
theorem Un.mono (u:Un fs ex H H1 h h1) (hs:∀ b ∈ fs,b ∈ fs') (hx:∀ b ∈ ex,b ∈ ex'):Un fs' ex' H H1 h h1 :=
 ⟨fun b ob q n hb he=>u.keep b ob q n (fun z=>hb (hs b z)) fun z=>he (hx b z),fun _ _ q n _ he=>u.any q n fun z=>he (hx _ z),fun b ob q n he=>u.free b ob q n fun z=>he (hx b z),fun b ob q he=>u.there b ob q fun z=>he (hx b z),u.tups,u.frzs,u.tbls⟩
end
def trk (h:Heap) (H:Hp):List Addr:=(List.range h.objs.size).filter fun a=>(H a).isSome
def hidT (h:Heap) (H:Hp):Heap:=PySem.W.hideAll h (trk h H)
theorem ZZ (h:Heap) (H:Hp):(hidT h H).objs.size = h.objs.size:=PySem.W.hideAll_size _ _
theorem Xt {h:Heap} {H:Hp} {b:Addr} {o:Obj} (e:h.get? b = some o) (n:H b = none):(hidT h H).get? b = some o :=
 PySem.W.hideAll_get _ e fun hm=>by
  have q:(H b).isSome = true:=(List.mem_filter.mp hm).2
  rw [n] at q; simp at q
theorem WU {h:Heap} {H:Hp} {b:Addr} {o:Obj} (e:(hidT h H).get? b = some o):h.get? b = some o /\ H b = none:=by
 have e':h.get? b = some o:=PySem.W.of_hideAll (trk h H) e
 refine ⟨e',?_⟩
 cases q:H b with
 | none=>rfl
 | some x =>
  have hm:b ∈ trk h H:=List.mem_filter.mpr ⟨List.mem_range.mpr (Heap.lt_size e'),by simp [q]⟩
  have z:(hidT h H).get? b = none:=PySem.W.hideAll_none (trk h H) hm
  rw [z] at e; cases e
def WV (g h:Heap) (L:Addr):List (Addr × Obj):=(List.range h.objs.size).filterMap fun a=>if a = L \/ (g.get? a).isSome = true then none else (h.get? a).map fun o=>(a,o)
def rest (g h:Heap) (L d:Addr):List (Addr × Obj):=(WV g h L).filter fun p=>decide (p.1 ≠ d)
end L2
namespace L2
open PySem PySem.Spec PyProof.Rows
structure Mod (K:FG7) (mg:Str -> Option Value) (base:Heap):Prop where
 kin:K.In base
 glob:base.Ns mainGlobals mg
 blt:∃ mb,base.Ns builtinsNs mb /\ ∀ x:Str,x ≠ "__name__" -> mb x = bootBuiltins x
 nolimit:base.NoLimit
structure Cx where
 prog:Program
 w:World
 K:FG7
 mg:Str -> Option Value
 base:Heap
 A:Around
 N:List Str
 s₀:Shared
 H₀:Hp
 env:Env
 outer:List Env
 stack:List Env
 ex:List Addr
 fn:Str -> Bool
 calm:Bool
 pn:List (Addr × Obj)
 xe:VS7
def frs (l:List Env):List Addr:=l.filterMap (·.frame)
abbrev Cx.fs (X:Cx):List Addr:=frs X.outer
def Vis (sc:Scope) (x:Str):Prop:=sc.names.lookup x = some .local \/ sc.names.lookup x = some .cell \/ sc.names.lookup x = some .free
def Loc (sc:Scope) (x:Str):Prop:=sc.names.lookup x = some .local \/ sc.names.lookup x = some .cell
def Look (env:Env) (h:Heap) (m:Str -> Option Value) (x:Str) (u:Value):Prop :=
 (env.kindOf x = some .local /\ m x = some u) \/ ((env.kindOf x = some .cell \/ env.kindOf x = some .free) /\ ∃ c,env.cells.lookup x = some c /\ h.IsCell c (some u))
structure Cx.Ok (X:Cx):Prop where
 mod:Mod X.K X.mg X.base
 kind:X.env.scope.kind = .function
 glob:X.env.globals = mainGlobals
 blt:X.env.builtins = builtinsNs
 above:X.s₀.heap.objs.size <= X.env.locals
 inj:∀ x y c,X.env.cells.lookup x = some c -> X.env.cells.lookup y = some c -> x = y
 has:∀ x,(X.env.kindOf x = some .cell \/ X.env.kindOf x = some .free) -> ∃ c,X.env.cells.lookup x = some c
 cab:∀ x c,X.fn x = true -> X.env.cells.lookup x = some c -> X.s₀.heap.objs.size <= c
 hd:X.calm = true -> X.A.handled = none
 frames:X.A.frames = some X.stack
 stk:X.stack = X.outer \/ (X.stack = X.env :: X.outer /\ X.env.frame = some X.env.locals)
 exf:∀ b ∈ X.ex,b ≠ X.env.locals /\ ∀ x c,X.env.cells.lookup x = some c -> c ≠ b
 bs:∀ b o,X.base.get? b = some o -> X.s₀.heap.get? b = some o /\ X.H₀ b = none
 bsz:X.base.objs.size <= X.s₀.heap.objs.size
 noex:∀ b o,X.base.get? b = some o -> b ∉ X.ex
 exfs:∀ b ∈ X.ex,b ∉ X.fs
 funs:X.s₀.heap.FunFrames X.base X.outer
 frf:∀ b ∈ X.fs,X.H₀ b = none
structure Inv (X:Cx) (pins:List (Addr × Obj)) (σ:List (Option V)) (H:Hp) (s:Shared):Prop where
 ok:X.Ok
 os:s.os = X.s₀.os
 bare:AllBare s.gens
 base:Un X.fs X.ex X.H₀ H X.s₀.heap s.heap
 loc:∃ m,s.heap.Ns X.env.locals m /\ ∀ (i:Nat) (x:Str) (v:V),X.N[i]? = some x -> σ[i]? = some (some v) -> Vis X.env.scope x -> ∃ u,RelV v u /\ Look X.env s.heap m x u
 cell:∀ x c,X.env.cells.lookup x = some c -> ∃ v,s.heap.IsCell c v
 free:H X.env.locals = none
 freeC:∀ x c,X.env.cells.lookup x = some c -> H c = none
 pin:∀ p ∈ X.pn ++ pins,s.heap.get? p.1 = some p.2 /\ H p.1 = none /\ p.1 ≠ X.env.locals /\ p.1 ∉ X.fs /\ ∀ v,p.2.data ≠ .cell v
 hok:HOk X.prog X.w H s.heap
 len:σ.length = X.N.length
section
variable {X:Cx} {pins:List (Addr × Obj)} {σ:List (Option V)} {H H':Hp} {s:Shared} {h':Heap}
theorem Cx.Ok.nofr (ok:X.Ok) {b:Addr} {o:Obj} (e:X.base.get? b = some o):b ∉ X.fs:=fun hb=>by
 have:=(ok.funs.mem hb).1
 rw [e] at this; cases this
theorem Inv.bs (I:Inv X pins σ H s):∀ b o,X.base.get? b = some o -> s.heap.get? b = some o /\ H b = none:=fun b o e =>
 ⟨I.base.keep b o (I.ok.bs b o e).1 (I.ok.bs b o e).2 (I.ok.nofr e) (I.ok.noex b o e),I.base.free b o (I.ok.bs b o e).1 (I.ok.bs b o e).2 (I.ok.noex b o e)⟩
theorem Inv.bk (I:Inv X pins σ H s):∀ b o,X.base.get? b = some o -> s.heap.get? b = some o:=fun b o e=>(I.bs b o e).1
theorem Inv.mod (I:Inv X pins σ H s):Mod X.K X.mg X.base:=I.ok.mod
theorem Inv.kIn (I:Inv X pins σ H s):X.K.In s.heap:=I.ok.mod.kin.keeps I.bk
theorem Inv.nolimit (I:Inv X pins σ H s):s.heap.NoLimit:=I.ok.mod.nolimit.keeps I.bk
theorem Inv.fr (I:Inv X pins σ H s):∃ m,Fr X.base X.env.locals s.heap m :=
 let ⟨m,hn,_⟩:=I.loc
 ⟨m,hn,I.bk,Nat.le_trans I.ok.bsz I.ok.above⟩
theorem Inv.lt (I:Inv X pins σ H s):X.env.locals < s.heap.objs.size:=let ⟨_,hn,_⟩:=I.loc; hn.lt
theorem Inv.sz (I:Inv X pins σ H s):X.s₀.heap.objs.size <= s.heap.objs.size:=Nat.le_trans I.ok.above (Nat.le_of_lt I.lt)
theorem Inv.nofs (I:Inv X pins σ H s) {a:Addr} (h:s.heap.objs.size <= a):a ∉ X.fs:=fun hb=>by
 obtain ⟨_,o,ho,_⟩:=I.ok.funs.mem hb
 exact absurd (Nat.lt_of_lt_of_le (Heap.lt_size ho) (Nat.le_trans I.sz h)) (Nat.lt_irrefl _)
theorem Inv.cne (I:Inv X pins σ H s):∀ x c,X.env.cells.lookup x = some c -> c ≠ X.env.locals:=fun x c e z=>by
 obtain ⟨v,o,ho,hd⟩:=I.cell x c e
 obtain ⟨m,⟨o',es,ep,ho',hd',_⟩,_⟩:=I.loc
 rw [z,ho'] at ho; cases ho; rw [hd'] at hd; cases hd
theorem Inv.funs (I:Inv X pins σ H s):s.heap.FunFrames X.base X.outer:=by
 have all:∀ (l:List Env),(∀ b ∈ frs l,b ∈ X.fs) -> X.s₀.heap.FunFrames X.base l -> s.heap.FunFrames X.base l:=by
  intro l
  induction l with
  | nil=>intro _ _; trivial
  | cons env r ih =>
   intro hs hl
   obtain ⟨hk,⟨L,o,hf,hn,ho,hd⟩,hr⟩:=hl
   have hL:L ∈ X.fs:=hs L (by unfold frs; rw [List.filterMap_cons,hf]; exact List.mem_cons_self)
   obtain ⟨sl,e⟩:=I.base.slot L o ho (I.ok.frf L hL) hL fun z=>I.ok.exfs L z hL
   exact ⟨hk,⟨L,_,hf,hn,e,hd⟩,ih (fun b hb=>hs b (by unfold frs; rw [List.filterMap_cons,hf]; exact List.mem_cons_of_mem _ hb)) hr⟩
 exact all X.outer (fun _ hb=>hb) I.ok.funs
theorem Inv.stack (I:Inv X pins σ H s):s.heap.FunFrames X.base X.stack:=by
 rcases I.ok.stk with e | ⟨e,hf⟩
 ·rw [e]; exact I.funs
 ·rw [e]
  obtain ⟨m,hn,_⟩:=I.loc
  refine .cons (by rw [I.ok.kind]; decide) hf hn ?_ I.funs
  exact Heap.get?_none_of_le (Nat.le_trans I.ok.bsz I.ok.above)
theorem Inv.stkSub (I:Inv X pins σ H s):∀ b ∈ frs X.stack,b ∈ X.env.locals :: X.fs:=fun b hb=>by
 rcases I.ok.stk with e | ⟨e,hf⟩
 ·rw [e] at hb; exact List.mem_cons_of_mem _ hb
 ·rw [e] at hb
  unfold frs at hb
  rw [List.filterMap_cons,hf] at hb
  exact hb
theorem Inv.stkFree (I:Inv X pins σ H s):∀ b ∈ frs X.stack,H b = none:=fun b hb=>by
 rcases List.mem_cons.mp (I.stkSub b hb) with e | hb
 ·rw [e]; exact I.free
 ·obtain ⟨_,o,ho,_⟩:=I.ok.funs.mem hb
  exact I.base.free b o ho (I.ok.frf b hb) fun z=>I.ok.exfs b z hb
theorem Inv.step {g':Array GenState} {t':Nat} {d':Drawn} {ch:List Addr} (I:Inv X pins σ H s)
  (hch:∀ b ∈ ch,(b ∈ X.ex \/ X.s₀.heap.objs.size <= b) /\ b ≠ X.env.locals /\ (∀ x c,X.env.cells.lookup x = some c -> c ≠ b) /\ ∀ p ∈ X.pn ++ pins,p.1 ≠ b)
  (keep:∀ b o,b ≠ X.env.locals -> b ∉ X.fs -> b ∉ ch -> s.heap.get? b = some o -> H b = none -> h'.get? b = some o)
  (slot:∀ b o,b ≠ X.env.locals -> b ∈ X.fs -> b ∉ ch -> s.heap.get? b = some o -> H b = none -> ∃ sl,h'.get? b = some { o with slots:=sl }) (free:∀ b o,b ∉ ch -> s.heap.get? b = some o -> H b = none -> H' b = none)
  (there:∀ b o,b ∉ ch -> s.heap.get? b = some o -> ∃ o',h'.get? b = some o')
  (tups:∀ b xs,H b = some (.tup xs) -> H' b = some (.tup xs)) (frzs:∀ b o u,H b = some (.frz o u) -> H' b = some (.frz o u)) (tbls:∀ b ps,H b = some (.tbl ps) -> ∃ more,H' b = some (.tbl (ps ++ more)))
  (ns:∀ m,s.heap.Ns X.env.locals m -> h'.Ns X.env.locals m) (hok:HOk X.prog X.w H' h') (hg:AllBare g') :
  Inv X pins σ H' { s with heap:=h',gens:=g',drawn:=d',toks:=t' }:=by
 have neL:∀ b o,X.s₀.heap.get? b = some o -> b ≠ X.env.locals:=fun b o e=>Nat.ne_of_lt (Nat.lt_of_lt_of_le (Heap.lt_size e) I.ok.above)
 have neC:∀ b o,X.s₀.heap.get? b = some o -> b ∉ X.ex -> b ∉ ch:=fun b o e hx hb=>by
  rcases (hch b hb).1 with z | z
  ·exact hx z
  ·exact absurd (Nat.lt_of_lt_of_le (Heap.lt_size e) z) (Nat.lt_irrefl _)
 have cellK:∀ x c,X.env.cells.lookup x = some c -> ∀ v,s.heap.IsCell c v -> h'.IsCell c v:=fun x c e v ⟨o,ho,hd⟩=>by
  have nch:c ∉ ch:=fun z=>(hch c z).2.2.1 x c e rfl
  by_cases hc:c ∈ X.fs
  ·obtain ⟨sl,q⟩:=slot c o (I.cne x c e) hc nch ho (I.freeC x c e)
   exact ⟨_,q,hd⟩
  ·exact ⟨o,keep c o (I.cne x c e) hc nch ho (I.freeC x c e),hd⟩
 refine ⟨I.ok,I.os,hg,⟨fun b o e n hb hx=>?_,fun b o e n hb hx=>?_,fun b o e n hx=>?_,fun b o e hx=>?_,fun b xs e=>tups b xs (I.base.tups b xs e),fun b o xs e=>frzs b o xs (I.base.frzs b o xs e),fun b ps e=>?_⟩,?_,fun x c e=>?_,?_,fun x c e=>?_,fun p hp=>?_,hok,I.len⟩
 ·exact keep b o (neL b o e) hb (neC b o e hx) (I.base.keep b o e n hb hx) (I.base.free b o e n hx)
 ·obtain ⟨sl,e1⟩:=I.base.slot b o e n hb hx
  obtain ⟨sl',e2⟩:=slot b _ (neL b o e) hb (neC b o e hx) e1 (I.base.free b o e n hx)
  exact ⟨sl',e2⟩
 ·obtain ⟨o',e1⟩:=I.base.there b o e hx
  exact free b o' (neC b o e hx) e1 (I.base.free b o e n hx)
 ·obtain ⟨o',e1⟩:=I.base.there b o e hx
  exact there b o' (neC b o e hx) e1
 ·obtain ⟨m1,e1⟩:=I.base.tbls b ps e
  obtain ⟨m2,e2⟩:=tbls b _ e1
  exact ⟨m1 ++ m2,by rw [e2,Array.append_assoc]⟩
 ·obtain ⟨m,hn,hl⟩:=I.loc
  refine ⟨m,ns m hn,fun i x v e1 e2 e3=>?_⟩
  obtain ⟨u,r,l⟩:=hl i x v e1 e2 e3
  refine ⟨u,r,?_⟩
  rcases l with l | ⟨k,c,e,z⟩
  ·exact .inl l
  ·exact .inr ⟨k,c,e,cellK x c e _ z⟩
 ·obtain ⟨v,z⟩:=I.cell x c e
  exact ⟨v,cellK x c e v z⟩
 ·obtain ⟨m,⟨o,_,_,ho,_⟩,_⟩:=I.loc
  exact free _ o (fun z=>(hch _ z).2.1 rfl) ho I.free
 ·obtain ⟨v,o,ho,hd⟩:=I.cell x c e
  exact free c o (fun z=>(hch c z).2.2.1 x c e rfl) ho (I.freeC x c e)
 ·obtain ⟨e,n,ne,nf,d⟩:=I.pin p hp
  have nch:p.1 ∉ ch:=fun z=>(hch p.1 z).2.2.2 p hp rfl
  exact ⟨keep p.1 p.2 ne nf nch e n,free p.1 p.2 nch e n,ne,nf,d⟩
theorem Inv.un {t':Nat} (I:Inv X pins σ H s) (u:Un X.fs [] H H' s.heap h') (hok:HOk X.prog X.w H' h'):Inv X pins σ H' { s with heap:=h',toks:=t' }:=by
 obtain ⟨m,⟨o,es,ep,ho,r⟩,_⟩:=id I.loc
 obtain ⟨sl,hL⟩:=u.any ho I.free (by simp)
 exact I.step (g':=s.gens) (d':=s.drawn) (ch:=[]) (fun _ z=>nomatch z) (fun b o _ hb _ e n=>u.keep b o e n hb (by simp)) (fun b o _ hb _ e n=>u.slot b o e n hb (by simp)) (fun b o _ e n=>u.free b o e n (by simp)) (fun b o _ e=>u.there b o e (by simp)) u.tups u.frzs u.tbls (fun m' hm=>by
  obtain ⟨o',es',ep',ho',r'⟩:=hm
  rw [ho] at ho'; cases ho'
  exact ⟨_,es',ep',hL,r'⟩) hok I.bare
theorem Inv.call {g':Array GenState} {t':Nat} {d':Drawn} {ch:List Addr} (I:Inv X pins σ H s) (u:Un (frs X.stack) ch H H' s.heap h') (hok:HOk X.prog X.w H' h') (hg:AllBare g')
  (hch:∀ b ∈ ch,(b ∈ X.ex \/ X.s₀.heap.objs.size <= b) /\ b ≠ X.env.locals /\ (∀ x c,X.env.cells.lookup x = some c -> c ≠ b) /\ ∀ p ∈ X.pn ++ pins,p.1 ≠ b) :
  Inv X pins σ H' { s with heap:=h',gens:=g',drawn:=d',toks:=t' }:=by
 obtain ⟨m,⟨o,es,ep,ho,r⟩,_⟩:=id I.loc
 obtain ⟨sl,hL⟩:=u.any ho I.free fun z=>(hch _ z).2.1 rfl
 exact I.step (ch:=ch) hch (fun b o hL hb hc e n=>u.keep b o e n (fun z=>(List.mem_cons.mp (I.stkSub b z)).elim hL hb) hc) (fun b o _ _ hc e n=>u.any e n hc) (fun b o hc e n=>u.free b o e n hc) (fun b o hc e=>u.there b o e hc) u.tups u.frzs u.tbls (fun m' hm=>by
  obtain ⟨o',es',ep',ho',r'⟩:=hm
  rw [ho] at ho'; cases ho'
  exact ⟨_,es',ep',hL,r'⟩) hok hg
theorem Inv.turned {t':Nat} {it:Addr} (I:Inv X pins σ H s) (k:∀ b o,b ≠ it -> s.heap.get? b = some o -> h'.get? b = some o) (hn:H it = none) (hL:it ≠ X.env.locals)
  (h1:it ∈ X.ex \/ X.s₀.heap.objs.size <= it) (h2:∀ x c,X.env.cells.lookup x = some c -> c ≠ it) (h3:∀ p ∈ X.pn ++ pins,p.1 ≠ it):Inv X pins σ H { s with heap:=h',toks:=t' }:=by
 have nit:∀ b u,H b = some u -> b ≠ it:=fun b u e z=>by rw [z,hn] at e; cases e
 refine I.step (g':=s.gens) (d':=s.drawn) (ch:=[it]) (fun b hb=>?_) (fun b o _ _ hc e _=>k b o (fun z=>hc (by simp [z])) e) (fun b o _ _ hc e _=>⟨o.slots,k b o (fun z=>hc (by simp [z])) e⟩) (fun _ _ _ _ n=>n)
  (fun b o hc e=>⟨o,k b o (fun z=>hc (by simp [z])) e⟩) (fun _ _ e=>e) (fun _ _ _ e=>e) (fun b ps e=>⟨#[],by rw [e]; simp⟩) (fun m hm=>?_) (fun b u e=>?_) I.bare
 ·have e:b = it:=by simpa using hb
  subst e
  exact ⟨h1,hL,h2,h3⟩
 ·obtain ⟨o,es,ep,ho,r⟩:=hm
  exact ⟨o,es,ep,k _ o (Ne.symm hL) ho,r⟩
 ·refine (I.hok b u e).stay (fun c v hc q=>k c v ?_ q) (fun _ q=>q) fun _ _ q=>q
  rcases hc with z | z
  ·rw [z]; exact nit b u e
  ·exact nit c _ z
theorem Inv.tok (I:Inv X pins σ H s) (t:Nat):Inv X pins σ H { s with toks:=t }:=I.un (h':=s.heap) (t':=t) Un.refl I.hok
theorem Inv.kept {t':Nat} (I:Inv X pins σ H s) (k:∀ b u,s.heap.get? b = some u -> h'.get? b = some u):Inv X pins σ H { s with heap:=h',toks:=t' }:=I.un (Un.kept k) (I.hok.kept k)
theorem Inv.laid {a:Addr} {o:HO} {t':Nat} (I:Inv X pins σ H s) (k:∀ b u,s.heap.get? b = some u -> h'.get? b = some u) (hp:s.heap.objs.size <= a) (new:yh X.prog X.w (upd H a o) h' a o) :
  Inv X pins σ (upd H a o) { s with heap:=h',toks:=t' }:=I.un (Un.laid k hp (I.hok.fresh hp)) (I.hok.laid k hp new)
theorem Inv.write {x e:Addr} {o:HO} {t':Nat} (I:Inv X pins σ H s) (mu:Mut (H x)) (he:e = x \/ H e = some (.own x)) (k:∀ b u,b ≠ e -> s.heap.get? b = some u -> h'.get? b = some u) (heo:∃ u,h'.get? e = some u)
  (new:yh X.prog X.w (upd H x o) h' x o):Inv X pins σ (upd H x o) { s with heap:=h',toks:=t' }:=I.un (Un.write mu he k heo) (I.hok.write mu he k heo new)
theorem Inv.pins_of {pins':List (Addr × Obj)} (I:Inv X pins σ H s) (h:∀ p ∈ pins',s.heap.get? p.1 = some p.2 /\ H p.1 = none /\ p.1 ≠ X.env.locals /\ p.1 ∉ X.fs /\ ∀ v,p.2.data ≠ .cell v):Inv X pins' σ H s :=
 ⟨I.ok,I.os,I.bare,I.base,I.loc,I.cell,I.free,I.freeC,fun p hp=>(List.mem_append.mp hp).elim (fun z=>I.pin p (List.mem_append_left _ z)) (h p),I.hok,I.len⟩
theorem tW {N:List Str} (hN:N.Nodup) {i j:Nat} {x:Str} (a:N[i]? = some x) (b:N[j]? = some x):i = j:=by
 obtain ⟨h1,e1⟩:=List.getElem?_eq_some_iff.mp a
 obtain ⟨h2,e2⟩:=List.getElem?_eq_some_iff.mp b
 exact (List.getElem_inj hN).mp (e1.trans e2.symm)
theorem Z0 {M:Model} {A:Around} {E:VS7} {i:Nat} {x:Str} {v:V} {u:Value} {Q:Unit -> Shared -> Prop} (I:Inv X pins σ H s) (hN:X.N.Nodup) (hi:X.N[i]? = some x) (hx:Loc X.env.scope x) (r:RelV v u)
  (h:∀ s',Inv X pins (σ.set i (some v)) H s' -> (∃ a,Heap.SameBut a s.heap s'.heap /\ (a = X.env.locals \/ X.env.cells.lookup x = some a)) -> Q () s') (hf:X.fn x = true \/ X.env.scope.names.lookup x = some .local :=by first | exact .inl rfl | exact .inr rfl | assumption):wpAny M A (storeName X.env x u) Q E s:=by
 obtain ⟨m,hn,hl⟩:=id I.loc
 have hcls:(X.env.scope.kind == .class || (X.env.scope.kind == .module && X.env.locals != X.env.globals)) = false:=by rw [I.ok.kind]; rfl
 have hiσ:i < σ.length:=by rw [I.len]; exact (List.getElem?_eq_some_iff.mp hi).1
 have cne:=I.cne
 have tracked:∀ {a:Addr} {h':Heap},(∃ o,s.heap.get? a = some o /\ H a = none) -> Heap.SameBut a s.heap h' -> HOk X.prog X.w H h':=fun {a h'} ha hs b ob e=>by
  obtain ⟨_,_,hfree⟩:=ha
  refine (I.hok b ob e).stay (fun c w' hc q=>(hs.2 c ?_).trans q) (fun _ q=>q) fun _ _ q=>q
  rintro rfl
  rcases hc with rfl | hc
  ·rw [hfree] at e; cases e
  ·rw [hfree] at hc; cases hc
 rcases hx with hk | hk
 ·refine wpAny_storeName_local hk hn (fun h' hn' hs=>?_) hcls
  obtain ⟨oL,_,_,hoL,_⟩:=id hn
  refine h _ ⟨I.ok,I.os,I.bare,⟨fun b o e n hb hx=>?_,fun b o e n hb hx=>?_,I.base.free,fun b o e hx=>?_,I.base.tups,I.base.frzs,I.base.tbls⟩,⟨_,hn',fun j y v' e1 e2 e3=>?_⟩,fun y c e=>?_,I.free,I.freeC,fun p hp=>?_,tracked ⟨oL,hoL,I.free⟩ hs,by simpa using I.len⟩ ⟨_,hs,.inl rfl⟩
  ·exact (hs.2 b (Nat.ne_of_lt (Nat.lt_of_lt_of_le (Heap.lt_size e) I.ok.above))).trans (I.base.keep b o e n hb hx)
  ·obtain ⟨sl,e1⟩:=I.base.slot b o e n hb hx
   exact ⟨sl,(hs.2 b (Nat.ne_of_lt (Nat.lt_of_lt_of_le (Heap.lt_size e) I.ok.above))).trans e1⟩
  ·obtain ⟨o',e1⟩:=I.base.there b o e hx
   exact ⟨o',(hs.2 b (Nat.ne_of_lt (Nat.lt_of_lt_of_le (Heap.lt_size e) I.ok.above))).trans e1⟩
  ·by_cases hj:j = i
   ·subst hj
    rw [hi] at e1; cases e1
    rw [List.getElem?_set_self hiσ] at e2
    cases e2
    exact ⟨u,r,.inl ⟨hk,by simp⟩⟩
   ·rw [List.getElem?_set_ne (Ne.symm hj)] at e2
    obtain ⟨u',r',q⟩:=hl j y v' e1 e2 e3
    refine ⟨u',r',?_⟩
    rcases q with ⟨k,e⟩ | ⟨k,c,e,z⟩
    ·refine .inl ⟨k,?_⟩
     have:y ≠ x:=fun e=>hj (tW hN e1 (e ▸ hi))
     simp [this,e]
    ·exact .inr ⟨k,c,e,z.sameBut hs (cne y c e)⟩
  ·obtain ⟨w',z⟩:=I.cell y c e
   exact ⟨w',z.sameBut hs (cne y c e)⟩
  ·obtain ⟨e,n,ne,nf,d⟩:=I.pin p hp
   exact ⟨(hs.2 p.1 ne).trans e,n,ne,nf,d⟩
 ·have hfn:X.fn x = true:=by
   rcases hf with z | z
   ·exact z
   ·rw [z] at hk; cases hk
  obtain ⟨c,hc⟩:=I.ok.has x (.inl hk)
  obtain ⟨w',z⟩:=I.cell x c hc
  refine wpAny_storeName_cell I.ok.kind hk hc z (fun h' hc' hs=>?_)
  obtain ⟨oc,hoc,hocd⟩:=id z
  refine h { s with heap:=h' } ⟨I.ok,I.os,I.bare,⟨fun b o e n hb hx=>?_,fun b o e n hb hx=>?_,I.base.free,fun b o e hx=>?_,I.base.tups,I.base.frzs,I.base.tbls⟩,⟨m,hn.sameBut hs (Ne.symm (cne x c hc)),fun j y v' e1 e2 e3=>?_⟩,fun y c' e=>?_,I.free,I.freeC,fun p hp=>?_,tracked ⟨oc,hoc,I.freeC x c hc⟩ hs,by simpa using I.len⟩ ⟨c,hs,.inr hc⟩
  ·exact (hs.2 b (Nat.ne_of_lt (Nat.lt_of_lt_of_le (Heap.lt_size e) (I.ok.cab x c hfn hc)))).trans (I.base.keep b o e n hb hx)
  ·obtain ⟨sl,e1⟩:=I.base.slot b o e n hb hx
   exact ⟨sl,(hs.2 b (Nat.ne_of_lt (Nat.lt_of_lt_of_le (Heap.lt_size e) (I.ok.cab x c hfn hc)))).trans e1⟩
  ·obtain ⟨o',e1⟩:=I.base.there b o e hx
   exact ⟨o',(hs.2 b (Nat.ne_of_lt (Nat.lt_of_lt_of_le (Heap.lt_size e) (I.ok.cab x c hfn hc)))).trans e1⟩
  ·by_cases hj:j = i
   ·subst hj
    rw [hi] at e1; cases e1
    rw [List.getElem?_set_self hiσ] at e2
    cases e2
    exact ⟨u,r,.inr ⟨.inl hk,c,hc,hc'⟩⟩
   ·rw [List.getElem?_set_ne (Ne.symm hj)] at e2
    obtain ⟨u',r',q⟩:=hl j y v' e1 e2 e3
    refine ⟨u',r',?_⟩
    rcases q with q | ⟨k,c',e,z'⟩
    ·exact .inl q
    ·refine .inr ⟨k,c',e,z'.sameBut hs ?_⟩
     rintro rfl
     exact hj (tW hN e1 (I.ok.inj _ _ _ e hc ▸ hi))
  ·by_cases hcc:c' = c
   ·subst hcc; exact ⟨_,hc'⟩
   ·obtain ⟨w2,z2⟩:=I.cell y c' e
    exact ⟨w2,z2.sameBut hs hcc⟩
  ·obtain ⟨e,n,ne,nf,d⟩:=I.pin p hp
   refine ⟨(hs.2 p.1 ?_).trans e,n,ne,nf,d⟩
   intro q
   rw [q,hoc] at e
   have q':oc = p.2:=Option.some.inj e
   exact d w' (by rw [← q']; exact hocd)
theorem wO {M:Model} {A:Around} {E:VS7} {i:Nat} {x:Str} {v:V} {u:Value} {Q:Unit -> Shared -> Prop} (I:Inv X pins σ H s) (hN:X.N.Nodup) (hi:X.N[i]? = some x) (hx:Loc X.env.scope x) (r:RelV v u)
  (h:∀ s',Inv X pins (σ.set i (some v)) H s' -> Q () s') (hf:X.fn x = true \/ X.env.scope.names.lookup x = some .local :=by first | exact .inl rfl | exact .inr rfl | assumption):wpAny M A (storeName X.env x u) Q E s :=
 Z0 I hN hi hx r (fun s' I' _=>h s' I') hf
theorem Inv.call' {s':Shared} {ch:List Addr} (I:Inv X pins σ H s) (ho:s'.os = s.os) (u:Un (frs X.stack) ch H H' s.heap s'.heap) (hok:HOk X.prog X.w H' s'.heap) (hg:AllBare s'.gens)
  (hch:∀ b ∈ ch,(b ∈ X.ex \/ X.s₀.heap.objs.size <= b) /\ b ≠ X.env.locals /\ (∀ x c,X.env.cells.lookup x = some c -> c ≠ b) /\ ∀ p ∈ X.pn ++ pins,p.1 ≠ b):Inv X pins σ H' s':=by
 obtain ⟨h',g',d',t',o'⟩:=s'
 have e:o' = s.os:=ho
 subst e
 exact I.call (g':=g') (t':=t') (d':=d') u hok hg hch
end
abbrev XK:=Value -> Option Addr -> Hp -> Prop
abbrev St:=List (Option V)
abbrev VK:=V -> Hp -> Prop
abbrev TE:=St -> Hp -> VK -> Prop
abbrev TT:=St -> Hp -> (Bool -> Hp -> Prop) -> Prop
abbrev TA:=St -> Hp -> (List V -> Hp -> Prop) -> Prop
structure Ends where
 nx:St -> Hp -> Prop
 rt:VK
 bk:St -> Hp -> Prop:=fun _ _=>False
 ct:St -> Hp -> Prop:=fun _ _=>False
abbrev TS:=Ends -> St -> Hp -> Prop
def EP (X:Cx) (pins:List (Addr × Obj)) (σ:St) (Q:VK) (u:Value) (s':Shared):Prop:=∃ v H',Inv X pins σ H' s' /\ RelV v u /\ Q v H'
def TP (X:Cx) (pins:List (Addr × Obj)) (σ:St) (Q:Bool -> Hp -> Prop) (b:Bool) (s':Shared):Prop:=∃ H',Inv X pins σ H' s' /\ Q b H'
def AP (X:Cx) (pins:List (Addr × Obj)) (σ:St) (Q:List V -> Hp -> Prop) (us:List Value) (s':Shared):Prop:=∃ vs H',Inv X pins σ H' s' /\ Vals vs us /\ Q vs H'
def SP (X:Cx) (pins:List (Addr × Obj)) (D:Ends) (f:Flow) (s':Shared):Prop :=
 match f with
 | .next=>∃ σ' H',Inv X pins σ' H' s' /\ D.nx σ' H'
 | .brk=>∃ σ' H',Inv X pins σ' H' s' /\ D.bk σ' H'
 | .cont=>∃ σ' H',Inv X pins σ' H' s' /\ D.ct σ' H'
 | .ret u=>∃ v σ' H',Inv X pins σ' H' s' /\ RelV v u /\ D.rt v H'
def PE (X:Cx) (e:Expr) (t:TE):Prop :=
 ∀ (pins:List (Addr × Obj)) (s:Shared) (σ:St) (H:Hp) (Q:VK),Inv X pins σ H s -> t σ H Q -> wpAny (model X.prog X.w) X.A (eval e X.env) (EP X pins σ Q) X.xe s
def PT (X:Cx) (e:Expr) (t:TT):Prop :=
 ∀ (pins:List (Addr × Obj)) (s:Shared) (σ:St) (H:Hp) (Q:Bool -> Hp -> Prop),Inv X pins σ H s -> t σ H Q -> wpAny (model X.prog X.w) X.A (isTrue e X.env (eval e X.env)) (TP X pins σ Q) X.xe s
def PW (X:Cx) (e:Expr) (t:TT):Prop :=
 ∀ (whole:Sem Value) (pins:List (Addr × Obj)) (s:Shared) (σ:St) (H:Hp) (Q:Bool -> Hp -> Prop),Inv X pins σ H s -> t σ H Q -> wpAny (model X.prog X.w) X.A (isTrue e X.env whole) (TP X pins σ Q) X.xe s
theorem PW.pt {X:Cx} {e:Expr} {t:TT} (h:PW X e t):PT X e t:=h _
def PA (X:Cx) (es:List Expr) (t:TA):Prop :=
 ∀ (pos:Pos) (pins:List (Addr × Obj)) (s:Shared) (σ:St) (H:Hp) (Q:List V -> Hp -> Prop),Inv X pins σ H s -> t σ H Q -> wpAny (model X.prog X.w) X.A (spliced (backTo pos (starEach es X.env))) (AP X pins σ Q) X.xe s
def PS (X:Cx) (st:Stmt) (t:TS):Prop :=
 ∀ (pins:List (Addr × Obj)) (s:Shared) (σ:St) (H:Hp) (D:Ends),Inv X pins σ H s -> t D σ H -> wpAny (model X.prog X.w) X.A (exec st X.env) (SP X pins D) X.xe s
def PSs (X:Cx) (st:List Stmt) (t:TS):Prop :=
 ∀ (pins:List (Addr × Obj)) (s:Shared) (σ:St) (H:Hp) (D:Ends),Inv X pins σ H s -> t D σ H -> wpAny (model X.prog X.w) X.A (execs st X.env) (SP X pins D) X.xe s
theorem thn {α:Type} {t:Sem α} {Q Q':α -> Shared -> Prop} {M:Model} {A:Around} {E:VS7} {s:Shared} (h:wpAny M A t Q E s) (hQ:∀ a s,Q a s -> Q' a s):wpAny M A t Q' E s:=wpAny_mono h hQ fun _ _ x=>x
end L2
namespace L2
open PySem PySem.Spec PyProof.Rows
section
variable {X:Cx}
def tVar (i:Nat):TE:=fun σ H Q=>∃ v,σ[i]? = some (some v) /\ Q v H
def tC (v:V):TE:=fun _ H Q=>Q v H
theorem VO {i:Nat} {x:Str} {pos:Pos} (hN:X.N[i]? = some x) (hv:Vis X.env.scope x) (hd:(x == ("__debug__":Str)) = false:=by decide) (hcd:(x == ("__classdict__":Str)) = false:=by decide):PE X (.Name x pos) (tVar i):=by
 intro pins s σ H Q I h
 obtain ⟨v,e,h⟩:=h
 obtain ⟨m,hn,hl⟩:=I.loc
 obtain ⟨u,r,l⟩:=hl i x v hN e hv
 have fin:EP X pins σ Q u s:=⟨v,H,I,r,h⟩
 rcases l with ⟨hk,hm⟩ | ⟨hk,c,hc,hcell⟩
 ·exact wpAny_Name (wpAny_loadName_local I.ok.kind hk hn hm fin) hd
 ·rcases hk with hk | hk
  ·exact wpAny_Name (wpAny_loadName_cell I.ok.kind hk hc hcell fin) hd
  ·exact wpAny_Name (wpAny_loadName_free I.ok.kind hk hc hcell fin hcd) hd
theorem ze {i j pos}:PE X (.Constant (.int i) j pos) (tC (.int i)):=fun _ _ _ H _ I h=>wpAny_Constant_int ⟨.int i,H,I.tok _,⟨_,rfl⟩,h⟩
theorem vT {b j pos}:PE X (.Constant (.bool b) j pos) (tC (.bl b)):=fun _ _ _ H _ I h=>Constant_bool ⟨.bl b,H,I,rfl,h⟩
theorem jH {j pos}:PE X (.Constant .none j pos) (tC .non):=fun _ _ _ H _ I h=>Constant_none ⟨.non,H,I,rfl,h⟩
theorem z3 {x j pos}:PE X (.Constant (.str x) j pos) (tC (.str x)):=fun _ _ _ H _ I h=>Calls.Constant_str ⟨.str x,H,I.tok _,⟨_,rfl⟩,h⟩
def Gl (X:Cx) (x:Str):Prop:=X.env.kindOf x = some .globalImplicit
theorem uo {E:VS7} {pins:List (Addr × Obj)} {s:Shared} {σ:St} {H:Hp} {x:Str} {u:Value} {pos:Pos} {Q:VS7} (I:Inv X pins σ H s) (hg:Gl X x) (hm:X.mg x = some u) (h:Q u s)
  (hd:(x == ("__debug__":Str)) = false:=by decide):wpAny (model X.prog X.w) X.A (eval (.Name x pos) X.env) Q E s :=
 Calls.Name_function_global I.ok.kind hg (Calls.loadGlobal_global (by rw [I.ok.glob]; exact I.mod.glob.keeps I.bk) hm h) hd
theorem wx {E:VS7} {pins:List (Addr × Obj)} {s:Shared} {σ:St} {H:Hp} {x:Str} {u:Value} {pos:Pos} {Q:VS7} (I:Inv X pins σ H s) (hg:Gl X x) (hm:X.mg x = none) (hv:bootBuiltins x = some u) (h:Q u s)
  (hn:x ≠ "__name__":=by decide) (hd:(x == ("__debug__":Str)) = false:=by decide):wpAny (model X.prog X.w) X.A (eval (.Name x pos) X.env) Q E s:=by
 obtain ⟨mb,h1,h2⟩:=I.mod.blt
 exact Calls.Name_function_global I.ok.kind hg (Calls.loadGlobal_builtin (by rw [I.ok.glob]; exact I.mod.glob.keeps I.bk) hm (by rw [I.ok.blt]; exact h1.keeps I.bk) ((h2 x hn).trans hv) h) hd
theorem y0 {x:Str} {v:V} {u:Value} {pos:Pos} (hg:Gl X x) (hm:X.mg x = some u) (r:RelV v u) (hd:(x == ("__debug__":Str)) = false:=by decide):PE X (.Name x pos) (tC v) :=
 fun _ _ _ H _ I h=>uo I hg hm ⟨v,H,I,r,h⟩ hd
theorem WW {x:Str} {v:V} {u:Value} {pos:Pos} (hg:Gl X x) (hm:X.mg x = none) (hv:bootBuiltins x = some u) (r:RelV v u) (hn:x ≠ "__name__":=by decide) (hd:(x == ("__debug__":Str)) = false:=by decide):PE X (.Name x pos) (tC v) :=
 fun _ _ _ H _ I h=>wx I hg hm hv ⟨v,H,I,r,h⟩ hn hd
variable {a b:Expr} {ta tb:TE} {pos:Pos}
def PC (X:Cx) (op:CmpOp) (a b:Expr) (t:TE):Prop :=
 ∀ (pins:List (Addr × Obj)) (s:Shared) (σ:St) (H:Hp) (Q:VK),Inv X pins σ H s -> t σ H Q →
  wpAny (model X.prog X.w) X.A (eval a X.env) (fun v s₁=>wpAny (model X.prog X.w) X.A (eval b X.env) (fun u s₂=>wpAny (model X.prog X.w) X.A (compareOp op v u) (EP X pins σ Q) X.xe s₂) X.xe s₁) X.xe s
theorem Xu (b:Expr) {op:CmpOp} (h:op ≠ .In) (h2:op ≠ .NotIn):behindInMarks op b = false:=by
 have e1:(op == CmpOp.In) = false:=by cases op <;> first | rfl | exact absurd rfl h
 have e2:(op == CmpOp.NotIn) = false:=by cases op <;> first | rfl | exact absurd rfl h2
 cases b <;> simp [behindInMarks,e1,e2]
def tB (t:TE):TT:=fun σ H Q=>t σ H fun x H1=>∃ c,x = .bl c /\ Q c H1
theorem VP {op:CmpOp} {t:TE} (h:PC X op a b t) (h1:behindInMarks op b = false:=by first | exact Xu _ (by decide) (by decide) | rfl):PT X (.Compare a [op] [b] pos) (tB t):=by
 intro pins s σ H Q I hw
 refine wpAny_isTrue_Compare1 (thn (h pins s σ H _ I hw) fun v s1 h1=>thn h1 fun u s2 h2=>thn h2 fun c s3 ⟨x,H1,I1,r1,q1⟩=>?_) h1
 obtain ⟨d,rfl,q⟩:=q1
 cases r1
 exact wpAny_truthy_bool ⟨H1,I1,q⟩
theorem yc {e:Expr} {t:TE} (h:PE X e t) (he:∀ whole,isTrue e X.env whole = (do let v ← whole; standAt e.pos; holding [v] (truthy v)):=by intro _; rfl):PT X e (tB t):=by
 intro pins s σ H Q I hw
 refine isTrue_plain (thn (h pins s σ H _ I hw) fun v s1 ⟨x,H1,I1,r1,q1⟩=>?_) (he _)
 obtain ⟨d,rfl,q⟩:=q1
 cases r1
 exact wpAny_truthy_bool ⟨H1,I1,q⟩
variable {tA tB':TT} {rest:List Expr}
def tAnd (t u:TT):TT:=fun σ H Q=>t σ H fun c H1=>if c = true then u σ H1 Q else Q false H1
def tOr (t u:TT):TT:=fun σ H Q=>t σ H fun c H1=>if c = true then Q true H1 else u σ H1 Q
def tNot (t:TT):TT:=fun σ H Q=>t σ H fun c H1=>Q (!c) H1
theorem vk (ha:PT X a tA):PW X (.BoolOp .And [a] pos) tA:=by
 intro wh pins s σ H Q I h
 refine isTrue_and (thn (ha pins s σ H Q I h) fun c s1 e=>?_)
 cases c with
 | true=>exact isTrue_and_nil e
 | false=>exact e
theorem xL (ha:PT X a tA):PW X (.BoolOp .Or [a] pos) tA:=by
 intro wh pins s σ H Q I h
 refine isTrue_or (thn (ha pins s σ H Q I h) fun c s1 e=>?_)
 cases c with
 | false=>exact isTrue_or_nil e
 | true=>exact e
theorem tJ (ha:PT X a tA) (hb:PW X (.BoolOp .And (b :: rest) pos) tB'):PW X (.BoolOp .And (a :: b :: rest) pos) (tAnd tA tB'):=by
 intro wh pins s σ H Q I h
 refine isTrue_and (thn (ha pins s σ H _ I h) fun c s1 ⟨H1,I1,q1⟩=>?_)
 cases c with
 | true=>exact hb wh pins s1 σ H1 Q I1 q1
 | false=>exact ⟨H1,I1,q1⟩
theorem vU (ha:PT X a tA) (hb:PW X (.BoolOp .Or (b :: rest) pos) tB'):PW X (.BoolOp .Or (a :: b :: rest) pos) (tOr tA tB'):=by
 intro wh pins s σ H Q I h
 refine isTrue_or (thn (ha pins s σ H _ I h) fun c s1 ⟨H1,I1,q1⟩=>?_)
 cases c with
 | true=>exact ⟨H1,I1,q1⟩
 | false=>exact hb wh pins s1 σ H1 Q I1 q1
theorem z4 (ha:PT X a tA):PT X (.UnaryOp .Not a pos) (tNot tA):=by
 intro pins s σ H Q I h
 exact isTrue_not (ha pins s σ H (fun c H1=>Q (!c) H1) I h)
def UF (ta tb:TE):TE:=fun σ H Q=>ta σ H fun x H1=>∃ c,x = .bl c /\ if c = true then tb σ H1 Q else Q (.bl false) H1
def UG (ta:TE):TE:=fun σ H Q=>ta σ H fun x H1=>∃ c,x = .bl c /\ Q (.bl (!c)) H1
theorem vL {op} {t:TE} (h:PE X a t):PE X (.BoolOp op [a] pos) t:=fun pins s σ H Q I hw=>BoolOp_one (h pins s σ H Q I hw)
theorem wP (ha:PE X a ta) (hb:PE X (.BoolOp .And (b :: rest) pos) tb):PE X (.BoolOp .And (a :: b :: rest) pos) (UF ta tb):=by
 intro pins s σ H Q I h
 refine BoolOp_and (thn (ha pins s σ H _ I h) fun v s1 ⟨x,H1,I1,r1,q1⟩=>?_)
 obtain ⟨c,rfl,q1⟩:=q1
 cases r1
 refine wpAny_truthy_bool ?_
 cases c with
 | true=>exact hb pins s1 σ H1 Q I1 q1
 | false=>exact ⟨.bl false,H1,I1,rfl,q1⟩
theorem Z1 (ha:PE X a ta):PE X (.UnaryOp .Not a pos) (UG ta):=by
 intro pins s σ H Q I h
 refine UnaryOp_ (thn (ha pins s σ H _ I h) fun v s1 ⟨x,H1,I1,r1,q1⟩=>?_)
 obtain ⟨c,rfl,q1⟩:=q1
 cases r1
 exact not_of (wpAny_truthy_bool ⟨.bl (!c),H1,I1,rfl,q1⟩)
end
end L2
namespace L2
open PySem PySem.Spec PyProof.Rows
def SqL (K:FG7) (H:Hp) (a:Addr) (xs:List V):Prop :=
 Rd H a (.lst xs) ∨
  ∃ (o:Obj) (its:Array Value) (n:Nat),K.lookup a = some o /\ o.cls = .type "list" /\ o.dict = none /\ o.data = .seq its n /\ its.size <= sizeLine /\ Vals xs its.toList
def SqT (K:FG7) (H:Hp) (a:Addr) (xs:List V):Prop :=
 Rd H a (.tup xs) ∨
  ∃ (o:Obj) (its:Array Value) (n:Nat),K.lookup a = some o /\ o.cls = .type "tuple" /\ o.data = .seq its n /\ its.size <= sizeLine /\ Vals xs its.toList
def absV:Value -> Option V
 | .none=>some .non
 | .bool b=>some (.bl b)
 | .int i _=>some (.int i)
 | .str x _=>some (.str x)
 | .bytes b _=>some (.byt b)
 | .float b _=>some (.flt b)
 | .ref a=>some (.ref a)
 | .type n=>some (.ty n)
 | _=>none
theorem RelV.abs {x:V} {u:Value} (r:RelV x u):absV u = some x:=by
 cases x with
 | non=>cases r; rfl
 | bl _=>cases r; rfl
 | int _=>obtain ⟨t,rfl⟩:=r; rfl
 | str _=>obtain ⟨t,rfl⟩:=r; rfl
 | byt _=>obtain ⟨t,rfl⟩:=r; rfl
 | flt _=>obtain ⟨t,rfl⟩:=r; rfl
 | ref _=>cases r; rfl
 | ty _=>cases r; rfl
theorem RelV.inj {x y:V} {u:Value} (r:RelV x u) (q:RelV y u):x = y:=Option.some.inj (r.abs.symm.trans q.abs)
theorem Vals.inj:∀ {xs ys:List V} {us:List Value},Vals xs us -> Vals ys us -> xs = ys
 | _,_,_,.nil,.nil=>rfl
 | _,_,_,.cons r t,.cons r' t'=>by rw [r.inj r',Vals.inj t t']
section
variable {X:Cx} {pins:List (Addr × Obj)} {σ:St} {H:Hp} {s:Shared} {a:Addr} {xs ys:List V}
theorem SqL.of {K:FG7} (h:H a = some (.lst xs)):SqL K H a xs:=.inl (.inl h)
theorem SqT.of {K:FG7} (h:H a = some (.tup xs)):SqT K H a xs:=.inl (.inl h)
theorem Inv.list (I:Inv X pins σ H s) (h:SqL X.K H a xs):∃ its:List Value,Vals xs its /\ PlainL s.heap a its.toArray /\ xs.length <= sizeLine:=by
 rcases h with h | ⟨o,its,n,hk,hc,hd,hs,hz,r⟩
 ·obtain ⟨z,its,n,r,e⟩:=h.ok I.hok
  exact ⟨its,r,⟨_,n,e,rfl,rfl,rfl⟩,z⟩
 ·refine ⟨its.toList,r,⟨o,n,I.kIn a o hk,hc,hd,by simpa using hs⟩,?_⟩
  have e:=r.length
  simp only [Array.length_toList] at e
  omega
theorem Inv.tuple (I:Inv X pins σ H s) (h:SqT X.K H a xs):∃ its:List Value,Vals xs its /\ IsTup s.heap a its.toArray /\ xs.length <= sizeLine:=by
 rcases h with h | ⟨o,its,n,hk,hc,hs,hz,r⟩
 ·obtain ⟨z,its,r,p⟩:=h.ok I.hok
  exact ⟨its,r,p,z⟩
 ·refine ⟨its.toList,r,⟨o,I.kIn a o hk,hc,n,by simpa using hs⟩,?_⟩
  have e:=r.length
  simp only [Array.length_toList] at e
  omega
theorem Inv.list_inj (I:Inv X pins σ H s) (h:SqL X.K H a xs) (h':SqL X.K H a ys):xs = ys:=by
 obtain ⟨its,r,⟨o,n,e,_,_,d⟩,_⟩:=I.list h
 obtain ⟨its',r',⟨o',n',e',_,_,d'⟩,_⟩:=I.list h'
 rw [e] at e'; cases e'
 rw [d] at d'
 injection d' with d1 _
 have:its = its':=by simpa using congrArg Array.toList d1
 subst this
 exact r.inj r'
theorem Inv.tuple_inj (I:Inv X pins σ H s) (h:SqT X.K H a xs) (h':SqT X.K H a ys):xs = ys:=by
 obtain ⟨its,r,⟨o,e,_,n,d⟩,_⟩:=I.tuple h
 obtain ⟨its',r',⟨o',e',_,n',d'⟩,_⟩:=I.tuple h'
 rw [e] at e'; cases e'
 rw [d] at d'
 injection d' with d1 _
 have:its = its':=by simpa using congrArg Array.toList d1
 subst this
 exact r.inj r'
end
abbrev Cx.wish (X:Cx) (E:VS7):Cx:={ X with xe:=E }
abbrev Cx.nox (X:Cx):Cx:=X.wish fun _ _=>False
theorem Cx.Ok.wish {X:Cx} (ok:X.Ok) (E:VS7):(X.wish E).Ok :=
 ⟨ok.mod,ok.kind,ok.glob,ok.blt,ok.above,ok.inj,ok.has,ok.cab,ok.hd,ok.frames,ok.stk,ok.exf,ok.bs,ok.bsz,ok.noex,ok.exfs,ok.funs,ok.frf⟩
theorem Cx.Ok.unwish {X:Cx} {E:VS7} (ok:(X.wish E).Ok):X.Ok :=
 ⟨ok.mod,ok.kind,ok.glob,ok.blt,ok.above,ok.inj,ok.has,ok.cab,ok.hd,ok.frames,ok.stk,ok.exf,ok.bs,ok.bsz,ok.noex,ok.exfs,ok.funs,ok.frf⟩
section
variable {X:Cx} {pins:List (Addr × Obj)} {σ:St} {H:Hp} {s:Shared} {E:VS7}
theorem Inv.wish (I:Inv X pins σ H s) (E:VS7):Inv (X.wish E) pins σ H s:=⟨I.ok.wish E,I.os,I.bare,I.base,I.loc,I.cell,I.free,I.freeC,I.pin,I.hok,I.len⟩
theorem Inv.unwish (I:Inv (X.wish E) pins σ H s):Inv X pins σ H s:=⟨I.ok.unwish,I.os,I.bare,I.base,I.loc,I.cell,I.free,I.freeC,I.pin,I.hok,I.len⟩
theorem SP.unwish {D:Ends} {f:Flow} {s':Shared} (h:SP (X.wish E) pins D f s'):SP X pins D f s':=by
 cases f with
 | next=>obtain ⟨σ',H',I,q⟩:=h; exact ⟨σ',H',I.unwish,q⟩
 | brk=>obtain ⟨σ',H',I,q⟩:=h; exact ⟨σ',H',I.unwish,q⟩
 | cont=>obtain ⟨σ',H',I,q⟩:=h; exact ⟨σ',H',I.unwish,q⟩
 | ret u=>obtain ⟨v,σ',H',I,r,q⟩:=h; exact ⟨v,σ',H',I.unwish,r,q⟩
theorem PE.nox {e:Expr} {t:TE} (h:PE X.nox e t):PE X e t:=fun pins s σ H Q I hw =>
 wpAny_mono (h pins s σ H Q (I.wish _) hw) (fun _ _ ⟨v,H',I',r,q⟩=>⟨v,H',I'.unwish,r,q⟩) fun _ _ z=>False.elim z
theorem PT.nox {e:Expr} {t:TT} (h:PT X.nox e t):PT X e t:=fun pins s σ H Q I hw =>
 wpAny_mono (h pins s σ H Q (I.wish _) hw) (fun _ _ ⟨H',I',q⟩=>⟨H',I'.unwish,q⟩) fun _ _ z=>False.elim z
theorem PSs.nox {st:List Stmt} {t:TS} (h:PSs X.nox st t):PSs X st t:=fun pins s σ H D I hw =>
 wpAny_mono (h pins s σ H D (I.wish _) hw) (fun _ _ q=>q.unwish) fun _ _ z=>False.elim z
end
section
variable {X:Cx} {st:Stmt} {rest:List Stmt} {t u:TS} {e:Expr} {te:TE} {pos:Pos}
def VQ:TS:=fun D σ H=>D.nx σ H
def tSeq (t u:TS):TS:=fun D σ H=>t { D with nx:=u D } σ H
theorem zp:PSs X [] VQ:=fun _ _ σ H _ I h=>wpAny_execs_nil ⟨σ,H,I,h⟩
theorem zc (h1:PS X st t) (h2:PSs X rest u):PSs X (st :: rest) (tSeq t u):=by
 intro pins s σ H D I h
 refine wpAny_execs_cons (thn (h1 pins s σ H { D with nx:=u D } I h) fun f s1 q=>?_)
 cases f with
 | next =>
  obtain ⟨σ',H',I',q⟩:=q
  exact h2 pins s1 σ' H' D I' q
 | ret v=>exact q
 | brk=>exact q
 | cont=>exact q
theorem zf (h1:PS X st t):PSs X [st] t:=by
 intro pins s σ H D I h
 refine wpAny_execs_cons (thn (h1 pins s σ H D I h) fun f s1 q=>?_)
 cases f with
 | next=>exact wpAny_execs_nil q
 | ret v=>exact q
 | brk=>exact q
 | cont=>exact q
theorem Inv.quiet {pins:List (Addr × Obj)} {σ:St} {H:Hp} {s:Shared} (I:Inv X pins σ H s):interactive X.env = false:=by simp [interactive,I.ok.kind]
def UH (te:TE):TS:=fun D σ H=>te σ H fun _ H1=>D.nx σ H1
theorem yg (he:PE X e te) (hs:swapsWith e none pos.line X.env = pure false:=by rfl):PS X (.Expr e pos) (UH te):=by
 intro pins s σ H D I h
 exact wpAny_Expr_any (thn (he pins s σ H _ I h) fun v s1 ⟨x,H1,I1,r1,q1⟩=>⟨σ,H1,I1,q1⟩) I.quiet hs
def tRet (te:TE):TS:=fun D σ H=>te σ H D.rt
theorem zq (he:PE X e te):PS X (.Return (some e) pos) (tRet te):=by
 intro pins s σ H D I h
 exact wpAny_Return_some (thn (he pins s σ H _ I h) fun v s1 ⟨x,H1,I1,r1,q1⟩=>⟨x,σ,H1,I1,r1,q1⟩)
def tIfS (c:TT) (t u:TS):TS:=fun D σ H=>c σ H fun b H1=>if b = true then t D σ H1 else u D σ H1
theorem zM {c:Expr} {a b:List Stmt} {tc:TT} (hc:PT X c tc) (ha:PSs X a t) (hb:PSs X b u):PS X (.If c a b pos) (tIfS tc t u):=by
 intro pins s σ H D I h
 refine wpAny_If (thn (hc pins s σ H _ I h) fun d s1 ⟨H1,I1,q1⟩=>?_)
 cases d with
 | true=>exact ha pins s1 σ H1 D I1 q1
 | false=>exact hb pins s1 σ H1 D I1 q1
end
abbrev TG:=V -> St -> Hp -> (St -> Hp -> Prop) -> Prop
abbrev TGs:=List V -> St -> Hp -> (St -> Hp -> Prop) -> Prop
def PG (X:Cx) (target:Expr) (t:TG):Prop :=
 ∀ (pins:List (Addr × Obj)) (s:Shared) (σ:St) (H:Hp) (v:V) (u:Value) (Q:St -> Hp -> Prop),Inv X pins σ H s -> RelV v u -> t v σ H Q →
  wpAny (model X.prog X.w) X.A (assign target X.env u) (fun _ s'=>∃ σ' H',Inv X pins σ' H' s' /\ Q σ' H') X.xe s
def PGs (X:Cx) (ts:List Expr) (t:TGs):Prop :=
 ∀ (pins:List (Addr × Obj)) (s:Shared) (σ:St) (H:Hp) (vs:List V) (us:List Value) (Q:St -> Hp -> Prop),Inv X pins σ H s -> Vals vs us -> t vs σ H Q →
  wpAny (model X.prog X.w) X.A (assignInOrder ((assignEach ts X.env).map (·.2)) us) (fun _ s'=>∃ σ' H',Inv X pins σ' H' s' /\ Q σ' H') X.xe s
abbrev TSet:=V -> V -> V -> Hp -> (Hp -> Prop) -> Prop
def PSet (X:Cx) (t:TSet):Prop :=
 ∀ (pins:List (Addr × Obj)) (s:Shared) (σ:St) (H:Hp) (o i v:V) (ov iv u:Value) (Q:Hp -> Prop),Inv X pins σ H s -> RelV o ov -> RelV i iv -> RelV v u -> t o i v H Q →
  wpAny (model X.prog X.w) X.A (setItem ov iv u) (fun _ s'=>∃ H',Inv X pins σ H' s' /\ Q H') X.xe s
abbrev TIp:=V -> V -> Hp -> VK -> Prop
def PIp (X:Cx) (op:Operator) (t:TIp):Prop :=
 ∀ (pins:List (Addr × Obj)) (s:Shared) (σ:St) (H:Hp) (x y:V) (v u:Value) (Q:VK),Inv X pins σ H s -> RelV x v -> RelV y u -> t x y H Q →
  wpAny (model X.prog X.w) X.A (inplaceOp op v u) (EP X pins σ Q) X.xe s
section
variable {X:Cx} {pos:Pos}
def vW (i:Nat):TG:=fun v σ H Q=>Q (σ.set i (some v)) H
theorem zz {i:Nat} {x:Str} (hN:X.N.Nodup) (hi:X.N[i]? = some x) (hx:Loc X.env.scope x) (hf:X.fn x = true \/ X.env.scope.names.lookup x = some .local :=by first | exact .inl rfl | exact .inr rfl | assumption):PG X (.Name x pos) (vW i):=by
 intro pins s σ H v u Q I r h
 exact wpAny_assign_Name (wO I hN hi hx r (fun s' I'=>⟨_,H,I',h⟩) hf)
def gNil:TGs:=fun vs σ H Q=>vs = [] /\ Q σ H
def UI (t:TG) (u:TGs):TGs:=fun vs σ H Q=>∃ v r,vs = v :: r /\ t v σ H fun σ' H'=>u r σ' H' Q
theorem uq:PGs X [] gNil:=by
 intro pins s σ H vs us Q I r h
 obtain ⟨e,h⟩:=h
 subst e
 cases r
 exact assignInOrder_nil ⟨σ,H,I,h⟩
theorem yk {e:Expr} {es:List Expr} {t:TG} {u:TGs} (h1:PG X e t) (h2:PGs X es u)
  (hs:(assignEach (e :: es) X.env).map (·.2) = assign e X.env :: (assignEach es X.env).map (·.2):=by rfl):PGs X (e :: es) (UI t u):=by
 intro pins s σ H vs us Q I r h
 obtain ⟨v,vr,e1,h⟩:=h
 subst e1
 cases r with
 | cons r rr =>
  rw [hs]
  refine assignInOrder_cons (thn (h1 pins s σ H _ _ _ I r h) fun _ s1 ⟨σ1,H1,I1,q1⟩=>?_)
  exact h2 pins s1 σ1 H1 _ _ Q I1 rr q1
def gTup (K:FG7) (n:Nat) (t:TGs):TG:=fun v σ H Q=>∃ a xs,v = .ref a /\ SqT K H a xs /\ xs.length = n /\ t xs σ H Q
theorem sU {es:List Expr} {k:Nat} {t:TGs} {n:Nat} (hc:X.calm = true) (h:PGs X es t)
  (hn:(assignEach es X.env).length = n:=by rfl) (hst:(assignEach es X.env).findIdx? (·.1) = none:=by rfl):PG X (.Tuple es k pos) (gTup X.K n t):=by
 intro pins s σ H v u Q I r hw
 obtain ⟨a,xs,e1,hq,hl,hw⟩:=hw
 subst e1
 cases r
 obtain ⟨its,rv,ht,hz⟩:=I.tuple hq
 refine assign_Tuple_tuple (I.ok.hd hc) ht (by simp [hn,← hl,rv.length]) hst fun h' hx=>?_
 have I1:Inv X pins σ H { s with heap:=h' }:=I.kept (t':=s.toks) fun b o e=>hx b o (Nat.ne_of_lt (Heap.lt_size e)) e
 exact h pins _ σ H xs _ Q I1 (by simpa using rv) hw
def gSub (to ti:TE) (t:TSet):TG:=fun v σ H Q=>to σ H fun o H1=>ti σ H1 fun i H2=>t o i v H2 fun H3=>Q σ H3
theorem Wr {o i:Expr} {to ti:TE} {t:TSet} (ho:PE X o to) (hi:PE X i ti) (hs:PSet X t)
  (ha:∀ v,assign (.Subscript o i pos) X.env v = (do
   let ov ← holding [v] (eval o X.env)
   let iv ← holding [v,ov] (eval i X.env)
   standAt pos
   holding [v,ov,iv] (setItem ov iv v)
   release [v,ov,iv] []):=by intro _; rfl):PG X (.Subscript o i pos) (gSub to ti t):=by
 intro pins s σ H v u Q I r h
 rw [ha]
 refine wpAny_bind (wpAny_holding (thn (ho pins s σ H _ I h) fun ov s1 ⟨x,H1,I1,r1,q1⟩=>?_))
 refine wpAny_bind (wpAny_holding (thn (hi pins s1 σ H1 _ I1 q1) fun iv s2 ⟨y,H2,I2,r2,q2⟩=>?_))
 refine wpAny_bind (wpAny_standAt (wpAny_bind (wpAny_holding (thn (hs pins s2 σ H2 x y v ov iv u _ I2 r1 r2 r q2) fun _ s3 ⟨H3,I3,q3⟩=>?_))))
 exact wpAny_release ⟨σ,H3,I3,q3⟩
def tAsg (te:TE) (g:TG):TS:=fun D σ H=>te σ H fun x H1=>g x σ H1 D.nx
theorem Z2 {tg e:Expr} {te:TE} {g:TG} (he:PE X e te) (hg:PG X tg g) (hs:swapsWithSole [tg] e pos.line X.env = pure false:=by rfl) (hw:swappedStores [tg] e X.env = pure none:=by rfl)
  (h1:(assignEach [tg] X.env).map (·.2) = [assign tg X.env]:=by rfl):PS X (.Assign [tg] e pos) (tAsg te g):=by
 intro pins s σ H D I h
 refine wpAny_Assign_stores (thn (he pins s σ H _ I h) fun v s1 ⟨x,H1,I1,r1,q1⟩=>?_) hs hw
 rw [h1]
 exact thn (hg pins s1 σ H1 x v _ I1 r1 q1) fun _ s2 q=>q
theorem zA {i:Nat} {x:Str} {e:Expr} {te:TE} {pos':Pos} (hN:X.N.Nodup) (hi:X.N[i]? = some x) (hx:Loc X.env.scope x) (he:PE X e te) (hs:swapsWith e (some (.Name x pos')) pos.line X.env = pure false:=by rfl) (hf:X.fn x = true \/ X.env.scope.names.lookup x = some .local :=by first | exact .inl rfl | exact .inr rfl | assumption) :
  PS X (.Assign [.Name x pos'] e pos) (tAsg te (vW i)):=by
 intro pins s σ H D I h
 refine wpAny_Assign_Name (thn (he pins s σ H _ I h) fun v s1 ⟨y,H1,I1,r1,q1⟩=>?_) hs
 exact wO I1 hN hi hx r1 (fun s2 I2=>⟨_,H1,I2,q1⟩) hf
def tAug (i:Nat) (te:TE) (ti:TIp):TS:=fun D σ H=>∃ x,σ[i]? = some (some x) /\ te σ H fun y H1=>ti x y H1 fun z H2=>D.nx (σ.set i (some z)) H2
theorem VR {i:Nat} {x:Str} {e:Expr} {te:TE} {op:Operator} {ti:TIp} {pos':Pos} (hN:X.N.Nodup) (hi:X.N[i]? = some x) (hx:Loc X.env.scope x) (he:PE X e te) (ho:PIp X op ti) (hf:X.fn x = true \/ X.env.scope.names.lookup x = some .local :=by first | exact .inl rfl | exact .inr rfl | assumption) :
  PS X (.AugAssign (.Name x pos') op e pos) (tAug i te ti):=by
 intro pins s σ H D I h
 obtain ⟨v,e1,h⟩:=h
 obtain ⟨m,hn,hl⟩:=I.loc
 have vis:Vis X.env.scope x:=by rcases hx with k | k; exact .inl k; exact .inr (.inl k)
 obtain ⟨u,r,l⟩:=hl i x v hi e1 vis
 refine wpAny_AugAssign_Name ?_
 have go:wpAny (model X.prog X.w) X.A (eval e X.env) (fun w s₂=>wpAny (model X.prog X.w) X.A (inplaceOp op u w) (fun r s₃=>wpAny (model X.prog X.w) X.A (storeName X.env x r) (fun _=>SP X pins D .next) X.xe s₃) X.xe s₂) X.xe s:=by
  refine thn (he pins s σ H _ I h) fun w s1 ⟨y,H1,I1,r1,q1⟩=>?_
  refine thn (ho pins s1 σ H1 v y u w _ I1 r r1 q1) fun z s2 ⟨zv,H2,I2,r2,q2⟩=>?_
  exact wO I2 hN hi hx r2 (fun s3 I3=>⟨_,H2,I3,q2⟩) hf
 rcases l with ⟨hk,hm⟩ | ⟨hk,c,hc,hcell⟩
 ·exact wpAny_loadName_local I.ok.kind hk hn hm go
 ·rcases hk with hk | hk
  ·exact wpAny_loadName_cell I.ok.kind hk hc hcell go
  ·rcases hx with k | k
   ·have:X.env.scope.names.lookup x = some .free:=hk
    rw [k] at this; cases this
   ·have:X.env.scope.names.lookup x = some .free:=hk
    rw [k] at this; cases this
def ipI (f:Int -> Int -> Int):TIp:=fun x y H Q=>∃ i j,x = .int i /\ y = .int j /\ Q (.int (f i j)) H
theorem VS:PIp X .Add (ipI fun i j=>i + j):=by
 intro pins s σ H x y v u Q I r1 r2 h
 obtain ⟨i,j,e1,e2,q⟩:=h
 subst e1; subst e2
 obtain ⟨t,rfl⟩:=r1
 obtain ⟨t',rfl⟩:=r2
 exact iadd_int ⟨.int _,H,I.tok _,⟨_,rfl⟩,q⟩
end
section
variable {X:Cx} {pos:Pos}
def VT (c:TT) (tb:TS):TS:=fun D σ H=>∃ W:Nat -> St -> Hp -> Prop,(∃ m,W m σ H) /\ ∀ m σ H,W m σ H →
 c σ H fun b H1=>if b = true then ∃ N:St -> Hp -> Prop,(∀ σ' H',N σ' H' -> ∃ m',m' < m /\ W m' σ' H') /\ tb { D with nx:=N,ct:=N,bk:=D.nx } σ H1 else D.nx σ H1
theorem jI {c:Expr} {body:List Stmt} {tc:TT} {tb:TS} (hp:PassesOwn (model X.prog X.w) X.A X.env X.xe) (hc:PT X c tc) (hb:PSs X body tb):PS X (.While c body [] pos) (VT tc tb):=by
 intro pins s σ H D I h
 obtain ⟨W,⟨m0,w0⟩,turn⟩:=h
 refine wpAny_While (codeAny_whileLoop (fun n s'=>∃ σ' H',Inv X pins σ' H' s' /\ W n σ' H') ?_ m0 ⟨σ,H,I,w0⟩)
 rintro n s1 ⟨σ1,H1,I1,w1⟩
 refine wpAny_passesOwn hp (thn (hc pins s1 σ1 H1 _ I1 (turn n σ1 H1 w1)) fun b s2 ⟨H2,I2,q2⟩=>?_)
 cases b with
 | true =>
  obtain ⟨N,hN,q2⟩:=q2
  rw [if_pos rfl]
  refine wpAny_passesOwn hp (thn (hb pins s2 σ1 H2 _ I2 q2) fun f s3 q3=>?_)
  cases f with
  | next =>
   obtain ⟨σ3,H3,I3,n3⟩:=q3
   obtain ⟨m',hm,w3⟩:=hN σ3 H3 n3
   exact ⟨m',hm,σ3,H3,I3,w3⟩
  | cont =>
   obtain ⟨σ3,H3,I3,n3⟩:=q3
   obtain ⟨m',hm,w3⟩:=hN σ3 H3 n3
   exact ⟨m',hm,σ3,H3,I3,w3⟩
  | brk=>exact q3
  | ret v=>exact q3
 | false =>
  rw [if_neg Bool.false_ne_true]
  exact wpAny_execs_nil ⟨σ1,H2,I2,q2⟩
end
structure It where
 go:Nat -> Hp -> Prop
 yld:Nat -> Hp -> V -> Hp -> Prop
 stop:Nat -> Hp -> Prop
def FpOk (X:Cx) (pins:List (Addr × Obj)) (H:Hp) (b:Addr):Prop :=
 H b = none /\ b ≠ X.env.locals /\ b ∉ X.fs /\ (b ∈ X.ex \/ X.s₀.heap.objs.size <= b) /\ (∀ x c,X.env.cells.lookup x = some c -> c ≠ b) /\ ∀ p ∈ X.pn ++ pins,p.1 ≠ b
theorem Inv.fpOk {X:Cx} {pins:List (Addr × Obj)} {σ:St} {H H':Hp} {s:Shared} {b:Addr} (I:Inv X pins σ H s) (hb:s.heap.objs.size <= b) (hn:H' b = none):FpOk X pins H' b:=by
 refine ⟨hn,Nat.ne_of_gt (Nat.lt_of_lt_of_le I.lt hb),I.nofs hb,.inr (Nat.le_trans I.sz hb),fun x c e z=>?_,fun p hp z=>?_⟩
 ·obtain ⟨v,q⟩:=I.cell x c e
  exact absurd (Nat.lt_of_lt_of_le q.lt (by rw [z]; exact hb)) (Nat.lt_irrefl _)
 ·exact absurd (Nat.lt_of_lt_of_le (Heap.lt_size (I.pin p hp).1) (by rw [z]; exact hb)) (Nat.lt_irrefl _)
structure Turn (P:Program) (w:World) (K:FG7) (tg:Expr) (J:It) (fp:List Addr) (it:Addr) (tn:Nat -> Heap -> Prop):Prop where
 mem:it ∈ fp
 obj:∀ i h,tn i h -> ∀ b ∈ fp,∃ o,h.get? b = some o /\ ∀ v,o.data ≠ .cell v
 keep:∀ i h h',tn i h -> (∀ b ∈ fp,∀ o,h.get? b = some o -> h'.get? b = some o) -> tn i h'
 item:∀ (X:Cx),X.prog = P -> X.w = w -> X.K = K -> X.calm = true -> ∀ (i:Nat) (pins:List (Addr × Obj)) (s:Shared) (σ:St) (H:Hp) (E:VS7),Inv X pins σ H s -> (∀ b ∈ fp,FpOk X pins H b) -> tn i s.heap -> J.go i H →
  wpAny (model P w) X.A (pyNext (.ref it)) (fun r s1=>∃ u,r = some u ∧
   wpAny (model P w) X.A (letOwnedTupleGo tg (.ref it) u) (fun _ s2=>∃ x H',Inv X pins σ H' s2 /\ RelV x u /\ J.yld i H x H' /\ tn (i + 1) s2.heap /\ ∀ b ∈ fp,H' b = none) E s1) E s
 done:∀ (X:Cx),X.prog = P -> X.w = w -> X.K = K -> X.calm = true -> ∀ (i:Nat) (pins:List (Addr × Obj)) (s:Shared) (σ:St) (H:Hp) (E:VS7),Inv X pins σ H s -> (∀ b ∈ fp,FpOk X pins H b) -> tn i s.heap -> J.stop i H →
  wpAny (model P w) X.A (pyNext (.ref it)) (fun r s1=>r = none /\ Inv X pins σ H s1) E s
 self:∀ (A:Around) (i:Nat) (s:Shared) (Q:VS7) (E:VS7),tn i s.heap -> Q (.ref it) s -> wpAny (model P w) A (pyIter (.ref it)) Q E s
abbrev TI:=St -> Hp -> (It -> Hp -> Prop) -> Prop
def PIE (X:Cx) (pins:List (Addr × Obj)) (σ:St) (tg:Expr) (R:It -> Hp -> Prop) (itv:Value) (s2:Shared):Prop :=
 ∃ (it:Addr) (fp:List Addr) (tn:Nat -> Heap -> Prop) (J:It) (H':Hp),itv = .ref it /\ Inv X pins σ H' s2 /\ Turn X.prog X.w X.K tg J fp it tn /\ tn 0 s2.heap /\ (∀ b ∈ fp,FpOk X pins H' b) /\ R J H'
def PI (X:Cx) (tg iter:Expr) (wi:TI):Prop :=
 ∀ (pins:List (Addr × Obj)) (s:Shared) (σ:St) (H:Hp) (R:It -> Hp -> Prop),Inv X pins σ H s -> wi σ H R →
  wpAny (model X.prog X.w) X.A (eval iter X.env) (fun v s1=>wpAny (model X.prog X.w) X.A (pyIter v) (PIE X pins σ tg R) X.xe s1) X.xe s
theorem WX {M:Model} {A:Around} {E:VS7} {s:Shared} {tg:Expr} {it:Addr} {u:Value} {o:Obj} {n:String} {vs:Array Value} {Q:Unit -> Shared -> Prop} (ho:s.heap.get? it = some o) (hc:o.cls = .type n) (hd:o.data = .fields vs)
    (hn:["enumerate","zip","dict_itemiterator","dict_reverseitemiterator","odict_iterator","itertools.zip_longest","itertools.pairwise"].contains n = false) (hQ:Q () s):wpAny M A (letOwnedTupleGo tg (.ref it) u) Q E s:=by
  unfold letOwnedTupleGo
  cases tg <;> first
    | exact wpAny_pure hQ
    | (cases u <;> first
        | exact wpAny_pure hQ
        | (refine wpAny_bind (wpAny_load ho ?_)
           rw [hc,hd]
           show wpAny M A (if (["enumerate","zip","dict_itemiterator","dict_reverseitemiterator","odict_iterator","itertools.zip_longest","itertools.pairwise"].contains n && vs[0]? == some (rawInt _)) = true then _ else _) Q E s
           rw [if_neg (by intro h; rw [hn,Bool.false_and] at h; cases h)]
           exact wpAny_pure hQ))
def Itl (K:FG7) (a:Addr):It :=
 ⟨fun i H=>∃ xs x,SqL K H a xs /\ xs[i]? = some x,fun i H x H'=>H' = H /\ ∀ xs,SqL K H a xs -> xs[i]? = some x,fun i H=>∃ xs,SqL K H a xs /\ xs.length <= i⟩
def Itt (K:FG7) (a:Addr):It :=
 ⟨fun i H=>∃ xs x,SqT K H a xs /\ xs[i]? = some x,fun i H x H'=>H' = H /\ ∀ xs,SqT K H a xs -> xs[i]? = some x,fun i H=>∃ xs,SqT K H a xs /\ xs.length <= i⟩
def Itr (lo:Int) (n:Nat):It:=⟨fun i _=>i < n,fun i H x H'=>H' = H /\ x = .int (lo + i),fun i _=>n <= i⟩
theorem Z3 {P:Program} {w:World} {K:FG7} {tg:Expr} (a it:Addr):Turn P w K tg (Itl K a) [it] it (fun i h=>h.IsListIter it a i) where
 mem:=by simp
 obj:=fun i h st b hb=>by
  have e:b = it:=by simpa using hb
  subst e
  obtain ⟨o,e,c,d⟩:=st
  exact ⟨o,e,fun v z=>by rw [d] at z; cases z⟩
 keep:=fun i h h' st k=>st.at fun o e=>k it (by simp) o e
 item:=by
  intro X hP hw hK hc i pins s σ H E I hf st hg
  subst hP hw hK
  obtain ⟨xs,x,hq,hx⟩:=hg
  obtain ⟨its,rv,p,hz⟩:=I.list hq
  obtain ⟨u,hu,ru⟩:=rv.get hx
  obtain ⟨f0,f1,f2,f3,f4,f5⟩:=hf it (by simp)
  refine wpAny_pyNext_list_item st p.isList (x:=u) (by simpa using hu) fun h' st' sb=>?_
  have I1:Inv X pins σ H { s with heap:=h' }:=I.turned (t':=s.toks) (fun b o hb e=>(sb.2 b hb).trans e) f0 f1 f3 f4 f5
  obtain ⟨o,e,c,d⟩:=id st'
  exact ⟨u,rfl,WX (s:={ s with heap:=h' }) e c d (by decide) ⟨x,H,I1,ru,⟨rfl,fun ys hy=>by rw [I.list_inj hy hq]; exact hx⟩,st',fun b hb=>(hf b hb).1⟩⟩
 done:=by
  intro X hP hw hK hc i pins s σ H E I hf st hg
  subst hP hw hK
  obtain ⟨xs,hq,hx⟩:=hg
  obtain ⟨its,rv,p,hz⟩:=I.list hq
  obtain ⟨f0,f1,f2,f3,f4,f5⟩:=hf it (by simp)
  have hl:=rv.length
  exact wpAny_pyNext_list_end (I.ok.hd hc) st p.isList (by simp; omega) fun h' eb=>⟨rfl,I.turned (t':=s.toks) (fun b o hb e=>eb b o hb e) f0 f1 f3 f4 f5⟩
 self:=fun _ _ _ _ _ st h=>wpAny_pyIter_listiter st h
theorem Zl {P:Program} {w:World} {K:FG7} {tg:Expr} (a it:Addr):Turn P w K tg (Itt K a) [it] it (fun i h=>h.IsTupleIter it a i) where
 mem:=by simp
 obj:=fun i h st b hb=>by
  have e:b = it:=by simpa using hb
  subst e
  obtain ⟨o,e,c,d⟩:=st
  exact ⟨o,e,fun v z=>by rw [d] at z; cases z⟩
 keep:=fun i h h' st k=>st.at fun o e=>k it (by simp) o e
 item:=by
  intro X hP hw hK hc i pins s σ H E I hf st hg
  subst hP hw hK
  obtain ⟨xs,x,hq,hx⟩:=hg
  obtain ⟨its,rv,p,hz⟩:=I.tuple hq
  obtain ⟨u,hu,ru⟩:=rv.get hx
  obtain ⟨f0,f1,f2,f3,f4,f5⟩:=hf it (by simp)
  refine wpAny_pyNext_tuple_item st (show s.heap.IsTuple a its.toArray from p) (x:=u) (by simpa using hu) fun h' st' sb=>?_
  have I1:Inv X pins σ H { s with heap:=h' }:=I.turned (t':=s.toks) (fun b o hb e=>(sb.2 b hb).trans e) f0 f1 f3 f4 f5
  obtain ⟨o,e,c,d⟩:=id st'
  exact ⟨u,rfl,WX (s:={ s with heap:=h' }) e c d (by decide) ⟨x,H,I1,ru,⟨rfl,fun ys hy=>by rw [I.tuple_inj hy hq]; exact hx⟩,st',fun b hb=>(hf b hb).1⟩⟩
 done:=by
  intro X hP hw hK hc i pins s σ H E I hf st hg
  subst hP hw hK
  obtain ⟨xs,hq,hx⟩:=hg
  obtain ⟨its,rv,p,hz⟩:=I.tuple hq
  obtain ⟨f0,f1,f2,f3,f4,f5⟩:=hf it (by simp)
  have hl:=rv.length
  exact wpAny_pyNext_tuple_end (I.ok.hd hc) st (show s.heap.IsTuple a its.toArray from p) (by simp; omega) fun h' eb=>⟨rfl,I.turned (t':=s.toks) (fun b o hb e=>eb b o hb e) f0 f1 f3 f4 f5⟩
 self:=fun _ _ _ _ _ st h=>wpAny_pyIter_tupleiter st h
theorem Zm {P:Program} {w:World} {K:FG7} {tg:Expr} (it:Addr) (lo:Int) (n:Nat):Turn P w K tg (Itr lo n) [it] it (fun i h=>IsRangeIter h it (lo + (i:Nat) * 1) ((n:Int) - (i:Nat)) 1) where
 mem:=by simp
 obj:=fun i h st b hb=>by
  have e:b = it:=by simpa using hb
  subst e
  exact ⟨_,st,fun v z=>by
   have z':Data.fields _ = Data.cell v:=z
   cases z'⟩
 keep:=fun i h h' st k=>k it (by simp) _ st
 item:=by
  intro X hP hw hK hc i pins s σ H E I hf st hg
  subst hP hw hK
  obtain ⟨f0,f1,f2,f3,f4,f5⟩:=hf it (by simp)
  have W:=Walks.range (prog:=X.prog) (w:=X.w) (I.ok.hd hc) it lo 1 n
  refine W.item i s _ _ hg st fun v h' tk hv st' kk=>?_
  obtain ⟨t,rfl⟩:=hv
  have I1:Inv X pins σ H { s with heap:=h',toks:=tk }:=I.turned (fun b o hb e=>kk b o (by simpa using hb) e) f0 f1 f3 f4 f5
  refine ⟨_,rfl,WX (s:={ s with heap:=h',toks:=tk }) (n:="range_iterator") st' rfl rfl (by decide) ⟨.int (lo + i),H,I1,⟨t,?_⟩,⟨rfl,rfl⟩,st',fun b hb=>(hf b hb).1⟩⟩
  rw [Int.mul_one]
 done:=by
  intro X hP hw hK hc i pins s σ H E I hf st hg
  subst hP hw hK
  obtain ⟨f0,f1,f2,f3,f4,f5⟩:=hf it (by simp)
  exact wpAny_pyNext_range_end (I.ok.hd hc) st (by have:n <= i:=hg; omega) fun h' eb=>⟨rfl,I.turned (t':=s.toks) (fun b o hb e=>eb b o hb e) f0 f1 f3 f4 f5⟩
 self:=fun _ _ _ _ _ st h=>wpAny_pyIter_rangeiter st h
end L2
namespace L2
open PySem PySem.Spec PyProof.Rows
section
variable {X:Cx} {tg:Expr}
def UJ (K:FG7) (tl:TE):TI:=fun σ H R=>tl σ H fun x H1=>∃ a,x = .ref a /\ (∃ xs,SqL K H1 a xs) /\ R (Itl K a) H1
def iTup (K:FG7) (tl:TE):TI:=fun σ H R=>tl σ H fun x H1=>∃ a,x = .ref a /\ (∃ xs,SqT K H1 a xs) /\ R (Itt K a) H1
theorem Z4 {l:Expr} {tl:TE} (hl:PE X l tl):PI X tg l (UJ X.K tl):=by
 intro pins s σ H R I h
 refine thn (hl pins s σ H _ I h) fun v s1 ⟨x,H1,I1,r1,q1⟩=>?_
 obtain ⟨a,e,⟨xs,hq⟩,q⟩:=q1
 subst e
 cases r1
 obtain ⟨its,rv,p,hz⟩:=I1.list hq
 refine wpAny_pyIter_list p.isList ?_
 refine ⟨s1.heap.objs.size,[s1.heap.objs.size],_,_,H1,rfl,I1.kept (t':=s1.toks) fun b o e=>Heap.get?_push_of_some _ e,Z3 a _,⟨_,Heap.get?_push_size _ rfl,rfl,rfl⟩,fun b hb=>?_,q⟩
 have e:b = s1.heap.objs.size:=by simpa using hb
 subst e
 exact I1.fpOk (Nat.le_refl _) (I1.hok.fresh (Nat.le_refl _))
theorem xG {l:Expr} {tl:TE} (hl:PE X l tl):PI X tg l (iTup X.K tl):=by
 intro pins s σ H R I h
 refine thn (hl pins s σ H _ I h) fun v s1 ⟨x,H1,I1,r1,q1⟩=>?_
 obtain ⟨a,e,⟨xs,hq⟩,q⟩:=q1
 subst e
 cases r1
 obtain ⟨its,rv,p,hz⟩:=I1.tuple hq
 refine wpAny_pyIter_tuple (show s1.heap.IsTuple a its.toArray from p) ?_
 refine ⟨s1.heap.objs.size,[s1.heap.objs.size],_,_,H1,rfl,I1.kept (t':=s1.toks) fun b o e=>Heap.get?_push_of_some _ e,Zl a _,⟨_,Heap.get?_push_size _ rfl,rfl,rfl⟩,fun b hb=>?_,q⟩
 have e:b = s1.heap.objs.size:=by simpa using hb
 subst e
 exact I1.fpOk (Nat.le_refl _) (I1.hok.fresh (Nat.le_refl _))
theorem Xv {pins:List (Addr × Obj)} {σ:St} {H:Hp} {s:Shared} {R:It -> Hp -> Prop} {E:VS7} {lo hi:Int} {t u v:Tok} {tk:Nat} (I:Inv X pins σ H s) (h1:-(2 ^ 62) <= lo) (h2:lo < 2 ^ 62) (h3:-(2 ^ 62) <= hi) (h4:hi < 2 ^ 62)
  (q:R (Itr lo (hi - lo).toNat) H):wpAny (model X.prog X.w) X.A (pyIter (.ref s.heap.objs.size)) (PIE X pins σ tg R) E { s with heap:=s.heap.push { cls:=.type "range",data:=.fields #[.int lo t,.int hi u,.int 1 v] },toks:=tk }:=by
 refine wpAny_pyIter_range (IsRange.new ..) (small_one h1 h2 h3 h4) ?_
 have I1:Inv X pins σ H { s with heap:=s.heap.push { cls:=.type "range",data:=.fields #[.int lo t,.int hi u,.int 1 v] },toks:=tk }:=I.kept fun b o e=>Heap.get?_push_of_some _ e
 refine ⟨(s.heap.push { cls:=.type "range",data:=.fields #[.int lo t,.int hi u,.int 1 v] }).objs.size,[(s.heap.push { cls:=.type "range",data:=.fields #[.int lo t,.int hi u,.int 1 v] }).objs.size],_,_,H,rfl,
  I1.kept (t':=tk) fun b o e=>Heap.get?_push_of_some _ e,Zm _ lo (hi - lo).toNat,?_,fun b hb=>?_,q⟩
 ·have e1:lo + ((0:Nat):Int) * 1 = lo:=by simp
  have e2:(((hi - lo).toNat:Nat):Int) - ((0:Nat):Int) = Builtin.Range.rangeSize lo hi 1:=by rw [rangeSize_one]; split <;> omega
  show IsRangeIter _ _ (lo + ((0:Nat):Int) * 1) ((((hi - lo).toNat:Nat):Int) - ((0:Nat):Int)) 1
  rw [e1,e2]
  exact Heap.get?_push_size _ rfl
 ·have e:b = (s.heap.push { cls:=.type "range",data:=.fields #[.int lo t,.int hi u,.int 1 v] }).objs.size:=by simpa using hb
  subst e
  exact I1.fpOk (Nat.le_refl _) (I1.hok.fresh (Nat.le_refl _))
def UK (ta:TA):TI:=fun σ H R=>ta σ H fun vs H1=>∃ j:Int,vs = [.int j] /\ -(2 ^ 62) <= j /\ j < 2 ^ 62 /\ R (Itr 0 j.toNat) H1
theorem yj {a:Expr} {ta:TA} {p pos:Pos} (hg:Gl X "range") (hm:X.mg "range" = none) (ha:PA X [a] ta) (hs:starEach [a] X.env = [(false,eval a X.env)]:=by rfl):PI X tg (.Call (.Name "range" p) [a] [] pos) (UK ta):=by
 intro pins s σ H R I h
 refine Call_ (wx I hg hm boot_range (PyProof.Rows.callWith_type1 (thn (ha pos pins s σ H _ I h) fun us s1 ⟨vs,H1,I1,r1,q1⟩=>?_) hs rfl))
 obtain ⟨j,e,q1,q2,q⟩:=q1
 subst e
 cases r1 with
 | cons r rr =>
  cases rr
  obtain ⟨t,rfl⟩:=r
  exact call_range_1 (Xv I1 (by omega) (by omega) q1 q2 (by simpa using q))
def tFor (wi:TI) (g:TG) (tb:TS):TS:=fun D σ H=>wi σ H fun J H1=>∃ W:Nat -> Nat -> St -> Hp -> Prop,(∃ m,W 0 m σ H1) /\ ∀ i m σ H,W i m σ H →
 (J.stop i H /\ D.nx σ H) \/ (J.go i H /\ ∃ N:St -> Hp -> Prop,(∀ σ' H',N σ' H' -> ∃ m',m' < m /\ W (i + 1) m' σ' H') /\ ∀ x H',J.yld i H x H' -> g x σ H' fun σ2 H2=>tb { D with nx:=N,ct:=N,bk:=D.nx } σ2 H2)
def ur (fp:List Addr) (h:Heap):List (Addr × Obj):=fp.filterMap fun b=>(h.get? b).map fun o=>(b,o)
theorem yt {fp:List Addr} {h:Heap} {b:Addr} {o:Obj} (hb:b ∈ fp) (e:h.get? b = some o):(b,o) ∈ ur fp h:=List.mem_filterMap.mpr ⟨b,hb,by rw [e]; rfl⟩
theorem Z5 {fp:List Addr} {h:Heap} {p:Addr × Obj} (hp:p ∈ ur fp h):p.1 ∈ fp /\ h.get? p.1 = some p.2:=by
 obtain ⟨b,hb,e⟩:=List.mem_filterMap.mp hp
 cases q:h.get? b with
 | none=>rw [q] at e; cases e
 | some o =>
  rw [q] at e
  have e':(b,o) = p:=Option.some.inj e
  subst e'
  exact ⟨hb,q⟩
theorem Inv.pinned {pins:List (Addr × Obj)} {σ:St} {H:Hp} {s:Shared} {fp:List Addr} (I:Inv X pins σ H s) (hf:∀ b ∈ fp,FpOk X pins H b) (ho:∀ b ∈ fp,∃ o,s.heap.get? b = some o /\ ∀ v,o.data ≠ .cell v):Inv X (pins ++ ur fp s.heap) σ H s :=
 I.pins_of fun p hp=>(List.mem_append.mp hp).elim (fun z=>I.pin p (List.mem_append_right _ z)) fun z=>by
  obtain ⟨hb,e⟩:=Z5 z
  obtain ⟨f0,f1,f2,_⟩:=hf p.1 hb
  obtain ⟨o,e',d⟩:=ho p.1 hb
  rw [e] at e'; cases e'
  exact ⟨e,f0,f1,f2,d⟩
theorem Inv.unpinned {pins pl:List (Addr × Obj)} {σ:St} {H:Hp} {s:Shared} (I:Inv X (pins ++ pl) σ H s):Inv X pins σ H s:=I.pins_of fun p hp=>I.pin p (List.mem_append_right _ (List.mem_append_left _ hp))
theorem wQ {iter:Expr} {body:List Stmt} {wi:TI} {g:TG} {tb:TS} {pos:Pos} (hp:PassesOwn (model X.prog X.w) X.A X.env X.xe) (hc:X.calm = true) (hi:PI X tg iter wi) (hg:PG X tg g) (hb:PSs X body tb)
  (hs:∀ x,foldedSetIterable iter X.env x = pure x:=by intro _; rfl):PS X (.For tg iter body [] pos) (tFor wi g tb):=by
 intro pins s σ H D I h
 refine wpAny_For (thn (hi pins s σ H _ I h) fun v s1 h1=>thn h1 fun itv s2 h2=>?_) hs
 obtain ⟨it,fp,tn,J,H2,e,I2,T,st2,f2,W,⟨m0,w0⟩,turn⟩:=h2
 subst e
 -- what stays true of the iterator's objects through the loop
 have stat:∀ {H':Hp},(∀ b ∈ fp,H' b = none) -> ∀ b ∈ fp,FpOk X pins H' b:=fun hn b hb=>⟨hn b hb,(f2 b hb).2⟩
 refine codeAny_forLoop_any (fun n s'=>∃ i σ' H',Inv X pins σ' H' s' /\ tn i s'.heap /\ (∀ b ∈ fp,H' b = none) /\ W i n σ' H') ?_ m0 ⟨0,σ,H2,I2,st2,fun b hb=>(f2 b hb).1,w0⟩
 rintro n s3 ⟨i,σ3,H3,I3,st3,fr3,w3⟩
 rcases turn i n σ3 H3 w3 with ⟨stop,qn⟩ | ⟨go,N,hN,step⟩
 ·refine wpAny_passesOwn hp (thn (T.done X rfl rfl rfl hc i pins s3 σ3 H3 X.xe I3 (stat fr3) st3 stop) fun r s4 ⟨hr,I4⟩=>?_)
  subst hr
  exact wpAny_execs_nil ⟨σ3,H3,I4,qn⟩
 ·refine wpAny_passesOwn hp (thn (T.item X rfl rfl rfl hc i pins s3 σ3 H3 X.xe I3 (stat fr3) st3 go) fun r s4 ⟨u,hr,h4⟩=>?_)
  subst hr
  refine wpAny_passesOwn hp (thn h4 fun _ s5 ⟨x,H5,I5,r5,y5,st5,fr5⟩=>?_)
  have I5':=I5.pinned (stat fr5) (T.obj _ _ st5)
  refine wpAny_passesOwn hp (thn (hg _ s5 σ3 H5 x u _ I5' r5 (step x H5 y5)) fun _ s6 ⟨σ6,H6,I6,q6⟩=>?_)
  refine wpAny_passesOwn hp (thn (hb _ s6 σ6 H6 _ I6 q6) fun f s7 q7=>?_)
  have again:∀ {σ7:St} {H7:Hp},Inv X (pins ++ ur fp s5.heap) σ7 H7 s7 -> N σ7 H7 -> ∃ m,m < n /\ ∃ i σ' H',Inv X pins σ' H' s7 /\ tn i s7.heap /\ (∀ b ∈ fp,H' b = none) /\ W i m σ' H':=fun {σ7 H7} I7 n7=>by
   obtain ⟨m',hm,w7⟩:=hN σ7 H7 n7
   refine ⟨m',hm,i + 1,σ7,H7,I7.unpinned,T.keep _ _ _ st5 fun b hb o e=>(I7.pin (b,o) (List.mem_append_right _ (List.mem_append_right _ (yt hb e)))).1,fun b hb=>?_,w7⟩
   obtain ⟨o,e,d⟩:=T.obj _ _ st5 b hb
   exact (I7.pin (b,o) (List.mem_append_right _ (List.mem_append_right _ (yt hb e)))).2.1
  cases f with
  | next=>obtain ⟨σ7,H7,I7,n7⟩:=q7; exact again I7 n7
  | cont=>obtain ⟨σ7,H7,I7,n7⟩:=q7; exact again I7 n7
  | brk=>obtain ⟨σ7,H7,I7,q7⟩:=q7; exact ⟨σ7,H7,I7.unpinned,q7⟩
  | ret v=>obtain ⟨x7,σ7,H7,I7,r7,q7⟩:=q7; exact ⟨x7,σ7,H7,I7.unpinned,r7,q7⟩
end
theorem Xw {K:FG7} {a:Addr} {xs:List V} {g:TG} {tb:TS} {D:Ends} {σ:St} {H:Hp} (Pv:Nat -> St -> Hp -> Prop) (h0:Pv 0 σ H) (hl:∀ i σ H,i <= xs.length -> Pv i σ H -> SqL K H a xs)
  (hs:∀ i x σ H,xs[i]? = some x -> Pv i σ H -> g x σ H fun σ2 H2=>tb { D with nx:=Pv (i + 1),ct:=Pv (i + 1),bk:=D.nx } σ2 H2) (hd:∀ σ H,Pv xs.length σ H -> D.nx σ H) :
  ∃ W:Nat -> Nat -> St -> Hp -> Prop,(∃ m,W 0 m σ H) /\ ∀ i m σ H,W i m σ H →
   ((Itl K a).stop i H /\ D.nx σ H) \/ ((Itl K a).go i H /\ ∃ N:St -> Hp -> Prop,(∀ σ' H',N σ' H' -> ∃ m',m' < m /\ W (i + 1) m' σ' H') /\ ∀ x H',(Itl K a).yld i H x H' -> g x σ H' fun σ2 H2=>tb { D with nx:=N,ct:=N,bk:=D.nx } σ2 H2):=by
 refine ⟨fun i m σ H=>m = xs.length - i /\ i <= xs.length /\ Pv i σ H,⟨xs.length,by simp,Nat.zero_le _,h0⟩,?_⟩
 rintro i m σ H ⟨rfl,hi,p⟩
 have q:=hl i σ H hi p
 by_cases hlt:i < xs.length
 ·refine .inr ⟨⟨xs,xs[i],q,by simp [hlt]⟩,Pv (i + 1),fun σ' H' p'=>⟨xs.length - (i + 1),by omega,rfl,hlt,p'⟩,fun x H' y=>?_⟩
  obtain ⟨e,y⟩:=y
  subst e
  exact hs i x σ _ (y xs q) p
 ·have e:i = xs.length:=by omega
  subst e
  exact .inl ⟨⟨xs,q,Nat.le_refl _⟩,hd σ H p⟩
theorem xM {lo:Int} {n:Nat} {g:TG} {tb:TS} {D:Ends} {σ:St} {H:Hp} (Pv:Nat -> St -> Hp -> Prop) (h0:Pv 0 σ H)
  (hs:∀ i σ H,i < n -> Pv i σ H -> g (.int (lo + i)) σ H fun σ2 H2=>tb { D with nx:=Pv (i + 1),ct:=Pv (i + 1),bk:=D.nx } σ2 H2) (hd:∀ σ H,Pv n σ H -> D.nx σ H) :
  ∃ W:Nat -> Nat -> St -> Hp -> Prop,(∃ m,W 0 m σ H) /\ ∀ i m σ H,W i m σ H →
   ((Itr lo n).stop i H /\ D.nx σ H) \/ ((Itr lo n).go i H /\ ∃ N:St -> Hp -> Prop,(∀ σ' H',N σ' H' -> ∃ m',m' < m /\ W (i + 1) m' σ' H') /\ ∀ x H',(Itr lo n).yld i H x H' -> g x σ H' fun σ2 H2=>tb { D with nx:=N,ct:=N,bk:=D.nx } σ2 H2):=by
 refine ⟨fun i m σ H=>m = n - i /\ i <= n /\ Pv i σ H,⟨n,by simp,Nat.zero_le _,h0⟩,?_⟩
 rintro i m σ H ⟨rfl,hi,p⟩
 by_cases hlt:i < n
 ·refine .inr ⟨hlt,Pv (i + 1),fun σ' H' p'=>⟨n - (i + 1),by omega,rfl,hlt,p'⟩,fun x H' y=>?_⟩
  obtain ⟨e,y⟩:=y
  subst e y
  exact hs i σ _ hlt p
 ·have e:i = n:=by omega
  subst e
  exact .inl ⟨Nat.le_refl _,hd σ H p⟩
end L2
namespace L2
open PySem PySem.Spec PyProof.Rows
abbrev R2:=V -> V -> Hp -> VK -> Prop
def OpR (X:Cx) (f:Value -> Value -> Sem Value) (r:R2):Prop :=
 ∀ (pins:List (Addr × Obj)) (s:Shared) (σ:St) (H:Hp) (x y:V) (v u:Value) (Q:VK),Inv X pins σ H s -> RelV x v -> RelV y u -> r x y H Q →
  wpAny (model X.prog X.w) X.A (f v u) (EP X pins σ Q) X.xe s
def UnR (X:Cx) (f:Value -> Sem Value) (r:V -> Hp -> VK -> Prop):Prop :=
 ∀ (pins:List (Addr × Obj)) (s:Shared) (σ:St) (H:Hp) (x:V) (v:Value) (Q:VK),Inv X pins σ H s -> RelV x v -> r x H Q →
  wpAny (model X.prog X.w) X.A (f v) (EP X pins σ Q) X.xe s
def xO (X:Cx) (f:Value) (r:List V -> Hp -> VK -> Prop):Prop :=
 ∀ (pins:List (Addr × Obj)) (s:Shared) (σ:St) (H:Hp) (xs:List V) (us:List Value) (Q:VK),Inv X pins σ H s -> Vals xs us -> r xs H Q →
  wpAny (model X.prog X.w) X.A (call f us) (EP X pins σ Q) X.xe s
def TruR (X:Cx) (r:V -> Hp -> (Bool -> Hp -> Prop) -> Prop):Prop :=
 ∀ (pins:List (Addr × Obj)) (s:Shared) (σ:St) (H:Hp) (x:V) (v:Value) (Q:Bool -> Hp -> Prop),Inv X pins σ H s -> RelV x v -> r x H Q →
  wpAny (model X.prog X.w) X.A (truthy v) (TP X pins σ Q) X.xe s
def tOp (r:R2) (ta tb:TE):TE:=fun σ H Q=>ta σ H fun x H1=>tb σ H1 fun y H2=>r x y H2 Q
def tUn (r:V -> Hp -> VK -> Prop) (ta:TE):TE:=fun σ H Q=>ta σ H fun x H1=>r x H1 Q
def rI (C:Int -> Int -> Prop) (g:Int -> Int -> V):R2:=fun x y H Q=>∃ i j,x = .int i /\ y = .int j /\ C i j /\ Q (g i j) H
def rI0 (g:Int -> Int -> V):R2:=fun x y H Q=>∃ i j,x = .int i /\ y = .int j /\ Q (g i j) H
def rU (g:Int -> V):V -> Hp -> VK -> Prop:=fun x H Q=>∃ i,x = .int i /\ Q (g i) H
section
variable {X:Cx} {a b c:Expr} {ta tb tc:TE} {pos:Pos}
theorem binT (ha:PE X a ta) (hb:PE X b tb) {pins:List (Addr × Obj)} {s:Shared} {σ:St} {H:Hp} {R:V -> V -> Hp -> Prop} (I:Inv X pins σ H s)
  (h:ta σ H fun x H1=>tb σ H1 fun y H2=>R x y H2) {Q:VS7} {f:Value -> Value -> Sem Value}
  (hf:∀ v u s2 x y H2,Inv X pins σ H2 s2 -> RelV x v -> RelV y u -> R x y H2 -> wpAny (model X.prog X.w) X.A (f v u) Q X.xe s2) :
  wpAny (model X.prog X.w) X.A (eval a X.env) (fun v s₁=>wpAny (model X.prog X.w) X.A (eval b X.env) (fun u s₂=>wpAny (model X.prog X.w) X.A (f v u) Q X.xe s₂) X.xe s₁) X.xe s:=by
 refine thn (ha pins s σ H _ I h) fun v s1 ⟨x,H1,I1,r1,q1⟩=>?_
 refine thn (hb pins s1 σ H1 _ I1 q1) fun u s2 ⟨y,H2,I2,r2,q2⟩=>?_
 exact hf v u s2 x y H2 I2 r1 r2 q2
theorem zK {op:Operator} {r:R2} (ho:OpR X (binaryOp op) r) (ha:PE X a ta) (hb:PE X b tb):PE X (.BinOp a op b pos) (tOp r ta tb):=by
 intro pins s σ H Q I h
 exact wpAny_BinOp (binT ha hb I h fun v u s2 x y H2 I2 rx ry q=>ho pins s2 σ H2 x y v u Q I2 rx ry q)
theorem UL {op:UnaryOp} {r:V -> Hp -> VK -> Prop} (ho:UnR X (unaryOp op) r) (ha:PE X a ta):PE X (.UnaryOp op a pos) (tUn r ta):=by
 intro pins s σ H Q I h
 exact UnaryOp_ (thn (ha pins s σ H _ I h) fun v s1 ⟨x,H1,I1,r1,q1⟩=>ho pins s1 σ H1 x v Q I1 r1 q1)
theorem opI {f:Value -> Value -> Sem Value} {C:Int -> Int -> Prop} {g:Int -> Int -> Int}
  (rule:∀ (i j:Int) (t u:Tok) (s:Shared) (Q:VS7) (E:VS7),C i j -> Q (.int (g i j) s.toks) { s with toks:=s.toks + 1 } -> wpAny (model X.prog X.w) X.A (f (.int i t) (.int j u)) Q E s) :
  OpR X f (rI C fun i j=>.int (g i j)):=by
 intro pins s σ H x y v u Q I rx ry h
 obtain ⟨i,j,rfl,rfl,hc,q⟩:=h
 obtain ⟨t,rfl⟩:=rx
 obtain ⟨t',rfl⟩:=ry
 exact rule i j t t' s _ _ hc ⟨.int (g i j),H,I.tok _,⟨_,rfl⟩,q⟩
theorem opI0 {f:Value -> Value -> Sem Value} {g:Int -> Int -> Int}
  (rule:∀ (i j:Int) (t u:Tok) (s:Shared) (Q:VS7) (E:VS7),Q (.int (g i j) s.toks) { s with toks:=s.toks + 1 } -> wpAny (model X.prog X.w) X.A (f (.int i t) (.int j u)) Q E s) :
  OpR X f (rI0 fun i j=>.int (g i j)):=by
 intro pins s σ H x y v u Q I rx ry h
 obtain ⟨i,j,rfl,rfl,q⟩:=h
 obtain ⟨t,rfl⟩:=rx
 obtain ⟨t',rfl⟩:=ry
 exact rule i j t t' s _ _ ⟨.int (g i j),H,I.tok _,⟨_,rfl⟩,q⟩
theorem opB0 {f:Value -> Value -> Sem Value} {g:Int -> Int -> Bool}
  (rule:∀ (i j:Int) (t u:Tok) (s:Shared) (Q:VS7) (E:VS7),Q (.bool (g i j)) s -> wpAny (model X.prog X.w) X.A (f (.int i t) (.int j u)) Q E s) :
  OpR X f (rI0 fun i j=>.bl (g i j)):=by
 intro pins s σ H x y v u Q I rx ry h
 obtain ⟨i,j,rfl,rfl,q⟩:=h
 obtain ⟨t,rfl⟩:=rx
 obtain ⟨t',rfl⟩:=ry
 exact rule i j t t' s _ _ ⟨.bl (g i j),H,I,rfl,q⟩
def CPow (i j:Int):Prop:=0 <= j /\ j <= 1000000 /\ i.natAbs < 2 ^ 64
def CMul (i j:Int):Prop:=(-(2 ^ 64) < i /\ i < 2 ^ 64) \/ (-(2 ^ 64) < j /\ j < 2 ^ 64)
theorem CMul.ok {i j:Int} (h:CMul i j):IntMulOk i j:=by
 rcases h with ⟨h1,h2⟩ | ⟨h1,h2⟩
 ·exact .of_left (intBits_le_64 h1 h2)
 ·exact .of_right (intBits_le_64 h1 h2)
theorem xH:OpR X (binaryOp .Add) (rI0 fun i j=>.int (i + j)):=opI0 fun _ _ _ _ _ _ _ q=>add_int q
theorem vM:OpR X (binaryOp .Sub) (rI0 fun i j=>.int (i - j)):=opI0 fun _ _ _ _ _ _ _ q=>sub_int q
theorem tK:OpR X (binaryOp .Mod) (rI (fun _ j=>0 < j) fun i j=>.int (i % j)):=opI fun i j _ _ _ _ _ hc q=>by
 have h1:(0:Int) < j:=hc
 exact mod_int' (by omega) (by rw [Int.fmod_eq_emod_of_nonneg i (by omega)]; exact q)
theorem jJ:OpR X (binaryOp .Pow) (rI CPow fun i j=>.int (i ^ j.toNat)):=opI fun _ _ _ _ _ _ _ hc q=>pow_int_small hc.1 hc.2.1 hc.2.2 q
theorem unI {f:Value -> Sem Value} {g:Int -> Int}
  (rule:∀ (i:Int) (t:Tok) (s:Shared) (Q:VS7) (E:VS7),Q (.int (g i) s.toks) { s with toks:=s.toks + 1 } -> wpAny (model X.prog X.w) X.A (f (.int i t)) Q E s) :
  UnR X f (rU fun i=>.int (g i)):=by
 intro pins s σ H x v Q I rx h
 obtain ⟨i,rfl,q⟩:=h
 obtain ⟨t,rfl⟩:=rx
 exact rule i t s _ _ ⟨.int (g i),H,I.tok _,⟨_,rfl⟩,q⟩
theorem VU:UnR X (unaryOp .USub) (rU fun i=>.int (-i)):=unI fun _ _ _ _ _ q=>neg_int q
end
def scal:V -> V -> Bool
 | .non,.non=>true | .non,.int _=>true | .int _,.non=>true | .non,.bl _=>true | .bl _,.non=>true | .non,.str _=>true | .str _,.non=>true
 | .int _,.int _=>true | .bl _,.bl _=>true | .str _,.str _=>true | .byt _,.byt _=>true
 | .int _,.str _=>true | .str _,.int _=>true | .bl _,.str _=>true | .str _,.bl _=>true
 | _,_=>false
def rEq:R2:=fun x y H Q=>scal x y = true /\ Q (.bl (decide (x = y))) H
def rNe:R2:=fun x y H Q=>scal x y = true /\ Q (.bl (!decide (x = y))) H
theorem Z6 {i j:Int}:decide (V.int i = V.int j) = (i == j):=by
 rw [Bool.eq_iff_iff]
 simp
theorem Ws {i j:Bool}:decide (V.bl i = V.bl j) = (i == j):=by
 rw [Bool.eq_iff_iff]
 simp
theorem Z7 {i j:Str}:decide (V.str i = V.str j) = (i == j):=by
 rw [Bool.eq_iff_iff]
 simp
theorem Z8 {i j:Array UInt8}:decide (V.byt i = V.byt j) = (i.toList == j.toList):=by
 rw [Bool.eq_iff_iff]
 cases i
 cases j
 simp
section
variable {X:Cx} {a b c:Expr} {ta tb tc:TE} {pos:Pos}
theorem zX {pins:List (Addr × Obj)} {σ:St} {H:Hp} {s:Shared} {Q:VK} {k k':Bool} (I:Inv X pins σ H s) (q:Q (.bl k) H) (e:k = k'):EP X pins σ Q (.bool k') s:=by
 subst e
 exact ⟨.bl k,H,I,rfl,q⟩
theorem yy:OpR X (compareOp .Eq) rEq:=by
 intro pins s σ H x y v u Q I rx ry h
 obtain ⟨hs,q⟩:=h
 cases x with
 | non =>
  cases rx
  cases y with
  | non=>cases ry; exact PySem.EqNone.eq_none_none (zX I q (by simp))
  | bl j=>cases ry; exact PySem.EqNone.eq_none_bool (zX I q (by simp))
  | int j=>obtain ⟨t',rfl⟩:=ry; exact PySem.EqNone.eq_none_int (zX I q (by simp))
  | str j=>obtain ⟨t',rfl⟩:=ry; exact PySem.EqNone.eq_none_str (zX I q (by simp))
  | _=>exact absurd (show false = true from hs) Bool.false_ne_true
 | bl i =>
  cases rx
  cases y with
  | non=>cases ry; exact PySem.EqNone.eq_bool_none (zX I q (by simp))
  | bl j=>cases ry; exact eq_bool (zX I q Ws)
  | str j=>obtain ⟨t',rfl⟩:=ry; exact PySem.EqMixed.eq_bool_str (zX I q (by simp))
  | _=>exact absurd (show false = true from hs) Bool.false_ne_true
 | int i =>
  obtain ⟨t,rfl⟩:=rx
  cases y with
  | non=>cases ry; exact PySem.EqNone.eq_int_none (zX I q (by simp))
  | int j=>obtain ⟨t',rfl⟩:=ry; exact eq_int (zX I q Z6)
  | str j=>obtain ⟨t',rfl⟩:=ry; exact PySem.EqMixed.eq_int_str (zX I q (by simp))
  | _=>exact absurd (show false = true from hs) Bool.false_ne_true
 | str i =>
  obtain ⟨t,rfl⟩:=rx
  cases y with
  | non=>cases ry; exact PySem.EqNone.eq_str_none (zX I q (by simp))
  | bl j=>cases ry; exact PySem.EqMixed.eq_str_bool (zX I q (by simp))
  | int j=>obtain ⟨t',rfl⟩:=ry; exact PySem.EqMixed.eq_str_int (zX I q (by simp))
  | str j=>obtain ⟨t',rfl⟩:=ry; exact eq_str (zX I q Z7)
  | _=>exact absurd (show false = true from hs) Bool.false_ne_true
 | byt i =>
  obtain ⟨t,rfl⟩:=rx
  cases y with
  | byt j=>obtain ⟨t',rfl⟩:=ry; exact PySem.W.eq_bytes (zX I q Z8)
  | _=>exact absurd (show false = true from hs) Bool.false_ne_true
 | _=>cases y <;> exact absurd (show false = true from hs) Bool.false_ne_true
theorem Z9:OpR X (compareOp .NotEq) rNe:=by
 intro pins s σ H x y v u Q I rx ry h
 obtain ⟨hs,q⟩:=h
 cases x with
 | non =>
  cases rx
  cases y with
  | non=>cases ry; exact PySem.EqNone.ne_none_none (zX I q (by simp))
  | bl j=>cases ry; exact PySem.EqNone.ne_none_bool (zX I q (by simp))
  | int j=>obtain ⟨t',rfl⟩:=ry; exact PySem.EqNone.ne_none_int (zX I q (by simp))
  | str j=>obtain ⟨t',rfl⟩:=ry; exact PySem.EqNone.ne_none_str (zX I q (by simp))
  | _=>exact absurd (show false = true from hs) Bool.false_ne_true
 | bl i =>
  cases rx
  cases y with
  | non=>cases ry; exact PySem.EqNone.ne_bool_none (zX I q (by simp))
  | bl j=>cases ry; exact ne_bool (zX I q (congrArg not Ws))
  | str j=>obtain ⟨t',rfl⟩:=ry; exact PySem.EqMixed.ne_bool_str (zX I q (by simp))
  | _=>exact absurd (show false = true from hs) Bool.false_ne_true
 | int i =>
  obtain ⟨t,rfl⟩:=rx
  cases y with
  | non=>cases ry; exact PySem.EqNone.ne_int_none (zX I q (by simp))
  | int j=>obtain ⟨t',rfl⟩:=ry; exact ne_int (zX I q (congrArg not Z6))
  | str j=>obtain ⟨t',rfl⟩:=ry; exact PySem.EqMixed.ne_int_str (zX I q (by simp))
  | _=>exact absurd (show false = true from hs) Bool.false_ne_true
 | str i =>
  obtain ⟨t,rfl⟩:=rx
  cases y with
  | non=>cases ry; exact PySem.EqNone.ne_str_none (zX I q (by simp))
  | bl j=>cases ry; exact PySem.EqMixed.ne_str_bool (zX I q (by simp))
  | int j=>obtain ⟨t',rfl⟩:=ry; exact PySem.EqMixed.ne_str_int (zX I q (by simp))
  | str j=>obtain ⟨t',rfl⟩:=ry; exact ne_str (zX I q (congrArg not Z7))
  | _=>exact absurd (show false = true from hs) Bool.false_ne_true
 | byt i =>
  obtain ⟨t,rfl⟩:=rx
  cases y with
  | byt j=>obtain ⟨t',rfl⟩:=ry; exact PySem.W.ne_bytes (zX I q (congrArg not Z8))
  | _=>exact absurd (show false = true from hs) Bool.false_ne_true
 | _=>cases y <;> exact absurd (show false = true from hs) Bool.false_ne_true
theorem Xx:OpR X (compareOp .Lt) (rI0 fun i j=>.bl (decide (i < j))):=opB0 fun _ _ _ _ _ _ _ q=>lt_int q
theorem xw:OpR X (compareOp .LtE) (rI0 fun i j=>.bl (decide (i <= j))):=opB0 fun _ _ _ _ _ _ _ q=>le_int q
theorem WY:OpR X (compareOp .Gt) (rI0 fun i j=>.bl (decide (j < i))):=opB0 fun _ _ _ _ _ _ _ q=>gt_int q
theorem zG (b:Expr) {op:CmpOp} (h:op ≠ .In:=by decide) (h2:op ≠ .NotIn:=by decide):behindInMarks op b = false:=by
 have e1:(op == CmpOp.In) = false:=by cases op <;> first | rfl | exact absurd rfl h
 have e2:(op == CmpOp.NotIn) = false:=by cases op <;> first | rfl | exact absurd rfl h2
 cases b <;> simp [behindInMarks,e1,e2]
theorem vm {op:CmpOp} {r:R2} (ho:OpR X (compareOp op) r) (ha:PE X a ta) (hb:PE X b tb) (hm:behindInMarks op b = false):PE X (.Compare a [op] [b] pos) (tOp r ta tb):=by
 intro pins s σ H Q I h
 exact wpAny_Compare1 (binT ha hb I h fun v u s2 x y H2 I2 rx ry q=>ho pins s2 σ H2 x y v u Q I2 rx ry q) hm
def VV (t:TE):TT:=fun σ H Q=>t σ H fun x H'=>∃ k,x = .bl k /\ Q k H'
theorem zB {op:CmpOp} {r:R2} (ho:OpR X (compareOp op) r) (ha:PE X a ta) (hb:PE X b tb) (hm:behindInMarks op b = false):PT X (.Compare a [op] [b] pos) (VV (tOp r ta tb)):=by
 intro pins s σ H Q I h
 refine wpAny_isTrue_Compare1 (thn (ha pins s σ H _ I h) fun v s1 ⟨x,H1,I1,r1,q1⟩=>thn (hb pins s1 σ H1 _ I1 q1) fun u s2 ⟨y,H2,I2,r2,q2⟩ =>
  thn (ho pins s2 σ H2 x y v u _ I2 r1 r2 q2) fun c s3 ⟨z,H3,I3,r3,k,e,q3⟩=>?_) hm
 subst e
 cases r3
 exact wpAny_truthy_bool ⟨H3,I3,q3⟩
def Wt (r r':R2) (ta tb tc:TE):TE:=fun σ H Q=>ta σ H fun x H1=>tb σ H1 fun y H2=>r x y H2 fun z H3=>∃ k,z = .bl k ∧
 (if k = true then tc σ H3 fun w' H4=>r' y w' H4 Q else Q (.bl false) H3)
theorem jK {op op':CmpOp} {r r':R2} (ho:OpR X (compareOp op) r) (ho':OpR X (compareOp op') r') (ha:PE X a ta) (hb:PE X b tb) (hc:PE X c tc)
  (hm:lastMarks [op,op'] [b,c] = false:=by with_unfolding_all rfl):PE X (.Compare a [op,op'] [b,c] pos) (Wt r r' ta tb tc):=by
 intro pins s σ H Q I h
 refine Compare_chain (thn (ha pins s σ H _ I h) fun v s1 ⟨x,H1,I1,r1,q1⟩=>chain_link (thn (hb pins s1 σ H1 _ I1 q1) fun u s2 ⟨y,H2,I2,r2,q2⟩ =>
  thn (ho pins s2 σ H2 x y v u _ I2 r1 r2 q2) fun d s3 ⟨z,H3,I3,r3,k,e,q3⟩=>?_)) hm
 subst e
 cases r3
 refine wpAny_truthy_bool ?_
 cases k with
 | false=>exact ite_ff ⟨.bl false,H3,I3,rfl,q3⟩
 | true=>exact ite_tt (chain_last (thn (hc pins s3 σ H3 _ I3 q3) fun w' s4 ⟨z',H4,I4,r4,q4⟩=>ho' pins s4 σ H4 y z' u w' Q I4 r2 r4 q4))
theorem yV {op op':CmpOp} {r r':R2} (ho:OpR X (compareOp op) r) (ho':OpR X (compareOp op') r') (ha:PE X a ta) (hb:PE X b tb) (hc:PE X c tc)
  (hm:lastMarks [op,op'] [b,c] = false:=by with_unfolding_all rfl):PT X (.Compare a [op,op'] [b,c] pos) (VV (Wt r r' ta tb tc)):=by
 intro pins s σ H Q I h
 refine isTrue_chain (thn (ha pins s σ H _ I h) fun v s1 ⟨x,H1,I1,r1,q1⟩=>test_link (thn (hb pins s1 σ H1 _ I1 q1) fun u s2 ⟨y,H2,I2,r2,q2⟩ =>
  thn (ho pins s2 σ H2 x y v u _ I2 r1 r2 q2) fun d s3 ⟨z,H3,I3,r3,k,e,q3⟩=>?_)) hm
 subst e
 cases r3
 refine wpAny_truthy_bool ?_
 cases k with
 | false =>
  obtain ⟨k',e',q'⟩:=q3
  cases e'
  exact ite_ff ⟨H3,I3,q'⟩
 | true =>
  refine ite_tt (test_last (thn (hc pins s3 σ H3 _ I3 q3) fun w' s4 ⟨z',H4,I4,r4,q4⟩=>thn (ho' pins s4 σ H4 y z' u w' _ I4 r2 r4 q4) fun d' s5 ⟨z2,H5,I5,r5,k2,e2,q5⟩=>?_))
  subst e2
  cases r5
  exact wpAny_truthy_bool ⟨H5,I5,q5⟩
def TruV (K:FG7) (x:V) (H:Hp) (k:Bool):Prop :=
 match x with
 | .non=>k = false
 | .bl b=>k = b
 | .int i=>k = (i != 0)
 | .str y=>y.length <= sizeLine /\ k = ((y.length:Int) != 0)
 | .byt y=>y.size <= sizeLine /\ k = ((y.size:Int) != 0)
 | .ref p=>(∃ xs,SqL K H p xs /\ k = !xs.isEmpty) \/ (∃ xs,SqT K H p xs /\ k = !xs.isEmpty) \/ ∃ kvs,H p = some (.dK kvs) /\ k = !kvs.isEmpty
 | _=>False
theorem Zn {κ:Type} {kvs:List (κ × V)} {vs:List (κ × Value)} (r:KV kvs vs):(!vs.isEmpty) = !kvs.isEmpty:=by
 cases r <;> rfl
theorem tL {xs:List V} {its:List Value} (r:Vals xs its):(!its.toArray.isEmpty) = !xs.isEmpty:=by
 cases r <;> simp
theorem sV:(sizeLine:Nat) < 2 ^ 63:=by rw [sizeLine_eq]; decide
theorem VW:TruR X (fun x H Q=>∃ k,TruV X.K x H k /\ Q k H):=by
 intro pins s σ H x v Q I rx h
 obtain ⟨k,e,q⟩:=h
 have hl:=sV
 have hs:sizeLine = 16777216:=sizeLine_eq
 cases x with
 | non =>
  cases rx
  have e':k = false:=e
  subst e'
  exact truthy_none ⟨H,I,q⟩
 | bl b =>
  cases rx
  have e':k = b:=e
  subst e'
  exact wpAny_truthy_bool ⟨H,I,q⟩
 | int i =>
  obtain ⟨t,rfl⟩:=rx
  have e':k = (i != 0):=e
  subst e'
  exact PySem.P.truthy_int ⟨H,I,q⟩
 | str y =>
  obtain ⟨t,rfl⟩:=rx
  obtain ⟨hy,e'⟩:y.length <= sizeLine /\ k = ((y.length:Int) != 0):=e
  subst e'
  exact PySem.P.truthy_str (by omega) ⟨H,I.tok _,q⟩
 | byt y =>
  obtain ⟨t,rfl⟩:=rx
  obtain ⟨hy,e'⟩:y.size <= sizeLine /\ k = ((y.size:Int) != 0):=e
  subst e'
  exact PySem.W.truthy_bytes (by omega) ⟨H,I.tok _,q⟩
 | ref p =>
  cases rx
  have e':(∃ xs,SqL X.K H p xs /\ k = !xs.isEmpty) \/ (∃ xs,SqT X.K H p xs /\ k = !xs.isEmpty) \/ ∃ kvs,H p = some (.dK kvs) /\ k = !kvs.isEmpty:=e
  rcases e' with ⟨xs,hx,e'⟩ | ⟨xs,hx,e'⟩ | ⟨kvs,hx,e'⟩
  ·subst e'
   obtain ⟨its,r,pl,hz⟩:=I.list hx
   have hlen:=r.length
   exact wpAny_truthy_list pl.isList (by simp only [List.size_toArray]; omega) ⟨H,I.tok _,by rw [tL r]; exact q⟩
  ·subst e'
   obtain ⟨its,r,pl,hz⟩:=I.tuple hx
   have hlen:=r.length
   exact truthy_tuple pl (by simp only [List.size_toArray]; omega) ⟨H,I.tok _,by rw [tL r]; exact q⟩
  ·subst e'
   obtain ⟨hz,hS,vs,r,m⟩:kvs.length <= sizeLine /\ (p == sysModules) = false /\ ∃ vs,KV kvs vs /\ s.heap.DictOf (z8 X.prog X.w) p vs:=I.hok p _ hx
   have hlen:kvs.length = vs.length:=Paired.length r
   exact wpAny_truthy_dict hS m (by omega) ⟨H,I.tok _,by rw [Zn r]; exact q⟩
 | _=>exact (show False from e).elim
theorem jL (ha:PE X a ta) (he:∀ whole,isTrue a X.env whole = (do let v ← whole; standAt a.pos; holding [v] (truthy v))) :
  PT X a (fun σ H Q=>ta σ H fun x H'=>∃ k,TruV X.K x H' k /\ Q k H'):=by
 intro pins s σ H Q I h
 exact isTrue_plain (thn (ha pins s σ H _ I h) fun v s1 ⟨x,H1,I1,r1,q1⟩=>VW pins s1 σ H1 x v Q I1 r1 q1) (he _)
theorem wR {x:V} {us:List Value} (r:Vals [x] us):∃ u,us = [u] /\ RelV x u:=by
 cases r with
 | cons r1 r2=>cases r2; exact ⟨_,rfl,r1⟩
theorem Ya {x y:V} {us:List Value} (r:Vals [x,y] us):∃ u w',us = [u,w'] /\ RelV x u /\ RelV y w':=by
 cases r with
 | cons r1 r2 =>
  cases r2 with
  | cons r3 r4=>cases r4; exact ⟨_,_,rfl,r1,r3⟩
theorem Xy:xO X (.builtin "abs") (fun xs H Q=>∃ i,xs = [.int i] /\ Q (.int (if i < 0 then -i else i)) H):=by
 intro pins s σ H xs us Q I r h
 obtain ⟨i,rfl,q⟩:=h
 obtain ⟨u,rfl,t,rfl⟩:=wR r
 exact call_abs_int fun u tk=>⟨.int (if i < 0 then -i else i),H,I.tok _,⟨_,rfl⟩,q⟩
theorem wS (hc:X.calm = true):xO X (.builtin "max") (fun xs H Q=>∃ i j,xs = [.int i,.int j] /\ Q (.int (if j > i then j else i)) H):=by
 intro pins s σ H xs us Q I r h
 obtain ⟨i,j,rfl,q⟩:=h
 obtain ⟨u,w',rfl,⟨t,rfl⟩,⟨t',rfl⟩⟩:=Ya r
 refine max_two_ints (I.ok.hd hc) fun h' tk k=>⟨_,H,I.kept k,?_,q⟩
 by_cases hj:j > i
 ·rw [if_pos hj,if_pos hj]; exact ⟨_,rfl⟩
 ·rw [if_neg hj,if_neg hj]; exact ⟨_,rfl⟩
theorem Yb (hc:X.calm = true):xO X (.builtin "min") (fun xs H Q=>∃ i j,xs = [.int i,.int j] /\ Q (.int (if j < i then j else i)) H):=by
 intro pins s σ H xs us Q I r h
 obtain ⟨i,j,rfl,q⟩:=h
 obtain ⟨u,w',rfl,⟨t,rfl⟩,⟨t',rfl⟩⟩:=Ya r
 refine min_two_ints (I.ok.hd hc) fun h' tk k=>⟨_,H,I.kept k,?_,q⟩
 by_cases hj:j < i
 ·rw [if_pos hj,if_pos hj]; exact ⟨_,rfl⟩
 ·rw [if_neg hj,if_neg hj]; exact ⟨_,rfl⟩
theorem sW:xO X (.type "int") (fun xs H Q=>(∃ i,xs = [.int i] /\ Q (.int i) H) \/ ∃ k,xs = [.bl k] /\ Q (.int (if k then 1 else 0)) H):=by
 intro pins s σ H xs us Q I r h
 rcases h with ⟨i,rfl,q⟩ | ⟨k,rfl,q⟩
 ·obtain ⟨u,rfl,t,rfl⟩:=wR r
  exact call_int_int ⟨.int i,H,I,⟨_,rfl⟩,q⟩
 ·obtain ⟨u,rfl,r1⟩:=wR r
  cases r1
  exact call_int_bool ⟨.int (if k then 1 else 0),H,I.tok _,⟨_,rfl⟩,q⟩
end
end L2
namespace L2
open PySem PySem.Spec PyProof.Rows
structure ObjM (h:Heap) (x dx C:Addr) (mA:Str -> Option Value):Prop where
 obj:h.get? x = some (PySem.W.instObj C dx)
 ns:h.Ns1 dx mA
 ne:dx ≠ x
theorem Yc {h:Heap} {dx:Addr} {mA:Str -> Option Value} (n:h.Ns1 dx mA):∃ od,h.get? dx = some od /\ ∀ name,PySem.W.lookIn name od = some (mA name):=by
 obtain ⟨o,es,ep,ho,hd,hk,_,hm⟩:=n
 refine ⟨o,ho,fun name=>?_⟩
 have e:=hm name
 unfold nsFind findBy at e
 rw [← Array.find?_toList] at e
 unfold PySem.W.lookIn
 rw [hd]
 dsimp only
 split
 ·rename_i y q
  rw [q] at e
  exact congrArg some e
 ·rename_i q
  rw [q] at e
  have a:es.toList.any (·.refKey) = false:=by
   rw [List.any_eq_false]
   intro y hy
   obtain ⟨z,t,hkey⟩:=hk y (Array.mem_toList_iff.mp hy)
   simp [DictEntry.refKey,hkey]
  have a':¬ es.toList.any (·.refKey) = true:=by rw [a]; exact Bool.false_ne_true
  rw [if_neg a']
  exact congrArg some e
theorem ObjM.look {h:Heap} {x dx C:Addr} {mA:Str -> Option Value} (I:ObjM h x dx C mA):∃ od,PySem.W.InstAt h x (PySem.W.instObj C dx) C (some od) /\ ∀ name,PySem.W.lookIn name od = some (mA name) :=
 let ⟨od,ho,hl⟩:=Yc I.ns
 ⟨od,⟨I.obj,rfl,rfl,ho⟩,hl⟩
theorem RelO.some_of {v:V} {o:Option Value} (r:RelO (some v) o):∃ u,o = some u /\ RelV v u:=by
 cases o with
 | none=>exact (show False from r).elim
 | some u=>exact ⟨u,rfl,r⟩
section
variable {P:Program} {w:World} {H H':Hp} {h h':Heap} {a C dx:Addr} {fs fs':List (Str × V)}
theorem WZ (hok:HOk P w H h) (e:H a = some (.ins C dx fs)):∃ mA,ObjM h a dx C mA /\ (∀ f,RelO (fs.lookup f) (mA f)) /\ PySem.Within mA (fs.map (·.1)) /\ fs.length <= 1000 /\ H dx = some (.own a):=by
 obtain ⟨d,z,ne,ob,mA,n,r,q⟩:=(show yh P w H h a (.ins C dx fs) from hok a _ e)
 exact ⟨mA,⟨ob,n,ne⟩,r,q,z,d⟩
end
structure Cls (K:FG7) (C:Addr):Prop where
 pg:PySem.W.plainGet K C Str.empty = true
 hd:PySem.W.hasDictIn K C = true
 po:PySem.W.plainOver K C = true
 sa:PySem.W.findIn K (.ref C) "__setattr__" = some (some (.builtin "object.__setattr__"))
theorem Cls.get {K:FG7} {C:Addr} (c:Cls K C) (f:Str):PySem.W.plainGet K C f = true:=c.pg
def ut (K:FG7) (C:Addr) (f:Str):Prop:=PySem.W.findIn K (.ref C) f = some none
structure Con (K:FG7) (C:Addr) (f:Str) (v:V) (u:Value):Prop where
 at_:PySem.W.findIn K (.ref C) f = some (some u)
 rel:RelV v u
 get:PySem.W.specialIn K u "__get__" = some none
 cp:PySem.W.copiedNames.contains f = false
structure Meth (K:FG7) (C:Addr) (m:Str) (f:Addr):Prop where
 at_:PySem.W.findIn K (.ref C) m = some (some (.ref f))
 fn:PySem.W.isFn K (.ref f) = true
 kp:PySem.W.keepIn K (.ref f) = true
section
variable {X:Cx} {pins:List (Addr × Obj)} {σ:St} {H:Hp} {s:Shared} {a C dx:Addr} {fs:List (Str × V)} {f:Str} {v:V} {A:Around} {E:VS7}
theorem Inv.made (I:Inv X pins σ H s):Inv X pins σ (upd (upd H s.heap.objs.size (.own (s.heap.objs.size + 1))) (s.heap.objs.size + 1) (.ins C s.heap.objs.size []))
  { s with heap:=(s.heap.push PySem.W.emptyDict).push (PySem.W.instObj C s.heap.objs.size) }:=by
 have e1:(s.heap.push PySem.W.emptyDict).get? s.heap.objs.size = some PySem.W.emptyDict:=Heap.get?_push_size s.heap rfl
 have e2:((s.heap.push PySem.W.emptyDict).push (PySem.W.instObj C s.heap.objs.size)).get? (s.heap.objs.size + 1) = some (PySem.W.instObj C s.heap.objs.size):=by
  have:=Heap.get?_push_size (s.heap.push PySem.W.emptyDict) (o:=PySem.W.instObj C s.heap.objs.size) rfl
  rwa [Heap.size_push] at this
 have e3:(s.heap.push PySem.W.emptyDict).Ns s.heap.objs.size (fun _=>none):=⟨PySem.W.emptyDict,#[],_,e1,rfl,(fun e he=>absurd he (by simp)),fun _=>rfl⟩
 have I1:=I.laid (a:=s.heap.objs.size) (o:=.own (s.heap.objs.size + 1)) (h':=s.heap.push PySem.W.emptyDict) (t':=s.toks) (fun b u q=>Heap.get?_push_of_some _ q) (Nat.le_refl _) ⟨_,e1⟩
 refine I1.laid (a:=s.heap.objs.size + 1) (o:=.ins C s.heap.objs.size []) (t':=s.toks) (fun b u q=>Heap.get?_push_of_some _ q) (Nat.le_of_eq (Heap.size_push _ _)) ?_
 have ne:s.heap.objs.size ≠ s.heap.objs.size + 1:=Nat.ne_of_lt (Nat.lt_succ_self _)
 refine ⟨by rw [zy ne,zd],Nat.zero_le _,ne,e2,fun _=>none,(Heap.Ns1.of_empty e3).at fun o q=>Heap.get?_push_of_some _ q,fun _=>True.intro,fun y hy=>absurd rfl hy⟩
end
section
variable {X:Cx} {pins:List (Addr × Obj)} {σ:St} {H:Hp} {s:Shared} {A:Around} {E:VS7} {Q:VS7} {c:Value} {b:Bool}
inductive TyOf (K:FG7) (H:Hp):V -> Value -> Prop where
 | non:TyOf K H .non (.type "NoneType")
 | bl (x:Bool):TyOf K H (.bl x) (.type "bool")
 | int (i:Int):TyOf K H (.int i) (.type "int")
 | str (x:Str):TyOf K H (.str x) (.type "str")
 | flt (x:UInt64):TyOf K H (.flt x) (.type "float")
 | lst {a:Addr} {xs:List V} (e:H a = some (.lst xs)):TyOf K H (.ref a) (.type "list")
 | frz {a:Addr} {o:Obj} {xs:List V} (e:H a = some (.frz o (.lst xs))):TyOf K H (.ref a) (.type "list")
 | tup {a:Addr} {xs:List V} (e:H a = some (.tup xs)):TyOf K H (.ref a) (.type "tuple")
 | dK {a:Addr} {kvs:List (Key × V)} (e:H a = some (.dK kvs)):TyOf K H (.ref a) (.type "dict")
 | dT {a:Addr} {kvs:List (List Key × V)} (e:H a = some (.dT kvs)):TyOf K H (.ref a) (.type "dict")
 | ins {a C dx:Addr} {fs:List (Str × V)} (e:H a = some (.ins C dx fs)) (cl:Cls K C) (ha:PySem.W.findIn K (.ref C) "__class__" = some (some (.builtin "object.__class__")))
   (hn:PySem.W.specialIn K (.builtin "object.__class__") "__get__" = some (some (.builtin "getset_descriptor.__get__"))) (htk:PySem.W.takesIn K (.builtin "object.__class__") = some true)
   (hm:PySem.W.mroIn K C (.type "object") = some true):TyOf K H (.ref a) (.ref C)
theorem xP {x:V} {u t:Value} (I:Inv X pins σ H s) (rx:RelV x u) (ty:TyOf X.K H x t) (e:PySem.W.kitOne X.K t c = some b) (h:∀ tk,Q (.bool b) { s with toks:=tk }) :
  wpAny (model X.prog X.w) A (call (.builtin "isinstance") [u,c]) Q E s:=by
 cases ty with
 | non=>cases (show u = Value.none from rx); exact PySem.W.kia_one PySem.W.kitx_none I.kIn True.intro e (fun z=>nomatch z) h
 | bl y=>cases (show u = Value.bool y from rx); exact PySem.W.kia_one PySem.W.kitx_bool I.kIn True.intro e (fun z=>nomatch z) h
 | int i=>obtain ⟨t,q⟩:=(show ∃ t,u = Value.int i t from rx); cases q; exact PySem.W.kia_one PySem.W.kitx_int I.kIn True.intro e (fun z=>nomatch z) h
 | str y=>obtain ⟨t,q⟩:=(show ∃ t,u = Value.str y t from rx); cases q; exact PySem.W.kia_one PySem.W.kitx_str I.kIn True.intro e (fun z=>nomatch z) h
 | flt y=>obtain ⟨t,q⟩:=(show ∃ t,u = Value.float y t from rx); cases q; exact PySem.W.kia_one PySem.W.kitx_float I.kIn True.intro e (fun z=>nomatch z) h
 | @lst a xs ea =>
  cases (show u = Value.ref a from rx)
  obtain ⟨_,_,n,_,h1⟩:=(show yh X.prog X.w H s.heap a (.lst xs) from I.hok a _ ea)
  exact PySem.W.kia_one PySem.W.kitx_list I.kIn ⟨_,h1,rfl⟩ e (fun z=>nomatch z) h
 | @frz a ob xs ea =>
  cases (show u = Value.ref a from rx)
  obtain ⟨_,_,_,n,_,h1⟩:=(show yh X.prog X.w H s.heap a (.frz ob (.lst xs)) from I.hok a _ ea)
  exact PySem.W.kia_one PySem.W.kitx_list I.kIn ⟨_,h1,rfl⟩ e (fun z=>nomatch z) h
 | @tup a xs ea =>
  cases (show u = Value.ref a from rx)
  obtain ⟨_,_,_,p⟩:=(show yh X.prog X.w H s.heap a (.tup xs) from I.hok a _ ea)
  obtain ⟨o,h1,h2,_⟩:=p
  exact PySem.W.kia_one PySem.W.kitx_tuple I.kIn ⟨o,h1,h2⟩ e (fun z=>nomatch z) h
 | @dK a kvs ea =>
  cases (show u = Value.ref a from rx)
  obtain ⟨_,_,vs,_,p⟩:=(show yh X.prog X.w H s.heap a (.dK kvs) from I.hok a _ ea)
  obtain ⟨o,es,ep,h1,h2,_⟩:=p
  exact PySem.W.kia_one PySem.W.kitx_dict I.kIn ⟨o,h1,h2.1⟩ e (fun z=>nomatch z) h
 | @dT a kvs ea =>
  cases (show u = Value.ref a from rx)
  obtain ⟨_,_,xs,_,o,es,ep,h1,h2,_⟩:=(show yh X.prog X.w H s.heap a (.dT kvs) from I.hok a _ ea)
  exact PySem.W.kia_one PySem.W.kitx_dict I.kIn ⟨o,h1,h2.1⟩ e (fun z=>nomatch z) h
 | @ins a C dx fs ea cl ha hn htk hm =>
  cases (show u = Value.ref a from rx)
  obtain ⟨mA,O,_⟩:=WZ I.hok ea
  obtain ⟨od,J,_⟩:=O.look
  exact PySem.W.kia_one (PySem.W.kitx_own (cl.get _) cl.hd ha hn htk hm) I.kIn J e (fun z=>nomatch z) h
end
end L2
namespace L2
open PySem PySem.Spec PyProof.Rows
structure Room (k:Nat) (A:Around):Prop where
 hd:A.handled = none
 dp:A.depth + 3 * k + 5 < recursionLimit
 un:A.units + 16 * k + 200 < cLine
 gd:A.guards = some []
theorem Room.mono {j k:Nat} {A:Around} (r:Room k A) (h:j <= k):Room j A:=⟨r.hd,by have:=r.dp; omega,by have:=r.un; omega,r.gd⟩
theorem Room.deeper {k:Nat} {A:Around} (r:Room (k + 1) A) (env:Env):Room k (A.deeper env) :=
 ⟨r.hd,by have:=r.dp; show A.depth + 1 + 3 * k + 5 < _; omega,by have:=r.un; show A.units + 3 + 16 * k + 200 < _; omega,r.gd⟩
theorem Room.in1 {k:Nat} {A:Around} (r:Room (k + 1) A):Room k A.in1 :=
 ⟨r.hd,by have:=r.dp; show A.depth + 3 * k + 5 < _; omega,by have:=r.un; show A.units + 1 + 16 * k + 200 < _; omega,r.gd⟩
theorem Room.depth {k:Nat} {A:Around} (r:Room k A):A.depth < recursionLimit:=by have:=r.dp; omega
theorem Room.units {k:Nat} {A:Around} (r:Room k A):A.units + 64 < cLine:=by have:=r.un; omega
theorem Room.units0 {k:Nat} {A:Around} (r:Room k A):A.units < cLine:=by have:=r.un; omega
def tNil:TA:=fun _ H Q=>Q [] H
def u8 (ta:TE) (tr:TA):TA:=fun σ H Q=>ta σ H fun x H1=>tr σ H1 fun xs H2=>Q (x :: xs) H2
section
variable {X:Cx} {e:Expr} {es:List Expr} {te:TE} {t:TA} {pos:Pos}
theorem zb:PA X [] tNil:=fun _ _ _ _ H Q I h=>Calls.spliced_nil ⟨[],H,I,.nil,h⟩
theorem za (ha:PE X e te) (hr:PA X es t) (hs:starEach (e :: es) X.env = (false,eval e X.env) :: starEach es X.env:=by rfl):PA X (e :: es) (u8 te t):=by
 intro pos pins s σ H Q I h
 rw [hs]
 show wpAny _ _ (spliced ((false,eval e X.env) :: backTo pos (starEach es X.env))) _ _ s
 refine Calls.spliced_cons (thn (ha pins s σ H _ I h) fun u s1 ⟨x,H1,I1,r1,q1⟩=>?_)
 exact thn (hr pos pins s1 σ H1 _ I1 q1) fun us s2 ⟨xs,H2,I2,r2,q2⟩=>⟨x :: xs,H2,I2,.cons r1 r2,q2⟩
def tTup (t:TA):TE:=fun σ H Q=>t σ H fun xs H1=>xs.length <= sizeLine /\ ∀ p,H1 p = none -> Q (.ref p) (upd H1 p (.tup xs))
def tLst (t:TA):TE:=fun σ H Q=>t σ H fun xs H1=>xs.length <= sizeLine /\ ∀ p,H1 p = none -> Q (.ref p) (upd H1 p (.lst xs))
theorem yz {x1} (h:PA X es t):PE X (.Tuple es x1 pos) (tTup t):=by
 intro pins s σ H Q I hq
 refine wpAny_Tuple_spliced (thn (h pos pins s σ H _ I hq) fun us s1 ⟨xs,H1,I1,r,z,q⟩=>⟨by rw [← r.length]; exact z,?_⟩)
 have hf:H1 s1.heap.objs.size = none:=I1.hok.fresh (Nat.le_refl _)
 refine ⟨.ref s1.heap.objs.size,upd H1 s1.heap.objs.size (.tup xs),I1.laid (t':=s1.toks) (fun b u e=>Heap.get?_push_of_some _ e) (Nat.le_refl _) ?_,rfl,q _ hf⟩
 exact ⟨z,us,r,⟨_,Heap.get?_push_size _ rfl,rfl,_,rfl⟩⟩
theorem xj (h:PA X es t):PE X (.List es pos) (tLst t):=by
 intro pins s σ H Q I hq
 refine wpAny_List_spliced (thn (h pos pins s σ H _ I hq) fun us s1 ⟨xs,H1,I1,r,z,q⟩=>⟨by rw [← r.length]; exact z,?_⟩)
 have hf:H1 s1.heap.objs.size = none:=I1.hok.fresh (Nat.le_refl _)
 refine ⟨.ref s1.heap.objs.size,upd H1 s1.heap.objs.size (.lst xs),I1.laid (t':=s1.toks) (fun b u e=>Heap.get?_push_of_some _ e) (Nat.le_refl _) ?_,rfl,q _ hf⟩
 exact ⟨z,us,0,r,Heap.get?_push_size _ rfl⟩
end
abbrev Sp:=List V -> Hp -> VK -> XK -> Prop
abbrev CXT:=List Env -> Hp -> Shared -> XK -> Value -> Shared -> Prop
structure Env0 (P:Program) (w:World) (K:FG7) (mg:Str -> Option Value) (base:Heap) (A:Around) (outer:List Env) (s:Shared) (H:Hp):Prop where
 frames:A.frames = some outer
 mod:Mod K mg base
 bs:∀ b o,base.get? b = some o -> s.heap.get? b = some o /\ H b = none
 bsz:base.objs.size <= s.heap.objs.size
 funs:s.heap.FunFrames base outer
 frf:∀ b ∈ frs outer,H b = none
 hok:HOk P w H s.heap
 bare:AllBare s.gens
def CE (outer:List Env) (P:Program) (w:World) (H:Hp) (s:Shared) (Q:VK) (u:Value) (s':Shared):Prop :=
 ∃ v H',s'.os = s.os /\ AllBare s'.gens /\ Un (frs outer) [] H H' s.heap s'.heap /\ HOk P w H' s'.heap /\ RelV v u /\ Q v H'
def CR (CX:CXT) (outer:List Env) (P:Program) (w:World) (H:Hp) (s:Shared) (Q:VK) (E:XK) (r:Result) (s':Shared):Prop :=
 match r with
 | .ok (.ret u)=>CE outer P w H s Q u s'
 | .ok _=>False
 | .error e=>CX outer H s E e s'
structure FnOk (P:Program) (w:World) (K:FG7) (mg:Str -> Option Value) (base:Heap) (CX:CXT) (k:Nat) (f:Addr) (fd:FuncData) (ps:List Str) (sp:Sp):Prop where
 len:∀ vs H Q E,sp vs H Q E -> vs.length = ps.length
 run:∀ (A:Around) (outer:List Env) (s:Shared) (H:Hp) (args:Args) (us:List Value) (vs:List V) (Q:VK) (E:XK),Room k A -> Env0 P w K mg base A outer s H -> BindsTo s fd args (ps.zip us) -> Vals vs us -> sp vs H Q E →
  codeAny (model P w) A (.call (.ref f) args) (CR CX outer P w H s Q E) s
theorem FnOk.mono {P:Program} {w:World} {K:FG7} {mg:Str -> Option Value} {base:Heap} {CX:CXT} {j k:Nat} {f:Addr} {fd:FuncData} {ps:List Str} {sp:Sp} (F:FnOk P w K mg base CX j f fd ps sp) (h:j <= k) :
  FnOk P w K mg base CX k f fd ps sp:=⟨F.len,fun A outer s H args us vs Q E hr=>F.run A outer s H args us vs Q E (hr.mono h)⟩
theorem FnOk.imp {P:Program} {w:World} {K:FG7} {mg:Str -> Option Value} {base:Heap} {CX:CXT} {k:Nat} {f:Addr} {fd:FuncData} {ps:List Str} {sp sp':Sp} (F:FnOk P w K mg base CX k f fd ps sp)
  (h:∀ vs H Q E,sp' vs H Q E -> sp vs H Q E):FnOk P w K mg base CX k f fd ps sp' :=
 ⟨fun vs H Q E q=>F.len vs H Q E (h _ _ _ _ q),fun A outer s H args us vs Q E hr he hb hv hs=>F.run A outer s H args us vs Q E hr he hb hv (h _ _ _ _ hs)⟩
theorem Env0.in1 {P:Program} {w:World} {K:FG7} {mg:Str -> Option Value} {base:Heap} {A:Around} {outer:List Env} {s:Shared} {H:Hp} (e:Env0 P w K mg base A outer s H) :
  Env0 P w K mg base A.in1 outer s H:=⟨e.frames,e.mod,e.bs,e.bsz,e.funs,e.frf,e.hok,e.bare⟩
section
variable {X:Cx} {pins:List (Addr × Obj)} {σ:St} {H:Hp} {s s':Shared}
theorem Inv.env0 (I:Inv X pins σ H s):Env0 X.prog X.w X.K X.mg X.base X.A X.stack s H :=
 ⟨I.ok.frames,I.ok.mod,I.bs,Nat.le_trans I.ok.bsz I.sz,I.stack,I.stkFree,I.hok,I.bare⟩
theorem Inv.after {Q:VK} {u:Value} (I:Inv X pins σ H s) (h:CE X.stack X.prog X.w H s Q u s'):EP X pins σ Q u s':=by
 obtain ⟨v,H',os,bare,un,hok,r,q⟩:=h
 obtain ⟨hh,g,d,t,os'⟩:=s'
 obtain rfl:os' = s.os:=os
 exact ⟨v,H',I.call (h':=hh) (g':=g) (d':=d) (t':=t) (ch:=[]) un hok bare (fun b z=>absurd z (by simp)),r,q⟩
end
def Yd (sp:Sp) (dvs:List V) (E:XK) (t:TA):TE:=fun σ H Q=>t σ H fun vs H1=>sp (vs ++ dvs) H1 Q E
def vn (K:FG7) (fd:FuncData) (ps:List Str) (ds:List Value):Prop :=
 ∀ (s:Shared) (us:List Value),K.In s.heap -> (us ++ ds).length = ps.length -> BindsTo s fd ⟨us,[]⟩ (ps.zip (us ++ ds))
theorem vn.all {K:FG7} {fd:FuncData} {ps:List Str} (h:∀ us:List Value,us.length = ps.length -> bindArgs fd ⟨us,[]⟩ = pure (ps.zip us)):vn K fd ps []:=fun s us _ hl=>by
 rw [List.append_nil] at hl ⊢
 exact .of_eq (h us hl)
def uu (CX:CXT) (X:Cx) (E:XK):Prop:=∀ (pins:List (Addr × Obj)) (σ:St) (H:Hp) (s:Shared) (e:Value) (s':Shared),Inv X pins σ H s -> CX X.stack H s E e s' -> X.xe e s'
section
variable {X:Cx} {CX:CXT} {k:Nat} {f C:Addr} {fd:FuncData} {ps:List Str} {sp:Sp} {dvs:List V} {ds:List Value} {E:XK} {x m:Str} {p pos apos:Pos} {e o:Expr} {es:List Expr} {ta:TE} {t:TA}
theorem VX {pins:List (Addr × Obj)} {σ:St} {H:Hp} {s:Shared} {Q:VK} {us:List Value} {vs:List V} (F:FnOk X.prog X.w X.K X.mg X.base CX k f fd ps sp) (hr:Room k X.A) (hb:vn X.K fd ps ds) (hd:Vals dvs ds) (hx:uu CX X E)
  (I:Inv X pins σ H s) (r:Vals vs us) (h:sp (vs ++ dvs) H Q E):wpAny (model X.prog X.w) X.A (call (.ref f) us) (EP X pins σ Q) X.xe s:=by
 have r2:Vals (vs ++ dvs) (us ++ ds):=r.append hd
 have hl:(us ++ ds).length = ps.length:=by rw [← r2.length]; exact F.len _ _ _ _ h
 refine wpAny_call (codeAny_mono (F.run X.A X.stack s H ⟨us,[]⟩ (us ++ ds) (vs ++ dvs) Q E hr I.env0 (hb s us I.kIn hl) r2 h) fun r s' hq=>?_)
 cases r with
 | error e=>exact hx pins σ H s e s' I hq
 | ok fl =>
  cases fl with
  | ret u=>exact I.after hq
  | next=>exact False.elim hq
  | brk=>exact False.elim hq
  | cont=>exact False.elim hq
theorem Ye (F:FnOk X.prog X.w X.K X.mg X.base CX k f fd ps sp) (hr:Room k X.A) (hg:Gl X x) (hm:X.mg x = some (.ref f)) (hk:PySem.W.keepIn X.K (.ref f) = true) (hb:vn X.K fd ps ds) (hd:Vals dvs ds) (hx:uu CX X E)
  (ha:PA X (e :: es) t) (hdb:(x == ("__debug__":Str)) = false:=by decide) (he:starEach (e :: es) X.env = (false,eval e X.env) :: starEach es X.env:=by rfl) (hpl:(backTo pos (starEach es X.env)).any (·.1) = false:=by rfl) :
  PE X (.Call (.Name x p) (e :: es) [] pos) (Yd sp dvs E t):=by
 intro pins s σ H Q I h
 refine wpAny_Call_Name_kw (uo I hg hm ?_ hdb)
 refine PySem.W.callWith_K (h₀:=X.base) I.ok.mod.kin hk (thn (ha pos pins s σ H _ I h) fun us s1 ⟨vs,H1,I1,r,q⟩=>⟨I1.kIn,?_⟩) he hpl
 exact VX F hr hb hd hx I1 r q
structure Mk (K:FG7) (C f:Addr):Prop where
 makes:PySem.W.makesIn K C = true
 init:PySem.W.findIn K (.ref C) "__init__" = some (some (.ref f))
 fn:PySem.W.isFn K (.ref f) = true
 kp:PySem.W.keepIn K (.ref C) = true
end
section
variable {X:Cx} {CX:CXT} {k:Nat} {f C:Addr} {fd:FuncData} {ps ks:List Str} {sp:Sp} {E:XK} {x m:Str} {p pos apos kpos:Pos} {e o:Expr} {es:List Expr} {kws:List Keyword} {te ta:TE} {t tk:TA} {nm:Option Str}
structure KBinds (K:FG7) (fd:FuncData) (ps ks:List Str) (g:List Value -> List Value -> List Value) (gV:List V -> List V -> List V):Prop where
 to:∀ (s:Shared) (us ws:List Value),K.In s.heap -> (g us ws).length = ps.length -> BindsTo s fd ⟨us,ks.zip ws⟩ (ps.zip (g us ws))
 rel:∀ {vs:List V} {us:List Value} {zs:List V} {ws:List Value},Vals vs us -> Vals zs ws -> Vals (gV vs zs) (g us ws)
variable {g:List Value -> List Value -> List Value} {gV:List V -> List V -> List V}
end
structure FnScope (N P:List Str) (sc:Scope):Prop where
 kind:sc.kind = .function
 co:sc.isCoroutine = false
 gen:sc.isGenerator = false
 nd:N.Nodup
 pre:N.take P.length = P
 par:∀ x ∈ P,sc.names.lookup x = some .local \/ sc.names.lookup x = some .cell
 nofree:∀ y ∈ sc.names,y.2 ≠ .free
theorem sX {kindOf:Str -> Option NameKind} {x:Str}:∀ {binds:List (Str × Value)} {m:Str -> Option Value},(∀ v,(x,v) ∉ binds) -> bindL kindOf binds m x = m x
 | [],_,_=>rfl
 | (n,v) :: r,m,h=>by
  unfold bindL
  rw [sX fun w hw=>h w (List.mem_cons_of_mem _ hw)]
  split
  ·have:x ≠ n:=by rintro rfl; exact h v List.mem_cons_self
   simp [this]
  ·rfl
theorem sY {kindOf:Str -> Option NameKind} {x:Str}:∀ {binds:List (Str × Value)} {m:Str -> Option Value},(∀ v,(x,v) ∉ binds) -> bindC kindOf binds m x = m x
 | [],_,_=>rfl
 | (n,v) :: r,m,h=>by
  unfold bindC
  rw [sY fun w hw=>h w (List.mem_cons_of_mem _ hw)]
  split
  ·rfl
  ·have:x ≠ n:=by rintro rfl; exact h v List.mem_cons_self
   simp [this]
theorem sZ {kindOf:Str -> Option NameKind} {x:Str} {v:Value}:∀ {P:List Str} {vs:List Value} {i:Nat} {m:Str -> Option Value},P.Nodup -> P[i]? = some x -> vs[i]? = some v -> kindOf x = some .local →
  bindL kindOf (P.zip vs) m x = some v
 | [],_,_,_,_,h,_,_=>by simp at h
 | _ :: _,[],_,_,_,_,h,_=>by simp at h
 | p :: P,w :: vs,0,m,nd,h1,h2,hk=>by
  simp at h1 h2; subst h1; subst h2
  show bindL kindOf ((p,w) :: P.zip vs) m p = _
  unfold bindL
  rw [sX fun v hv=>(List.nodup_cons.mp nd).1 (List.of_mem_zip hv).1,if_pos hk]
  simp
 | p :: P,w :: vs,i + 1,m,nd,h1,h2,hk=>by
  show bindL kindOf ((p,w) :: P.zip vs) m x = _
  unfold bindL
  exact sZ (i:=i) (List.nodup_cons.mp nd).2 (by simpa using h1) (by simpa using h2) hk
theorem s9 {kindOf:Str -> Option NameKind} {x:Str} {v:Value}:∀ {P:List Str} {vs:List Value} {i:Nat} {m:Str -> Option Value},P.Nodup -> P[i]? = some x -> vs[i]? = some v -> kindOf x ≠ some .local →
  bindC kindOf (P.zip vs) m x = some v
 | [],_,_,_,_,h,_,_=>by simp at h
 | _ :: _,[],_,_,_,_,h,_=>by simp at h
 | p :: P,w :: vs,0,m,nd,h1,h2,hk=>by
  simp at h1 h2; subst h1; subst h2
  show bindC kindOf ((p,w) :: P.zip vs) m p = _
  unfold bindC
  rw [sY fun v hv=>(List.nodup_cons.mp nd).1 (List.of_mem_zip hv).1,if_neg hk]
  simp
 | p :: P,w :: vs,i + 1,m,nd,h1,h2,hk=>by
  show bindC kindOf ((p,w) :: P.zip vs) m x = _
  unfold bindC
  exact s9 (i:=i) (List.nodup_cons.mp nd).2 (by simpa using h1) (by simpa using h2) hk
def start (N:List Str) (vs:List V):St:=vs.map some ++ List.replicate (N.length - vs.length) none
def cxOf (CX:CXT) (P:Program) (w:World) (K:FG7) (mg:Str -> Option Value) (base:Heap) (N:List Str) (qual:Str) (scope:Scope) (f:Addr) (cd:Value) (A:Around) (outer:List Env) (s:Shared) (H:Hp) (E:XK):Cx where
 prog:=P
 w:=w
 K:=K
 mg:=mg
 base:=base
 A:=A.deeper (envOfC qual scope s.heap.objs.size f cd)
 N:=N
 s₀:=s
 H₀:=H
 env:=envOfC qual scope s.heap.objs.size f cd
 outer:=outer
 stack:=envOfC qual scope s.heap.objs.size f cd :: outer
 ex:=[]
 calm:=true
 fn:=fun _=>true
 pn:=[]
 xe:=fun e s'=>wpAny (model P w) (A.deeper (envOfC qual scope s.heap.objs.size f cd)) (leaving (envOfC qual scope s.heap.objs.size f cd) e) (fun _ s''=>CX outer H s E e s'') (fun e' s''=>CX outer H s E e' s'') s'
theorem jM {sc:Scope} {n:Nat} {x:Str} (h:sc.names.lookup x = some .cell):∃ c,(cellsFrom n sc.names []).lookup x = some c:=by
 have q:=PySem.W.cellsFrom_some sc.names n [] (.inl h)
 exact Option.isSome_iff_exists.mp q
theorem rf {CX:CXT} {P:Program} {w:World} {K:FG7} {mg:Str -> Option Value} {base:Heap} {N ps:List Str} {qual:Str} {scope:Scope} {f:Addr} {cd:Value} {A:Around} {outer:List Env} {s s1:Shared} {H:Hp} {E:XK} {us:List Value} {vs:List V}
  (S:FnScope N ps scope) (hd:A.handled = none) (e0:Env0 P w K mg base A outer s H) (hl:vs.length = ps.length) (r:Vals vs us)
  (x:InCallC s s.heap.objs.size (bindL (envOfC qual scope s.heap.objs.size f cd).kindOf (ps.zip us) fun _=>none) (cellsFrom (s.heap.objs.size + 1) scope.names []) (bindC (envOfC qual scope s.heap.objs.size f cd).kindOf (ps.zip us) fun _=>none) s1) :
  Inv (cxOf CX P w K mg base N qual scope f cd A outer s H E) [] (start N vs) H s1:=by
 have hpl:ps.length <= N.length:=by have:=congrArg List.length S.pre; rw [List.length_take] at this; omega
 obtain ⟨h1,tk,rfl,hk⟩:=x.done
 have noA:∀ b:Addr,b ∉ (cxOf CX P w K mg base N qual scope f cd A outer s H E).ex:=fun b z=>absurd (show b ∈ ([]:List Addr) from z) (by simp)
 refine ⟨⟨e0.mod,S.kind,rfl,rfl,Nat.le_refl _,fun y z c h1 h2=>?_,fun y hy=>?_,fun y c _ h=>?_,fun _=>hd,Around.frames_deeper e0.frames,.inr ⟨rfl,rfl⟩,fun b z=>absurd z (noA b),e0.bs,e0.bsz,fun b _ _=>noA b,fun b z=>absurd z (noA b),e0.funs,e0.frf⟩,
  rfl,e0.bare,Un.kept hk,⟨_,x.toInCall.ns,fun i y v h1 h2 h3=>?_⟩,fun y c h=>⟨_,x.cell y c h⟩,e0.hok.fresh (Nat.le_refl _),fun y c h=>?_,fun p hp=>absurd (show p ∈ ([]:List (Addr × Obj)) from hp) (by simp),e0.hok.kept hk,?_⟩
 ·exact name_of_addr x.apart (PySem.mem_of_lookup h1) (PySem.mem_of_lookup h2)
 ·have hy:scope.names.lookup y = some .cell \/ scope.names.lookup y = some .free:=hy
  rcases hy with hy | hy
  ·exact jM hy
  ·exact absurd rfl (S.nofree _ (PySem.mem_of_lookup hy))
 ·exact Nat.le_of_lt (x.above y c (PySem.mem_of_lookup h))
 ·have hi:i < vs.length:=by
   unfold start at h2
   by_cases hi:i < vs.length
   ·exact hi
   ·rw [List.getElem?_append_right (by simpa using hi)] at h2
    rw [List.getElem?_replicate] at h2
    split at h2 <;> cases h2
  have ha:vs[i]? = some v:=by
   unfold start at h2
   rw [List.getElem?_append_left (by simpa using hi),List.getElem?_map] at h2
   cases e:vs[i]? with
   | none=>rw [e] at h2; cases h2
   | some a=>rw [e] at h2; cases h2; rfl
  obtain ⟨u,hu,rv⟩:=r.get ha
  have hp:ps[i]? = some y:=by
   rw [← S.pre,List.getElem?_take_of_lt (by omega)]; exact h1
  have ndP:ps.Nodup:=by rw [← S.pre]; exact S.nd.sublist (List.take_sublist _ _)
  refine ⟨u,rv,?_⟩
  rcases S.par y (List.mem_of_getElem? hp) with k | k
  ·exact .inl ⟨k,sZ ndP hp hu k⟩
  ·obtain ⟨c,e⟩:=jM (n:=s.heap.objs.size + 1) k
   refine .inr ⟨.inl k,c,e,?_⟩
   have q:=x.cell y c e
   rw [s9 ndP hp hu (by show scope.names.lookup y ≠ _; rw [k]; decide)] at q
   exact q
 ·exact e0.hok.fresh (Nat.le_of_lt (x.above y c (PySem.mem_of_lookup h)))
 ·unfold start
  show _ = N.length
  rw [List.length_append,List.length_map,List.length_replicate]
  omega
theorem VY {CX:CXT} {P:Program} {w:World} {K:FG7} {mg:Str -> Option Value} {base:Heap} {k:Nat} {f:Addr} {name qual:Str} {params:Arguments} {body:List Stmt} {scope:Scope} {dV kV doc pm cdv ct oc:Value} {an od:Option Addr}
  {osl:Array (Option Value)} {N ps:List Str} {sp:Sp} (lk:K.lookup f = some ⟨oc,od,.func (PySem.W.fnOf name qual params body scope dV kV doc pm an cdv ct),osl⟩) (hcd:PySem.W.codeIn K cdv qual = true) (S:FnScope N ps scope)
  (len:∀ vs H Q E,sp vs H Q E -> vs.length = ps.length)
  (hbody:∀ (A:Around) (outer:List Env) (s:Shared) (H:Hp) (vs:List V) (Q:VK) (E:XK),Room k (A.deeper (envOfC qual scope s.heap.objs.size f cdv)) -> sp vs H Q E →
   ∃ t,PSs (cxOf CX P w K mg base N qual scope f cdv A outer s H E) body t /\ t { nx:=fun _ H'=>Q .non H',rt:=Q } (start N vs) H) :
  FnOk P w K mg base CX (k + 1) f (PySem.W.fnOf name qual params body scope dV kV doc pm an cdv ct) ps sp:=by
 refine ⟨len,fun A outer s H args us vs Q E hr e0 hb r hsp=>?_⟩
 have hl:=len _ _ _ _ hsp
 have KX:K.In s.heap:=e0.mod.kin.keeps fun b o e=>(e0.bs b o e).1
 have lim:s.heap.NoLimit:=e0.mod.nolimit.keeps fun b o e=>(e0.bs b o e).1
 have hkind:∀ y ∈ ps.zip us,scope.names.lookup y.1 = some .local \/ (scope.names.lookup y.1 = some .cell /\ ((cellsFrom (s.heap.objs.size + 1) scope.names []).lookup y.1).isSome = true):=fun ⟨n,v⟩ hy=>by
  rcases S.par n (List.of_mem_zip hy).1 with q | q
  ·exact .inl q
  ·exact .inr ⟨q,PySem.W.cellsFrom_some _ _ _ (.inl q)⟩
 refine codeAny_call_function hr.depth (KX _ _ lk) rfl S.co S.gen rfl (PySem.W.codeRec_of KX hcd) (hb _ _ _ _ ?_)
 refine wpAny_newFunctionEnv_cells S.kind hkind fun env he s1 x=>?_
 subst he
 refine ⟨lim.keeps x.toInCall.keep,codeAny_func ?_⟩
 obtain ⟨t,ht,hq⟩:=hbody A outer s H vs Q E (hr.deeper _) hsp
 have I:Inv (cxOf CX P w K mg base N qual scope f cdv A outer s H E) [] (start N vs) H s1:=rf S hr.hd e0 hl r x
 refine wpAny_mono (ht [] s1 (start N vs) H _ I hq) (fun fl s' hs=>?_) fun e s' hs=>hs
 have fin:∀ {σ':St} {H':Hp} {v:V} {u:Value},Inv (cxOf CX P w K mg base N qual scope f cdv A outer s H E) [] σ' H' s' -> RelV v u -> Q v H' -> CE outer P w H s Q u s' :=
  fun {σ' H' v u} J rv q=>⟨v,H',J.os,J.bare,J.base,J.hok,rv,q⟩
 cases fl with
 | ret u =>
  obtain ⟨v,σ',H',J,rv,q⟩:=hs
  exact fin J rv q
 | next =>
  obtain ⟨σ',H',J,q⟩:=hs
  exact fin (v:=V.non) (u:=Value.none) J rfl q
 | brk =>
  obtain ⟨_,_,_,q⟩:=hs
  exact False.elim q
 | cont =>
  obtain ⟨_,_,_,q⟩:=hs
  exact False.elim q
end L2
namespace L2
open PySem PySem.Spec PyProof.Rows
section
variable {X:Cx} {x:Str} {p pos:Pos} {e:Expr} {es:List Expr} {t:TA} {id T:String} {r:List V -> Hp -> VK -> Prop}
def tCB (r:List V -> Hp -> VK -> Prop) (t:TA):TE:=fun σ H Q=>t σ H fun vs H1=>r vs H1 Q
theorem zh (hc:xO X (.builtin id) r) (hg:Gl X x) (hm:X.mg x = none) (hv:bootBuiltins x = some (.builtin id)) (ha:PA X (e :: es) t) (hn:x ≠ "__name__":=by decide) (hdb:(x == ("__debug__":Str)) = false:=by decide)
  (he:starEach (e :: es) X.env = (false,eval e X.env) :: starEach es X.env:=by rfl) (hpl:(backTo pos (starEach es X.env)).any (·.1) = false:=by rfl):PE X (.Call (.Name x p) (e :: es) [] pos) (tCB r t):=by
 intro pins s σ H Q I h
 refine wpAny_Call_Name_kw (wx I hg hm hv ?_ hn hdb)
 exact PyProof.Rows.callWith_builtin1 (thn (ha pos pins s σ H _ I h) fun us s1 ⟨vs,H1,I1,r1,q1⟩=>hc pins s1 σ H1 vs us Q I1 r1 q1) he hpl
theorem z5 (hc:xO X (.type T) r) (hg:Gl X x) (hm:X.mg x = none) (hv:bootBuiltins x = some (.type T)) (ha:PA X (e :: es) t) (hn:x ≠ "__name__":=by decide) (hdb:(x == ("__debug__":Str)) = false:=by decide)
  (he:starEach (e :: es) X.env = (false,eval e X.env) :: starEach es X.env:=by rfl) (hpl:(backTo pos (starEach es X.env)).any (·.1) = false:=by rfl):PE X (.Call (.Name x p) (e :: es) [] pos) (tCB r t):=by
 intro pins s σ H Q I h
 refine wpAny_Call_Name_kw (wx I hg hm hv ?_ hn hdb)
 exact PyProof.Rows.callWith_type1 (thn (ha pos pins s σ H _ I h) fun us s1 ⟨vs,H1,I1,r1,q1⟩=>hc pins s1 σ H1 vs us Q I1 r1 q1) he hpl
end
end L2
namespace HT
open PySem PyProof.Rows
section
variable {prog:Program} {w:World} {A:Around} {E:VS7} {s:Shared}
theorem cat_tup {t b:Addr} {vs ws:List Value} {Q:VS7} (ht:IsTup s.heap t vs.toArray) (hb:IsTup s.heap b ws.toArray) (hv:vs ≠ [])
  (h1:ws = [] -> Q (.ref t) s) (h2:ws ≠ [] -> Q (.ref s.heap.objs.size) { s with heap:=s.heap.push { cls:=.type "tuple",data:=.seq (vs ++ ws).toArray } })
  (hsz:vs.length + ws.length <= sizeLine):wpAny (model prog w) A (binaryOp .Add (.ref t) (.ref b)) Q E s:=by
 obtain ⟨⟨cls,dd,data,sl⟩,ho,hc,n,hd⟩:=id ht
 obtain ⟨⟨cls2,dd2,data2,sl2⟩,ho2,hc2,n2,hd2⟩:=id hb
 simp only at hc hd hc2 hd2
 subst hc hd hc2 hd2
 have e:vs.toArray ++ ws.toArray = (vs ++ ws).toArray:=by simp
 by_cases hw:ws = []
 ·exact concat_meets ⟨_,ho,rfl⟩ ⟨_,ho2,rfl⟩ noFill_tuple_add seq_tuple_add PySem.F.slot_tuple_add PySem.F.entry_tuple_add (PySem.F.args_tuple_add_2 _ _)
   (tuple_addW1 t b vs.toArray ws.toArray n n2 dd dd2 sl sl2 (by simpa using hv) (by simp [hw])) ⟨ho,ho2,h1 hw⟩
 ·refine concat_meets ⟨_,ho,rfl⟩ ⟨_,ho2,rfl⟩ noFill_tuple_add seq_tuple_add PySem.F.slot_tuple_add PySem.F.entry_tuple_add (PySem.F.args_tuple_add_2 _ _)
   (tuple_addW2 t b vs.toArray ws.toArray n n2 dd dd2 sl sl2 (by simpa using hv) (by simpa using hw) (by rw [List.size_toArray,List.size_toArray]; exact hsz)) ⟨ho,ho2,?_⟩
  rw [e]
  exact h2 hw
def sIx (n d:Nat):Option Int -> Nat
 | none=>d
 | some v=>if v < 0 then (v + (n:Int)).toNat else min v.toNat n
theorem sIx_none (n d:Nat):sIx n d none = d:=rfl
theorem sIx_nat (n d k:Nat):sIx n d (some (k:Int)) = min k n:=by
 show (if (k:Int) < 0 then ((k:Int) + (n:Int)).toNat else min (k:Int).toNat n) = min k n
 rw [if_neg (by omega),Int.toNat_natCast]
theorem VZ (n d:Nat) (hd:d <= n) (o:Option Int):sIx n d o <= n:=by
 cases o with
 | none=>exact hd
 | some v =>
  show (if v < 0 then (v + (n:Int)).toNat else min v.toNat n) <= n
  by_cases hv:v < 0
  ·rw [if_pos hv]; omega
  ·rw [if_neg hv]; exact Nat.min_le_right _ _
theorem Yf (v:Int) (n d:Nat):(if v < 0 then max (v + (n:Int)) 0 else min v (n:Int)) = ((sIx n d (some v):Nat):Int):=by
 show (if v < 0 then max (v + (n:Int)) 0 else min v (n:Int)) = (((if v < 0 then (v + (n:Int)).toNat else min v.toNat n):Nat):Int)
 by_cases hv:v < 0
 ·simp only [if_pos hv]; omega
 ·simp only [if_neg hv]; omega
theorem Zo (lo hi:Option Int) (n:Nat):Builtin.Slice.sliceAdjust lo hi 1 (n:Int) = (((sIx n 0 lo:Nat):Int),((sIx n n hi:Nat):Int)):=by
 have h1:¬ ((1:Int) < 0):=by omega
 unfold Builtin.Slice.sliceAdjust
 simp only [h1,if_false]
 refine Prod.ext ?_ ?_
 ·cases lo with
  | none=>rfl
  | some v=>exact Yf v n 0
 ·cases hi with
  | none=>rfl
  | some v=>exact Yf v n n
theorem Zp (i j:Nat):Builtin.Slice.slicePlaces (i:Int) (j:Int) 1 = j - i:=by
 unfold Builtin.Slice.slicePlaces
 have h1:(1:Int) > 0:=by omega
 simp only [h1,if_true,Int.ediv_one]
 split <;> omega
theorem tM {v:Value} {o:Option Int} {Q:Option Int -> Shared -> Prop} (p:IsPart v o) (h:Q o s):wpAny (model prog w) A (Builtin.Slice.slicePartIndex v) Q E s:=by
 cases p with
 | none=>exact slicePart_none h
 | int i t=>exact slicePart_int h
theorem xI {sl:Addr} {vl vu:Value} {lo hi:Option Int} {n:Nat} {Q:Int × Int × Nat -> Shared -> Prop} (hs:s.heap.IsSliceOf sl vl vu .none) (pl:IsPart vl lo) (pu:IsPart vu hi)
  (h:Q (((sIx n 0 lo:Nat):Int),1,sIx n n hi - sIx n 0 lo) s):wpAny (model prog w) A (Builtin.Slice.sliceApplied (.ref sl) (pure (n:Int))) Q E s:=by
 obtain ⟨os,hos,hcs,hds⟩:=id hs
 unfold Builtin.Slice.sliceApplied Builtin.Slice.sliceFields
 refine wpAny_bind (wpAny_bind (wpAny_field hos hds (x:=vl) rfl (wpAny_bind (wpAny_field hos hds (x:=vu) rfl (wpAny_bind (wpAny_field hos hds (x:=.none) rfl (wpAny_pure ?_)))))))
 refine wpAny_bind (slicePart_none ?_)
 show wpAny _ _ (if ((1:Int) == 0) = true then _ else _) _ _ s
 rw [if_neg (by decide)]
 refine wpAny_bind (tM pl (wpAny_bind (tM pu (wpAny_bind (wpAny_pure ?_)))))
 show wpAny _ _ (match Builtin.Slice.sliceAdjust lo hi 1 (n:Int) with | (lo,hi)=>pure (lo,(1:Int),Builtin.Slice.slicePlaces lo hi 1)) _ _ s
 rw [Zo lo hi n]
 show wpAny _ _ (pure (((sIx n 0 lo:Nat):Int),(1:Int),Builtin.Slice.slicePlaces ((sIx n 0 lo:Nat):Int) ((sIx n n hi:Nat):Int) 1)) _ _ s
 rw [Zp]
 exact wpAny_pure h
theorem Xz (xs:Array Value) (i k:Nat):((List.range k).filterMap fun (m:Nat)=>xs[((i:Int) + (m:Int) * 1).toNat]?).toArray = ((xs.toList.drop i).take k).toArray:=by
 have e:(fun (m:Nat)=>xs[((i:Int) + (m:Int) * 1).toNat]?) = fun m=>xs[i + m]?:=by
  funext m
  have:((i:Int) + (m:Int) * 1).toNat = i + m:=by omega
  rw [this]
 rw [e]
 have:=pick_run xs i k
 rw [List.filterMap_map] at this
 have e2:((fun x=>xs[x]?) ∘ fun x=>i + x) = fun m=>xs[i + m]?:=rfl
 rw [e2] at this
 rw [this]
theorem getItem_tuple_cut {t sl:Addr} {items:Array Value} {vl vu:Value} {lo hi:Option Int} {Q:VS7} (ht:IsTup s.heap t items) (hs:s.heap.IsSliceOf sl vl vu .none) (pl:IsPart vl lo) (pu:IsPart vu hi)
  (hw:¬ (sIx items.size 0 lo = 0 /\ sIx items.size items.size hi = items.size))
  (h:Q (.ref s.heap.objs.size) { s with heap:=s.heap.push { cls:=.type "tuple",data:=.seq ((items.toList.drop (sIx items.size 0 lo)).take (sIx items.size items.size hi - sIx items.size 0 lo)).toArray } })
  (hsz:items.size <= sizeLine):wpAny (model prog w) A (getItem (.ref t) (.ref sl)) Q E s:=by
 have htake:sizeOk (.seq ((items.toList.drop (sIx items.size 0 lo)).take (sIx items.size items.size hi - sIx items.size 0 lo)).toArray):=by
  show ((items.toList.drop (sIx items.size 0 lo)).take (sIx items.size items.size hi - sIx items.size 0 lo)).toArray.size <= sizeLine
  rw [List.size_toArray,List.length_take,List.length_drop,Array.length_toList]
  omega
 have hj:sIx items.size items.size hi <= items.size:=VZ _ _ (Nat.le_refl _) hi
 obtain ⟨os,hos,hcs,hds⟩:=id hs
 have hTs:s.TypeIs (.ref sl) "slice":=⟨os,hos,hcs⟩
 unfold getItem
 try with_reducible refine wpAny_holding ?_
 first | refine wpAny_bind (wpAny_pure ?_) | skip
 refine wpAny_bind (wpAny_sequenceKey ht.typeIs (by decide) ?_)
 refine wpAny_bind (wpAny_callSpecial?_slot (name:=Str.ofString "__getitem__") ht.typeIs PyProof.Rows.slot_tuple_getitem
  (wpAny_call_entry PyProof.Rows.slot_tuple_getitem ht.typeIs entry_tuple_getitem ?_ (args_tuple_getitem _ _)))
 show wpAny _ _ (Builtin.Tuple.tupleItemsOf (.ref t) >>= _) _ _ s
 refine wpAny_bind (tupleItemsOf_ ht ?_)
 refine wpAny_bind (wpAny_typeOf hTs ?_)
 rw [if_pos (by decide)]
 refine wpAny_bind (xI hs pl pu ?_)
 have hno:¬ ((((sIx items.size 0 lo:Nat):Int) == 0 && (1:Int) == 1 && (sIx items.size items.size hi - sIx items.size 0 lo) == items.size) = true):=by
  intro q
  rw [Bool.and_eq_true,Bool.and_eq_true] at q
  have q1:((sIx items.size 0 lo:Nat):Int) = 0:=eq_of_beq q.1.1
  have q2:sIx items.size items.size hi - sIx items.size 0 lo = items.size:=eq_of_beq q.2
  exact hw ⟨by omega,by omega⟩
 show wpAny _ _ (if (((sIx items.size 0 lo:Nat):Int) == 0 && (1:Int) == 1 && (sIx items.size items.size hi - sIx items.size 0 lo) == items.size) = true then _ else _) _ _ s
 rw [if_neg hno,Xz]
 first
  | exact wpAny_bind (m:=Builtin.Tuple.tupleExact _) (wpAny_newObj_type (wpAny_pure ⟨_,rfl,wpAny_pure h⟩) htake)
  | exact wpAny_bind (m:=Builtin.Tuple.tupleExact _) (wpAny_newObj_type (wpAny_bind (wpAny_pure (wpAny_pure ⟨_,rfl,wpAny_pure h⟩))) htake)
  | exact wpAny_bind (wpAny_bind (m:=Builtin.Tuple.tupleExact _) (wpAny_newObj_type (wpAny_pure (wpAny_pure ⟨_,rfl,wpAny_pure h⟩)) htake))
  | exact wpAny_bind (wpAny_bind (m:=Builtin.Tuple.tupleExact _) (wpAny_newObj_type (wpAny_pure ⟨_,rfl,wpAny_pure h⟩) htake))
end
end HT
namespace L2
open PySem PySem.Spec PyProof.Rows
abbrev TO:=St -> Hp -> (Option Int -> Hp -> Prop) -> Prop
def PO (X:Cx) (e:Option Expr) (t:TO):Prop :=
 ∀ (pins:List (Addr × Obj)) (s:Shared) (σ:St) (H:Hp) (Q:Option Int -> Hp -> Prop),Inv X pins σ H s -> t σ H Q →
  wpAny (model X.prog X.w) X.A (evalPart e X.env) (fun u s'=>∃ o H',Inv X pins σ H' s' /\ IsPart u o /\ Q o H') X.xe s
def W0:TO:=fun _ H Q=>Q none H
def UM (t:TE):TO:=fun σ H Q=>t σ H fun x H1=>∃ i,x = .int i /\ Q (some i) H1
section
variable {X:Cx} {e:Expr} {te:TE} {lo hi:Option Expr} {tl th:TO} {pos p2:Pos}
theorem xQ:PO X none W0:=by
 intro pins s σ H Q I h
 rw [evalPart_none]
 exact wpAny_pure ⟨none,H,I,.none,h⟩
theorem xc (h:PE X e te):PO X (some e) (UM te):=by
 intro pins s σ H Q I hw
 rw [evalPart_some]
 refine thn (h pins s σ H _ I hw) fun u s1 ⟨x,H1,I1,r1,q1⟩=>?_
 obtain ⟨i,rfl,q⟩:=q1
 obtain ⟨t,rfl⟩:=r1
 exact ⟨some i,H1,I1,.int i t,q⟩
def SlR (X:Cx) (r:V -> Option Int -> Option Int -> Hp -> VK -> Prop):Prop :=
 ∀ (pins:List (Addr × Obj)) (s:Shared) (σ:St) (H:Hp) (x:V) (v vl vu:Value) (lo hi:Option Int) (sl:Addr) (Q:VK),Inv X pins σ H s -> RelV x v -> s.heap.IsSliceOf sl vl vu .none -> IsPart vl lo -> IsPart vu hi -> r x lo hi H Q →
  ∃ T id,typeLookup (.type T) "__getitem__" = pure (some (.builtin id)) /\ s.TypeIs v T /\ wpAny (model X.prog X.w) X.A (getItem v (.ref sl)) (EP X pins σ Q) X.xe s
def tSl (r:V -> Option Int -> Option Int -> Hp -> VK -> Prop) (te:TE) (tl th:TO):TE:=fun σ H Q=>te σ H fun x H1=>tl σ H1 fun l H2=>th σ H2 fun u H3=>r x l u H3 Q
theorem yN {r:V -> Option Int -> Option Int -> Hp -> VK -> Prop} (hr:SlR X r) (he:PE X e te) (hl:PO X lo tl) (hu:PO X hi th):PE X (.Subscript e (.Slice lo hi none p2) pos) (tSl r te tl th):=by
 intro pins s σ H Q I h
 refine Subscript_ (thn (he pins s σ H _ I h) fun v s1 ⟨x,H1,I1,r1,q1⟩=>?_)
 refine wpAny_Slice (thn (hl pins s1 σ H1 _ I1 q1) fun vl s2 ⟨l,H2,I2,pl,q2⟩=>thn (hu pins s2 σ H2 _ I2 q2) fun vu s3 ⟨u,H3,I3,pu,q3⟩=>?_)
 rw [evalPart_none]
 refine wpAny_pure ?_
 have I4:Inv X pins σ H3 { s3 with heap:=s3.heap.push { cls:=.type "slice",data:=.fields #[vl,vu,.none] } }:=I3.kept (t':=s3.toks) fun b ob q=>Heap.get?_push_of_some _ q
 obtain ⟨T,id,hT,ht,hg⟩:=hr pins { s3 with heap:=s3.heap.push { cls:=.type "slice",data:=.fields #[vl,vu,.none] } } σ H3 x v vl vu l u s3.heap.objs.size Q I4 r1 (Heap.IsSliceOf.new ..) pl pu q3
 show wpAny (model X.prog X.w) X.A (subscriptTail e (.Slice lo hi none p2) v (.ref s3.heap.objs.size)) (EP X pins σ Q) X.xe { s3 with heap:=s3.heap.push { cls:=.type "slice",data:=.fields #[vl,vu,.none] } }
 exact tail_any (ops:=[.ref s3.heap.objs.size,v]) ht hT hg (by with_unfolding_all rfl)
def cutV (xs:List V) (lo hi:Option Int):List V:=(xs.drop (HT.sIx xs.length 0 lo)).take (HT.sIx xs.length xs.length hi - HT.sIx xs.length 0 lo)
theorem uv (xs:List V) (lo hi:Option Int):(cutV xs lo hi).length <= xs.length:=by
 unfold cutV
 rw [List.length_take,List.length_drop]
 omega
def rSlT (K:FG7):V -> Option Int -> Option Int -> Hp -> VK -> Prop:=fun x lo hi H Q=>∃ a xs,x = .ref a /\ SqT K H a xs ∧
 ¬ (HT.sIx xs.length 0 lo = 0 /\ HT.sIx xs.length xs.length hi = xs.length) /\ ∀ p,H p = none -> Q (.ref p) (upd H p (.tup (cutV xs lo hi)))
theorem V0:SlR X (rSlT X.K):=by
 intro pins s σ H x v vl vu lo hi sl Q I rx hs pl pu h
 obtain ⟨a,xs,rfl,hx,hw,q⟩:=h
 cases rx
 obtain ⟨its,r,ht,hz⟩:=I.tuple hx
 have hlen:its.toArray.size = xs.length:=by rw [List.size_toArray]; exact r.length.symm
 refine ⟨"tuple",_,PyProof.Rows.slot_tuple_getitem.lookup,ht.typeIs,?_⟩
 refine HT.getItem_tuple_cut ht hs pl pu (by rw [hlen]; exact hw) ?_ (by rw [hlen]; exact hz)
 rw [hlen]
 refine ⟨.ref s.heap.objs.size,_,I.laid (t':=s.toks) (o:=.tup (cutV xs lo hi)) (fun b ob q=>Heap.get?_push_of_some _ q) (Nat.le_refl _) ?_,rfl,q _ (I.hok.fresh (Nat.le_refl _))⟩
 exact ⟨Nat.le_trans (uv xs lo hi) hz,_,(r.drop (HT.sIx xs.length 0 lo)).take (HT.sIx xs.length xs.length hi - HT.sIx xs.length 0 lo),IsTup.new _ _⟩
def UN (K:FG7):R2:=fun x y H Q=>∃ a b xs ys,x = .ref a /\ y = .ref b /\ SqT K H a xs /\ SqT K H b ys /\ xs ≠ [] /\ xs.length + ys.length <= sizeLine ∧
 (ys = [] -> Q (.ref a) H) /\ (ys ≠ [] -> ∀ p,H p = none -> Q (.ref p) (upd H p (.tup (xs ++ ys))))
theorem Vals.nil_iff {xs:List V} {us:List Value} (r:Vals xs us):us = [] ↔ xs = []:=by
 cases r with
 | nil=>simp
 | cons _ _=>simp
theorem W1:OpR X (binaryOp .Add) (UN X.K):=by
 intro pins s σ H x y v u Q I rx ry h
 obtain ⟨a,b,xs,ys,rfl,rfl,ha,hb,hx,hz,q1,q2⟩:=h
 cases rx
 cases ry
 obtain ⟨its,r1,p1,_⟩:=I.tuple ha
 obtain ⟨its2,r2,p2,_⟩:=I.tuple hb
 refine HT.cat_tup p1 p2 (fun z=>hx (r1.nil_iff.mp z)) (fun z=>⟨.ref a,H,I,rfl,q1 (r2.nil_iff.mp z)⟩) (fun z=>?_) (by rw [← r1.length,← r2.length]; exact hz)
 refine ⟨.ref s.heap.objs.size,_,I.laid (t':=s.toks) (o:=.tup (xs ++ ys)) (fun b ob q=>Heap.get?_push_of_some _ q) (Nat.le_refl _) ?_,rfl,q2 (fun w=>z (r2.nil_iff.mpr w)) _ (I.hok.fresh (Nat.le_refl _))⟩
 exact ⟨by rw [List.length_append]; exact hz,_,r1.append r2,IsTup.new _ _⟩
end
end L2
namespace L2
open PySem PySem.Spec PyProof.Rows
def ixN (n:Nat) (i:Int):Option Nat:=if 0 <= i then (if i < n then some i.toNat else none) else if -(n:Int) <= i then some (i + n).toNat else none
def atI {α:Type} (xs:List α) (i:Int):Option α:=(ixN xs.length i).bind fun j=>xs[j]?
theorem Yg {n:Nat} {i:Int} {j:Nat} (h:ixN n i = some j):seqIndex? i n = some j /\ j < n /\ -(n:Int) <= i /\ i < n:=by
 unfold ixN at h
 by_cases h0:0 <= i
 ·rw [if_pos h0] at h
  by_cases h1:i < n
  ·rw [if_pos h1] at h
   have e:i.toNat = j:=Option.some.inj h
   exact ⟨by rw [seqIndex_of h0 h1,e],by omega,by omega,h1⟩
  ·rw [if_neg h1] at h; cases h
 ·rw [if_neg h0] at h
  by_cases h1:-(n:Int) <= i
  ·rw [if_pos h1] at h
   have e:(i + n).toNat = j:=Option.some.inj h
   exact ⟨by rw [seqIndex_neg (by omega) h1,e],by omega,h1,by omega⟩
  ·rw [if_neg h1] at h; cases h
theorem Yh {α:Type} {xs:List α} {i:Int} {v:α} (h:atI xs i = some v):∃ j,seqIndex? i xs.length = some j /\ xs[j]? = some v /\ j < xs.length /\ -(xs.length:Int) <= i /\ i < xs.length:=by
 unfold atI at h
 cases e:ixN xs.length i with
 | none=>rw [e] at h; cases h
 | some j =>
  rw [e] at h
  obtain ⟨h1,h2,h3,h4⟩:=Yg e
  exact ⟨j,h1,h,h2,h3,h4⟩
theorem zu {α:Type} {xs:List α} {j:Nat} {v:α} (h:xs[j]? = some v):atI xs (j:Int) = some v:=by
 have hj:j < xs.length:=(List.getElem?_eq_some_iff.mp h).1
 have e:ixN xs.length (j:Int) = some j:=by
  unfold ixN
  rw [if_pos (by omega),if_pos (by omega)]; simp
 unfold atI; rw [e]; exact h
def W2 (b:Expr):Prop:=∀ o i,subscripted b false o i = operate [o,i] (getItem o i)
def IxR (X:Cx) (r:R2):Prop :=
 ∀ (value slice:Expr) (pins:List (Addr × Obj)) (s:Shared) (σ:St) (H:Hp) (x y:V) (v u:Value) (Q:VK),Inv X pins σ H s -> RelV x v -> RelV y u -> r x y H Q →
  subscripted slice false v u = operate [v,u] (getItem v u) -> wpAny (model X.prog X.w) X.A (subscriptTail value slice v u) (EP X pins σ Q) X.xe s
def MtR (X:Cx) (id:String) (r:V -> List V -> Hp -> VK -> Prop):Prop :=
 ∀ (pins:List (Addr × Obj)) (s:Shared) (σ:St) (H:Hp) (x:V) (xs:List V) (v:Value) (us:List Value) (Q:VK),Inv X pins σ H s -> RelV x v -> Vals xs us -> r x xs H Q →
  wpAny (model X.prog X.w) X.A (call (.builtin id) (v :: us)) (EP X pins σ Q) X.xe s
section
variable {X:Cx} {a b:Expr} {ta tb:TE} {pos:Pos}
theorem zH {r:R2} (hr:IxR X r) (ha:PE X a ta) (hb:PE X b tb) (hs:W2 b):PE X (.Subscript a b pos) (tOp r ta tb):=by
 intro pins s σ H Q I h
 exact Subscript_ (binT ha hb I h fun v u s2 x y H2 I2 rx ry q=>hr a b pins s2 σ H2 x y v u Q I2 rx ry q (hs _ _))
def rIxL (K:FG7):R2:=fun x y H Q=>∃ p xs i v,x = .ref p /\ y = .int i /\ SqL K H p xs /\ atI xs i = some v /\ Q v H
def rIxT (K:FG7):R2:=fun x y H Q=>∃ p xs i v,x = .ref p /\ y = .int i /\ SqT K H p xs /\ atI xs i = some v /\ Q v H
theorem zZ:IxR X (rIxL X.K):=by
 intro value slice pins s σ H x y v u Q I rx ry h hs
 obtain ⟨p,xs,i,z,rfl,rfl,hq,he,q⟩:=h
 cases rx
 obtain ⟨t,rfl⟩:=ry
 obtain ⟨its,r,pl,hz⟩:=I.list hq
 obtain ⟨j,h1,h2,h3,h4,h5⟩:=Yh he
 obtain ⟨w,ew,rw'⟩:=r.get h2
 have hl:=r.length
 have hn:=sV
 have fin:EP X pins σ Q w s:=⟨z,H,I,rw',q⟩
 by_cases h0:0 <= i
 ·have hj:i.toNat = j:=by
   rw [seqIndex_of h0 h5] at h1
   exact Option.some.inj h1
  exact item_listR pl.isList h0 (by omega) (by rw [hj]; simpa using ew) fin hs
 ·have hj:(i + (its.toArray.size:Int)).toNat = j:=by
   rw [seqIndex_neg (by omega) h4] at h1
   rw [List.size_toArray,← hl]
   exact Option.some.inj h1
  exact subscriptTail_builtinR (x:=w) pl.isList.typeIs slot_list_getitem.lookup
   (wpAny_getItem_list_neg (Q:=fun r s'=>r = w /\ EP X pins σ Q r s') pl.isList (by omega) (by rw [List.size_toArray] <;> omega) (by omega) (by rw [hj]; simpa using ew) ⟨rfl,fin⟩) hs
theorem zJ:IxR X (rIxT X.K):=by
 intro value slice pins s σ H x y v u Q I rx ry h hs
 obtain ⟨p,xs,i,z,rfl,rfl,hq,he,q⟩:=h
 cases rx
 obtain ⟨t,rfl⟩:=ry
 obtain ⟨its,r,pl,hz⟩:=I.tuple hq
 obtain ⟨j,h1,h2,h3,h4,h5⟩:=Yh he
 obtain ⟨w,ew,rw'⟩:=r.get h2
 have hl:=r.length
 have hn:=sV
 have fin:EP X pins σ Q w s:=⟨z,H,I,rw',q⟩
 exact subscriptTail_builtinR (x:=w) pl.typeIs slot_tuple_getitem.lookup
  (getItem_tuple (j:=j) (Q:=fun r s'=>r = w /\ EP X pins σ Q r s') pl (by omega) (by omega) (by rw [List.size_toArray,← hl]; exact h1) (by simpa using ew) ⟨rfl,fin⟩) hs
theorem Zq (its:List Value) (n j:Nat) (u:Value):Obj.mapSeq (·.setIfInBounds j u) { cls:=.type "list",data:=.seq its.toArray n } = { cls:=.type "list",data:=.seq (its.set j u).toArray n }:=by
 simp [Obj.mapSeq]
theorem Inv.lst {pins:List (Addr × Obj)} {σ:St} {H:Hp} {s:Shared} {p:Addr} {xs:List V} (I:Inv X pins σ H s) (h:H p = some (.lst xs)) :
  ∃ (its:List Value) (n:Nat),Vals xs its /\ s.heap.get? p = some { cls:=.type "list",data:=.seq its.toArray n } /\ xs.length <= sizeLine:=by
 obtain ⟨z,its,n,r,e⟩:=I.hok p _ h
 exact ⟨its,n,r,e,z⟩
theorem Inv.lstUpd {pins:List (Addr × Obj)} {σ:St} {H:Hp} {s:Shared} {p:Addr} {xs ys:List V} {its its':List Value} {n n':Nat} {f:Obj -> Obj} (I:Inv X pins σ H s) (h:H p = some (.lst xs))
  (ho:s.heap.get? p = some { cls:=.type "list",data:=.seq its.toArray n }) (hf:f { cls:=.type "list",data:=.seq its.toArray n } = { cls:=.type "list",data:=.seq its'.toArray n' }) (r:Vals ys its') (hz:ys.length <= sizeLine) (t:Nat) :
  Inv X pins σ (upd H p (.lst ys)) { s with heap:=s.heap.update p f,toks:=t }:=by
 have e:(s.heap.update p f).get? p = some { cls:=.type "list",data:=.seq its'.toArray n' }:=by
  rw [Heap.get?_update_self f ho (by rw [hf] <;> rfl),hf]
 refine I.write (x:=p) (e:=p) (by rw [h]; trivial) (.inl rfl) (fun b u hb q=>(Heap.get?_update_other _ _ (Ne.symm hb)).trans q) ⟨_,e⟩ ?_
 exact ⟨hz,its',n',r,e⟩
def UO:V -> V -> V -> Hp -> (Hp -> Prop) -> Prop:=fun o i v H Q=>∃ p xs k j,o = .ref p /\ i = .int k /\ H p = some (.lst xs) /\ ixN xs.length k = some j /\ Q (upd H p (.lst (xs.set j v)))
theorem jN:PSet X UO:=by
 intro pins s σ H o i v ov iv u Q I ro ri rv h
 obtain ⟨p,xs,k,j,rfl,rfl,hp,hj,q⟩:=h
 cases ro
 obtain ⟨t,rfl⟩:=ri
 obtain ⟨its,n,r,ho,hz⟩:=I.lst hp
 obtain ⟨h1,h2,h3,h4⟩:=Yg hj
 have hl:=r.length
 have hn:=sV
 have I':Inv X pins σ (upd H p (.lst (xs.set j v))) { s with heap:=s.heap.update p (Obj.mapSeq (·.setIfInBounds j u)) } :=
  I.lstUpd hp ho (Zq its n j u) (r.set rv j) (by rw [List.length_set]; exact hz) s.toks
 by_cases h0:0 <= k
 ·have hk:k.toNat = j:=by
   rw [seqIndex_of h0 h4] at h1
   exact Option.some.inj h1
  exact PySem.W.ki_setAt ho h0 (by omega) (by rw [List.size_toArray,← hl]; exact h4) (by rw [hk]; exact ⟨_,I',q⟩)
 ·have hk:(k + (its.toArray.size:Int)).toNat = j:=by
   rw [seqIndex_neg (by omega) h3] at h1
   rw [List.size_toArray,← hl]
   exact Option.some.inj h1
  exact PySem.W.ki_setBack ho (by omega) (by rw [List.size_toArray,← hl]; exact h3) (by omega) (by rw [hk]; exact ⟨_,I',q⟩)
def xy:V -> Bool
 | .non=>true
 | .bl _=>true
 | .int _=>true
 | .str _=>true
 | _=>false
def eqV:V -> V -> Bool
 | .non,.non=>true
 | .bl a,.bl b=>a == b
 | .bl a,.int b=>(if a then 1 else 0) == b
 | .int a,.bl b=>a == (if b then 1 else 0)
 | .int a,.int b=>a == b
 | .str a,.str b=>a == b
 | _,_=>false
theorem Wu {A:Around} {s:Shared} {y x:V} {u v:Value} (ry:RelV y u) (rx:RelV x v) (fy:xy y = true) (fx:xy x = true):SeqAt.EqAt A s u v (eqV y x):=by
 cases y with
 | non =>
  cases ry
  cases x with
  | non=>cases rx; exact SeqAt.EqAt.same _
  | bl b=>cases rx; exact SeqAt.EqAt.none_bool b
  | int b=>obtain ⟨t,rfl⟩:=rx; exact SeqAt.EqAt.none_int b t
  | str b=>obtain ⟨t,rfl⟩:=rx; exact SeqAt.EqAt.none_str b t
  | _=>exact absurd (show false = true from fx) Bool.false_ne_true
 | bl a =>
  cases ry
  cases x with
  | non=>cases rx; exact SeqAt.EqAt.bool_none a
  | bl b=>cases rx; exact SeqAt.EqAt.bool_bool a b
  | int b=>obtain ⟨t,rfl⟩:=rx; exact SeqAt.EqAt.bool_int a b t
  | str b=>obtain ⟨t,rfl⟩:=rx; exact SeqAt.EqAt.bool_str a b t
  | _=>exact absurd (show false = true from fx) Bool.false_ne_true
 | int a =>
  obtain ⟨t',rfl⟩:=ry
  cases x with
  | non=>cases rx; exact SeqAt.EqAt.int_none a t'
  | bl b=>cases rx; exact SeqAt.EqAt.int_bool a t' b
  | int b=>obtain ⟨t,rfl⟩:=rx; exact SeqAt.EqAt.int_int a t' b t
  | str b=>obtain ⟨t,rfl⟩:=rx; exact SeqAt.EqAt.int_str a t' b t
  | _=>exact absurd (show false = true from fx) Bool.false_ne_true
 | str a =>
  obtain ⟨t',rfl⟩:=ry
  cases x with
  | non=>cases rx; exact SeqAt.EqAt.str_none a t'
  | bl b=>cases rx; exact SeqAt.EqAt.str_bool a t' b
  | int b=>obtain ⟨t,rfl⟩:=rx; exact SeqAt.EqAt.str_int a t' b t
  | str b=>obtain ⟨t,rfl⟩:=rx; exact SeqAt.EqAt.str_str a t' b t
  | _=>exact absurd (show false = true from fx) Bool.false_ne_true
 | _=>exact absurd (show false = true from fy) Bool.false_ne_true
def eqU (x:V) (u:Value):Bool:=match u with
 | .none=>eqV .non x
 | .bool b=>eqV (.bl b) x
 | .int i _=>eqV (.int i) x
 | .str z _=>eqV (.str z) x
 | _=>false
theorem Wv {x y:V} {u:Value} (r:RelV y u) (f:xy y = true):eqU x u = eqV y x:=by
 cases y with
 | non=>cases r; rfl
 | bl b=>cases r; rfl
 | int i=>obtain ⟨t,rfl⟩:=r; rfl
 | str z=>obtain ⟨t,rfl⟩:=r; rfl
 | _=>exact absurd (show false = true from f) Bool.false_ne_true
theorem qH {x:V}:∀ {xs:List V} {us:List Value},Vals xs us -> xs.all xy = true -> us.any (eqU x) = xs.any fun y=>eqV y x
 | _,_,.nil,_=>rfl
 | y :: xs,u :: us,.cons r t,f=>by
  rw [List.all_cons,Bool.and_eq_true] at f
  rw [List.any_cons,List.any_cons,Wv r f.1,qH t f.2]
theorem tX {A:Around} {s:Shared} {x:V} {v:Value} (rx:RelV x v) (fx:xy x = true):∀ {xs:List V} {us:List Value},Vals xs us -> xs.all xy = true -> ∀ u ∈ us,SeqAt.EqAt A s u v (eqU x u)
 | _,_,.nil,_=>fun u hu=>by cases hu
 | y :: xs,u :: us,.cons r t,f=>fun u' hu=>by
  rw [List.all_cons,Bool.and_eq_true] at f
  rcases List.mem_cons.mp hu with rfl | hu
  ·rw [Wv r f.1]; exact Wu r rx f.1 fx
  ·exact tX rx fx t f.2 u' hu
def inV (x:V) (xs:List V):Bool:=xs.any fun y=>eqV y x
def rIn (K:FG7) (neg:Bool):R2:=fun x y H Q=>∃ p xs,y = .ref p /\ (SqL K H p xs \/ SqT K H p xs) /\ xy x = true /\ xs.all xy = true /\ Q (.bl (if neg then !inV x xs else inV x xs)) H
theorem Yi:OpR X (compareOp .In) (rIn X.K false):=by
 intro pins s σ H x y v u Q I rx ry h
 obtain ⟨p,xs,rfl,hq,fx,fs,q⟩:=h
 cases ry
 rcases hq with hq | hq
 ·obtain ⟨its,r,pl,hz⟩:=I.list hq
  refine SeqAt.in_listAt (eqU x) pl.isList (fun w hw=>tX rx fx r fs w (by simpa using hw)) ⟨.bl _,H,I,rfl,?_⟩
  rw [show its.toArray.any (eqU x) = its.any (eqU x) by simp,qH r fs]
  exact q
 ·obtain ⟨its,r,pl,hz⟩:=I.tuple hq
  refine SeqAt.in_tupleAt (eqU x) pl (fun w hw=>tX rx fx r fs w (by simpa using hw)) ⟨.bl _,H,I,rfl,?_⟩
  rw [show its.toArray.any (eqU x) = its.any (eqU x) by simp,qH r fs]
  exact q
theorem zk:xO X (.builtin "len") (fun xs H Q=>∃ p ys,xs = [.ref p] /\ (SqL X.K H p ys \/ SqT X.K H p ys) /\ Q (.int ys.length) H):=by
 intro pins s σ H xs us Q I r h
 obtain ⟨p,ys,rfl,hq,q⟩:=h
 obtain ⟨u,rfl,rx⟩:=wR r
 cases rx
 have hn:=sV
 rcases hq with hq | hq
 ·obtain ⟨its,r',pl,hz⟩:=I.list hq
  have hlen:=r'.length
  exact Calls.call_len_list pl.isList (by simp only [List.size_toArray] <;> omega) ⟨.int ys.length,H,I.tok _,⟨s.toks + 1,by rw [List.size_toArray,hlen]⟩,q⟩
 ·obtain ⟨its,r',pl,hz⟩:=I.tuple hq
  have hlen:=r'.length
  exact len_tuple pl (by simp only [List.size_toArray] <;> omega) ⟨.int ys.length,H,I.tok _,⟨s.toks + 1,by rw [List.size_toArray,hlen]⟩,q⟩
theorem z9:xO X (.type "tuple") (fun xs H Q=>∃ p ys,xs = [.ref p] /\ ((SqL X.K H p ys /\ ∀ l,H l = none -> Q (.ref l) (upd H l (.tup ys))) \/ (SqT X.K H p ys /\ Q (.ref p) H))):=by
 intro pins s σ H xs us Q I r h
 obtain ⟨p,ys,rfl,h⟩:=h
 obtain ⟨u,rfl,rx⟩:=wR r
 cases rx
 rcases h with ⟨hq,q⟩ | ⟨hq,q⟩
 ·obtain ⟨its,r',pl,hz⟩:=I.list hq
  have hlen:=r'.length
  refine call_tuple_list pl.isList (fun h' kp=>?_) (by simp only [List.size_toArray] <;> omega)
  have I1:Inv X pins σ H { s with heap:=h' }:=I.kept (t':=s.toks) kp
  have I2:Inv X pins σ (upd H h'.objs.size (.tup ys)) { s with heap:=h'.push { cls:=.type "tuple",data:=.seq its.toArray } } :=
   I1.laid (t':=s.toks) (fun b o e=>Heap.get?_push_of_some _ e) (Nat.le_refl _) (show yh X.prog X.w _ _ _ (.tup ys) from ⟨hz,its,r',IsTup.new _ _⟩)
  exact ⟨.ref h'.objs.size,_,I2,rfl,q _ (I1.hok.fresh (Nat.le_refl _))⟩
 ·obtain ⟨its,r',pl,hz⟩:=I.tuple hq
  exact call_tuple_same pl ⟨.ref p,H,I,rfl,q⟩
def tyV (K:FG7) (T:String) (x:V) (H:Hp):Prop:=match x with
 | .str _=>T = "str"
 | .int _=>T = "int"
 | .ref p=>(T = "list" /\ ∃ xs,SqL K H p xs) \/ (T = "tuple" /\ ∃ o,K.lookup p = some o /\ o.cls = .type "tuple" /\ o.dict = none) ∨
   (T = "dict" /\ ((∃ kvs,H p = some (.dK kvs)) \/ ∃ kvs,H p = some (.dT kvs))) \/ (T = "set" /\ ∃ S n,H p = some (.set S n))
 | _=>False
theorem Ww {pins:List (Addr × Obj)} {σ:St} {H:Hp} {s:Shared} {T:String} {x:V} {v:Value} (I:Inv X pins σ H s) (r:RelV x v) (ty:tyV X.K T x H) :
  s.TypeIs v T /\ ∀ a,v = .ref a -> ∃ ob,s.heap.get? a = some ob /\ ob.dict = none:=by
 cases x with
 | str z =>
  obtain ⟨t,rfl⟩:=r
  cases (show T = "str" from ty)
  exact ⟨typeIs_str s z t,fun _ e=>nomatch e⟩
 | int i =>
  obtain ⟨t,rfl⟩:=r
  cases (show T = "int" from ty)
  exact ⟨typeIs_int s i t,fun _ e=>nomatch e⟩
 | ref p =>
  cases r
  rcases ty with ⟨rfl,xs,hq⟩ | ⟨rfl,o,hk,hc,hd⟩ | ⟨rfl,hk⟩ | ⟨rfl,S,n,hk⟩
  ·obtain ⟨its,_,pl,_⟩:=I.list hq
   refine ⟨pl.isList.typeIs,fun a e=>?_⟩
   cases e
   obtain ⟨o,n,e,c,hd,_⟩:=pl
   exact ⟨o,e,hd⟩
  ·refine ⟨⟨o,I.kIn p o hk,hc⟩,fun a e=>?_⟩
   cases e
   exact ⟨o,I.kIn _ o hk,hd⟩
  ·have z:∃ o,s.heap.get? p = some o /\ o.ExactDict:=by
    rcases hk with ⟨kvs,hk⟩ | ⟨kvs,hk⟩
    ·obtain ⟨_,_,_,_,o,_,_,e,ex,_⟩:=I.hok p _ hk
     exact ⟨o,e,ex⟩
    ·obtain ⟨_,_,_,_,o,_,_,e,ex,_⟩:=I.hok p _ hk
     exact ⟨o,e,ex⟩
   obtain ⟨o,e,ex⟩:=z
   refine ⟨⟨o,e,ex.1⟩,fun a e2=>?_⟩
   cases e2
   exact ⟨o,e,ex.2.1⟩
  ·obtain ⟨o,_,_,_,e,ex,_⟩:=I.hok p _ hk
   refine ⟨⟨o,e,ex.1⟩,fun a e2=>?_⟩
   cases e2
   exact ⟨o,e,ex.2.1⟩
 | _=>exact False.elim ty
def tBM0 (K:FG7) (T:String) (r:V -> List V -> Hp -> VK -> Prop) (to:TE):TE:=fun σ H Q=>to σ H fun x H1=>tyV K T x H1 /\ r x [] H1 Q
def tBM (K:FG7) (T:String) (r:V -> List V -> Hp -> VK -> Prop) (to:TE) (t:TA):TE:=fun σ H Q=>to σ H fun x H1=>tyV K T x H1 /\ t σ H1 fun xs H2=>r x xs H2 Q
variable {o e:Expr} {es:List Expr} {to:TE} {t:TA} {name:Str} {apos cpos:Pos} {T id:String} {r:V -> List V -> Hp -> VK -> Prop}
theorem V1 (pa:PlainAttrs T) (slot:Slot T name id) (hty:typeOf (.builtin id) = pure (.type "method_descriptor")) (hm:MtR X id r) (ho:PE X o to)
  (hbase:attributeBase o name X.env (eval o X.env) = eval o X.env:=by rfl) (hline:(apos.endLine == cpos.line) = true:=by rfl):PE X (.Call (.Attribute o name apos) [] [] cpos) (tBM0 X.K T r to):=by
 intro pins s σ H Q I h
 refine wpAny_Call_method0_late hbase hline (thn (ho pins s σ H _ I h) fun v s1 ⟨x,H1,I1,r1,ty,q1⟩=>?_)
 obtain ⟨h1,h2⟩:=Ww I1 r1 ty
 exact ⟨T,id,pa,slot,hty,h1,h2,Calls.callWith_builtin rfl (PySem.evalArgs_none (hm pins s1 σ H1 x [] v [] Q I1 r1 .nil q1))⟩
theorem Zr (pa:PlainAttrs T) (slot:Slot T name id) (hty:typeOf (.builtin id) = pure (.type "method_descriptor")) (hm:MtR X id r) (ho:PE X o to) (ha:PA X (e :: es) t)
  (hbase:attributeBase o name X.env (eval o X.env) = eval o X.env:=by rfl)
  (hfew:((backTo cpos (starEach (e :: es) X.env)).all (fun x=>!x.1) && (backToKw cpos (keywordEach [] X.env)).all (fun x=>x.1.isSome)
   && decide ((e :: es).length + ([]:List Keyword).length + (if ([]:List Keyword).isEmpty then 0 else 1) < 30)) = true:=by rfl)
  (hline:(apos.endLine == cpos.line) = true:=by rfl) (hs:starEach (e :: es) X.env = (false,eval e X.env) :: starEach es X.env:=by rfl) (hplain:(backTo cpos (starEach es X.env)).any (·.1) = false:=by rfl) :
  PE X (.Call (.Attribute o name apos) (e :: es) [] cpos) (tBM X.K T r to t):=by
 intro pins s σ H Q I h
 refine wpAny_Call_method_late hbase hfew hline rfl (thn (ho pins s σ H _ I h) fun v s1 ⟨x,H1,I1,r1,ty,q1⟩=>?_)
 obtain ⟨h1,h2⟩:=Ww I1 r1 ty
 refine ⟨T,id,pa,slot,hty,h1,h2,?_⟩
 have hA:=ha cpos pins s1 σ H1 _ I1 q1
 rw [hs] at hA ⊢
 refine Calls.callWith_builtin (by show (false || (backTo cpos (starEach es X.env)).any (·.1)) = false; rw [hplain] <;> rfl) (Calls.evalArgs_plain ?_)
 exact thn hA fun us s2 ⟨vs,H2,I2,r2,q2⟩=>hm pins s2 σ H2 x vs v us Q I2 r1 r2 q2
end
end L2
namespace L2
open PySem PySem.Spec PyProof.Rows
def MtM (X:Cx) (id:String) (r:V -> List V -> Hp -> VK -> Prop):Prop :=
 ∀ (pins:List (Addr × Obj)) (s:Shared) (σ:St) (H:Hp) (x:V) (xs:List V) (v:Value) (us:List Value) (Q:VK),Inv X pins σ H s -> RelV x v -> Vals xs us -> r x xs H Q →
  wpAny (model X.prog X.w) X.A (call (.builtin id) (v :: us)) (EP X pins σ Q) X.xe s
theorem Vals.one:∀ {x:V} {us:List Value},Vals [x] us -> ∃ u,us = [u] /\ RelV x u
 | _,_,.cons r .nil=>⟨_,rfl,r⟩
theorem Vals.zero:∀ {us:List Value},Vals [] us -> us = []
 | _,.nil=>rfl
theorem Vals.dropLast {xs:List V} {us:List Value} (h:Vals xs us):Vals xs.dropLast us.dropLast:=by
 induction h with
 | nil=>exact .nil
 | cons r t ih =>
  cases t with
  | nil=>exact .nil
  | cons q t'=>exact .cons r ih
theorem Vals.eraseIdx:∀ {xs:List V} {us:List Value} (i:Nat),Vals xs us -> Vals (xs.eraseIdx i) (us.eraseIdx i)
 | _,_,_,.nil=>.nil
 | _,_,0,.cons _ t=>t
 | _,_,i + 1,.cons r t=>.cons r (Vals.eraseIdx i t)
theorem Vals.reverse {xs:List V} {us:List Value} (h:Vals xs us):Vals xs.reverse us.reverse:=by
 induction h with
 | nil=>exact .nil
 | cons r t ih=>rw [List.reverse_cons,List.reverse_cons]; exact Vals.append ih (.cons r .nil)
theorem Vals.rep {xs:List V} {us:List Value} (h:Vals xs us):∀ k:Nat,Vals (List.replicate k xs).flatten (List.replicate k us).flatten
 | 0=>.nil
 | k + 1=>by
  rw [List.replicate_succ,List.replicate_succ,List.flatten_cons,List.flatten_cons]
  exact Vals.append h (Vals.rep h k)
theorem Zs {α:Type} (l:List α):l.eraseIdx (l.length - 1) = l.dropLast:=by
 induction l with
 | nil=>rfl
 | cons a r ih =>
  cases r with
  | nil=>rfl
  | cons b r =>
   have e:(a :: b :: r).length - 1 = ((b :: r).length - 1) + 1:=by
    have h1:(a :: b :: r).length = r.length + 2:=rfl
    have h2:(b :: r).length = r.length + 1:=rfl
    omega
   rw [e,List.eraseIdx_cons_succ,ih]
   all_goals rfl
theorem uw (its:List Value):∀ (k:Nat) (acc:List Value),
  List.foldl (fun x1 x2=>x1 ++ x2) acc.toArray (List.replicate k its.toArray) = (acc ++ (List.replicate k its).flatten).toArray
 | 0,acc=>by simp
 | k + 1,acc=>by
  have e:acc.toArray ++ its.toArray = (acc ++ its).toArray:=by simp
  have e2:(acc ++ its) ++ (List.replicate k its).flatten = acc ++ (List.replicate (k + 1) its).flatten:=by
   rw [List.replicate_succ,List.flatten_cons,List.append_assoc]
  rw [← e2,← uw its k (acc ++ its),← e,List.replicate_succ,List.foldl_cons]
section
variable {X:Cx} {pins:List (Addr × Obj)} {σ:St} {H:Hp} {s:Shared} {l b:Addr} {xs ys zs:List V}
theorem Inv.lset {its its':List Value} {n:Nat} {f:Array Value -> Array Value} {t':Nat} (I:Inv X pins σ H s) (hH:H l = some (.lst xs))
  (e:s.heap.get? l = some { cls:=.type "list",data:=.seq its.toArray n }) (hf:f its.toArray = its'.toArray) (hv:Vals ys its') (hz:ys.length <= sizeLine) :
  Inv X pins σ (upd H l (.lst ys)) { s with heap:=s.heap.update l (Obj.mapSeq f),toks:=t' }:=by
 have q:=PySem.IsL.update e f
 rw [hf] at q
 refine I.write (x:=l) (e:=l) (by rw [hH]; exact trivial) (.inl rfl) (fun b' u hb hu=>(Heap.get?_update_other s.heap (Obj.mapSeq f) (Ne.symm hb)).trans hu) ⟨_,q⟩ ?_
 exact ⟨hz,its',_,hv,q⟩
theorem Inv.lnew {its:List Value} {t':Nat} (I:Inv X pins σ H s) (hv:Vals ys its) (hz:ys.length <= sizeLine) :
  Inv X pins σ (upd H s.heap.objs.size (.lst ys)) { s with heap:=s.heap.push { cls:=.type "list",data:=.seq its.toArray },toks:=t' } :=
 I.laid (fun _ _ q=>Heap.get?_push_of_some _ q) (Nat.le_refl _) ⟨hz,its,0,hv,Heap.get?_push_size _ rfl⟩
theorem Inv.fresh (I:Inv X pins σ H s):H s.heap.objs.size = none:=I.hok.fresh (Nat.le_refl _)
theorem Inv.lstM (I:Inv X pins σ H s) (hH:H l = some (.lst xs)):xs.length <= sizeLine /\ ∃ (its:List Value) (n:Nat),Vals xs its /\ xs.length = its.length /\ s.heap.get? l = some { cls:=.type "list",data:=.seq its.toArray n }:=by
 obtain ⟨z,its,n,r,e⟩:=I.hok l _ hH
 exact ⟨z,its,n,r,r.length,e⟩
theorem XA {n:Nat} (h:n <= sizeLine):Builtin.List.listTooLong n = false:=by
 unfold Builtin.List.listTooLong
 exact decide_eq_false (by omega)
end
section
variable {X:Cx}
def W3:V -> List V -> Hp -> VK -> Prop:=fun x vs H Q=>∃ l xs y,x = .ref l /\ vs = [y] /\ H l = some (.lst xs) /\ xs.length < sizeLine /\ Q .non (upd H l (.lst (xs ++ [y])))
theorem wT:MtM X "list.append" W3:=by
 intro pins s σ H x vs v us Q I rx rv h
 obtain ⟨l,xs,y,rfl,rfl,hH,hz,q⟩:=h
 cases rx
 obtain ⟨u,rfl,ru⟩:=rv.one
 obtain ⟨z,its,n,r,hl,e⟩:=I.lstM hH
 refine call_meets F.slot_list_append ⟨_,e,rfl⟩ F.entry_list_append (F.args_list_append_2 _ _) (PySem.list_append l its.toArray n u (by rw [List.size_toArray]; omega)) ⟨e,?_⟩
 refine ⟨.non,_,I.lset (its':=its ++ [u]) hH e (by simp) (r.append (.cons ru .nil)) ?_,rfl,q⟩
 rw [List.length_append,List.length_singleton]
 omega
def rPop:V -> List V -> Hp -> VK -> Prop:=fun x vs H Q=>∃ l xs y,x = .ref l /\ vs = [] /\ H l = some (.lst xs) /\ xs[xs.length - 1]? = some y /\ Q y (upd H l (.lst xs.dropLast))
theorem V2:MtM X "list.pop" rPop:=by
 intro pins s σ H x vs v us Q I rx rv h
 obtain ⟨l,xs,y,rfl,rfl,hH,hy,q⟩:=h
 cases rx
 have hus:=rv.zero
 subst hus
 obtain ⟨z,its,n,r,hl,e⟩:=I.lstM hH
 obtain ⟨u,hu,ru⟩:=r.get hy
 have hy':its.toArray[its.toArray.size - 1]? = some u:=by
  show its.toArray[its.length - 1]? = some u
  rw [← Array.getElem?_toList,← hl]
  exact hu
 refine call_meets F.slot_list_pop ⟨_,e,rfl⟩ F.entry_list_pop (F.args_list_pop_1 _) (MeetsSeq.list_pop_last l its.toArray n u hy' (by rw [List.size_toArray]; omega)) ⟨e,?_⟩
 refine ⟨y,_,I.lset (its':=its.dropLast) hH e ?_ r.dropLast ?_,ru,q⟩
 ·show its.toArray.eraseIdxIfInBounds (its.toArray.size - 1) = its.dropLast.toArray
  rw [List.size_toArray,List.eraseIdxIfInBounds_toArray,Zs]
 ·rw [List.length_dropLast]
  omega
def rCat:R2:=fun x y H Q=>∃ l b xs zs,x = .ref l /\ y = .ref b /\ H l = some (.lst xs) /\ H b = some (.lst zs) /\ xs.length + zs.length <= sizeLine /\ ∀ p,H p = none -> Q (.ref p) (upd H p (.lst (xs ++ zs)))
theorem V3:OpR X (binaryOp .Add) rCat:=by
 intro pins s σ H x y v u Q I rx ry h
 obtain ⟨l,b,xs,zs,rfl,rfl,hH,hB,hz,q⟩:=h
 cases rx
 cases ry
 obtain ⟨z,its,n,r,hl,e⟩:=I.lstM hH
 obtain ⟨z2,its2,n2,r2,hl2,e2⟩:=I.lstM hB
 refine PySem.P.add_list e e2 ?_ (by rw [List.size_toArray,List.size_toArray]; omega)
 have ea:its.toArray ++ its2.toArray = (its ++ its2).toArray:=by simp
 rw [ea]
 exact ⟨.ref _,_,I.lnew (t':=s.toks) (r.append r2) (by rw [List.length_append]; omega),rfl,q _ I.fresh⟩
def rRep:R2:=fun x y H Q=>∃ l k xs,x = .ref l /\ y = .int k /\ H l = some (.lst xs) /\ -(2 ^ 63) <= k /\ k < 2 ^ 63 /\ xs.length * k.toNat <= sizeLine ∧
 ∀ p,H p = none -> Q (.ref p) (upd H p (.lst (List.replicate k.toNat xs).flatten))
theorem qI {α:Type} (xs:List α) (k:Nat):(List.replicate k xs).flatten.length = k * xs.length:=by
 induction k with
 | zero=>simp
 | succ k ih=>rw [List.replicate_succ,List.flatten_cons,List.length_append,ih,Nat.succ_mul,Nat.add_comm]
theorem V4:OpR X (binaryOp .Mult) rRep:=by
 intro pins s σ H x y v u Q I rx ry h
 obtain ⟨l,k,xs,rfl,rfl,hH,h1,h2,hz,q⟩:=h
 cases rx
 obtain ⟨t,rfl⟩:=ry
 obtain ⟨z,its,n,r,hl,e⟩:=I.lstM hH
 have hlen:its.toArray.size * k.toNat <= sizeLine:=by rw [List.size_toArray,← hl]; exact hz
 have hcap:¬ its.toArray.size * k.toNat > (2 ^ 63 - 1) / 8:=by
  have:(sizeLine:Nat) <= (2 ^ 63 - 1) / 8:=by decide
  omega
 have hfit:¬ (!Builtin.List.listFitsIndex k) = true:=by
  rw [fitsIndex_both h1 h2]
  exact Bool.false_ne_true
 have hlong:¬ Builtin.List.listTooLong (its.toArray.size * k.toNat) = true:=by
  rw [XA hlen]
  exact Bool.false_ne_true
 have hnew:List.foldl (fun x1 x2=>x1 ++ x2) #[] (List.replicate (if its.toArray.isEmpty = true then 0 else k.toNat) its.toArray) = (List.replicate k.toNat its).flatten.toArray:=by
  have f0:∀ m:Nat,List.foldl (fun x1 x2=>x1 ++ x2) #[] (List.replicate m its.toArray) = (List.replicate m its).flatten.toArray:=fun m=>by
   have:=uw its m []
   rw [List.nil_append] at this
   exact this
  rw [f0]
  cases its with
  | nil=>simp
  | cons a r'=>rw [if_neg (by simp)]
 refine wpAny_binaryOp_repeat_ref (T:="list") (U:="int") (by decide) ⟨_,e,rfl⟩ (fun s'=>typeIs_int s' k t) noFill_list_mul F.fills_int_mul F.slot_int_rmul repeat_list F.slot_int_index.lookup
  (call_meets F.slot_int_rmul (typeIs_int s k t) F.entry_int_rmul (F.args_int_rmul_2 _ _) (int___rmul___int_list k t l its.toArray n)
   ⟨e,rfl,⟨_,e,rfl⟩,call_meets F.slot_list_mul ⟨_,e,rfl⟩ F.entry_list_mul (F.args_list_mul_2 _ _) (AutoListH.list___mul___list_int_3 l its.toArray n k t hfit hcap hlong) ⟨e,?_⟩⟩)
 rw [hnew]
 exact ⟨.ref _,_,I.lnew (t':=s.toks) (r.rep k.toNat) (by rw [qI,Nat.mul_comm]; exact hz),rfl,q _ I.fresh⟩
end
end L2
namespace Att
open PySem PySem.W PySem.Calls PyProof.Rows
theorem ux {P:Params} {h:Heap}:∀ (ns:List Int) (vs:List Value),WellAll P h vs (ns.map WData.int) -> IntsAre vs ns:=by
 intro ns
 induction ns with
 | nil =>
  intro vs w
  rw [List.map_nil] at w
  cases w
  exact .nil
 | cons n ns ih =>
  intro vs w
  rw [List.map_cons] at w
  cases w with
  | cons a b =>
   cases a
   exact .cons _ _ (ih _ b)
theorem Yj {l:OpenLaw} {n:Nat} (hn:l.most = some n) {P:Params} {h:Heap} {args:List WData} {vals:List Value}
  (hpre:l.row.toRowW.claim.pre args = true) (hwl:WellAll P h vals args) :
  ∃ a vs ns,vals = [Value.ref a] /\ args = [WData.list (ns.map WData.int)] /\ h.get? a = some { cls:=.type "list",data:=.seq vs.toArray } /\ IntsAre vs ns /\ ns.length <= n:=by
 have hsh:WShape.hasAll [] args [.list .int] = true:=(pre_splitW hpre).1
 have hc:l.pre.holds [] { args:=args } = true:=(pre_splitW hpre).2
 obtain ⟨d,r,rfl,h1,h2⟩:=hasAllW_cons hsh
 obtain rfl:=hasAllW_nil h2
 obtain ⟨xs,rfl,h3⟩:=hasW_list h1
 obtain ⟨ns,rfl⟩:=items_int h3
 have hlen:ns.length <= n:=by
  unfold OpenLaw.pre at hc
  have h4:(WTm.not (.lt (.lit (.int (n:Int))) (.len (.arg 0)))).holds [] { args:=[.list (ns.map .int)] } = true:=by
   have h4:=(holds_andW hc).1
   rw [hn] at h4
   exact h4
  have h5:=condW_of h4 (w_not (w_lt w_lit (w_len_list (w_arg rfl))))
  rw [List.length_map] at h5
  refine Nat.le_of_not_lt fun q=>?_
  have q':(n:Int) < ((ns.length:Nat):Int):=by omega
  first
   | (rw [decide_eq_true q'] at h5; exact absurd h5 (by decide))
   | (simp at h5; omega)
 cases hwl with
 | cons w1 w2 =>
  cases w2
  cases w1 with
  | list ho hall=>exact ⟨_,_,ns,rfl,rfl,ho,ux ns _ hall,hlen⟩
theorem Yk (l:OpenLaw) (args:List WData):l.row.toRowW.claim.post args (.bool true) args = true :=
 postW_of (r:=l.row.toRowW) (X:=(true == true))
  (show WShape.has [] (.bool true) .bool = true by first | rfl | decide | simp [WShape.has,WShape.arms,WShape.armsAll])
  (show (WTm.eq .res (.lit (.bool true))).value [] { args:=args,res:=some (.bool true),after:=args } = some (.bool (true == true)) from w_eq_bool (w_res rfl) w_lit) rfl
theorem attach_call {l:OpenLaw} {n:Nat} {q:Program} {loose:List Str} {XP:(Str -> Option Value) -> Heap -> Prop} {YP:World -> Heap -> Prop} {d:DefRec}
  (hn:l.most = some n) (hdf:d.params.defaults = [])
  (call:∀ (w:World) (s₀ s₁:Shared) (mg mb:Str -> Option Value) (fa:Addr) (o:Obj) (pm cd doc:Value) (a:Addr) (vs:List Value) (ns:List Int),
   Ground q loose [] XP w s₀ mg mb s₁.heap -> YP w s₁.heap →
   s₁.heap.get? fa = some o -> o.data = .func (docDef d.name d.params d.body d.scope pm cd doc) -> s₁.heap.CodeRec cd d.name -> mg d.name = some (.ref fa) →
   s₁.heap.get? a = some { cls:=.type "list",data:=.seq vs.toArray } -> IntsAre vs ns -> ns.length <= n -> s₁.gens = #[] →
   codeAny (model l.prog w) callerA (.call (.ref fa) ⟨[.ref a],[]⟩) (fun r s'=>r = .ok (.ret (.bool true)) /\ OldK s₁.heap s'.heap /\ s'.os = s₁.os /\ AllBare s'.gens) s₁) :
  WalkO q loose XP YP l.row.toRowW d [] (fun f vs=>PySem.call f vs):=by
 intro w s₀ s₁ mg mb G Y fa o pm cd doc dV kV ho hd hcd hD hmg hg args vals as hpre hlay hrd hwl hlo
 obtain rfl:dV = .none:=Dflts.none hD hdf
 obtain rfl:kV = .none:=Dflts.noKw hD
 obtain ⟨a,vs,ns,rfl,rfl,hobj,hints,hlen⟩:=Yj hn hpre hwl
 refine enter_call (codeAny_mono (call w s₀ s₁ mg mb fa o pm cd doc a vs ns G Y ho (fd_plain hd) hcd hmg hobj hints hlen hg) fun r s' hq=>?_)
 obtain ⟨rfl,h2,h3,h4⟩:=hq
 exact ⟨.inl ⟨.bool true,.bool true,[],rfl,fun _=>rfl,.bool true,Yk l _,fun _=>⟨List.Pairwise.nil,fun _ hm=>(nomatch hm)⟩⟩,h2,h3,h4⟩
end Att
namespace L2
open PySem PySem.Spec PyProof.Rows
theorem uy:∀ {vs:List Value} {ns:List Int},IntsAre vs ns -> Vals (ns.map V.int) vs
 | _,_,.nil=>.nil
 | _,_,.cons n t h=>.cons ⟨t,rfl⟩ (uy h)
def Only (H:Hp):Prop:=∀ b,H b = none \/ ∃ o xs,H b = some (.frz o (.lst xs))
theorem XB {P:Program} {w:World} {K:FG7} {mg mb:Str -> Option Value} {CX:CXT} {k:Nat} {fa a:Addr} {fd:FuncData} {x:Str} {sp:Sp} {s₁:Shared} {vs:List Value} {ns:List Int}
  (KX:K.In s₁.heap) (hns:s₁.heap.Ns mainGlobals mg) (hb:s₁.heap.Ns builtinsNs mb) (hbb:∀ x:Str,x ≠ "__name__" -> mb x = bootBuiltins x) (hlim:s₁.heap.NoLimit) (hg:s₁.gens = #[])
  (ha:s₁.heap.get? a = some { cls:=.type "list",data:=.seq vs.toArray }) (hi:IntsAre vs ns) (hl:ns.length <= sizeLine) (hr:Room k callerA)
  (F:∀ base:Heap,K.In base -> base.Ns mainGlobals mg -> FnOk P w K mg base CX k fa fd [x] sp) (hbind:∀ (s:Shared) (u:Value),BindsTo s fd ⟨[u],[]⟩ [(x,u)])
  (hsp:∀ H:Hp,Only H -> SqL K H a (ns.map V.int) -> sp [.ref a] H (fun v _=>v = .bl true) fun _ _ _=>False)
  (hCX:∀ H e s',CX [] H s₁ (fun _ _ _=>False) e s' -> False) :
  codeAny (model P w) callerA (.call (.ref fa) ⟨[.ref a],[]⟩) (fun r s'=>r = .ok (.ret (.bool true)) /\ OldK s₁.heap s'.heap /\ s'.os = s₁.os /\ AllBare s'.gens) s₁:=by
 have rv:=uy hi
 have lenV:=hi.length
 -- from an abstract heap in which nothing but the script may be tracked
 have core:∀ H:Hp,Only H -> SqL K H a (ns.map V.int) -> HOk P w H s₁.heap -> (∀ b,H b ≠ none -> b = a) -> (H a ≠ none -> K.lookup a = none) →
   codeAny (model P w) callerA (.call (.ref fa) ⟨[.ref a],[]⟩) (fun r s'=>r = .ok (.ret (.bool true)) /\ OldK s₁.heap s'.heap /\ s'.os = s₁.os /\ AllBare s'.gens) s₁:=by
  intro H hO hS hok hA hK
  have base_of:∀ {b:Addr} {o:Obj},s₁.heap.get? b = some o -> H b = none -> (hidT s₁.heap H).get? b = some o:=fun e n=>Xt e n
  have noA:∀ {b:Addr} {o:Obj} {es:Array DictEntry} {ep:Nat},s₁.heap.get? b = some o -> o.data = .dict es ep -> H b = none:=fun {b o es ep} e d=>by
   cases q:H b with
   | none=>rfl
   | some u =>
    have e':b = a:=hA b (by rw [q]; simp)
    subst e'
    rw [ha] at e; cases e
    have d':Data.seq vs.toArray _ = Data.dict es ep:=d
    cases d'
  have nsK:∀ {b:Addr} {m:Str -> Option Value},s₁.heap.Ns b m -> (hidT s₁.heap H).Ns b m:=fun {b m} ⟨o,es,ep,e,d,r⟩=>⟨o,es,ep,base_of e (noA e d),d,r⟩
  have hKb:K.In (hidT s₁.heap H):=fun b o e=>base_of (KX b o e) (by
   cases q:H b with
   | none=>rfl
   | some u =>
    have e':b = a:=hA b (by rw [q]; simp)
    subst e'
    rw [hK (by rw [q]; simp)] at e; cases e)
  have hM:Mod K mg (hidT s₁.heap H):=⟨hKb,nsK hns,⟨mb,nsK hb,hbb⟩,let ⟨mc,h1,h2⟩:=hlim; ⟨mc,nsK h1,h2⟩⟩
  have e0:Env0 P w K mg (hidT s₁.heap H) callerA [] s₁ H:=⟨rfl,hM,fun b o e=>WU e,Nat.le_of_eq (ZZ _ _),trivial,fun b hb=>absurd (show b ∈ ([]:List Addr) from hb) (by simp),hok,.of_eq hg⟩
  refine codeAny_mono ((F _ hKb (nsK hns)).run callerA [] s₁ H ⟨[.ref a],[]⟩ [.ref a] [.ref a] _ _ hr e0 (hbind s₁ (.ref a)) (.cons rfl .nil) (hsp H hO hS)) fun r s' h=>?_
  cases r with
  | error e=>exact (hCX H e s' h).elim
  | ok fl =>
   cases fl with
   | next=>exact False.elim h
   | brk=>exact False.elim h
   | cont=>exact False.elim h
   | ret u =>
    obtain ⟨v,H',os,bare,un,hok',r',q⟩:=h
    have q':v = .bl true:=q
    subst q'
    obtain rfl:u = Value.bool true:=r'
    refine ⟨rfl,OldK.of_keep fun b o e=>?_,os,bare⟩
    cases q:H b with
    | none=>exact un.keep b o e q (by intro z; exact absurd (show b ∈ ([]:List Addr) from z) (by simp)) (by simp)
    | some u =>
     rcases hO b with z | ⟨ob,xs,z⟩
     ·rw [q] at z; cases z
     ·have z2:=un.frzs b ob _ z
      obtain ⟨e1,_⟩:=hok b _ z
      obtain ⟨e2,_⟩:=hok' b _ z2
      rw [e] at e1; cases e1
      exact e2
 cases hk:K.lookup a with
 | some o =>
  -- the script is one of the module's own objects
  have e:=KX a o hk
  rw [ha] at e
  cases e
  refine core (fun _=>none) (fun _=>.inl rfl) (.inr ⟨_,vs.toArray,_,hk,rfl,rfl,rfl,by rw [List.size_toArray,lenV]; exact hl,by simpa using rv⟩) (fun b u z=>by have z':(none:Option HO) = some u:=z; cases z') (fun b z=>absurd rfl z) fun z=>absurd rfl z
 | none =>
  refine core (fun b=>if b = a then some (.frz { cls:=.type "list",data:=.seq vs.toArray } (.lst (ns.map V.int))) else none) (fun b=>?_) (.inl (.inr ⟨{ cls:=.type "list",data:=.seq vs.toArray },if_pos rfl⟩)) (fun b u z=>?_) (fun b z=>?_) fun _=>hk
  ·by_cases hb:b = a
   ·exact .inr ⟨_,_,if_pos hb⟩
   ·exact .inl (if_neg hb)
  ·by_cases hb:b = a
   ·have z':=(if_pos hb).symm.trans z
    cases z'
    subst hb
    exact ⟨ha,by rw [List.length_map]; exact hl,vs,_,rv,ha⟩
   ·have z':=(if_neg hb).symm.trans z
    cases z'
  ·by_cases hb:b = a
   ·exact hb
   ·exact absurd (if_neg hb) z
end L2
namespace L2
open PySem PySem.Spec PyProof.Rows
theorem walk_of {l:PySem.W.OpenLaw} {n k:Nat} {q:Program} {loose:List Str} {XP:(Str -> Option Value) -> Heap -> Prop} {YP:World -> Heap -> Prop} {d:DefRec} {K:Params -> FG7} {CX:World -> CXT} {sp:World -> Sp} {x:Str}
  (hn:l.most = some n) (hn2:n <= sizeLine) (hdf:d.params.defaults = []) (hr:Room k callerA)
  (hY:∀ (w:World) (h:Heap),YP w h -> (K w.params).In h)
  (F:∀ (w:World) (mg:Str -> Option Value) (fa:Addr) (h:Heap),(K w.params).In h -> h.Ns mainGlobals mg -> mg d.name = some (.ref fa) →
   ∃ fd:FuncData,(∀ (s:Shared) (u:Value),BindsTo s fd ⟨[u],[]⟩ [(x,u)]) ∧
    ∀ base:Heap,(K w.params).In base -> base.Ns mainGlobals mg -> FnOk l.prog w (K w.params) mg base (CX w) k fa fd [x] (sp w))
  (hsp:∀ (w:World) (H:Hp) (a:Addr) (ns:List Int),ns.length <= n -> Only H -> SqL (K w.params) H a (ns.map V.int) -> sp w [.ref a] H (fun v _=>v = .bl true) fun _ _ _=>False)
  (hCX:∀ (w:World) (H:Hp) (s:Shared) (e:Value) (s':Shared),CX w [] H s (fun _ _ _=>False) e s' -> False) :
  PySem.W.WalkO q loose XP YP l.row.toRowW d [] (fun f vs=>PySem.call f vs):=by
 refine Att.attach_call hn hdf fun w s₀ s₁ mg mb fa o pm cd doc a vs ns G Y ho hd hcd hmg hobj hints hlen hg=>?_
 have KX:=hY w _ Y
 obtain ⟨fd,hb,hF⟩:=F w mg fa _ KX G.T.g hmg
 exact XB KX G.T.g G.T.b G.T.builtins G.T.nolimit hg hobj hints (Nat.le_trans hlen hn2) hr hF hb (fun H hO hS=>hsp w H a ns hlen hO hS) fun H e s'=>hCX w H s₁ e s'
end L2
namespace L2
open PySem PySem.Spec PyProof.Rows
def uz (s:Stmt):Arguments:=match s with
 | .FunctionDef _ a _ _ _ _ _ _ _ _=>a
 | _=>{ posonlyargs:=[],args:=[],vararg:=none,kwonlyargs:=[],kw_defaults:=[],kwarg:=none,defaults:=[] }
def xR (s:Stmt):List Stmt:=match s with
 | .FunctionDef _ _ b _ _ _ _ _ _ _=>b
 | _=>[]
def zg (s:Stmt):Scope:=match s with
 | .FunctionDef _ _ _ _ _ _ sc _ _ _=>sc
 | _=>{ kind:=.function,names:=[],isGenerator:=false,isCoroutine:=false }
abbrev CX0:CXT:=fun _ _ _ _ _ _=>False
abbrev E0:XK:=fun _ _ _=>False
theorem UP {X:Cx}:uu CX0 X E0:=fun _ _ _ _ _ _ _ h=>h.elim
structure Fun (K:FG7) (x qual:Str) (st:Stmt) (f:Addr) (fd:FuncData):Prop where
 ex:∃ (oc:Value) (od:Option Addr) (kV doc pm:Value) (an:Option Addr) (cdv ct:Value) (osl:Array (Option Value)),
  fd = PySem.W.fnOf x qual (uz st) (xR st) (zg st) .none kV doc pm an cdv ct /\ K.lookup f = some ⟨oc,od,.func fd,osl⟩ /\ PySem.W.codeIn K cdv qual = true
 kp:PySem.W.keepIn K (.ref f) = true
section
variable {P:Program} {w:World} {K:FG7} {mg:Str -> Option Value} {base:Heap}
theorem Fun.ok {x qual:Str} {st:Stmt} {f:Addr} {fd:FuncData} {N ps:List Str} {k:Nat} {sp:Sp} (F:Fun K x qual st f fd) (S:FnScope N ps (zg st)) (len:∀ vs H Q E,sp vs H Q E -> vs.length = ps.length)
  (hbody:∀ (cdv:Value) (A:Around) (outer:List Env) (s:Shared) (H:Hp) (vs:List V) (Q:VK) (E:XK),Room k (A.deeper (envOfC qual (zg st) s.heap.objs.size f cdv)) -> sp vs H Q E →
   ∃ t,PSs (cxOf CX0 P w K mg base N qual (zg st) f cdv A outer s H E).nox (xR st) t /\ t { nx:=fun _ H'=>Q .non H',rt:=Q } (start N vs) H):FnOk P w K mg base CX0 (k + 1) f fd ps sp:=by
 obtain ⟨oc,od,kV,doc,pm,an,cdv,ct,osl,rfl,lk,hcd⟩:=F.ex
 refine VY lk hcd S len fun A outer s H vs Q E hr hsp=>?_
 obtain ⟨t,h,q⟩:=hbody cdv A outer s H vs Q E hr hsp
 exact ⟨t,h.nox,q⟩
theorem Fun.binds {x qual:Str} {st:Stmt} {f:Addr} {fd:FuncData} {ps:List Str} (F:Fun K x qual st f fd)
  (h:∀ (kV doc pm:Value) (an:Option Addr) (cdv ct:Value) (us:List Value),us.length = ps.length -> bindArgs (PySem.W.fnOf x qual (uz st) (xR st) (zg st) .none kV doc pm an cdv ct) ⟨us,[]⟩ = pure (ps.zip us)):vn K fd ps []:=by
 obtain ⟨oc,od,kV,doc,pm,an,cdv,ct,osl,rfl,lk,hcd⟩:=F.ex
 exact .all (h kV doc pm an cdv ct)
theorem fun_mk {x qual:Str} {st:Stmt} {f:Addr} {oc:Value} {od an:Option Addr} {osl:Array (Option Value)} {kV doc pm cdv ct:Value} (l:K.lookup f = some ⟨oc,od,.func (PySem.W.fnOf x qual (uz st) (xR st) (zg st) .none kV doc pm an cdv ct),osl⟩)
  (c:PySem.W.codeIn K cdv qual = true) (k:PySem.W.keepIn K (.ref f) = true):Fun K x qual st f (PySem.W.fnOf x qual (uz st) (xR st) (zg st) .none kV doc pm an cdv ct):=⟨⟨oc,od,kV,doc,pm,an,cdv,ct,osl,rfl,l,c⟩,k⟩
end
theorem zn {n:Nat} (h:n <= 1000):n < sizeLine:=Nat.lt_of_le_of_lt h (by decide)
section
variable {X:Cx}
theorem pv (i:Nat) {x:Str} {pos:Pos} (hN:X.N[i]? = some x:=by rfl) (hv:Vis X.env.scope x:=by first | exact Or.inl rfl | exact Or.inr (Or.inl rfl) | exact Or.inr (Or.inr rfl)) (hd:(x == ("__debug__":Str)) = false:=by decide)
  (hcd:(x == ("__classdict__":Str)) = false:=by decide):PE X (.Name x pos) (tVar i):=VO hN hv hd hcd
end
theorem iteF {A B:Prop} (h:B):if false = true then A else B:=by
 rw [if_neg Bool.false_ne_true]
 exact h
theorem iteT {A B:Prop} (h:A):if true = true then A else B:=by
 rw [if_pos rfl]
 exact h
theorem ite2 {c A B:Prop} [Decidable c] (h1:c -> A) (h2:¬ c -> B):if c then A else B:=by
 by_cases h:c
 ·rw [if_pos h]
  exact h1 h
 ·rw [if_neg h]
  exact h2 h
def Same (H H':Hp):Prop:=∀ b o,H b = some o -> H' b = some o
theorem Same.refl (H:Hp):Same H H:=fun _ _ h=>h
theorem Same.trans {H H1 H2:Hp} (a:Same H H1) (b:Same H1 H2):Same H H2:=fun c o h=>b c o (a c o h)
theorem Same.free {H H':Hp} (e:Same H H') {l:Addr} (h:H' l = Option.none):H l = Option.none:=by
 cases q:H l with
 | none=>rfl
 | some o =>
  rw [e l o q] at h
  cases h
theorem Same.seq {K:FG7} {H H':Hp} {a:Addr} {xs:List V} (e:Same H H') (h:SqL K H a xs):SqL K H' a xs:=by
 rcases h with (h | ⟨o,h⟩) | h
 ·exact .inl (.inl (e _ _ h))
 ·exact .inl (.inr ⟨o,e _ _ h⟩)
 ·exact .inr h
end L2
namespace L3
open PySem PySem.Spec PyProof.Rows L2
theorem UQ:bootBuiltins "abs" = some (.builtin "abs"):=by decide +kernel
theorem yd:bootBuiltins "len" = some (.builtin "len"):=by decide +kernel
theorem XC:bootBuiltins "max" = some (.builtin "max"):=by decide +kernel
theorem UR:bootBuiltins "min" = some (.builtin "min"):=by decide +kernel
theorem zt:bootBuiltins "isinstance" = some (.builtin "isinstance"):=by decide +kernel
theorem tY:bootBuiltins "all" = some (.builtin "all"):=by decide +kernel
theorem XD:bootBuiltins "int" = some (.type "int"):=by decide +kernel
theorem Wx:bootBuiltins "bool" = some (.type "bool"):=by decide +kernel
theorem zS:bootBuiltins "tuple" = some (.type "tuple"):=by decide +kernel
theorem Wy:bootBuiltins "list" = some (.type "list"):=by decide +kernel
def TyV (K:FG7) (H:Hp) (x:V) (T:String):Prop:=match x with
 | .non=>T = "NoneType"
 | .bl _=>T = "bool"
 | .int _=>T = "int"
 | .str _=>T = "str"
 | .ref a=>(T = "tuple" /\ ∃ xs,SqT K H a xs) \/ (T = "list" /\ ∃ xs,SqL K H a xs) \/ (T = "dict" /\ ∃ kvs,H a = some (.dK kvs))
 | _=>False
section
variable {X:Cx} {a b c:Expr} {ta tb tc:TE} {pos:Pos}
def rIsi (K:FG7):List V -> Hp -> VK -> Prop:=fun xs H Q=>∃ x T t k,xs = [x,.ty T] /\ TyV K H x t /\ PySem.W.kitOne K (.type t) (.type T) = some k /\ Q (.bl k) H
theorem we:xO X (.builtin "isinstance") (rIsi X.K):=by
 intro pins s σ H xs us Q I r h
 obtain ⟨x,T,t,k,rfl,ty,e,q⟩:=h
 obtain ⟨u,w',rfl,rx,rt⟩:=Ya r
 cases (show w' = Value.type T from rt)
 have fin:∀ tk,EP X pins σ Q (.bool k) { s with toks:=tk }:=fun tk=>⟨.bl k,H,I.tok _,rfl,q⟩
 cases x with
 | non=>cases (show t = "NoneType" from ty); exact xP I rx .non e fin
 | bl y=>cases (show t = "bool" from ty); exact xP I rx (.bl y) e fin
 | int i=>cases (show t = "int" from ty); exact xP I rx (.int i) e fin
 | str y=>cases (show t = "str" from ty); exact xP I rx (.str y) e fin
 | byt y=>exact ty.elim
 | flt y=>exact ty.elim
 | ty y=>exact ty.elim
 | ref a =>
  cases (show u = Value.ref a from rx)
  rcases ty with ⟨rfl,xs,hq⟩ | ⟨rfl,xs,hq⟩ | ⟨rfl,kvs,hq⟩
  ·obtain ⟨its,_,⟨o,h1,h2,_⟩,_⟩:=I.tuple hq
   exact PySem.W.kia_one PySem.W.kitx_tuple I.kIn ⟨o,h1,h2⟩ e (fun z=>nomatch z) fin
  ·obtain ⟨its,_,pl,_⟩:=I.list hq
   obtain ⟨o,h1,h2,_⟩:=pl.isList
   exact PySem.W.kia_one PySem.W.kitx_list I.kIn ⟨o,h1,h2⟩ e (fun z=>nomatch z) fin
  ·exact xP (x:=V.ref a) I (show RelV (.ref a) (.ref a) from rfl) (.dK hq) e fin
theorem yM {x:Str} {T:String} {pos:Pos} (hg:Gl X x) (hm:X.mg x = none) (hv:bootBuiltins x = some (.type T)) (hn:x ≠ "__name__":=by decide) (hd:(x == ("__debug__":Str)) = false:=by decide):PE X (.Name x pos) (tC (.ty T)) :=
 WW hg hm hv (show RelV (.ty T) (Value.type T) from rfl) hn hd
theorem Yl:OpR X (binaryOp .Mult) (rI IntMulOk fun i j=>.int (i * j)):=opI fun _ _ _ _ _ _ _ hc q=>mul_int q hc
def W4 (i j:Int):Prop:=0 < j /\ j < 2 ^ 200
theorem W4.py {i j:Int} (h:W4 i j):Builtin.divisionGoesByPylong i j = false:=by
 refine PyProof.noPylong_of_log2 ?_
 obtain ⟨h1,h2⟩:=h
 have h0:j.natAbs ≠ 0:=by omega
 have h3:j.natAbs < 2 ^ 200:=by
  have:(j.natAbs:Int) = j:=by omega
  have h4:((j.natAbs:Nat):Int) < ((2 ^ 200:Nat):Int):=by rw [this]; exact h2
  exact Int.ofNat_lt.mp h4
 exact Nat.lt_of_lt_of_le ((Nat.log2_lt h0).mpr h3) (by decide)
theorem jO:OpR X (binaryOp .FloorDiv) (rI W4 fun i j=>.int (i / j)):=opI fun i j _ _ _ _ _ hc q=>by
 have:=hc.1
 refine floordiv_int (by omega) ?_ (.inl hc.py)
 rw [Int.fdiv_eq_ediv_of_nonneg i (by omega)]
 exact q
def RepI (i:Int):Prop:=i.natAbs.log2 < 1920
end
def zo (P:Program) (w:World) (K:FG7) (mg:Str -> Option Value) (base:Heap) (k:Nat) (x:Str) (ps:List Str) (sp:Sp):Prop :=
 ∃ (f:Addr) (fd:FuncData),FnOk P w K mg base CX0 k f fd ps sp /\ vn K fd ps [] /\ PySem.W.keepIn K (.ref f) = true /\ mg x = some (.ref f)
theorem zo.mono {P:Program} {w:World} {K:FG7} {mg:Str -> Option Value} {base:Heap} {j k:Nat} {x:Str} {ps:List Str} {sp:Sp} (C:zo P w K mg base j x ps sp) (h:j <= k):zo P w K mg base k x ps sp:=by
 obtain ⟨f,fd,F,b,kp,m⟩:=C
 exact ⟨f,fd,F.mono h,b,kp,m⟩
section
variable {X:Cx} {k:Nat} {ps:List Str} {sp:Sp} {x:Str} {p pos:Pos} {e:Expr} {es:List Expr} {t:TA}
theorem zj (C:zo X.prog X.w X.K X.mg X.base k x ps sp) (hr:Room k X.A) (hg:Gl X x)
  (ha:PA X (e :: es) t) (hdb:(x == ("__debug__":Str)) = false:=by decide) (he:starEach (e :: es) X.env = (false,eval e X.env) :: starEach es X.env:=by rfl) (hpl:(backTo pos (starEach es X.env)).any (·.1) = false:=by rfl) :
  PE X (.Call (.Name x p) (e :: es) [] pos) (Yd sp [] E0 t):=by
 obtain ⟨f,fd,F,b,kp,m⟩:=C
 exact Ye F hr hg m kp b .nil UP ha hdb he hpl
end
structure Grow (m:List Addr) (H H':Hp):Prop where
 keep:∀ b o,b ∉ m -> H b = some o -> H' b = some o
 tup:∀ b xs,H b = some (.tup xs) -> H' b = some (.tup xs)
 frz:∀ b o u,H b = some (.frz o u) -> H' b = some (.frz o u)
theorem Grow.refl (m:List Addr) (H:Hp):Grow m H H:=⟨fun _ _ _ h=>h,fun _ _ h=>h,fun _ _ _ h=>h⟩
theorem Grow.trans {m:List Addr} {H H1 H2:Hp} (a:Grow m H H1) (b:Grow m H1 H2):Grow m H H2 :=
 ⟨fun c o n h=>b.keep c o n (a.keep c o n h),fun c xs h=>b.tup c xs (a.tup c xs h),fun c o u h=>b.frz c o u (a.frz c o u h)⟩
theorem Grow.new {m:List Addr} {H:Hp} {p:Addr} (h:H p = none) (o:HO):Grow m H (upd H p o) :=
 ⟨fun b u _ q=>by rw [zy (zx q h)]; exact q,fun b xs q=>by rw [zy (zx q h)]; exact q,fun b u v q=>by rw [zy (zx q h)]; exact q⟩
theorem Grow.set {m:List Addr} {H:Hp} {p:Addr} {xs:List V} (h:H p = some (.lst xs)) (hm:p ∈ m) (ys:List V):Grow m H (upd H p (.lst ys)) :=
 ⟨fun b u hb q=>by rw [zy (show b ≠ p from fun z=>hb (by rw [z]; exact hm))]; exact q,fun b zs q=>by rw [zy (fun z=>by subst z; rw [h] at q; cases q)]; exact q,fun b u v q=>by rw [zy (fun z=>by subst z; rw [h] at q; cases q)]; exact q⟩
theorem Grow.mono {m m':List Addr} {H H':Hp} (a:Grow m H H') (h:∀ b ∈ m,b ∈ m'):Grow m' H H':=⟨fun b o n q=>a.keep b o (fun z=>n (h b z)) q,a.tup,a.frz⟩
theorem Grow.same {H H':Hp} (a:Grow [] H H'):Same H H':=fun b o h=>a.keep b o (by simp) h
theorem Grow.sqT {m:List Addr} {H H':Hp} (g:Grow m H H') {K:FG7} {a:Addr} {xs:List V} (h:SqT K H a xs):SqT K H' a xs:=by
 rcases h with (h | ⟨o,h⟩) | h
 ·exact .inl (.inl (g.tup _ _ h))
 ·exact .inl (.inr ⟨o,g.frz _ _ _ h⟩)
 ·exact .inr h
theorem Grow.free {H H':Hp} {m:List Addr} (g:Grow m H H') {l:Addr} (hm:l ∉ m) (h:H' l = none):H l = none:=by
 cases q:H l with
 | none=>rfl
 | some o=>rw [g.keep l o hm q] at h; cases h
def Scr (K:FG7) (H:Hp) (a:Addr) (ns:List Int):Prop :=
 (∃ o,H a = some (.frz o (.lst (ns.map V.int)))) ∨
  ∃ (o:Obj) (its:Array Value) (n:Nat),K.lookup a = some o /\ o.cls = .type "list" /\ o.dict = none /\ o.data = .seq its n /\ its.size <= sizeLine /\ Vals (ns.map V.int) its.toList
theorem Scr.sq {K:FG7} {H:Hp} {a:Addr} {ns:List Int} (h:Scr K H a ns):SqL K H a (ns.map V.int):=by
 rcases h with ⟨o,h⟩ | h
 ·exact .inl (.inr ⟨o,h⟩)
 ·exact .inr h
theorem Scr.of {K:FG7} {H:Hp} {a:Addr} {ns:List Int} (hO:Only H) (h:SqL K H a (ns.map V.int)):Scr K H a ns:=by
 rcases h with (h | ⟨o,h⟩) | h
 ·rcases hO a with z | ⟨o,xs,z⟩
  ·rw [h] at z; cases z
  ·rw [h] at z; cases z
 ·exact .inl ⟨o,h⟩
 ·exact .inr h
theorem Grow.scr {m:List Addr} {H H':Hp} (g:Grow m H H') {K:FG7} {a:Addr} {ns:List Int} (h:Scr K H a ns):Scr K H' a ns:=by
 rcases h with ⟨o,h⟩ | h
 ·exact .inl ⟨o,g.frz _ _ _ h⟩
 ·exact .inr h
structure Blt (mg:Str -> Option Value):Prop where
 abs:mg "abs" = none
 len:mg "len" = none
 max:mg "max" = none
 min:mg "min" = none
 divmod:mg "divmod" = none
 repr:mg "repr" = none
 isinstance:mg "isinstance" = none
 all:mg "all" = none
 range:mg "range" = none
 int:mg "int" = none
 bool:mg "bool" = none
 str:mg "str" = none
 tuple:mg "tuple" = none
 list:mg "list" = none
 dict:mg "dict" = none
def sp1 (b:V -> Hp -> VK -> Prop):Sp:=fun vs H Q _=>∃ x,vs = [x] /\ b x H Q
def sp2 (b:V -> V -> Hp -> VK -> Prop):Sp:=fun vs H Q _=>∃ x y,vs = [x,y] /\ b x y H Q
def sp3 (b:V -> V -> V -> Hp -> VK -> Prop):Sp:=fun vs H Q _=>∃ x y z,vs = [x,y,z] /\ b x y z H Q
theorem vo {b:V -> Hp -> VK -> Prop} {p:Str}:∀ vs H Q E,sp1 b vs H Q E -> vs.length = [p].length:=fun vs H Q E h=>by
 obtain ⟨x,rfl,_⟩:=h; rfl
theorem xf {b:V -> V -> Hp -> VK -> Prop} {p q:Str}:∀ vs H Q E,sp2 b vs H Q E -> vs.length = [p,q].length:=fun vs H Q E h=>by
 obtain ⟨x,y,rfl,_⟩:=h; rfl
theorem vp {b:V -> V -> V -> Hp -> VK -> Prop} {p q r:Str}:∀ vs H Q E,sp3 b vs H Q E -> vs.length = [p,q,r].length:=fun vs H Q E h=>by
 obtain ⟨x,y,z,rfl,_⟩:=h; rfl
structure Deed where
 add:Int
 lo:Option Int
 hi:Option Int
 deriving DecidableEq
def ov:Option Int -> V
 | none=>.non
 | some i=>.int i
def Deed.vs (d:Deed):List V:=[.int d.add,ov d.lo,ov d.hi]
def Deed.Ok (d:Deed):Prop:=∀ l h,d.lo = some l -> d.hi = some h -> l < h \/ (l = h /\ d.add = 0)
def W5 (lo:Option Int) (r:Int):Int:=match lo with
 | none=>r
 | some l=>if l > r then l else r
def W6 (hi:Option Int) (r:Int):Int:=match hi with
 | none=>r
 | some h=>if h < r then h else r
def Deed.mk' (d:Deed) (v:Int):Int:=W6 d.hi (W5 d.lo (v + d.add))
def rg (K:FG7) (H:Hp) (x:V) (d:Deed):Prop:=∃ a,x = .ref a /\ SqT K H a d.vs
theorem Grow.deed {m:List Addr} {H H':Hp} (g:Grow m H H') {K:FG7} {x:V} {d:Deed} (h:rg K H x d):rg K H' x d:=by
 obtain ⟨a,e,h⟩:=h
 exact ⟨a,e,g.sqT h⟩
def Pot (H:Hp) (a:Addr):Prop:=∃ p0 p1:Int,H a = some (.lst [.int p0,.int p1]) /\ 0 <= p0
def Sm (n:Int):Prop:=-(10 ^ 30) < n /\ n < 10 ^ 30
def Deed.Sm (d:Deed):Prop:=L3.Sm d.add /\ (∀ l,d.lo = some l -> L3.Sm l) /\ ∀ h,d.hi = some h -> L3.Sm h
def Wz (K:FG7):Sp:=sp2 fun x y H Q=>∃ a ns k,x = .ref a /\ y = .int k /\ Scr K H a ns /\ 0 <= k /\ k < 1000 /\ ∀ p H',H p = none -> Grow [] H H' -> Pot H' p -> Q (.ref p) H'
theorem Sm.of {n:Int} (h1:-(10 ^ 30) < n) (h2:n < 10 ^ 30):Sm n:=⟨h1,h2⟩
def jP (K:FG7):Sp:=sp1 fun x H Q=>∃ a ns,x = .ref a /\ Scr K H a ns /\ ns.length <= 63 /\ ∀ H',Q (.bl true) H'
theorem szl {n:Nat} (h:Nat.ble n 1000 = true):n <= sizeLine:=Nat.le_of_lt (zn (Nat.le_of_ble_eq_true h))
theorem Grow.shrink {H H':Hp} {l:Addr} (h:H l = none) (g:Grow [l] H H'):Grow [] H H' :=
 ⟨fun b o _ q=>g.keep b o (fun z=>by rw [List.mem_singleton.mp z] at q; rw [h] at q; cases q) q,g.tup,g.frz⟩
theorem Grow.wk {m:List Addr} {H H':Hp} (g:Grow [] H H'):Grow m H H':=g.mono (by simp)
theorem Pot.grow {H H':Hp} {a:Addr} (p:Pot H a) (g:Grow [] H H'):Pot H' a:=by
 obtain ⟨u0,u1,hu,hn⟩:=p
 exact ⟨u0,u1,g.keep _ _ (by simp) hu,hn⟩
theorem Pot.new {H:Hp} {a l:Addr} (p:Pot H a) (hl:H l = none) (o:HO):Pot (upd H l o) a:=p.grow (Grow.new hl o)
theorem Ym {k:Int} (h:-(2 ^ 200) < k /\ k < 2 ^ 200):Builtin.Int.intBits k <= 200:=PySem.intBits_le_iff.mpr (by
 have h1:((k.natAbs:Nat):Int) < ((2 ^ 200:Nat):Int):=by
  have e:((2 ^ 200:Nat):Int) = 2 ^ 200:=rfl
  rw [e]; obtain ⟨a,b⟩:=h; omega
 exact Int.ofNat_lt.mp h1)
theorem V5 {i j:Int} (h1:-(2 ^ 200) < i /\ i < 2 ^ 200) (h2:-(2 ^ 200) < j /\ j < 2 ^ 200):IntMulOk i j:=PySem.IntMulOk.of_le (Ym h1) (Ym h2) (by decide)
theorem V6 {i j:Int} (h2:-(2 ^ 60) < j /\ j < 2 ^ 60):IntMulOk i j:=PySem.IntMulOk.of_right (Nat.le_trans ((PySem.intBits_le_iff (m:=60)).mpr (by obtain ⟨a,b⟩:=h2; omega)) (by decide))
section
variable {prog:Program} {w:World} {A:Around} {R:Result -> Shared -> Prop} {s:Shared}
theorem rh {elt target iter:Expr} {ifs:List Expr} {scope:Scope} {pos:Pos} {it acc:Value} {env:Env} (I:Nat -> Shared -> Prop)
  (turn:∀ n s,I n s -> wpAny (model prog w) A (pyNext it) (fun r s₁=>match r with
   | none=>R (.ok .next) s₁
   | some v=>wpAny (model prog w) A (letOwnedTupleGo target it v) (fun _ s₂=>wpAny (model prog w) A (assign target env v) (fun _ s₃ =>
     wpAny (model prog w) A (forIn ifs true fun c r=>if r = true then do let ok ← isTrue c env (eval c env); pure (ForInStep.yield ok) else pure (ForInStep.yield r)) (fun ok s₄ =>
      if ok = true then wpAny (model prog w) A (eval elt env) (fun x s₅ =>
       wpAny (model prog w) A (call (.builtin "list.append") [acc,x]) (fun _ s₆=>∃ m,m < n /\ I m s₆) (fun _ _=>False) s₅) (fun _ _=>False) s₄
      else ∃ m,m < n /\ I m s₄) (fun _ _=>False) s₃) (fun _ _=>False) s₂) (fun _ _=>False) s₁) (fun _ _=>False) s)
  (n:Nat) (h:I n s) :
  codeAny (model prog w) A (.compLoop (.ListComp elt [⟨target,iter,ifs,0⟩] scope pos) 0 it acc env) R s:=by
 refine codeAny_loop rfl I (fun n s hI=>?_) n h
 show wpAny _ A ((compTurn (.ListComp elt [⟨target,iter,ifs,0⟩] scope pos) 0 it acc env).onRaise (fun x=>do noteFrame x env; theTreesLotGoes x)) _ _ s
 refine wpAny_noted ?_
 rw [compTurn_list]
 have no:∀ (E:VS7) (e:Value) (s:Shared),(fun (_:Value) (_:Shared)=>False) e s -> E e s:=fun _ _ _ f=>f.elim
 refine wpAny_bind (wpAny_standAt (wpAny_bind (wpAny_mono (turn n s hI) (fun r s₁ h₁=>?_) (no _))))
 cases r with
 | none=>exact wpAny_pure h₁
 | some v =>
  refine wpAny_bind (wpAny_mono h₁ (fun _ s₂ h₂=>?_) (no _))
  refine wpAny_bind (wpAny_mono h₂ (fun _ s₃ h₃=>wpAny_bind (wpAny_mono h₃ (fun ok s₄ h₄=>?_) (no _))) (no _))
  cases ok with
  | true =>
   simp only [if_true] at h₄ ⊢
   exact wpAny_bind (wpAny_bind (wpAny_mono h₄ (fun x s₅ h₅=>wpAny_bind (wpAny_mono h₅ (fun _ s₆ h₆=>wpAny_pure (wpAny_pure ⟨rfl,h₆⟩)) (no _))) (no _)))
  | false =>
   simp only [Bool.false_eq_true,if_false] at h₄ ⊢
   first
    | exact wpAny_bind (wpAny_pure (wpAny_pure ⟨rfl,h₄⟩))
    | exact wpAny_pure ⟨rfl,h₄⟩
end
theorem tN {scope:Scope} {env:Env} (hfree:∀ y ∈ scope.names,y.2 = .free -> ∃ c,env.cells.lookup y.1 = some c) :
  ∃ cl,closureFor scope env = pure cl /\ (∀ x c,cl.lookup x = some c -> env.cells.lookup x = some c) /\ ∀ y ∈ scope.names,y.2 = .free -> ∃ c,cl.lookup y.1 = some c:=by
 have key:∀ (l:List (Str × NameKind)) (cs:List (Str × Addr)),(∀ y ∈ l,y.2 = .free -> ∃ c,env.cells.lookup y.1 = some c) -> (∀ x c,cs.lookup x = some c -> env.cells.lookup x = some c) →
   ∃ cl,(forIn l cs (fun (x:Str × NameKind) r=>do if x.2 == .free then do let c ← cellOf env x.1; pure (ForInStep.yield ((x.1,c) :: r)) else pure (ForInStep.yield r)):Sem (List (Str × Addr))) = pure cl ∧
    (∀ x c,cl.lookup x = some c -> env.cells.lookup x = some c) /\ (∀ y ∈ l,y.2 = .free -> ∃ c,cl.lookup y.1 = some c) /\ ∀ x c,cs.lookup x = some c -> ∃ c',cl.lookup x = some c':=by
  intro l
  induction l with
  | nil=>intro cs _ h2; exact ⟨cs,rfl,h2,fun y hy=>absurd hy (by simp),fun x c h=>⟨c,h⟩⟩
  | cons y r ih =>
   intro cs h1 h2
   obtain ⟨n,k⟩:=y
   by_cases hk:k = .free
   ·subst hk
    obtain ⟨c,hc⟩:=h1 (n,.free) (by simp) rfl
    have hc':env.cells.lookup n = some c:=hc
    have e0:cellOf env n = pure c:=by unfold cellOf; rw [hc']
    obtain ⟨cl,e,p1,p2,p3⟩:=ih ((n,c) :: cs) (fun z hz=>h1 z (List.mem_cons_of_mem _ hz)) (fun x d h=>by
     by_cases hx:x = n
     ·subst hx
      rw [List.lookup_cons_self] at h
      cases h; exact hc'
     ·rw [List.lookup_cons,beq_eq_false_iff_ne.mpr hx] at h
      exact h2 x d h)
    refine ⟨cl,?_,p1,fun z hz=>?_,fun x d h=>?_⟩
    ·rw [List.forIn_cons]
     simp only [beq_self_eq_true,if_true,e0,pure_bind]
     exact e
    ·rcases List.mem_cons.mp hz with rfl | hz
     ·intro _
      exact p3 n c List.lookup_cons_self
     ·exact p2 z hz
    ·by_cases hx:x = n
     ·subst hx; exact p3 x c List.lookup_cons_self
     ·exact p3 x d (by rw [List.lookup_cons,beq_eq_false_iff_ne.mpr hx]; exact h)
   ·have hb:(k == NameKind.free) = false:=beq_eq_false_iff_ne.mpr hk
    obtain ⟨cl,e,p1,p2,p3⟩:=ih cs (fun z hz=>h1 z (List.mem_cons_of_mem _ hz)) h2
    refine ⟨cl,?_,p1,fun z hz=>?_,p3⟩
    ·rw [List.forIn_cons]
     simp only [hb,Bool.false_eq_true,if_false,pure_bind]
     exact e
    ·rcases List.mem_cons.mp hz with rfl | hz
     ·intro h; exact absurd h hk
     ·exact p2 z hz
 obtain ⟨cl,e,p1,p2,_⟩:=key scope.names [] hfree (fun x c h=>by cases h)
 refine ⟨cl,?_,p1,p2⟩
 unfold closureFor
 first
  | (rw [show (forIn scope.names [] _:Sem (List (Str × Addr))) = pure cl from e]; rfl)
  | (simp only [bind_pure]; exact e)
  | exact e
def PIfs (X:Cx) (ifs:List Expr) (t:TT):Prop :=
 ∀ (pins:List (Addr × Obj)) (s:Shared) (σ:L2.St) (H:Hp) (Q:Bool -> Hp -> Prop),Inv X pins σ H s -> t σ H Q →
  wpAny (model X.prog X.w) X.A (forIn ifs true fun c r=>if r = true then do let ok ← isTrue c X.env (eval c X.env); pure (ForInStep.yield ok) else pure (ForInStep.yield r)) (TP X pins σ Q) X.xe s
def Zt:TT:=fun _ H Q=>Q true H
theorem zQ {X:Cx}:PIfs X [] Zt:=fun pins s σ H Q I h=>wpAny_pure ⟨H,I,h⟩
abbrev cxC (X:Cx) (N':List Str) (scope:Scope) (cl:List (Str × Addr)) (C D:Addr) (fp:List Addr) (s:Shared) (H:Hp):Cx :=
 { X with N:=N',s₀:=s,H₀:=H,env:=compEnvC scope cl C X.env,outer:=X.stack,ex:=D :: fp,fn:=fun _=>false,xe:=fun _ _=>False }
def capt (sub:List (Option Nat)) (σ:L2.St):L2.St:=sub.map fun o=>match o with
 | none=>none
 | some i=>(match σ[i]? with | some v=>v | none=>none)
def vX (J:It) (σ0:L2.St) (H1:Hp) (g:TG) (tt:TT) (te:TE) (Q:VK):Prop :=
 ∃ W:Nat -> Nat -> List V -> L2.St -> Hp -> Prop,(∃ m,W 0 m [] σ0 H1) /\ ∀ i m ys σ' H',W i m ys σ' H' →
  (J.stop i H' /\ ∀ l,H' l = none -> Q (.ref l) (upd H' l (.lst ys))) ∨
  (J.go i H' /\ ∃ Nn:List V -> L2.St -> Hp -> Prop,(∀ zs σ2 H2,Nn zs σ2 H2 -> ∃ m',m' < m /\ W (i + 1) m' zs σ2 H2) ∧
   ∀ x H2,J.yld i H' x H2 -> g x σ' H2 fun σ2 H3=>tt σ2 H3 fun b H4=>if b = true then te σ2 H4 fun y H5=>ys.length < sizeLine /\ Nn (ys ++ [y]) σ2 H5 else Nn ys σ2 H4)
def W7 (wi:TI) (sub:List (Option Nat)) (g:TG) (tt:TT) (te:TE):TE:=fun σ H Q=>wi σ H fun J H1=>vX J (capt sub σ) H1 g tt te Q
structure CSc (X:Cx) (scope:Scope) (N':List Str) (sub:List (Option Nat)):Prop where
 free:∀ y ∈ scope.names,y.2 = .free -> X.env.kindOf y.1 = some .cell
 nocell:∀ y ∈ scope.names,y.2 ≠ .cell
 kind:scope.kind = .function
 names:∀ y ∈ scope.names,y.2 = .local -> scope.names.lookup y.1 = some .local
 len:sub.length = N'.length
 cap:∀ (j:Nat) (y:Str) (i:Nat),N'[j]? = some y -> sub[j]? = some (some i) -> X.N[i]? = some y /\ X.env.scope.names.lookup y = some .cell /\ scope.names.lookup y = some .free
theorem HOk.track {P:Program} {w:World} {H:Hp} {h:Heap} {a:Addr} {o:HO} (x:HOk P w H h) (hn:H a = none) (new:yh P w (upd H a o) h a o):HOk P w (upd H a o) h:=fun b u e=>by
 by_cases hb:b = a
 ·subst hb; rw [zd] at e; cases e; exact new
 ·rw [zy hb] at e
  exact (x b u e).stay (fun c v _ q=>q) (fun c q=>by rw [zy (zx q hn)]; exact q) fun c xs q=>by rw [zy (zx q hn)]; exact q
theorem yF {scope:Scope} {env:Env} {y:Str} {k:NameKind} (h:(relabel scope env).names.lookup y = some k) :
  ∃ k',scope.names.lookup y = some k' /\ (k = k' \/ (k = .cell /\ k' = .free)):=by
 have key:∀ l:List (Str × NameKind),(l.map fun (n,k)=>if (k == NameKind.free && env.scope.kind == .function && env.kindOf n == some .cell) then (n,NameKind.cell) else (n,k)).lookup y = some k →
   ∃ k',l.lookup y = some k' /\ (k = k' \/ (k = .cell /\ k' = .free)):=by
  intro l
  induction l with
  | nil=>intro h; cases h
  | cons p r ih =>
   obtain ⟨n,k0⟩:=p
   intro h
   rw [List.map_cons] at h
   by_cases hc:(k0 == NameKind.free && env.scope.kind == .function && env.kindOf n == some .cell) = true
   ·have hf:k0 = .free:=by
     simp only [Bool.and_eq_true,beq_iff_eq] at hc
     exact hc.1.1
    dsimp only at h
    rw [if_pos hc,List.lookup_cons] at h
    rw [List.lookup_cons]
    cases hx:y == n with
    | true=>rw [hx] at h; cases h; exact ⟨k0,rfl,.inr ⟨rfl,hf⟩⟩
    | false=>rw [hx] at h; exact ih h
   ·dsimp only at h
    rw [if_neg hc,List.lookup_cons] at h
    rw [List.lookup_cons]
    cases hx:y == n with
    | true=>rw [hx] at h; cases h; exact ⟨_,rfl,.inl rfl⟩
    | false=>rw [hx] at h; exact ih h
 exact key scope.names h
theorem yW {scope:Scope} {env:Env} {y:Str} (hk:env.scope.kind = .function) (hc:env.kindOf y = some .cell) (h:scope.names.lookup y = some .free):(relabel scope env).names.lookup y = some .cell:=by
 have key:∀ l:List (Str × NameKind),l.lookup y = some .free -> (l.map fun (n,k)=>if (k == NameKind.free && env.scope.kind == .function && env.kindOf n == some .cell) then (n,NameKind.cell) else (n,k)).lookup y = some .cell:=by
  intro l
  induction l with
  | nil=>intro h; cases h
  | cons p r ih =>
   obtain ⟨n,k0⟩:=p
   intro h
   rw [List.map_cons]
   rw [List.lookup_cons] at h
   dsimp only
   cases hx:y == n with
   | true =>
    rw [hx] at h
    cases h
    have e:y = n:=by simpa using hx
    subst e
    rw [if_pos (by simp [hk,hc]),List.lookup_cons,hx]
   | false =>
    rw [hx] at h
    by_cases hc2:(k0 == NameKind.free && env.scope.kind == .function && env.kindOf n == some .cell) = true
    ·rw [if_pos hc2,List.lookup_cons,hx]; exact ih h
    ·rw [if_neg hc2,List.lookup_cons,hx]; exact ih h
 exact key scope.names h
section
variable {X:Cx} {pins:List (Addr × Obj)} {σ:L2.St} {H2:Hp} {s₂:Shared} {it:Addr} {fp:List Addr} {tn:Nat -> Heap -> Prop} {J:It} {scope:Scope} {cl:List (Str × Addr)} {N':List Str} {sub:List (Option Nat)}
theorem tO {h₁:Heap} {tk:Nat} (I:Inv X pins σ H2 s₂) (S:CSc X scope N' sub) (hcl1:∀ x c,cl.lookup x = some c -> X.env.cells.lookup x = some c) (hcl2:∀ y ∈ scope.names,y.2 = .free -> ∃ c,cl.lookup y.1 = some c)
    (f2:∀ b ∈ fp,FpOk X pins H2 b) (hfp:∀ b ∈ fp,b < s₂.heap.objs.size) {m:Str -> Option Value} {ob:Obj}
    (hns:h₁.Ns (s₂.heap.objs.size + 1) m) (hk:∀ b o,(s₂.heap.push ob).get? b = some o -> h₁.get? b = some o) :
    Inv (cxC X N' scope cl (s₂.heap.objs.size + 1) s₂.heap.objs.size fp { s₂ with heap:=s₂.heap.push ob } H2) pins (capt sub σ) H2 { s₂ with heap:=h₁,toks:=tk }:=by
  have old:∀ b o,s₂.heap.get? b = some o -> (s₂.heap.push ob).get? b = some o:=fun b o e=>Heap.get?_push_of_some _ e
  have old2:∀ b o,s₂.heap.get? b = some o -> h₁.get? b = some o:=fun b o e=>hk b o (old b o e)
  have sz:(s₂.heap.push ob).objs.size = s₂.heap.objs.size + 1:=Heap.size_push ..
  have cells:∀ x c,cl.lookup x = some c -> c < s₂.heap.objs.size:=fun x c e=>let ⟨v,q⟩:=I.cell x c (hcl1 x c e); q.lt
  have has:∀ x,((relabel scope X.env).names.lookup x = some .cell \/ (relabel scope X.env).names.lookup x = some .free) -> ∃ c,cl.lookup x = some c:=fun x hx=>by
    rcases hx with hx | hx
    · obtain ⟨k',e,z⟩:=yF hx
      rcases z with z | ⟨_,z⟩
      · subst z; exact absurd rfl (S.nocell _ (PySem.mem_of_lookup e))
      · subst z; exact hcl2 _ (PySem.mem_of_lookup e) rfl
    · obtain ⟨k',e,z⟩:=yF hx
      rcases z with z | ⟨z,_⟩
      · subst z; exact hcl2 _ (PySem.mem_of_lookup e) rfl
      · cases z
  have frsz:∀ b ∈ frs X.stack,b < s₂.heap.objs.size:=fun b hb=>by
    rcases List.mem_cons.mp (I.stkSub b hb) with z | z
    · rw [z]; exact I.lt
    · exact Nat.lt_of_not_le fun q=>I.nofs q z
  refine
    { ok :=
      { mod:=I.ok.mod,kind:=S.kind,glob:=I.ok.glob,blt:=I.ok.blt
        above:=by show (s₂.heap.push ob).objs.size <= s₂.heap.objs.size + 1; rw [sz]; exact Nat.le_refl _
        inj:=fun x y c h1 h2=>I.ok.inj x y c (hcl1 x c h1) (hcl1 y c h2)
        has:=has
        cab:=fun x c z=>by cases z
        hd:=I.ok.hd,frames:=I.ok.frames,stk:=.inl rfl
        exf:=fun b hb=>?exf
        bs:=fun b o e=>⟨old b o (I.bk b o e),(I.bs b o e).2⟩
        bsz:=by show X.base.objs.size <= (s₂.heap.push ob).objs.size; rw [sz]; exact Nat.le_succ_of_le (Nat.le_trans I.ok.bsz I.sz)
        noex:=fun b o e hb=>?noex
        exfs:=fun b hb=>?exfs
        funs:=?funs
        frf:=I.stkFree }
      os:=rfl,bare:=I.bare,base:=Un.kept fun b u e=>hk b u e
      loc:=⟨m,hns,?loc⟩
      cell:=fun x c e=>?cell
      free:=I.hok.fresh (Nat.le_succ _)
      freeC:=fun x c e=>I.freeC x c (hcl1 x c e)
      pin:=fun p hp=>?pin
      hok:=I.hok.kept old2
      len:=?len }
  case exf =>
    rcases List.mem_cons.mp hb with rfl | hb
    · exact ⟨Nat.ne_of_lt (Nat.lt_succ_self _),fun x c e=>Nat.ne_of_lt (cells x c e)⟩
    · exact ⟨Nat.ne_of_lt (Nat.lt_succ_of_lt (hfp b hb)),fun x c e=>(f2 b hb).2.2.2.2.1 x c (hcl1 x c e)⟩
  case noex =>
    have hl:b < X.s₀.heap.objs.size:=Nat.lt_of_lt_of_le (Heap.lt_size e) I.ok.bsz
    rcases List.mem_cons.mp hb with rfl | hb
    · exact absurd (Nat.lt_of_lt_of_le hl I.sz) (Nat.lt_irrefl _)
    · rcases (f2 b hb).2.2.2.1 with z | z
      · exact I.ok.noex b o e z
      · exact absurd (Nat.lt_of_lt_of_le hl z) (Nat.lt_irrefl _)
  case exfs =>
    intro hs
    rcases List.mem_cons.mp hb with rfl | hb
    · exact absurd (frsz _ hs) (Nat.lt_irrefl _)
    · rcases List.mem_cons.mp (I.stkSub b hs) with z | z
      · exact (f2 b hb).2.1 z
      · exact (f2 b hb).2.2.1 z
  case funs=>exact Heap.FunFrames.of_keeps (fun b o e _=>⟨o,old b o e,rfl⟩) I.stack
  case loc =>
    intro j y v hj hv hvis
    obtain ⟨mX,_,lX⟩:=I.loc
    unfold capt at hv
    rw [List.getElem?_map] at hv
    cases hs:sub[j]? with
    | none=>rw [hs] at hv; cases hv
    | some o =>
      rw [hs] at hv
      cases o with
      | none=>cases hv
      | some i =>
        obtain ⟨hN,hc,hf⟩:=S.cap j y i hj hs
        have hv':σ[i]? = some (some v):=by
          have z:(match σ[i]? with | some v=>v | none=>none) = some v:=Option.some.inj hv
          cases q:σ[i]? with
          | none=>rw [q] at z; cases z
          | some w=>rw [q] at z; rw [show w = some v from z]
        obtain ⟨u,ru,hl⟩:=lX i y v hN hv' (.inr (.inl hc))
        refine ⟨u,ru,?_⟩
        have kc:(relabel scope X.env).names.lookup y = some .cell:=yW I.ok.kind hc hf
        rcases hl with ⟨z,_⟩ | ⟨_,c,e,ic⟩
        · have z':X.env.scope.names.lookup y = some .local :=z
          rw [hc] at z'; cases z'
        · obtain ⟨c',e'⟩:=hcl2 _ (PySem.mem_of_lookup hf) rfl
          have:=hcl1 _ _ e'
          rw [e] at this; cases this
          refine .inr ⟨.inl kc,c,e',?_⟩
          obtain ⟨oc,h1,h2⟩:=ic
          exact ⟨oc,old2 _ _ h1,h2⟩
  case cell =>
    obtain ⟨v,oc,h1,h2⟩:=I.cell x c (hcl1 x c e)
    exact ⟨v,oc,old2 _ _ h1,h2⟩
  case pin =>
    obtain ⟨p1,p2,p3,p4,p5⟩:=I.pin p hp
    refine ⟨old2 _ _ p1,p2,Nat.ne_of_lt (Nat.lt_succ_of_lt (Heap.lt_size p1)),fun hs=>?_,p5⟩
    rcases List.mem_cons.mp (I.stkSub _ hs) with z | z
    · exact p3 z
    · exact p4 z
  case len =>
    show (capt sub σ).length = N'.length
    unfold capt
    rw [List.length_map]; exact S.len
theorem XE {C D:Addr} {s₀:Shared} {s':Shared} {σ':L2.St} {H':Hp} {ys:List V} {us:List Value} {k:Nat} {oC:Obj} (I:Inv X pins σ H2 s₂)
    (hs₀:∀ b o,s₂.heap.get? b = some o -> s₀.heap.get? b = some o) (hos:s₀.os = s₂.os) (hD:s₂.heap.objs.size <= D) (hC:s₂.heap.objs.size <= C) (hDC:D ≠ C) (f2:∀ b ∈ fp,FpOk X pins H2 b)
    (I':Inv (cxC X N' scope cl C D fp s₀ H2) pins σ' H' s') (hn:H' D = none) (hy:s'.heap.get? D = some { cls:=.type "list",data:=.seq us.toArray k }) (rv:Vals ys us) (hz:ys.length <= sizeLine)
    (ho:s'.heap.get? C = some oC) (hd:∀ v,oC.data ≠ .cell v):Inv X (pins ++ [(C,oC)]) σ (upd H' D (.lst ys)) s' /\ FpOk X pins (upd H' D (.lst ys)) C:=by
  have neD:∀ b o,s₂.heap.get? b = some o -> b ≠ D:=fun b o e=>Nat.ne_of_lt (Nat.lt_of_lt_of_le (Heap.lt_size e) hD)
  have nm:∀ b o,s₂.heap.get? b = some o -> b ∉ fp -> b ∉ D :: fp:=fun b o e h z=>(List.mem_cons.mp z).elim (neD b o e) h
  have U:=I'.base
  have HC:upd H' D (.lst ys) C = none:=by rw [zy (Ne.symm hDC)]; exact I'.free
  have fpc:FpOk X pins (upd H' D (.lst ys)) C:=I.fpOk hC HC
  have un:Un (frs X.stack) fp H2 (upd H' D (.lst ys)) s₂.heap s'.heap :=
    { keep:=fun b o e n h1 h2=>U.keep b o (hs₀ b o e) n h1 (nm b o e h2)
      slot:=fun b o e n h1 h2=>U.slot b o (hs₀ b o e) n h1 (nm b o e h2)
      free:=fun b o e n h2=>by rw [zy (neD b o e)]; exact U.free b o (hs₀ b o e) n (nm b o e h2)
      there:=fun b o e h2=>U.there b o (hs₀ b o e) (nm b o e h2)
      tups:=fun b xs e=>by have z:=U.tups b xs e; rw [zy (zx z hn)]; exact z
      frzs:=fun b o u e=>by have z:=U.frzs b o u e; rw [zy (zx z hn)]; exact z
      tbls:=fun b ps e=>by obtain ⟨more,z⟩:=U.tbls b ps e; exact ⟨more,by rw [zy (zx z hn)]; exact z⟩ }
  have hok:HOk X.prog X.w (upd H' D (.lst ys)) s'.heap:=HOk.track I'.hok hn ⟨hz,us,k,rv,hy⟩
  have IX:Inv X pins σ (upd H' D (.lst ys)) s':=I.call' (I'.os.trans hos) un hok I'.bare fun b hb=>⟨(f2 b hb).2.2.2.1,(f2 b hb).2.1,(f2 b hb).2.2.2.2.1,(f2 b hb).2.2.2.2.2⟩
  refine ⟨IX.pins_of fun p hp=>?_,fpc⟩
  rcases List.mem_append.mp hp with hp | hp
  · exact IX.pin p (List.mem_append_right _ hp)
  · rw [List.mem_singleton.mp hp]
    exact ⟨ho,HC,fpc.2.1,fpc.2.2.1,hd⟩
end
section
variable {X:Cx} {scope:Scope} {N':List Str} {sub:List (Option Nat)} {x:Str} {px pos:Pos} {elt iter:Expr} {ifs:List Expr} {wi:TI} {g:TG} {tt:TT} {te:TE}
theorem CSc.clos {pins:List (Addr × Obj)} {σ:L2.St} {H:Hp} {s:Shared} (S:CSc X scope N' sub) (I:Inv X pins σ H s):∃ cl,closureFor scope X.env = pure cl /\ (∀ x c,cl.lookup x = some c -> X.env.cells.lookup x = some c) /\ ∀ y ∈ scope.names,y.2 = .free -> ∃ c,cl.lookup y.1 = some c :=
 tN fun y hy hf=>I.ok.has y.1 (.inl (S.free y hy hf))
end
def eqVs:List V -> List V -> Bool
 | [],[]=>true
 | x :: xs,y :: ys=>eqV x y && eqVs xs ys
 | _,_=>false
theorem jQ:∀ {xs ys:List V},eqVs xs ys = true -> xs.length = ys.length
 | [],[],_=>rfl
 | x :: xs,y :: ys,h=>by
  have h':(eqV x y && eqVs xs ys) = true:=h
  rw [Bool.and_eq_true] at h'
  simp [jQ h'.2]
 | [],_ :: _,h=>by cases h
 | _ :: _,[],h=>by cases h
theorem jR:∀ {xs ys:List V},eqVs xs ys = true ↔ xs.length = ys.length /\ ∀ (j:Nat) (x y:V),xs[j]? = some x -> ys[j]? = some y -> eqV x y = true
 | [],[]=>by simp [eqVs]
 | x :: xs,y :: ys=>by
  show (eqV x y && eqVs xs ys) = true ↔ _
  rw [Bool.and_eq_true,jR]
  constructor
  ·rintro ⟨h1,h2,h3⟩
   refine ⟨by simp [h2],fun j a b ha hb=>?_⟩
   cases j with
   | zero=>simp at ha hb; subst ha hb; exact h1
   | succ j=>exact h3 j a b (by simpa using ha) (by simpa using hb)
  ·rintro ⟨h1,h2⟩
   exact ⟨h2 0 x y rfl rfl,by simpa using h1,fun j a b ha hb=>h2 (j + 1) a b (by simpa using ha) (by simpa using hb)⟩
 | [],_ :: _=>by simp [eqVs]
 | _ :: _,[]=>by simp [eqVs]
theorem tP {xs ys:List V}:((List.range (min xs.length ys.length)).all (fun j=>match xs[j]?,ys[j]? with | some x,some y=>eqV x y | _,_=>true) && xs.length == ys.length) = eqVs xs ys:=by
 rw [Bool.eq_iff_iff,Bool.and_eq_true,List.all_eq_true,beq_iff_eq,jR]
 constructor
 ·rintro ⟨h1,h2⟩
  refine ⟨h2,fun j x y hx hy=>?_⟩
  have hj:j < xs.length:=(List.getElem?_eq_some_iff.mp hx).1
  have:=h1 j (List.mem_range.mpr (by rw [← h2]; simpa using hj))
  rw [hx,hy] at this
  exact this
 ·rintro ⟨h1,h2⟩
  refine ⟨fun j hj=>?_,h1⟩
  have hj':=List.mem_range.mp hj
  have a:j < xs.length:=by omega
  have b:j < ys.length:=by omega
  rw [List.getElem?_eq_getElem a,List.getElem?_eq_getElem b]
  exact h2 j _ _ (List.getElem?_eq_getElem a) (List.getElem?_eq_getElem b)
theorem Yn {xs:List V} {us:List Value} (r:Vals xs us) (j:Nat) (h:j < us.length):∃ x,xs[j]? = some x /\ RelV x us[j]:=by
 have hl:=r.length
 have hx:xs[j]? = some xs[j]:=List.getElem?_eq_getElem (by omega)
 obtain ⟨u,e,q⟩:=r.get hx
 rw [List.getElem?_eq_getElem h] at e
 cases e
 exact ⟨_,hx,q⟩
theorem WA {A:Around} {s:Shared} {xs ys:List V} {us ws:List Value} (r1:Vals xs us) (r2:Vals ys ws) (f1:xs.all xy = true) (f2:ys.all xy = true) :
  ∀ j (h1:j < us.toArray.size) (h2:j < ws.toArray.size),SeqAt.EqAt A s us.toArray[j] ws.toArray[j] ((fun j=>match xs[j]?,ys[j]? with | some x,some y=>eqV x y | _,_=>true) j):=by
 intro j h1 h2
 obtain ⟨x,ex,qx⟩:=Yn r1 j (by simpa using h1)
 obtain ⟨y,ey,qy⟩:=Yn r2 j (by simpa using h2)
 have fx:xy x = true:=List.all_eq_true.mp f1 x (List.mem_of_getElem? ex)
 have fy:xy y = true:=List.all_eq_true.mp f2 y (List.mem_of_getElem? ey)
 show SeqAt.EqAt A s _ _ (match xs[j]?,ys[j]? with | some x,some y=>eqV x y | _,_=>true)
 rw [ex,ey]
 simpa using Wu qx qy fx fy
section
variable {X:Cx}
def rEqT (K:FG7) (neg:Bool):R2:=fun x y H Q=>∃ a b xs ys,x = .ref a /\ y = .ref b /\ SqT K H a xs /\ SqT K H b ys /\ xs.all xy = true /\ ys.all xy = true /\ Q (.bl (if neg then !eqVs xs ys else eqVs xs ys)) H
theorem yP {h:Heap} {a:Addr} {its:Array Value} (t:IsTup h a its):h.IsTuple a its:=t
theorem V7 {k:Nat} (hr:Room k X.A):OpR X (compareOp .NotEq) (rEqT X.K true):=by
 intro pins s σ H x y v u Q I rx ry h
 obtain ⟨a,b,xs,ys,rfl,rfl,ha,hb,f1,f2,q⟩:=h
 cases rx; cases ry
 obtain ⟨us,r1,t1,_⟩:=I.tuple ha
 obtain ⟨ws,r2,t2,_⟩:=I.tuple hb
 refine SeqAt.RcNeAt.tuples (yP t1) (yP t2) hr.units0 (WA r1 r2 f1 f2) _ _ _ _ ?_
 rw [List.size_toArray,List.size_toArray,← r1.length,← r2.length,tP]
 exact ⟨.bl _,H,I,rfl,q⟩
end
section
variable {X:Cx} {pos:Pos}
theorem rk:∀ {bs:List Bool} {us:List Value},Vals (bs.map V.bl) us -> LSm.BoolsAre us bs
 | [],_,.nil=>.nil
 | b :: bs,_,.cons r t=>by
  cases r
  exact .cons b (rk t)
theorem yw (hcalm:X.calm = true):xO X (.builtin "all") (fun xs H Q=>∃ (l:Addr) (bs:List Bool),xs = [.ref l] /\ SqL X.K H l (bs.map V.bl) /\ Q (.bl (bs.all id)) H):=by
 intro pins s σ H xs us Q I r h
 obtain ⟨l,bs,rfl,hl,q⟩:=h
 obtain ⟨u,rfl,rx⟩:=wR r
 cases (show u = Value.ref l from rx)
 obtain ⟨vs,rv,pl,_⟩:=I.list hl
 have hl':s.heap.IsList l vs.toArray:=pl.isList
 have hb:LSm.BoolsAre vs bs:=rk rv
 have hlt:l < s.heap.objs.size:=by obtain ⟨_,e,_⟩:=hl'; exact Heap.lt_size e
 refine call_all_walk (wpAny_pyIter_list hl' ?_)
 refine ⟨s.heap.objs.size,[s.heap.objs.size,l],[s.heap.objs.size],vs.toArray.size,_,_,fun i=>(bs[i]?).getD true,rfl,Walks.list (A:=X.A.in1) (I.ok.hd hcalm) _ l (Nat.ne_of_lt hlt) vs.toArray,
  ⟨⟨_,Heap.get?_push_size _ rfl,rfl,rfl⟩,hl'.push _⟩,fun i v s' Q' E' hP hQ=>?_,fun h' tk hk=>?_⟩
 ·obtain ⟨b,e,rfl⟩:=hb.get i v (by simpa using hP)
  simp only [e,Option.getD_some] at hQ
  exact wpAny_truthy_bool hQ
 ·have e:((List.range vs.toArray.size).all fun i=>(bs[i]?).getD true) = bs.all id:=by
   have hlen:bs.length = vs.length:=by rw [← rv.length,List.length_map]
   rw [List.size_toArray,← hlen,Bool.eq_iff_iff,List.all_eq_true,List.all_eq_true]
   constructor
   ·intro z b hb'
    obtain ⟨i,hi,rfl⟩:=List.getElem_of_mem hb'
    have:=z i (List.mem_range.mpr hi)
    simpa [List.getElem?_eq_getElem hi] using this
   ·intro z i hi
    have hi':=List.mem_range.mp hi
    simpa [List.getElem?_eq_getElem hi'] using z _ (List.getElem_mem hi')
  rw [e]
  exact ⟨.bl (bs.all id),H,I.kept (t':=tk) (h':=h') (LSm.kept_iter hk),rfl,q⟩
end
theorem CSc.of {X:Cx} {scope:Scope} {N':List Str} {sub:List (Option Nat)} (sc:Scope) (NN:List Str) (e:X.env.scope = sc) (en:X.N = NN)
  (h:((scope.names.all fun y=>(y.2 != .free || sc.names.lookup y.1 == some .cell) && (y.2 != .cell) && (y.2 != .local || scope.names.lookup y.1 == some .local)) && (sub.length == N'.length) &&
   ((N'.zip sub).all fun p=>match p.2 with | none=>true | some i=>NN[i]? == some p.1 && sc.names.lookup p.1 == some .cell && scope.names.lookup p.1 == some .free)) = true)
  (hk:scope.kind = .function):CSc X scope N' sub:=by
 rw [Bool.and_eq_true,Bool.and_eq_true] at h
 obtain ⟨⟨h1,h2⟩,h3⟩:=h
 have k1:=fun y hy=>List.all_eq_true.mp h1 y hy
 refine ⟨fun y hy hf=>?_,fun y hy hc=>?_,hk,fun y hy hl=>?_,by simpa using h2,fun j y i hj hs=>?_⟩
 ·have:=k1 y hy
  simp only [hf,Bool.and_eq_true] at this
  have z:=this.1.1
  show X.env.scope.names.lookup y.1 = _
  rw [e]; simpa using z
 ·have:=k1 y hy
  simp only [hc,Bool.and_eq_true] at this
  simp at this
 ·have:=k1 y hy
  simp only [hl,Bool.and_eq_true] at this
  simpa using this.2
 ·have hm:(y,some i) ∈ N'.zip sub:=by
   have:(N'.zip sub)[j]? = some (y,some i):=by
    rw [List.getElem?_zip_eq_some]; exact ⟨hj,hs⟩
   exact List.mem_of_getElem? this
  have:=List.all_eq_true.mp h3 _ hm
  simp only [Bool.and_eq_true,beq_iff_eq] at this
  rw [e,en]
  exact ⟨this.1.1,this.1.2,this.2⟩
def US (a:Int) (lo hi:Option Int):Deed:=if lo ≠ none /\ lo = hi then ⟨0,lo,hi⟩ else ⟨a,lo,hi⟩
def thrO (e:Deed) (o:Option Int) (d:Option Int):Option Int:=match o with
 | none=>d
 | some l=>some (e.mk' l)
def UT (d e:Deed):Deed:=US (d.add + e.add) (thrO e d.lo e.lo) (thrO e d.hi e.hi)
def Deed.Bd (B:Int) (d:Deed):Prop:=(-B <= d.add /\ d.add <= B) /\ (∀ l,d.lo = some l -> -B <= l /\ l <= B) /\ ∀ h,d.hi = some h -> -B <= h /\ h <= B
theorem UU (a v:Int):(Deed.mk a none none).mk' v = v + a:=rfl
theorem UV (a l v:Int):(Deed.mk a (some l) none).mk' v = if l > v + a then l else v + a:=rfl
theorem UW (a h v:Int):(Deed.mk a none (some h)).mk' v = if h < v + a then h else v + a:=rfl
theorem UX (a l h v:Int):(Deed.mk a (some l) (some h)).mk' v = if h < (if l > v + a then l else v + a) then h else (if l > v + a then l else v + a):=rfl
def optA (o:Option Int):Int:=match o with | none=>0 | some i=>(i.natAbs:Int)
def Deed.big (d:Deed):Int:=(d.add.natAbs:Int) + optA d.lo + optA d.hi + 1
theorem UY {e:Deed} {B C:Int} (b:e.Bd B) (hB:0 <= B) {v:Int} (h1:-C <= v) (h2:v <= C) (hC:0 <= C):-(B + C) <= e.mk' v /\ e.mk' v <= B + C:=by
 obtain ⟨a,lo,hi⟩:=e
 obtain ⟨⟨b1,b2⟩,b3,b4⟩:=b
 have b1':-B <= a:=b1
 have b2':a <= B:=b2
 cases lo with
 | none =>
  cases hi with
  | none=>rw [UU]; omega
  | some h=>have:=b4 h rfl; rw [UW]; split <;> omega
 | some l =>
  have:=b3 l rfl
  cases hi with
  | none=>rw [UV]; split <;> omega
  | some h=>have:=b4 h rfl; rw [UX]; (repeat' split) <;> omega
theorem Deed.Sm.bd {d:Deed} (h:d.Sm):d.Bd (10 ^ 30):=by
 obtain ⟨⟨a1,a2⟩,h1,h2⟩:=h
 exact ⟨⟨by omega,by omega⟩,fun l e=>by have:=h1 l e; exact ⟨by have:=this.1; omega,by have:=this.2; omega⟩,fun l e=>by have:=h2 l e; exact ⟨by have:=this.1; omega,by have:=this.2; omega⟩⟩
theorem zD {c:Bool} {A B:Prop} (e:c = false) (h:B):if c = true then A else B:=by rw [e]; exact iteF h
theorem zN {c:Bool} {A B:Prop} (e:c = true) (h:A):if c = true then A else B:=by rw [e]; exact iteT h
theorem jS {K:FG7} {a:Addr} {xs:List V} {g:TG} {tt:TT} {te:TE} {Q:VK} {σ:L2.St} {H:Hp} (Pv:Nat -> List V -> L2.St -> Hp -> Prop) (h0:Pv 0 [] σ H) (hl:∀ i ys σ H,i <= xs.length -> Pv i ys σ H -> SqT K H a xs)
  (hs:∀ i x ys σ H,xs[i]? = some x -> Pv i ys σ H -> g x σ H fun σ2 H3=>tt σ2 H3 fun b H4=>if b = true then te σ2 H4 fun y H5=>ys.length < sizeLine /\ Pv (i + 1) (ys ++ [y]) σ2 H5 else Pv (i + 1) ys σ2 H4)
  (hd:∀ ys σ H,Pv xs.length ys σ H -> ∀ l,H l = none -> Q (.ref l) (upd H l (.lst ys))) :
  vX (Itt K a) σ H g tt te Q:=by
 refine ⟨fun i m ys σ H=>m = xs.length - i /\ i <= xs.length /\ Pv i ys σ H,⟨xs.length,by simp,Nat.zero_le _,h0⟩,?_⟩
 rintro i m ys σ H ⟨rfl,hi,p⟩
 have q:=hl i ys σ H hi p
 by_cases hlt:i < xs.length
 ·refine .inr ⟨⟨xs,xs[i],q,by simp [hlt]⟩,Pv (i + 1),fun zs σ' H' p'=>⟨xs.length - (i + 1),by omega,rfl,hlt,p'⟩,fun x H' y=>?_⟩
  obtain ⟨e,y⟩:=y
  subst e
  exact hs i x ys σ _ (y xs q) p
 ·have e:i = xs.length:=by omega
  subst e
  exact .inl ⟨⟨xs,q,Nat.le_refl _⟩,hd ys σ H p⟩
theorem Yo {K:FG7} {a:Addr} {xs:List V} {g:TG} {tt:TT} {te:TE} {Q:VK} {σ:L2.St} {H:Hp} (Pv:Nat -> List V -> L2.St -> Hp -> Prop) (h0:Pv 0 [] σ H) (hl:∀ i ys σ H,i <= xs.length -> Pv i ys σ H -> SqL K H a xs)
  (hs:∀ i x ys σ H,xs[i]? = some x -> Pv i ys σ H -> g x σ H fun σ2 H3=>tt σ2 H3 fun b H4=>if b = true then te σ2 H4 fun y H5=>ys.length < sizeLine /\ Pv (i + 1) (ys ++ [y]) σ2 H5 else Pv (i + 1) ys σ2 H4)
  (hd:∀ ys σ H,Pv xs.length ys σ H -> ∀ l,H l = none -> Q (.ref l) (upd H l (.lst ys))) :
  vX (Itl K a) σ H g tt te Q:=by
 refine ⟨fun i m ys σ H=>m = xs.length - i /\ i <= xs.length /\ Pv i ys σ H,⟨xs.length,by simp,Nat.zero_le _,h0⟩,?_⟩
 rintro i m ys σ H ⟨rfl,hi,p⟩
 have q:=hl i ys σ H hi p
 by_cases hlt:i < xs.length
 ·refine .inr ⟨⟨xs,xs[i],q,by simp [hlt]⟩,Pv (i + 1),fun zs σ' H' p'=>⟨xs.length - (i + 1),by omega,rfl,hlt,p'⟩,fun x H' y=>?_⟩
  obtain ⟨e,y⟩:=y
  subst e
  exact hs i x ys σ _ (y xs q) p
 ·have e:i = xs.length:=by omega
  subst e
  exact .inl ⟨⟨xs,q,Nat.le_refl _⟩,hd ys σ H p⟩
theorem Zu {K:FG7} {a:Addr} {xs:List V} {n:Nat} {te:TE} {Q:VK} {σ:L2.St} {H:Hp} (Pv:Nat -> List V -> L2.St -> Hp -> Prop) (h0:Pv 0 [] σ H) (hl:∀ i ys σ H,i <= xs.length -> Pv i ys σ H -> SqL K H a xs)
  (hs:∀ i x ys σ H,xs[i]? = some x -> Pv i ys σ H -> te (σ.set n (some x)) H fun y H5=>ys.length < sizeLine /\ Pv (i + 1) (ys ++ [y]) (σ.set n (some x)) H5)
  (hd:∀ ys σ H,Pv xs.length ys σ H -> ∀ l,H l = none -> Q (.ref l) (upd H l (.lst ys))):vX (Itl K a) σ H (vW n) Zt te Q :=
 Yo Pv h0 hl (fun i x ys σ H hx p=>by
  show if true = true then te (σ.set n (some x)) H (fun y H5=>ys.length < sizeLine /\ Pv (i + 1) (ys ++ [y]) (σ.set n (some x)) H5) else Pv (i + 1) ys (σ.set n (some x)) H
  rw [if_pos rfl]; exact hs i x ys σ H hx p) hd
theorem Yp {X:Cx} {K:FG7} (h:X.K = K):IxR X (rIxT K):=by subst h; exact zJ
theorem XF {X:Cx} {K:FG7} (h:X.K = K):IxR X (rIxL K):=by subst h; exact zZ
theorem Deed.Bd.mono {d:Deed} {B C:Int} (b:d.Bd B) (h:B <= C):d.Bd C:=by
 obtain ⟨⟨b1,b2⟩,b3,b4⟩:=b
 exact ⟨⟨by omega,by omega⟩,fun l e=>by have:=b3 l e; omega,fun l e=>by have:=b4 l e; omega⟩
section
variable {X:Cx}
def rEqL (K:FG7) (neg:Bool):R2:=fun x y H Q=>∃ a b xs ys,x = .ref a /\ y = .ref b /\ SqL K H a xs /\ SqL K H b ys /\ xs.all xy = true /\ ys.all xy = true /\ Q (.bl (if neg then !eqVs xs ys else eqVs xs ys)) H
theorem WB {k:Nat} (hr:Room k X.A):OpR X (compareOp .Eq) (rEqL X.K false):=by
 intro pins s σ H x y v u Q I rx ry h
 obtain ⟨a,b,xs,ys,rfl,rfl,ha,hb,f1,f2,q⟩:=h
 cases rx; cases ry
 obtain ⟨us,r1,t1,_⟩:=I.list ha
 obtain ⟨ws,r2,t2,_⟩:=I.list hb
 by_cases hl:us.length = ws.length
 ·refine SeqAt.eq_listAt t1.isList t2.isList (by simpa using hl) hr.units0 (WA r1 r2 f1 f2) ?_
  have e:=tP (xs:=xs) (ys:=ys)
  have e2:(xs.length == ys.length) = true:=by rw [beq_iff_eq,r1.length,r2.length]; exact hl
  rw [e2,Bool.and_true,show min xs.length ys.length = xs.length by rw [r1.length,r2.length]; omega] at e
  rw [List.size_toArray,← r1.length,e]
  exact ⟨.bl _,H,I,rfl,q⟩
 ·refine SeqAt.eq_list_lengthsAt t1.isList t2.isList (by simpa using hl) hr.units0 ?_
  have e:eqVs xs ys = false:=by
   cases z:eqVs xs ys with
   | false=>rfl
   | true=>exact absurd (by rw [← r1.length,← r2.length]; exact jQ z) hl
  rw [e] at q
  exact ⟨.bl _,H,I,rfl,q⟩
end
theorem W8 {i j:Int}:eqV (.int i) (.int j) = decide (i = j):=by rw [Bool.eq_iff_iff]; simp [eqV]
theorem wU:∀ {xs ys:List Int},eqVs (xs.map V.int) (ys.map V.int) = decide (xs = ys)
 | [],[]=>rfl
 | x :: xs,y :: ys=>by
  show (eqV (.int x) (.int y) && eqVs (xs.map V.int) (ys.map V.int)) = _
  rw [W8,wU,Bool.eq_iff_iff]
  simp
 | [],_ :: _=>by simp [eqVs]
 | _ :: _,[]=>by simp [eqVs]
theorem rp {xs:List Int}:(xs.map V.int).all xy = true:=by
 rw [List.all_eq_true]; intro x hx; obtain ⟨i,_,rfl⟩:=List.mem_map.mp hx; rfl
theorem Grow.sqL {H H':Hp} (g:Grow [] H H') {K:FG7} {a:Addr} {xs:List V} (h:SqL K H a xs):SqL K H' a xs:=by
 rcases h with (h | ⟨o,h⟩) | h
 ·exact .inl (.inl (g.keep _ _ (by simp) h))
 ·exact .inl (.inr ⟨o,g.frz _ _ _ h⟩)
 ·exact .inr h
section
variable {K:FG7} {a:Addr} {xs:List V} {n:Nat} {tt:TT} {te:TE} {Q:VK} {σ:L2.St} {H:Hp}
theorem rA {p:V -> Bool} {f:V -> V} {i:Nat} {x:V} (hx:xs[i]? = some x):((xs.take (i + 1)).filter p).map f = ((xs.take i).filter p).map f ++ (if p x = true then [f x] else []):=by
 rw [List.take_add_one,hx,List.filter_append,List.map_append]
 congr 1
 show ((([x]:List V)).filter p).map f = _
 by_cases c:p x = true
 ·rw [if_pos c,List.filter_cons_of_pos c]; rfl
 ·rw [if_neg c,List.filter_cons_of_neg c]; rfl
theorem XG {p:V -> Bool} {f:V -> V} {i:Nat} (h:xs.length <= 1000):(((xs.take i).filter p).map f).length < sizeLine:=by
 rw [List.length_map]
 refine zn ?_
 have:=List.length_filter_le p (xs.take i)
 have:=List.length_take_le i xs
 have:(xs.take i).length <= xs.length:=by rw [List.length_take]; omega
 omega
theorem XH {p:V -> Bool} {f:V -> V}:((xs.take xs.length).filter p).map f = (xs.filter p).map f:=by rw [List.take_length]
theorem Zv (p:V -> Bool) (f:V -> V) (hl:SqT K H a xs) (hlen:xs.length <= 1000)
  (ht:∀ x H' (R:Bool -> Hp -> Prop),x ∈ xs -> Grow [] H H' -> (∀ H2,Grow [] H' H2 -> R (p x) H2) -> tt (σ.set n (some x)) H' R)
  (hs:∀ x H' (R:VK),x ∈ xs -> p x = true -> Grow [] H H' -> (∀ H2,Grow [] H' H2 -> R (f x) H2) -> te (σ.set n (some x)) H' R)
  (hd:∀ H' l,Grow [] H H' -> H' l = none -> Q (.ref l) (upd H' l (.lst ((xs.filter p).map f)))):vX (Itt K a) σ H (vW n) tt te Q:=by
 refine jS (xs:=xs) (fun i ys σ' H'=>Grow [] H H' /\ (σ' = σ \/ ∃ e,σ' = σ.set n e) /\ ys = ((xs.take i).filter p).map f) ⟨Grow.refl _ _,.inl rfl,rfl⟩ ?_ ?_ ?_
 ·rintro i ys σ' H' _ ⟨g,_⟩
  exact g.sqT hl
 ·rintro i x ys σ' H' hx ⟨g,hσ,rfl⟩
  have e:σ'.set n (some x) = σ.set n (some x):=by
   rcases hσ with rfl | ⟨e,rfl⟩
   ·rfl
   ·rw [List.set_set]
  show tt (σ'.set n (some x)) H' _
  rw [e]
  refine ht x H' _ (List.mem_of_getElem? hx) g fun H2 g2=>?_
  by_cases c:p x = true
  ·rw [if_pos c]
   refine hs x H2 _ (List.mem_of_getElem? hx) c (g.trans g2) fun H3 g3=>⟨XG hlen,(g.trans g2).trans g3,.inr ⟨_,rfl⟩,?_⟩
   rw [rA hx,if_pos c]
  ·rw [if_neg c]
   refine ⟨g.trans g2,.inr ⟨_,rfl⟩,?_⟩
   rw [rA hx,if_neg c,List.append_nil]
 ·rintro ys σ' H' ⟨g,_,rfl⟩ l hl
  rw [XH]
  exact hd H' l g hl
theorem XI {p:V -> Bool} (h:∀ x,p x = true):xs.filter p = xs:=List.filter_eq_self.mpr fun x _=>h x
theorem Yq (f:V -> V) (hl:SqT K H a xs) (hlen:xs.length <= 1000)
  (hs:∀ x H' (R:VK),x ∈ xs -> Grow [] H H' -> (∀ H2,Grow [] H' H2 -> R (f x) H2) -> te (σ.set n (some x)) H' R)
  (hd:∀ H' l,Grow [] H H' -> H' l = none -> Q (.ref l) (upd H' l (.lst (xs.map f)))):vX (Itt K a) σ H (vW n) Zt te Q :=
 Zv (fun _=>true) f hl hlen (fun x H' R _ _ k=>k H' (Grow.refl _ _)) (fun x H' R hx _ g k=>hs x H' R hx g k) (fun H' l g hl=>by rw [XI fun _=>rfl]; exact hd H' l g hl)
def vi (f:Int -> Int):V -> V
 | .int i=>.int (f i)
 | v=>v
end
theorem nd {d e:Deed} (h:d = e):(!decide (d = e)) = false:=by rw [decide_eq_true h]; rfl
mutual
inductive Dat (K:FG7) (H:Hp):V -> PyData -> Prop
 | non:Dat K H .non .none
 | bl (b:Bool):Dat K H (.bl b) (.bool b)
 | int (i:Int):Dat K H (.int i) (.int i)
 | tup {a:Addr} {xs:List V} {ds:List PyData}:SqT K H a xs -> DatAll K H xs ds -> Dat K H (.ref a) (.tuple ds)
 | lst {a:Addr} {xs:List V} {ds:List PyData}:SqL K H a xs -> DatAll K H xs ds -> Dat K H (.ref a) (.list ds)
inductive DatAll (K:FG7) (H:Hp):List V -> List PyData -> Prop
 | nil:DatAll K H [] []
 | cons {x:V} {xs:List V} {d:PyData} {ds:List PyData}:Dat K H x d -> DatAll K H xs ds -> DatAll K H (x :: xs) (d :: ds)
end
section
variable {X:Cx} {pins:List (Addr × Obj)} {σ:L2.St} {H:Hp} {s:Shared}
mutual
theorem Dat.reads (I:Inv X pins σ H s):∀ {x:V} {d:PyData} {u:Value},Dat X.K H x d -> RelV x u -> ∃ as,Reads s.heap u d as
 | _,_,u,.non,r=>by
  cases (show u = Value.none from r)
  exact ⟨_,.none⟩
 | _,_,u,.bl b,r=>by
  cases (show u = Value.bool b from r)
  exact ⟨_,.bool b⟩
 | _,_,u,.int i,r=>by
  obtain ⟨t,rfl⟩:=r
  exact ⟨_,.int i t⟩
 | _,_,u,.tup (a:=a) hs hd,r=>by
  cases (show u = Value.ref a from r)
  obtain ⟨its,r1,⟨o,e1,e2,n,e3⟩,_⟩:=I.tuple hs
  obtain ⟨as,q⟩:=DatAll.reads I hd r1
  exact ⟨_,.tuple e1 e2 e3 q⟩
 | _,_,u,.lst (a:=a) hs hd,r=>by
  cases (show u = Value.ref a from r)
  obtain ⟨its,r1,⟨o,n,e1,e2,_,e3⟩,_⟩:=I.list hs
  obtain ⟨as,q⟩:=DatAll.reads I hd r1
  exact ⟨_,.list e1 e2 e3 q⟩
theorem DatAll.reads (I:Inv X pins σ H s):∀ {xs:List V} {ds:List PyData} {us:List Value},DatAll X.K H xs ds -> Vals xs us -> ∃ as,ReadsAll s.heap us ds as
 | _,_,_,.nil,.nil=>⟨_,.nil⟩
 | _,_,_,.cons h t,.cons r rs=>by
  obtain ⟨as,q⟩:=Dat.reads I h r
  obtain ⟨bs,q2⟩:=DatAll.reads I t rs
  exact ⟨_,.cons q q2⟩
end
end
mutual
/-- a bound of the text's length -/
def wtD:PyData -> Nat
 | .list xs | .tuple xs=>wtAll xs + 3
 | .int _=>1921
 | .none | .bool _=>5
 | _=>20000000
def wtAll:List PyData -> Nat
 | []=>0
 | x :: xs=>wtD x + 2 + wtAll xs
end
mutual
theorem shown_wt:∀ {d:PyData},d.showable = true -> d.hasDict = false -> wtD d <= 16777216 -> d.shown.length <= wtD d
 | .none,_,_,_=>by decide
 | .bool b,_,_,_=>by cases b <;> decide
 | .int i,h,_,_=>int_text_len_1921 (of_decide_eq_true h)
 | .str _,_,_,z=>absurd (show 20000000 <= 16777216 from z) (by decide)
 | .list xs,h,h2,z=>by
  have z':wtAll xs + 3 <= 16777216:=z
  have q:=shown_wtAll (xs:=xs) h h2 (by omega)
  have l:=listText_len_le (PyData.shownAll xs)
  show (listText (PyData.shownAll xs)).length <= wtAll xs + 3
  omega
 | .tuple xs,h,h2,z=>by
  have z':wtAll xs + 3 <= 16777216:=z
  have q:=shown_wtAll (xs:=xs) h h2 (by omega)
  have l:=tupleText_len_le (PyData.shownAll xs)
  show (tupleText (PyData.shownAll xs)).length <= wtAll xs + 3
  omega
 | .dict _,_,h,_=>by cases h
theorem shown_wtAll:∀ {xs:List PyData},PyData.showableAll xs = true -> PyData.hasDictAll xs = false -> wtAll xs <= 16777216 -> ((PyData.shownAll xs).map (·.length)).sum + 2 * (PyData.shownAll xs).length <= wtAll xs
 | [],_,_,_=>by decide
 | x :: xs,h,h2,z=>by
  have h':(x.showable && PyData.showableAll xs) = true:=h
  have h2':(x.hasDict || PyData.hasDictAll xs) = false:=h2
  rw [Bool.and_eq_true] at h'
  rw [Bool.or_eq_false_iff] at h2'
  have z':wtD x + 2 + wtAll xs <= 16777216:=z
  have q1:=shown_wt (d:=x) h'.1 h2'.1 (by omega)
  have q2:=shown_wtAll (xs:=xs) h'.2 h2'.2 (by omega)
  show (x.shown.length :: (PyData.shownAll xs).map (·.length)).sum + 2 * ((PyData.shownAll xs).length + 1) <= wtD x + 2 + wtAll xs
  rw [List.sum_cons]
  omega
end
abbrev Span:=Option (Option Int × Option Int)
def WC (K:FG7) (H:Hp) (x:V):Span -> Prop
 | none=>x = .non
 | some (l,h)=>∃ a,x = .ref a /\ SqT K H a [ov l,ov h]
def I200 (i:Int):Prop:=-(2 ^ 300) < i /\ i < 2 ^ 300
theorem UZ {i:Int} (h:I200 i):RepI i:=by
 show i.natAbs.log2 < 1920
 by_cases h0:i.natAbs = 0
 ·rw [h0]; decide
 ·exact Nat.lt_of_lt_of_le ((Nat.log2_lt h0).mpr (show i.natAbs < 2 ^ 300 by obtain ⟨a,b⟩:=h; omega)) (by decide)
def oD:Option Int -> PyData
 | none=>.none
 | some i=>.int i
def U0:Span -> PyData
 | none=>.none
 | some (l,h)=>.tuple [oD l,oD h]
theorem jT {K:FG7} {H:Hp} (o:Option Int):Dat K H (ov o) (oD o):=by cases o; exact .non; exact .int _
theorem WC.dat {K:FG7} {H:Hp} {x:V} {sp:Span} (h:WC K H x sp):Dat K H x (U0 sp):=by
 match sp,h with
 | none,h=>cases (show x = .non from h); exact .non
 | some (l,u),⟨a,e,q⟩=>subst e; exact .tup q (.cons (jT l) (.cons (jT u) .nil))
section
variable {K:FG7} {a:Addr} {xs:List V} {lo:Int} {n k:Nat} {te:TE} {Q:VK} {σ:L2.St} {H:Hp}
theorem wf (Pv:Nat -> List V -> Hp -> Prop) (h0:Pv 0 [] H)
  (hs:∀ i ys H',i < n -> Pv i ys H' -> te (σ.set k (some (.int (lo + i)))) H' fun y H5=>ys.length < sizeLine /\ Pv (i + 1) (ys ++ [y]) H5)
  (hd:∀ ys H',Pv n ys H' -> ∀ l,H' l = none -> Q (.ref l) (upd H' l (.lst ys))):vX (Itr lo n) σ H (vW k) Zt te Q:=by
 refine ⟨fun i m ys σ' H'=>m = n - i /\ i <= n /\ (σ' = σ \/ ∃ e,σ' = σ.set k e) /\ Pv i ys H',⟨n,by simp,Nat.zero_le _,.inl rfl,h0⟩,?_⟩
 rintro i m ys σ' H' ⟨rfl,hi,hσ,p⟩
 by_cases hlt:i < n
 ·refine .inr ⟨hlt,fun zs σ2 H2=>(σ2 = σ \/ ∃ e,σ2 = σ.set k e) /\ Pv (i + 1) zs H2,fun zs σ2 H2 p'=>⟨n - (i + 1),by omega,rfl,hlt,p'.1,p'.2⟩,fun x H2 y=>?_⟩
  obtain ⟨e,y⟩:=y
  subst e y
  have e:σ'.set k (some (V.int (lo + i))) = σ.set k (some (V.int (lo + i))):=by
   rcases hσ with rfl | ⟨e,rfl⟩
   ·rfl
   ·rw [List.set_set]
  show if true = true then te (σ'.set k (some (V.int (lo + i)))) H2 (fun y H5=>ys.length < sizeLine /\ ((σ'.set k (some (V.int (lo + i))) = σ \/ ∃ e,σ'.set k (some (V.int (lo + i))) = σ.set k e) /\ Pv (i + 1) (ys ++ [y]) H5)) else ((σ'.set k (some (V.int (lo + i))) = σ \/ ∃ e,σ'.set k (some (V.int (lo + i))) = σ.set k e) /\ Pv (i + 1) ys H2)
  rw [if_pos rfl,e]
  have e2:(fun (y:V) (H5:Hp)=>ys.length < sizeLine /\ ((σ.set k (some (V.int (lo + i))) = σ \/ ∃ e,σ.set k (some (V.int (lo + i))) = σ.set k e) /\ Pv (i + 1) (ys ++ [y]) H5)) = fun y H5=>ys.length < sizeLine /\ Pv (i + 1) (ys ++ [y]) H5:=by
   funext y H5
   exact propext ⟨fun z=>⟨z.1,z.2.2⟩,fun z=>⟨z.1,.inr ⟨_,rfl⟩,z.2⟩⟩
  rw [e2]
  exact hs i ys H2 hlt p
 ·have e:i = n:=by omega
  subst e
  exact .inl ⟨Nat.le_refl _,hd ys H' p⟩
end
theorem Grow.fresh {m:List Addr} {H H':Hp} (h:∀ b ∈ m,H b = none) (g:Grow m H H'):Grow [] H H' :=
 ⟨fun b o _ q=>g.keep b o (fun z=>by rw [h b z] at q; cases q) q,g.tup,g.frz⟩
theorem Grow.less {m m':List Addr} {H H':Hp} (g:Grow m H H') (h:∀ b ∈ m,b ∈ m' \/ H b = none):Grow m' H H' :=
 ⟨fun b o n q=>g.keep b o (fun z=>by
  rcases h b z with w | w
  ·exact n w
  ·rw [w] at q; cases q) q,g.tup,g.frz⟩
theorem Pot.ne {H:Hp} {a l:Addr} (p:Pot H a) (h:H l = none):l ∉ [a]:=by
 intro z
 obtain ⟨z0,z1,hz,_⟩:=p
 rw [List.mem_singleton.mp z,hz] at h
 cases h
theorem qJ {n:Nat} {i:Int} (h0:0 <= i) (h:i.toNat < n):ixN n i = some i.toNat:=by
 unfold ixN; rw [if_pos h0,if_pos (by omega)]
theorem W9 {xs:List V} {i:Int} {j:Nat} {v:V} (h:ixN xs.length i = some j) (hv:xs[j]? = some v):atI xs i = some v:=by
 unfold atI; rw [h]; exact hv
structure Ask where
 hand:Int
 box:Int
 deed:Deed
def qK (K:FG7) (H:Hp) (x:V) (k:Ask):Prop:=∃ r rd,x = .ref r /\ SqT K H r [.int k.hand,.int k.box,.ref rd] /\ SqT K H rd k.deed.vs
def AllA (K:FG7) (H:Hp):List V -> List Ask -> Prop
 | [],[]=>True
 | x :: xs,k :: ks=>qK K H x k /\ AllA K H xs ks
 | _,_=>False
def WD (K:FG7) (H:Hp) (x:V) (ks:List Ask):Prop:=∃ r xs,x = .ref r /\ SqT K H r xs /\ AllA K H xs ks
def zE (K:FG7) (H:Hp) (x:V) (b:List Int):Prop:=∃ r,x = .ref r /\ SqT K H r (b.map V.int)
theorem Grow.ask {m:List Addr} {H H':Hp} (g:Grow m H H') {K:FG7} {x:V} {k:Ask} (h:qK K H x k):qK K H' x k:=by
 obtain ⟨r,rd,e,h1,h2⟩:=h
 exact ⟨r,rd,e,g.sqT h1,g.sqT h2⟩
theorem Grow.board {m:List Addr} {H H':Hp} (g:Grow m H H') {K:FG7} {x:V} {b:List Int} (h:zE K H x b):zE K H' x b:=by
 obtain ⟨r,e,h1⟩:=h
 exact ⟨r,e,g.sqT h1⟩
theorem AllA.len {K:FG7} {H:Hp}:∀ {xs:List V} {ks:List Ask},AllA K H xs ks -> xs.length = ks.length
 | [],[],_=>rfl
 | _ :: xs,_ :: ks,⟨_,t⟩=>congrArg (· + 1) (AllA.len t)
 | [],_ :: _,h=>h.elim
 | _ :: _,[],h=>h.elim
theorem AllA.get {K:FG7} {H:Hp}:∀ {xs:List V} {ks:List Ask} {i:Nat} {x:V},AllA K H xs ks -> xs[i]? = some x -> ∃ k,ks[i]? = some k /\ qK K H x k
 | _ :: _,k :: _,0,x,⟨h,_⟩,e=>by
  obtain rfl:=Option.some.inj e
  exact ⟨k,rfl,h⟩
 | _ :: _,_ :: _,i + 1,x,⟨_,t⟩,e=>AllA.get (i:=i) t e
 | [],[],i,x,_,e=>by cases e
 | [],_ :: _,_,_,h,_=>h.elim
 | _ :: _,[],_,_,h,_=>h.elim
theorem AllA.snoc {K:FG7} {H:Hp}:∀ {xs:List V} {ks:List Ask} {x:V} {k:Ask},AllA K H xs ks -> qK K H x k -> AllA K H (xs ++ [x]) (ks ++ [k])
 | [],[],_,_,_,h=>⟨h,trivial⟩
 | _ :: _,_ :: _,_,_,⟨h,t⟩,q=>⟨h,AllA.snoc t q⟩
 | [],_ :: _,_,_,h,_=>h.elim
 | _ :: _,[],_,_,h,_=>h.elim
theorem Yr {xs:List Int} {i:Nat} (h:i < xs.length):xs[i]? = some (xs.getD i 0):=by
 rw [List.getD_eq_getElem?_getD,List.getElem?_eq_getElem h]; rfl
def InB (B:Int) (xs:List Int):Prop:=∀ v ∈ xs,-B < v /\ v < B
def qL (xs:List Int):PyData:=.tuple (xs.map PyData.int)
def rB (d:Deed):PyData:=.tuple [.int d.add,oD d.lo,oD d.hi]
def askD (k:Ask):PyData:=.tuple [.int k.hand,.int k.box,rB k.deed]
def U1 (ks:List Ask):PyData:=.tuple (ks.map askD)
theorem ud {K:FG7} {H:Hp}:∀ xs:List Int,DatAll K H (xs.map V.int) (xs.map PyData.int)
 | []=>.nil
 | x :: xs=>.cons (.int x) (ud xs)
theorem zE.dat {K:FG7} {H:Hp} {x:V} {b:List Int} (h:zE K H x b):Dat K H x (qL b):=by
 obtain ⟨r,rfl,h⟩:=h
 exact .tup h (ud b)
theorem jU {K:FG7} {H:Hp} {r:Addr} {d:Deed} (h:SqT K H r d.vs):Dat K H (.ref r) (rB d):=.tup h (.cons (.int _) (.cons (jT _) (.cons (jT _) .nil)))
theorem qK.dat {K:FG7} {H:Hp} {x:V} {k:Ask} (h:qK K H x k):Dat K H x (askD k):=by
 obtain ⟨r,rd,rfl,h1,h2⟩:=h
 exact .tup h1 (.cons (.int _) (.cons (.int _) (.cons (jU h2) .nil)))
theorem AllA.dat {K:FG7} {H:Hp}:∀ {xs:List V} {ks:List Ask},AllA K H xs ks -> DatAll K H xs (ks.map askD)
 | [],[],_=>.nil
 | _ :: _,_ :: _,⟨h,t⟩=>.cons h.dat (AllA.dat t)
 | [],_ :: _,h=>h.elim
 | _ :: _,[],h=>h.elim
theorem WD.dat {K:FG7} {H:Hp} {x:V} {ks:List Ask} (h:WD K H x ks):Dat K H x (U1 ks):=by
 obtain ⟨r,xs,rfl,h1,h2⟩:=h
 exact .tup h1 h2.dat
def Sh (d:PyData) (w n:Nat):Prop:=d.showable = true /\ d.hasDict = false /\ wtD d <= w /\ d.depth <= n
theorem Sh.mono {d:PyData} {w w' n n':Nat} (h:Sh d w n) (h1:w <= w') (h2:n <= n'):Sh d w' n':=⟨h.1,h.2.1,Nat.le_trans h.2.2.1 h1,Nat.le_trans h.2.2.2 h2⟩
def ShA (ds:List PyData) (w n:Nat):Prop:=PyData.showableAll ds = true /\ PyData.hasDictAll ds = false /\ wtAll ds <= w /\ PyData.depthAll ds <= n
theorem qM {n:Nat}:ShA [] 0 n:=⟨rfl,rfl,Nat.le_refl _,Nat.zero_le _⟩
theorem wg {d:PyData} {ds:List PyData} {w v n:Nat} (h:Sh d w n) (t:ShA ds v n):ShA (d :: ds) (w + 2 + v) n:=by
 obtain ⟨a1,a2,a3,a4⟩:=h
 obtain ⟨b1,b2,b3,b4⟩:=t
 refine ⟨?_,?_,?_,?_⟩
 ·show (d.showable && PyData.showableAll ds) = true
  rw [a1,b1]; rfl
 ·show (d.hasDict || PyData.hasDictAll ds) = false
  rw [a2,b2]; rfl
 ·show wtD d + 2 + wtAll ds <= _; omega
 ·show max d.depth (PyData.depthAll ds) <= n; omega
theorem Ys {ds:List PyData} {w n:Nat} (h:ShA ds w n):Sh (.tuple ds) (w + 3) (n + 1):=⟨h.1,h.2.1,Nat.add_le_add_right h.2.2.1 3,Nat.add_le_add_right h.2.2.2 1⟩
theorem jV {i:Int} {n:Nat} (h:I200 i):Sh (.int i) 1921 n:=⟨decide_eq_true (UZ h),rfl,Nat.le_refl _,Nat.zero_le _⟩
theorem V8 {o:Option Int} {n:Nat} (h:∀ i,o = some i -> I200 i):Sh (oD o) 1921 n:=by
 cases o with
 | none=>exact ⟨rfl,rfl,(by show (5:Nat) <= 1921; decide),Nat.zero_le _⟩
 | some i=>exact jV (h i rfl)
theorem Yt {α:Type} {f:α -> PyData} {w n:Nat}:∀ {xs:List α},(∀ x ∈ xs,Sh (f x) w n) -> ShA (xs.map f) (xs.length * (w + 2)) n
 | [],_=>by rw [show ([]:List α).length * (w + 2) = 0 from Nat.zero_mul _]; exact qM
 | x :: xs,h=>by
  have z:=wg (h x (by simp)) (Yt (xs:=xs) fun y hy=>h y (List.mem_cons_of_mem _ hy))
  rw [show (x :: xs).length * (w + 2) = w + 2 + xs.length * (w + 2) by rw [List.length_cons,Nat.add_mul,Nat.one_mul,Nat.add_comm]]
  exact z
theorem Va {xs:List Int} {n:Nat} (h:InB (2 ^ 300) xs):Sh (qL xs) (xs.length * 1923 + 3) (n + 1):=Ys (Yt fun x hx=>jV (h x hx))
def WE (K:FG7) (H:Hp) (x:V) (p:List Int × List Int):Prop:=∃ r r1 r2,x = .ref r /\ SqT K H r [.ref r1,.ref r2] /\ SqT K H r1 (p.1.map V.int) /\ SqT K H r2 (p.2.map V.int)
def U2 (p:List Int × List Int):PyData:=.tuple [qL p.1,qL p.2]
theorem WE.dat {K:FG7} {H:Hp} {x:V} {p:List Int × List Int} (h:WE K H x p):Dat K H x (U2 p):=by
 obtain ⟨r,r1,r2,rfl,h0,h1,h2⟩:=h
 exact .tup h0 (.cons (.tup h1 (ud _)) (.cons (.tup h2 (ud _)) .nil))
theorem InB.mono {B C:Int} {xs:List Int} (h:InB B xs) (hC:B <= C):InB C xs:=fun v hv=>by have:=h v hv; omega
def xS (_:FG7):Sp:=sp2 fun x y H Q=>∃ a m,x = .ref a /\ y = .int m /\ Pot H a /\ 0 < m /\ m < 2 ^ 200 /\ ∀ n H',0 <= n -> n < m -> Grow [a] H H' -> Pot H' a -> Q (.int n) H'
theorem wV {P:Program} {w:World} {K:FG7} {mg:Str -> Option Value} {base:Heap} {CX:CXT} {k:Nat} {f:Addr} {fd:FuncData} {ps:List Str} {sp:Sp} (h:∀ vs H Q E,¬ sp vs H Q E):FnOk P w K mg base CX k f fd ps sp :=
 ⟨fun vs H Q E z=>(h vs H Q E z).elim,by
  intros
  first
   | exact (h _ _ _ _ (by assumption)).elim⟩
inductive Tr where
 | leaf (n:Int)
 | node (l r:Tr)
def Tr.count:Tr -> Int
 | .leaf _=>1
 | .node l r=>l.count + r.count
def Tr.ht:Tr -> Nat
 | .leaf _=>0
 | .node l r=>max l.ht r.ht + 1
def yX (K:FG7) (H:Hp) (x:V):Tr -> Prop
 | .leaf n=>x = .int n
 | .node l r=>∃ a xl xr,x = .ref a /\ SqT K H a [xl,xr] /\ yX K H xl l /\ yX K H xr r
theorem Grow.tree {m:List Addr} {H H':Hp} (g:Grow m H H') {K:FG7}:∀ {t:Tr} {x:V},yX K H x t -> yX K H' x t
 | .leaf n,x,h=>h
 | .node l r,x,h=>by
  obtain ⟨a,xl,xr,e,hs,h1,h2⟩:=h
  exact ⟨a,xl,xr,e,g.sqT hs,g.tree h1,g.tree h2⟩
def trD:Tr -> PyData
 | .leaf n=>.int n
 | .node l r=>.tuple [trD l,trD r]
theorem yX.dat {K:FG7} {H:Hp}:∀ {t:Tr} {x:V},yX K H x t -> Dat K H x (trD t)
 | .leaf n,x,h=>by
  cases (show x = V.int n from h)
  exact .int n
 | .node l r,x,h=>by
  obtain ⟨a,xl,xr,e,hs,h1,h2⟩:=h
  subst e
  exact .tup hs (.cons (yX.dat h1) (.cons (yX.dat h2) .nil))
def Tr.Nums (t:Tr):Prop:=match t with
 | .leaf n=>I200 n
 | .node l r=>l.Nums /\ r.Nums
def Tr.wt:Tr -> Nat
 | .leaf _=>1
 | .node l r=>l.wt + r.wt + 1
theorem qN:∀ {t:Tr},t.Nums -> Sh (trD t) (t.wt * 1928) t.ht
 | .leaf n,h=>(jV h).mono (by show 1921 <= 1 * 1928; decide) (Nat.le_refl 0)
 | .node l r,h=>by
  have a:=(qN (t:=l) h.1).mono (Nat.le_refl _) (show l.ht <= max l.ht r.ht by omega)
  have b:=(qN (t:=r) h.2).mono (Nat.le_refl _) (show r.ht <= max l.ht r.ht by omega)
  have z:=Ys (wg a (wg b qM))
  refine z.mono ?_ (Nat.le_refl (max l.ht r.ht + 1))
  show l.wt * 1928 + 2 + (r.wt * 1928 + 2 + 0) + 3 <= (l.wt + r.wt + 1) * 1928
  omega
def AllR {α:Type} (R:V -> α -> Prop):List V -> List α -> Prop
 | [],[]=>True
 | x :: xs,k :: ks=>R x k /\ AllR R xs ks
 | _,_=>False
section
variable {α:Type} {R S:V -> α -> Prop}
theorem AllR.imp (h:∀ x k,R x k -> S x k):∀ {xs:List V} {ks:List α},AllR R xs ks -> AllR S xs ks
 | [],[],_=>trivial
 | _ :: _,_ :: _,⟨a,t⟩=>⟨h _ _ a,AllR.imp h t⟩
 | [],_ :: _,z=>z.elim
 | _ :: _,[],z=>z.elim
theorem AllR.len:∀ {xs:List V} {ks:List α},AllR R xs ks -> xs.length = ks.length
 | [],[],_=>rfl
 | _ :: xs,_ :: ks,⟨_,t⟩=>congrArg (· + 1) (AllR.len t)
 | [],_ :: _,h=>h.elim
 | _ :: _,[],h=>h.elim
theorem AllR.get:∀ {xs:List V} {ks:List α} {i:Nat} {x:V},AllR R xs ks -> xs[i]? = some x -> ∃ k,ks[i]? = some k /\ R x k
 | _ :: _,k :: _,0,x,⟨h,_⟩,e=>by
  obtain rfl:=Option.some.inj e
  exact ⟨k,rfl,h⟩
 | _ :: _,_ :: _,i + 1,x,⟨_,t⟩,e=>AllR.get (i:=i) t e
 | [],[],i,x,_,e=>by cases e
 | [],_ :: _,_,_,h,_=>h.elim
 | _ :: _,[],_,_,h,_=>h.elim
theorem AllR.getR:∀ {xs:List V} {ks:List α} {i:Nat} {k:α},AllR R xs ks -> ks[i]? = some k -> ∃ x,xs[i]? = some x /\ R x k
 | x :: _,_ :: _,0,k,⟨h,_⟩,e=>by
  obtain rfl:=Option.some.inj e
  exact ⟨x,rfl,h⟩
 | _ :: _,_ :: _,i + 1,k,⟨_,t⟩,e=>AllR.getR (i:=i) t e
 | [],[],i,k,_,e=>by cases e
 | [],_ :: _,_,_,h,_=>h.elim
 | _ :: _,[],_,_,h,_=>h.elim
theorem AllR.app:∀ {xs ys:List V} {ks js:List α},AllR R xs ks -> AllR R ys js -> AllR R (xs ++ ys) (ks ++ js)
 | [],_,[],_,_,h=>h
 | _ :: _,_,_ :: _,_,⟨h,t⟩,q=>⟨h,AllR.app t q⟩
 | [],_,_ :: _,_,h,_=>h.elim
 | _ :: _,_,[],_,h,_=>h.elim
theorem AllR.one {x:V} {k:α} (h:R x k):AllR R [x] [k]:=⟨h,trivial⟩
theorem AllR.take:∀ {xs:List V} {ks:List α} {n:Nat},AllR R xs ks -> AllR R (xs.take n) (ks.take n)
 | [],[],n,_=>by rw [List.take_nil,List.take_nil]; trivial
 | _ :: _,_ :: _,0,_=>trivial
 | _ :: _,_ :: _,n + 1,⟨h,t⟩=>⟨h,AllR.take t⟩
 | [],_ :: _,_,h=>h.elim
 | _ :: _,[],_,h=>h.elim
theorem AllR.snocE {xs:List V} {x:V} {ks:List α} (h:AllR R (xs ++ [x]) ks):∃ js j,ks = js ++ [j] /\ AllR R xs js /\ R x j:=by
 induction xs generalizing ks with
 | nil =>
  cases ks with
  | nil=>exact h.elim
  | cons k ks =>
   obtain ⟨a,b⟩:=h
   cases ks with
   | nil=>exact ⟨[],k,rfl,trivial,a⟩
   | cons _ _=>exact b.elim
 | cons y ys ih =>
  cases ks with
  | nil=>exact h.elim
  | cons k ks =>
   obtain ⟨a,b⟩:=h
   obtain ⟨js,j,rfl,p,q⟩:=ih b
   exact ⟨k :: js,j,rfl,⟨a,p⟩,q⟩
end
def jW (K:FG7) (H:Hp) (x:V) (ds:List Deed):Prop:=∃ r xs,x = .ref r /\ SqT K H r xs /\ AllR (rg K H) xs ds
theorem rg.dat {K:FG7} {H:Hp} {x:V} {d:Deed} (h:rg K H x d):Dat K H x (rB d):=by
 obtain ⟨r,rfl,h⟩:=h
 exact jU h
theorem datR {α:Type} {K:FG7} {H:Hp} {R:V -> α -> Prop} {f:α -> PyData} (h:∀ x k,R x k -> Dat K H x (f k)):∀ {xs:List V} {ks:List α},AllR R xs ks -> DatAll K H xs (ks.map f)
 | [],[],_=>.nil
 | _ :: _,_ :: _,⟨a,t⟩=>.cons (h _ _ a) (datR h t)
 | [],_ :: _,h=>h.elim
 | _ :: _,[],h=>h.elim
theorem jW.dat {K:FG7} {H:Hp} {x:V} {ds:List Deed} (h:jW K H x ds):Dat K H x (.tuple (ds.map rB)):=by
 obtain ⟨r,xs,rfl,h1,h2⟩:=h
 exact .tup h1 (datR (fun _ _ z=>z.dat) h2)
def Ordd:Tr -> Int -> Prop
 | .leaf n,f=>n = f
 | .node l r,f=>Ordd l f /\ Ordd r (f + l.count)
def look:Deed:=⟨0,none,none⟩
def V9 (ds:List Deed):Prop:=∀ d ∈ ds,d.Ok
theorem ym:∀ t:Tr,1 <= t.count
 | .leaf _=>Int.le_refl 1
 | .node l r=>by have:=ym l; have:=ym r; show 1 <= l.count + r.count; omega
def runD (ds:List Deed):Deed:=ds.foldl UT look
theorem XJ {d:Deed} {n:Nat} (h:d.Bd (2 ^ 299)):Sh (rB d) 5772 (n + 1):=by
 have q:∀ i,-(2 ^ 299) <= i -> i <= 2 ^ 299 -> I200 i:=fun i a b=>by
  have e:(2:Int) ^ 300 = 2 * 2 ^ 299:=by rw [Int.pow_succ,Int.mul_comm]
  have p:(0:Int) < 2 ^ 299:=Int.pow_pos (by decide)
  exact ⟨by rw [e]; omega,by rw [e]; omega⟩
 exact Ys (wg (jV (q _ h.1.1 h.1.2)) (wg (V8 fun i e=>q i (h.2.1 i e).1 (h.2.1 i e).2) (wg (V8 fun i e=>q i (h.2.2 i e).1 (h.2.2 i e).2) qM)))
theorem Vb {xs:List V} (h:xs ≠ []):∃ ys y,xs = ys ++ [y]:=by
 cases e:xs.reverse with
 | nil=>exact absurd (List.reverse_eq_nil_iff.mp e) h
 | cons y r=>exact ⟨r.reverse,y,by rw [← List.reverse_reverse xs,e,List.reverse_cons]⟩
theorem tZ:∀ t:Tr,(t.wt:Int) = 2 * t.count - 1
 | .leaf _=>rfl
 | .node l r=>by
  have a:=tZ l
  have b:=tZ r
  show ((l.wt + r.wt + 1:Nat):Int) = 2 * (l.count + r.count) - 1
  omega
theorem AllR.drop {α:Type} {R:V -> α -> Prop}:∀ {xs:List V} {ks:List α} {n:Nat},AllR R xs ks -> AllR R (xs.drop n) (ks.drop n)
 | [],[],n,_=>by rw [List.drop_nil,List.drop_nil]; trivial
 | _ :: _,_ :: _,0,h=>h
 | _ :: _,_ :: _,n + 1,⟨h,t⟩=>AllR.drop (n:=n) t
 | [],_ :: _,_,h=>h.elim
 | _ :: _,[],_,h=>h.elim
theorem AllR.cut {α:Type} {R:V -> α -> Prop} {xs:List V} {ks:List α} (h:AllR R xs ks) (lo hi:Option Int):∃ us,AllR R (cutV xs lo hi) us /\ ∀ u ∈ us,u ∈ ks:=by
 unfold cutV
 exact ⟨_,(h.drop (n:=HT.sIx xs.length 0 lo)).take (n:=HT.sIx xs.length xs.length hi - HT.sIx xs.length 0 lo),fun u hu=>List.mem_of_mem_drop (List.mem_of_mem_take hu)⟩
def TOk (m:Int) (t:Tr):Prop:=Ordd t 0 /\ t.count = m /\ t.ht < 41 /\ t.Nums
theorem TOk.sh {m:Int} {t:Tr} (h:TOk m t) (hm:m <= 40):Sh (trD t) 154240 40:=by
 obtain ⟨_,h1,h2,h3⟩:=h
 have w:=tZ t
 exact (qN h3).mono (by have h80:t.wt <= 80:=(by omega); have:=Nat.mul_le_mul_right 1928 h80; omega) (by omega)
theorem CSc.nest {X0:Cx} {scope scope2:Scope} {N' N2:List Str} {sub sub2:List (Option Nat)} {cl:List (Str × Addr)} {C D:Addr} {fp:List Addr} {s:Shared} {H:Hp} (S:CSc X0 scope N' sub) (hk0:X0.env.scope.kind = .function)
  (h:((scope2.names.all fun y=>(y.2 != .free || scope.names.lookup y.1 == some .free) && (y.2 != .cell) && (y.2 != .local || scope2.names.lookup y.1 == some .local)) && (sub2.length == N2.length) &&
   ((N2.zip sub2).all fun p=>match p.2 with | none=>true | some i=>N'[i]? == some p.1 && scope.names.lookup p.1 == some .free && scope2.names.lookup p.1 == some .free)) = true)
  (hk:scope2.kind = .function):CSc (cxC X0 N' scope cl C D fp s H) scope2 N2 sub2:=by
 rw [Bool.and_eq_true,Bool.and_eq_true] at h
 obtain ⟨⟨h1,h2⟩,h3⟩:=h
 have k1:=fun y hy=>List.all_eq_true.mp h1 y hy
 have cellOf:∀ y:Str,scope.names.lookup y = some .free -> (relabel scope X0.env).names.lookup y = some .cell:=fun y hy=>yW hk0 (S.free (y,.free) (PySem.mem_of_lookup hy) rfl) hy
 refine ⟨fun y hy hf=>?_,fun y hy hc=>?_,hk,fun y hy hl=>?_,by simpa using h2,fun j y i hj hs=>?_⟩
 ·have:=k1 y hy
  simp only [hf,Bool.and_eq_true] at this
  have z:=this.1.1
  exact cellOf y.1 (by simpa using z)
 ·have:=k1 y hy
  simp only [hc,Bool.and_eq_true] at this
  simp at this
 ·have:=k1 y hy
  simp only [hl,Bool.and_eq_true] at this
  simpa using this.2
 ·have hm:(y,some i) ∈ N2.zip sub2:=by
   have:(N2.zip sub2)[j]? = some (y,some i):=by
    rw [List.getElem?_zip_eq_some]; exact ⟨hj,hs⟩
   exact List.mem_of_getElem? this
  have:=List.all_eq_true.mp h3 _ hm
  simp only [Bool.and_eq_true,beq_iff_eq] at this
  exact ⟨this.1.1,cellOf y this.1.2,this.2⟩
theorem yI {X:Cx} {K:FG7} (h:X.K = K):xO X (.builtin "len") (fun xs H Q=>∃ p ys,xs = [.ref p] /\ (SqL K H p ys \/ SqT K H p ys) /\ Q (.int ys.length) H):=by subst h; exact zk
theorem wB {X:Cx} {K:FG7} (h:X.K = K):xO X (.type "tuple") (fun xs H Q=>∃ p ys,xs = [.ref p] /\ ((SqL K H p ys /\ ∀ l,H l = none -> Q (.ref l) (upd H l (.tup ys))) \/ (SqT K H p ys /\ Q (.ref p) H))):=by subst h; exact z9
theorem qO {i j:Int} {H:Hp} {Q:VK} (h:∀ m,m = i + j -> Q (.int m) H):rI0 (fun i j=>.int (i + j)) (.int i) (.int j) H Q:=⟨i,j,rfl,rfl,h _ rfl⟩
def sp6 (b:V -> V -> V -> V -> V -> V -> Hp -> VK -> Prop):Sp:=fun vs H Q _=>∃ x y z u w k,vs = [x,y,z,u,w,k] /\ b x y z u w k H Q
theorem qP {b:V -> V -> V -> V -> V -> V -> Hp -> VK -> Prop} {p q r s t u:Str}:∀ vs H Q E,sp6 b vs H Q E -> vs.length = [p,q,r,s,t,u].length:=fun vs H Q E h=>by
 obtain ⟨x,y,z,u,w,k,rfl,_⟩:=h; rfl
def yJ (K:FG7) (H:Hp) (x:V) (rows:List (List Int)):Prop:=∃ r xs,x = .ref r /\ SqT K H r xs /\ AllR (zE K H) xs rows
theorem Grow.boardsR {m:List Addr} {H H':Hp} (g:Grow m H H') {K:FG7} {xs:List V} {rows:List (List Int)} (h:AllR (zE K H) xs rows):AllR (zE K H') xs rows:=h.imp fun _ _ z=>g.board z
theorem Grow.rows {m:List Addr} {H H':Hp} (g:Grow m H H') {K:FG7} {x:V} {rows:List (List Int)} (h:yJ K H x rows):yJ K H' x rows:=by
 obtain ⟨r,xs,e,h1,h2⟩:=h
 exact ⟨r,xs,e,g.sqT h1,g.boardsR h2⟩
def Rng (m:Int) (xs:List Int):Prop:=∀ v ∈ xs,0 <= v /\ v < m
def tf (R M:Nat) (rows:List (List Int)):Prop:=rows.length = R /\ ∀ row ∈ rows,row.length = M /\ Rng M row
theorem getI {xs:List Int} {i:Int} (h0:0 <= i) (h:i < xs.length):atI (xs.map V.int) i = some (V.int (xs.getD i.toNat 0)):=by
 have hj:i.toNat < xs.length:=by omega
 exact W9 (qJ h0 (by rw [List.length_map]; exact hj)) (by rw [List.getElem?_map,Yr hj]; rfl)
theorem qQ {m:Int} {xs:List Int} (h:Rng m xs) {i:Int} (h0:0 <= i) (h1:i < xs.length):0 <= xs.getD i.toNat 0 /\ xs.getD i.toNat 0 < m:=by
 have hj:i.toNat < xs.length:=by omega
 exact h _ (List.mem_of_getElem? (Yr hj))
theorem wy {K:FG7} {H:Hp} {xs:List V} {rows:List (List Int)} (h:AllR (zE K H) xs rows) {i:Int} (h0:0 <= i) (h1:i < rows.length):∃ a,atI xs i = some (V.ref a) /\ SqT K H a ((rows.getD i.toNat []).map V.int):=by
 have hj:i.toNat < rows.length:=by omega
 have e:rows[i.toNat]? = some (rows.getD i.toNat []):=by rw [List.getD_eq_getElem?_getD,List.getElem?_eq_getElem hj]; rfl
 obtain ⟨x,hx,a,rfl,hs⟩:=h.getR e
 exact ⟨a,W9 (qJ h0 (by rw [h.len]; exact hj)) hx,hs⟩
theorem Yu {R M:Nat} {rows:List (List Int)} (h:tf R M rows) {i:Int} (h0:0 <= i) (h1:i < R):(rows.getD i.toNat []).length = M /\ Rng M (rows.getD i.toNat []):=by
 have hj:i.toNat < rows.length:=by rw [h.1]; omega
 have e:rows[i.toNat]? = some (rows.getD i.toNat []):=by rw [List.getD_eq_getElem?_getD,List.getElem?_eq_getElem hj]; rfl
 exact h.2 _ (List.mem_of_getElem? e)
def numT (tab:List (List Int)) (ns:List Int):Tr -> Int
 | .leaf n=>ns.getD n.toNat 0
 | .node l r=>(tab.getD (numT tab ns l).toNat []).getD (numT tab ns r).toNat 0
def shT (ds tab:List (List Int)) (ns:List Int):Tr -> Int -> List Int
 | .leaf _,v=>[v]
 | .node l r,v=>shT ds tab ns l v ++ shT ds tab ns r ((ds.getD (numT tab ns l).toNat []).getD v.toNat 0)
structure Fd (R:Nat) (tab:List (List Int)) (ns:List Int):Prop where
 tab:tf R R tab
 ns:Rng R ns
theorem yY {R:Nat} {tab:List (List Int)} {ns:List Int} (F:Fd R tab ns):∀ {t:Tr} {f:Int},Ordd t f -> 0 <= f -> f + t.count <= ns.length -> 0 <= numT tab ns t /\ numT tab ns t < R
 | .leaf n,f,o,h0,h1=>by
  cases (show n = f from o)
  have h1':n + 1 <= ns.length:=h1
  exact qQ F.ns h0 (by omega)
 | .node l r,f,o,h0,h1=>by
  have c1:=ym l
  have c2:=ym r
  have h1':f + (l.count + r.count) <= ns.length:=h1
  have a:=yY F o.1 h0 (by omega)
  have b:=yY F o.2 (by omega) (by omega)
  have z:=Yu F.tab a.1 a.2
  exact qQ z.2 b.1 (by rw [z.1]; exact b.2)
theorem qR (ds tab:List (List Int)) (ns:List Int):∀ (t:Tr) (v:Int),((shT ds tab ns t v).length:Int) = t.count
 | .leaf _,_=>rfl
 | .node l r,v=>by
  show ((shT ds tab ns l v ++ shT ds tab ns r _).length:Int) = l.count + r.count
  rw [List.length_append,Int.natCast_add,qR ds tab ns l,qR ds tab ns r]
def wj (N:Nat) (K:FG7):Sp:=sp3 fun x y z H Q=>∃ a f m,x = .ref a /\ y = .int f /\ z = .int m /\ Pot H a /\ 0 <= f /\ 1 <= m /\ m <= N /\ f + m <= 100 /\ ∀ y t H',Grow [a] H H' -> Pot H' a -> yX K H' y t -> Ordd t f -> t.count = m -> t.ht < m.toNat -> t.Nums -> Q y H'
theorem Yv {K:FG7}:∀ vs H Q E,¬ wj 0 K vs H Q E:=by
 rintro vs H Q E ⟨x,y,z,_,a,f,m,_,_,_,_,_,h1,h2,_⟩
 omega
def yu (N:Nat) (K:FG7):Sp:=sp3 fun x y z H Q=>∃ (R:Nat) (tab:List (List Int)) (ns:List Int) (t:Tr) (f:Int),yJ K H x tab /\ zE K H y ns /\ yX K H z t /\ Fd R tab ns /\ Ordd t f /\ 0 <= f /\ f + t.count <= ns.length /\ t.ht < N /\ Q (.int (numT tab ns t)) H
theorem t6 {K:FG7}:∀ vs H Q E,¬ yu 0 K vs H Q E:=by
 rintro vs H Q E ⟨x,y,z,_,R,tab,ns,t,f,_,_,_,_,_,_,_,h,_⟩
 omega
def yB (N:Nat) (K:FG7):Sp:=sp6 fun x y z u w k H Q=>∃ (R M:Nat) (ds tab:List (List Int)) (ns:List Int) (t:Tr) (f v:Int) (l:Addr) (zs:List Int),yJ K H x ds /\ yJ K H y tab /\ zE K H z ns /\ yX K H u t /\ Fd R tab ns /\ tf R M ds /\ Ordd t f /\ 0 <= f /\ f + t.count <= ns.length /\ t.ht < N /\ w = .int v /\ 0 <= v /\ v < M /\ k = .ref l /\ H l = some (.lst (zs.map V.int)) /\ (zs.length:Int) + t.count <= 500 /\ ∀ H',Grow [l] H H' -> H' l = some (.lst ((zs ++ shT ds tab ns t v).map V.int)) -> Q (.int (numT tab ns t)) H'
theorem rC {K:FG7}:∀ vs H Q E,¬ yB 0 K vs H Q E:=by
 rintro vs H Q E ⟨x,y,z,u,w,k,_,R,M,ds,tab,ns,t,f,v,l,zs,_,_,_,_,_,_,_,_,_,h,_⟩
 omega
section
variable {prog:Program} {w:World} {A:Around} {E:VS7} {s:Shared}
theorem qS {jt t:Addr} {i:Nat} {vs:Array Value} {v:Value} {Q:VS7} (hit:s.heap.IsTupleIter jt t i) (ht:s.heap.IsTuple t vs) (hv:vs[i]? = some v)
  (hQ:∀ h',h'.IsTupleIter jt t (i + 1) -> Heap.SameBut jt s.heap h' -> Q v { s with heap:=h' }):wpAny (model prog w) A (Builtin.SmallTypes.nextOf (.ref jt)) Q E s:=by
 obtain ⟨oj,hoj,cj,dj⟩:=id hit
 obtain ⟨ot,hot,_,nt,dt⟩:=ht
 unfold Builtin.SmallTypes.nextOf
 refine wpAny_bind (wpAny_callSpecial?_slot (name:=Str.ofString "__next__") hit.typeIs F.slot_tuple_iterator_next (wpAny_call_entry F.slot_tuple_iterator_next hit.typeIs F.entry_tuple_iterator_next ?_ (F.args_tuple_iterator_next_1 _)))
 show wpAny _ _ (field (.ref jt) 0 >>= _) _ _ s
 refine wpAny_bind (wpAny_field hoj dj (x:=.ref t) rfl ?_); show wpAny _ _ (if (Value.ref t == Value.none) = true then _ else _) _ _ s
 rw [if_neg (show ¬ ((Value.ref t == Value.none) = true) by exact Bool.false_ne_true)]; show wpAny _ _ (field (.ref jt) 1 >>= _) _ _ s
 refine wpAny_bind (wpAny_field hoj dj (x:=.int i 0) rfl ?_); show wpAny _ _ (seqItems? (.ref t) >>= _) _ _ s
 refine wpAny_bind (wpAny_seqItems hot dt ?_); simp only [Int.toNat_natCast,hv]
 refine wpAny_bind (wpAny_setField hoj dj (by simp) (wpAny_pure ⟨v,rfl,wpAny_pure (hQ _ ⟨_,Heap.get?_update_self _ hoj (Obj.isFreed_of_fields (Obj.data_mapFields dj _)),(Obj.cls_mapFields ..).trans cj,by rw [Obj.data_mapFields dj]; simp [rawInt]⟩ (Heap.SameBut.update ..))⟩))
theorem tQ {jt t:Addr} {i:Nat} {vs:Array Value} {Q:VS7} (hh:A.handled = none) (hit:s.heap.IsTupleIter jt t i) (ht:s.heap.IsTuple t vs) (hv:vs[i]? = none)
  (hE:∀ h' e,Heap.ExtBut jt s.heap h' -> (∃ o,h'.get? e = some o /\ o.cls = .type "StopIteration") -> E (.ref e) { s with heap:=h' }):wpAny (model prog w) A (Builtin.SmallTypes.nextOf (.ref jt)) Q E s:=by
 obtain ⟨oj,hoj,cj,dj⟩:=id hit
 obtain ⟨ot,hot,_,nt,dt⟩:=ht
 unfold Builtin.SmallTypes.nextOf
 refine wpAny_bind (wpAny_callSpecial?_slot (name:=Str.ofString "__next__") hit.typeIs F.slot_tuple_iterator_next (wpAny_call_entry F.slot_tuple_iterator_next hit.typeIs F.entry_tuple_iterator_next ?_ (F.args_tuple_iterator_next_1 _)))
 show wpAny _ _ (field (.ref jt) 0 >>= _) _ _ s
 refine wpAny_bind (wpAny_field hoj dj (x:=.ref t) rfl ?_); show wpAny _ _ (if (Value.ref t == Value.none) = true then _ else _) _ _ s
 rw [if_neg (show ¬ ((Value.ref t == Value.none) = true) by exact Bool.false_ne_true)]; show wpAny _ _ (field (.ref jt) 1 >>= _) _ _ s
 refine wpAny_bind (wpAny_field hoj dj (x:=.int i 0) rfl ?_); show wpAny _ _ (seqItems? (.ref t) >>= _) _ _ s
 refine wpAny_bind (wpAny_seqItems hot dt ?_); simp only [Int.toNat_natCast,hv]
 refine wpAny_bind (wpAny_rule (wpAny_bind (wpAny_setField hoj dj (by simp) ?_))); show wpAny _ _ (newExc (.type "StopIteration") [] >>= _) _ _ _
 refine wpAny_bind ?_; simp only [newExc,newTuple]
 refine wpAny_bind (wpAny_newObj_type ?_ (by size_fits)); refine wpAny_bind (m:=firstArgMember _ _) (wpAny_of_eq (a:=Value.none) (by first | rfl | (simp only [firstArgMember]; rfl)) ?_)
 refine wpAny_newObj_type ?_ (by size_fits); simp only [raiseNew]
 refine wpAny_bind (wpAny_handled ?_); (first | rw [show A.in1.handled = none from hh] | rw [hh])
 exact wpAny_bind (wpAny_pure (wpAny_throw (hE _ _ (((Heap.SameBut.update ..).extBut.push _).push _) ⟨_,Heap.get?_push_size _ rfl,rfl⟩)))
end
theorem Yw {prog:Program} {w:World} {A:Around} (hh:A.handled = none) (jt t:Addr) (hne:t ≠ jt) (vs:Array Value) :
  Draws prog w A jt [jt,t] vs.size (fun i v=>vs[i]? = some v) (fun i h=>h.IsTupleIter jt t i /\ h.IsTuple t vs) where
 live:=fun _ _ st=>let ⟨o,ho,_⟩:=st.1; ⟨o,ho⟩
 frame:=fun _ _ _ st hk=>⟨st.1.at (hk jt (by simp)),st.2.at (hk t (by simp))⟩
 item:=fun i s Q E hi st hQ=>qS st.1 st.2 (v:=vs[i]) (by simp [hi]) fun h' hit' hs'=>hQ _ h' s.toks (by simp [hi]) ⟨hit',st.2.extBut hs'.extBut hne⟩ hs'
 done:=fun s Q E st hE=>tQ hh st.1 st.2 (by simp) hE
theorem Yx {prog:Program} {w:World} {A:Around} (hh:A.handled = none) (jt t:Addr) (vs:Array Value) {i:Nat} (hv:vs[i]? = none) :
  Draws prog w A jt [jt,t] i (fun _ _=>True) (fun j h=>j = i /\ h.IsTupleIter jt t i /\ h.IsTuple t vs) where
 live:=fun _ _ st=>let ⟨o,ho,_⟩:=st.2.1; ⟨o,ho⟩
 frame:=fun _ _ _ st hk=>⟨st.1,st.2.1.at (hk jt (by simp)),st.2.2.at (hk t (by simp))⟩
 item:=fun j s Q E hj st hQ=>absurd st.1 (Nat.ne_of_lt hj)
 done:=fun s Q E st hE=>tQ hh st.2.1 st.2.2 hv hE
section
variable {X:Cx} {pins:List (Addr × Obj)} {σ:L2.St} {H:Hp} {s:Shared} {h':Heap}
theorem Yy {fp:List Addr} {t':Nat} (I:Inv X pins σ H s) (k:∀ b o,b ∉ fp -> s.heap.get? b = some o -> h'.get? b = some o) (ff:∀ b ∈ fp,FpOk X pins H b):Inv X pins σ H { s with heap:=h',toks:=t' }:=by
 have nit:∀ b u,H b = some u -> b ∉ fp:=fun b u e z=>by rw [(ff b z).1] at e; cases e
 refine I.step (g':=s.gens) (d':=s.drawn) (ch:=fp) (fun b hb=>?_) (fun b o _ _ hc e _=>k b o hc e) (fun b o _ _ hc e _=>⟨o.slots,k b o hc e⟩) (fun _ _ _ _ n=>n) (fun b o hc e=>⟨o,k b o hc e⟩) (fun _ _ e=>e) (fun _ _ _ e=>e) (fun b ps e=>⟨#[],by rw [e]; simp⟩) (fun m hm=>?_) (fun b u e=>?_) I.bare
 ·obtain ⟨_,f1,_,f3,f4,f5⟩:=ff b hb
  exact ⟨f3,f1,f4,f5⟩
 ·obtain ⟨o,es,ep,ho,r⟩:=hm
  exact ⟨o,es,ep,k _ o (fun z=>(ff _ z).2.1 rfl) ho,r⟩
 ·refine (I.hok b u e).stay (fun c v hc q=>k c v ?_ q) (fun _ q=>q) fun _ _ q=>q
  rcases hc with z | z
  ·rw [z]; exact nit b u e
  ·exact nit c _ z
theorem XL {fp:List Addr} {T:Addr} {o:HO} {t':Nat} (I:Inv X pins σ H s) (k:∀ b o,b ∉ fp -> s.heap.get? b = some o -> h'.get? b = some o) (ff:∀ b ∈ fp,FpOk X pins H b) (hT:s.heap.objs.size <= T)
  (new:yh X.prog X.w (upd H T o) h' T o):Inv X pins σ (upd H T o) { s with heap:=h',toks:=t' }:=by
 have hn:H T = none:=I.hok.fresh hT
 have I1:Inv X pins σ H { s with heap:=h',toks:=t' }:=Yy I k ff
 have hok:HOk X.prog X.w (upd H T o) h':=HOk.track I1.hok hn new
 refine I.step (g':=s.gens) (d':=s.drawn) (ch:=fp) (fun b hb=>?_) (fun b o _ _ hc e _=>k b o hc e) (fun b o _ _ hc e _=>⟨o.slots,k b o hc e⟩) (fun b u _ e n=>by rw [zy (Nat.ne_of_lt (Nat.lt_of_lt_of_le (Heap.lt_size e) hT))]; exact n) (fun b o hc e=>⟨o,k b o hc e⟩)
  (fun b xs e=>by rw [zy (zx e hn)]; exact e) (fun b u xs e=>by rw [zy (zx e hn)]; exact e) (fun b ps e=>⟨#[],by rw [zy (zx e hn),e]; simp⟩) (fun m hm=>?_) hok I.bare
 ·obtain ⟨_,f1,_,f3,f4,f5⟩:=ff b hb
  exact ⟨f3,f1,f4,f5⟩
 ·obtain ⟨o,es,ep,ho,r⟩:=hm
  exact ⟨o,es,ep,k _ o (fun z=>(ff _ z).2.1 rfl) ho,r⟩
end
def Ite (K:FG7) (a:Addr):It :=
 ⟨fun i H=>∃ xs x,SqT K H a xs /\ xs[i]? = some x,fun i H x H'=>∃ T v,H T = none /\ x = .ref T /\ H' = upd H T (.tup [.int i,v]) /\ ∀ xs,SqT K H a xs -> xs[i]? = some v,fun i H=>∃ xs,SqT K H a xs /\ xs.length <= i⟩
section
variable {X:Cx} {elts:List Expr} {kt:Nat} {pt:Pos}
theorem Ua:bootBuiltins "enumerate" = some (.type "enumerate"):=by decide +kernel
end
theorem XM {K:FG7} {a:Addr} {xs:List V} {g:TG} {tb:TS} {D:Ends} {σ:L2.St} {H:Hp} (Pv:Nat -> L2.St -> Hp -> Prop) (h0:Pv 0 σ H) (hl:∀ i σ H,i <= xs.length -> Pv i σ H -> SqT K H a xs)
  (hs:∀ i x σ H T,xs[i]? = some x -> Pv i σ H -> H T = none -> g (.ref T) σ (upd H T (.tup [.int i,x])) fun σ2 H2=>tb { D with nx:=Pv (i + 1),ct:=Pv (i + 1),bk:=D.nx } σ2 H2) (hd:∀ σ H,Pv xs.length σ H -> D.nx σ H) :
  ∃ W:Nat -> Nat -> L2.St -> Hp -> Prop,(∃ m,W 0 m σ H) /\ ∀ i m σ H,W i m σ H →
   ((Ite K a).stop i H /\ D.nx σ H) \/ ((Ite K a).go i H /\ ∃ N:L2.St -> Hp -> Prop,(∀ σ' H',N σ' H' -> ∃ m',m' < m /\ W (i + 1) m' σ' H') /\ ∀ x H',(Ite K a).yld i H x H' -> g x σ H' fun σ2 H2=>tb { D with nx:=N,ct:=N,bk:=D.nx } σ2 H2):=by
 refine ⟨fun i m σ H=>m = xs.length - i /\ i <= xs.length /\ Pv i σ H,⟨xs.length,by simp,Nat.zero_le _,h0⟩,?_⟩
 rintro i m σ H ⟨rfl,hi,p⟩
 have q:=hl i σ H hi p
 by_cases hlt:i < xs.length
 ·refine .inr ⟨⟨xs,xs[i],q,by simp [hlt]⟩,Pv (i + 1),fun σ' H' p'=>⟨xs.length - (i + 1),by omega,rfl,hlt,p'⟩,fun x H' y=>?_⟩
  obtain ⟨T,v,hT,rfl,rfl,y⟩:=y
  exact hs i v σ H T (y xs q) p hT
 ·have e:i = xs.length:=by omega
  subst e
  exact .inl ⟨⟨xs,q,Nat.le_refl _⟩,hd σ H p⟩
theorem U3 {ds:List Deed} {i:Nat} (h:i < ds.length):ds[i]? = some (ds.getD i look):=by
 rw [List.getD_eq_getElem?_getD,List.getElem?_eq_getElem h]; rfl
def U4 (j:Int) (ks:List Ask):List Deed:=(ks.filter fun k=>decide (k.box = j)).map Ask.deed
structure GInv (b:List Int) (ks:List Ask) (g:List Deed × List Deed) (p:List Int × List Int):Prop where
 l1:g.1.length = b.length
 l2:g.2.length = ks.length
 p1:p.1.length = ks.length
 p2:p.2.length = b.length
 bd1:∀ d ∈ g.1,d.Ok /\ d.Bd (ks.length * 10 ^ 30)
 bd2:∀ d ∈ g.2,d.Ok /\ d.Bd (ks.length * 10 ^ 30)
 run:∀ j:Nat,j < b.length -> g.1.getD j look = runD (U4 j ks)
 val:∀ j:Nat,j < b.length -> p.2.getD j 0 = (g.1.getD j look).mk' (b.getD j 0)
 ans:∀ i k,ks[i]? = some k -> p.1.getD i 0 = (g.2.getD i look).mk' (b.getD k.box.toNat 0)
theorem AllR.set {α:Type} {R:V -> α -> Prop} {x:V} {k:α} (h:R x k):∀ {xs:List V} {ks:List α} {n:Nat},AllR R xs ks -> AllR R (xs.set n x) (ks.set n k)
 | [],[],n,_=>by cases n <;> trivial
 | _ :: _,_ :: _,0,⟨_,t⟩=>⟨h,t⟩
 | _ :: _,_ :: _,n + 1,⟨a,t⟩=>⟨a,AllR.set h t⟩
 | [],_ :: _,_,z=>z.elim
 | _ :: _,[],_,z=>z.elim
def WF (K:FG7) (H:Hp) (x:V) (g:List Deed × List Deed):Prop:=∃ r r1 r2,x = .ref r /\ SqT K H r [.ref r1,.ref r2] /\ jW K H (.ref r1) g.1 /\ jW K H (.ref r2) g.2
section
variable {K:FG7} {a:Addr} {xs:List V} {k:Nat} {tt:TT} {te:TE} {Q:VK} {σ:L2.St} {H:Hp}
theorem tS (p:V -> Bool) (Pv:Nat -> List V -> Hp -> Prop) (h0:Pv 0 [] H) (hl:∀ i ys H',Pv i ys H' -> SqT K H' a xs)
  (ht:∀ x H' (R:Bool -> Hp -> Prop),x ∈ xs -> R (p x) H' -> tt (σ.set k (some x)) H' R)
  (hs:∀ i x ys H',xs[i]? = some x -> Pv i ys H' -> p x = true -> te (σ.set k (some x)) H' fun y H5=>ys.length < sizeLine /\ Pv (i + 1) (ys ++ [y]) H5)
  (hn:∀ i x ys H',xs[i]? = some x -> Pv i ys H' -> p x = false -> Pv (i + 1) ys H')
  (hd:∀ ys H',Pv xs.length ys H' -> ∀ l,H' l = none -> Q (.ref l) (upd H' l (.lst ys))):vX (Itt K a) σ H (vW k) tt te Q:=by
 refine jS (xs:=xs) (fun i ys σ' H'=>(σ' = σ \/ ∃ e,σ' = σ.set k e) /\ Pv i ys H') ⟨.inl rfl,h0⟩ (fun i ys σ' H' _ p=>hl i ys H' p.2) ?_ (fun ys σ' H' p l hl=>hd ys H' p.2 l hl)
 rintro i x ys σ' H' hx ⟨hσ,pv⟩
 have e:σ'.set k (some x) = σ.set k (some x):=by
  rcases hσ with rfl | ⟨e,rfl⟩
  ·rfl
  ·rw [List.set_set]
 show tt (σ'.set k (some x)) H' _
 rw [e]
 refine ht x H' _ (List.mem_of_getElem? hx) ?_
 by_cases c:p x = true
 ·rw [if_pos c]
  have e2:(fun (y:V) (H5:Hp)=>ys.length < sizeLine /\ ((σ.set k (some x) = σ \/ ∃ e,σ.set k (some x) = σ.set k e) /\ Pv (i + 1) (ys ++ [y]) H5)) = fun y H5=>ys.length < sizeLine /\ Pv (i + 1) (ys ++ [y]) H5:=by
   funext y H5
   exact propext ⟨fun z=>⟨z.1,z.2.2⟩,fun z=>⟨z.1,.inr ⟨_,rfl⟩,z.2⟩⟩
  have z:=hs i x ys H' hx pv c
  rw [← e2] at z
  exact z
 ·rw [if_neg c]
  exact ⟨.inr ⟨_,rfl⟩,hn i x ys H' hx pv (by simpa using c)⟩
end
def figI (k st l:Int):Int:=Builtin.bitAnd (l / 2 ^ (k - st).toNat) 1
def wfI (k st l w:Int):Int:=Builtin.bitXor l (Builtin.bitXor (figI k st l) w * 2 ^ (k - st).toNat)
def swI (k st l:Int):Int:=Builtin.bitOr (l / 2 ^ (k - st + 1).toNat * 2 ^ (k - st).toNat) (Builtin.bitAnd l (1 * 2 ^ (k - st).toNat - 1))
def Zw (k n:Int):List Int:=(List.range k.toNat).map fun i:Nat=>Builtin.bitAnd (n / 2 ^ (k - 1 - (0 + (i:Int))).toNat) 1
def numL (xs:List Int):Int:=xs.foldl (fun f o=>2 * f + o) 0
def Vc (k h g:Int) (n:Nat):Int:=numL ((Zw k g).take n ++ (Zw k h).drop n)
def Vd (k l:Int) (st:Nat):Int:=numL ((Zw k l).take (st - 1) ++ (Zw k l).drop st)
theorem Ve {X:Cx} {K:FG7} {tg l:Expr} {tl:TE} (h:X.K = K) (hl:PE X l tl):PI X tg l (iTup K tl):=by subst h; exact xG hl
theorem nv {i j:Int} (h:i ≠ j):decide (V.int i = V.int j) = false:=decide_eq_false fun z=>h (V.int.inj z)
theorem Deed.Sm.bd2 {d:Deed} (h:d.Sm):d.Bd (2 * 10 ^ 30):=h.bd.mono (by decide)
section
variable {X:Cx} {pins:List (Addr × Obj)} {σ:L2.St} {H2:Hp} {s₂:Shared} {it:Addr} {fp:List Addr} {tn:Nat -> Heap -> Prop} {J:It} {scope:Scope} {cl:List (Str × Addr)} {N':List Str} {sub:List (Option Nat)}
theorem Yz {C D:Addr} {s₀:Shared} {tg:Expr} {pos:Pos} {elt iter:Expr} {ifs:List Expr} {g:TG} {tt:TT} {te:TE} {Q:VK} {RR:Value -> Addr -> Result -> Shared -> Prop} {W:Nat -> Nat -> List V -> L2.St -> Hp -> Prop}
  (I:Inv X pins σ H2 s₂) (hcalm:X.calm = true) (T:Turn X.prog X.w X.K tg J fp it tn) (f2:∀ b ∈ fp,FpOk X pins H2 b) (hfp:∀ b ∈ fp,b < s₂.heap.objs.size)
  (hs₀:∀ b o,s₂.heap.get? b = some o -> s₀.heap.get? b = some o) (hos:s₀.os = s₂.os) (hD:s₂.heap.objs.size <= D) (hC:s₂.heap.objs.size <= C) (hDC:D ≠ C)
  (hcl1:∀ x c,cl.lookup x = some c -> X.env.cells.lookup x = some c)
  (hg:PG (cxC X N' scope cl C D fp s₀ H2) tg g) (ht:PIfs (cxC X N' scope cl C D fp s₀ H2) ifs tt) (he:PE (cxC X N' scope cl C D fp s₀ H2) elt te)
  (turn:∀ i m ys σ' H',W i m ys σ' H' →
   (J.stop i H' /\ ∀ l,H' l = none -> Q (.ref l) (upd H' l (.lst ys))) ∨
   (J.go i H' /\ ∃ Nn:List V -> L2.St -> Hp -> Prop,(∀ zs σ2 H2,Nn zs σ2 H2 -> ∃ m',m' < m /\ W (i + 1) m' zs σ2 H2) ∧
    ∀ x H2,J.yld i H' x H2 -> g x σ' H2 fun σ2 H3=>tt σ2 H3 fun b H4=>if b = true then te σ2 H4 fun y H5=>ys.length < sizeLine /\ Nn (ys ++ [y]) σ2 H5 else Nn ys σ2 H4))
  (hRR:∀ (D C:Addr) (oC:Obj) (m:Str -> Option Value) (s':Shared) (Hf:Hp),Inv X (pins ++ [(C,oC)]) σ Hf s' -> s'.heap.Ns C m -> FpOk X pins Hf C -> Q (.ref D) Hf -> RR (.ref D) C (.ok .next) s')
  (n:Nat) (s:Shared) (h:∃ i ys us k σ' H',Inv (cxC X N' scope cl C D fp s₀ H2) pins σ' H' s /\ tn i s.heap /\ (∀ b ∈ fp,H' b = none) /\ H' D = none ∧
   s.heap.get? D = some { cls:=.type "list",data:=.seq (us:List Value).toArray k } /\ Vals ys us /\ ys.length <= sizeLine /\ W i n ys σ' H') :
  codeAny (model X.prog X.w) X.A (.compLoop (.ListComp elt [⟨tg,iter,ifs,0⟩] scope pos) 0 (.ref it) (.ref D) (compEnvC scope cl C X.env)) (RR (.ref D) C) s:=by
 have frsz:∀ b ∈ frs X.stack,b < s₂.heap.objs.size:=fun b hb=>by
  rcases List.mem_cons.mp (I.stkSub b hb) with z | z
  ·rw [z]; exact I.lt
  ·exact Nat.lt_of_not_le fun q=>I.nofs q z
 have cells:∀ x c,cl.lookup x = some c -> c < s₂.heap.objs.size:=fun x c e=>let ⟨v,q⟩:=I.cell x c (hcl1 x c e); q.lt
 have pinsz:∀ p ∈ X.pn ++ pins,p.1 < s₂.heap.objs.size:=fun p hp=>Heap.lt_size (I.pin p hp).1
 refine rh (fun n s=>∃ i ys us k σ' H',Inv (cxC X N' scope cl C D fp s₀ H2) pins σ' H' s /\ tn i s.heap /\ (∀ b ∈ fp,H' b = none) /\ H' D = none ∧
   s.heap.get? D = some { cls:=.type "list",data:=.seq (us:List Value).toArray k } /\ Vals ys us /\ ys.length <= sizeLine /\ W i n ys σ' H') ?_ n h
 rintro n s ⟨i,ys,us,k,σ',H',I',st',fr,hn,hy,rv,hz,w'⟩
 have pD:Inv (cxC X N' scope cl C D fp s₀ H2) (pins ++ [(D,{ cls:=.type "list",data:=.seq us.toArray k })]) σ' H' s:=I'.pins_of fun p hp=>by
  rcases List.mem_append.mp hp with hp | hp
  ·exact I'.pin p (List.mem_append_right _ hp)
  ·rw [List.mem_singleton.mp hp]
   exact ⟨hy,hn,hDC,fun z=>absurd (Nat.lt_of_lt_of_le (frsz _ z) hD) (Nat.lt_irrefl _),fun v z=>by cases z⟩
 have fpok:∀ {H'':Hp},(∀ b ∈ fp,H'' b = none) -> ∀ b ∈ fp,FpOk (cxC X N' scope cl C D fp s₀ H2) (pins ++ [(D,{ cls:=.type "list",data:=.seq us.toArray k })]) H'' b:=fun hz b hb=>by
  refine ⟨hz b hb,Nat.ne_of_lt (Nat.lt_of_lt_of_le (hfp b hb) hC),fun z=>?_,.inl (List.mem_cons_of_mem _ hb),fun x c e=>(f2 b hb).2.2.2.2.1 x c (hcl1 x c e),fun p hp=>?_⟩
  ·rcases List.mem_cons.mp (I.stkSub b z) with z | z
   ·exact (f2 b hb).2.1 z
   ·exact (f2 b hb).2.2.1 z
  ·rcases List.mem_append.mp hp with hp | hp
   ·exact (f2 b hb).2.2.2.2.2 p (List.mem_append_left _ hp)
   ·rcases List.mem_append.mp hp with hp | hp
    ·exact (f2 b hb).2.2.2.2.2 p (List.mem_append_right _ hp)
    ·rw [List.mem_singleton.mp hp]
     exact Nat.ne_of_gt (Nat.lt_of_lt_of_le (hfp b hb) hD)
 rcases turn i n ys σ' H' w' with ⟨stop,q⟩ | ⟨go,Nn,hN,step⟩
 ·refine thn (T.done (cxC X N' scope cl C D fp s₀ H2) rfl rfl rfl hcalm i _ s σ' H' (fun _ _=>False) pD (fpok fr) st' stop) fun r s1 ⟨hr,I1⟩=>?_
  subst hr
  have hy1:=(I1.pin (D,{ cls:=.type "list",data:=.seq us.toArray k }) (by simp)).1
  obtain ⟨m,hm,_⟩:=I1.loc
  obtain ⟨oC,es,ep,hoC,hdC,_⟩:=id hm
  obtain ⟨IX,fpc⟩:=XE I hs₀ hos hD hC hDC f2 I1.unpinned hn hy1 rv hz hoC (by intro v z; rw [hdC] at z; cases z)
  exact hRR D C oC m s1 _ IX hm fpc (q D hn)
 ·refine thn (T.item (cxC X N' scope cl C D fp s₀ H2) rfl rfl rfl hcalm i _ s σ' H' (fun _ _=>False) pD (fpok fr) st' go) fun r s1 ⟨u,hr,h4⟩=>?_
  subst hr
  refine thn h4 fun _ s2 ⟨x5,H5,I5,r5,y5,st5,fr5⟩=>?_
  have I5':=I5.pinned (fpok fr5) (T.obj _ _ st5)
  refine thn (hg _ s2 σ' H5 x5 u _ I5' r5 (step x5 H5 y5)) fun _ s3 ⟨σ6,H6,I6,q6⟩=>?_
  refine thn (ht _ s3 σ6 H6 _ I6 q6) fun ok s4 ⟨H7,I7,q7⟩=>?_
  have stay:∀ {σ7:L2.St} {H7:Hp} {s7:Shared},Inv (cxC X N' scope cl C D fp s₀ H2) (pins ++ [(D,{ cls:=.type "list",data:=.seq us.toArray k })] ++ ur fp s2.heap) σ7 H7 s7 →
    (∀ b ∈ fp,∀ o,s2.heap.get? b = some o -> s7.heap.get? b = some o) /\ (∀ b ∈ fp,H7 b = none) /\ H7 D = none /\ s7.heap.get? D = some { cls:=.type "list",data:=.seq us.toArray k }:=fun {σ7 H7 s7} I7=>by
   have d:=I7.pin (D,{ cls:=.type "list",data:=.seq us.toArray k }) (by simp)
   refine ⟨fun b hb o e=>(I7.pin (b,o) (List.mem_append_right _ (List.mem_append_right _ (yt hb e)))).1,fun b hb=>?_,d.2.1,d.1⟩
   obtain ⟨o,e,_⟩:=T.obj _ _ st5 b hb
   exact (I7.pin (b,o) (List.mem_append_right _ (List.mem_append_right _ (yt hb e)))).2.1
  cases ok with
  | false =>
   rw [if_neg (by decide)] at q7 ⊢
   obtain ⟨k1,k2,k3,k4⟩:=stay I7
   obtain ⟨m',hm,w7⟩:=hN ys σ6 H7 q7
   exact ⟨m',hm,i + 1,ys,us,k,σ6,H7,I7.unpinned.unpinned,T.keep _ _ _ st5 k1,k2,k3,k4,rv,hz,w7⟩
  | true =>
   rw [if_pos rfl] at q7 ⊢
   refine thn (he _ s4 σ6 H7 _ I7 q7) fun v s5 ⟨y,H8,I8,r8,hl8,n8⟩=>?_
   obtain ⟨k1,k2,k3,k4⟩:=stay I8
   refine wpAny_list_append_plain (l:=D) ⟨k,k4⟩ (fun h' pl sb=>?_) (by rw [List.size_toArray,← rv.length]; exact hz)
   obtain ⟨k',e'⟩:=pl
   obtain ⟨m',hm,w8⟩:=hN _ σ6 H8 n8
   refine ⟨m',hm,i + 1,ys ++ [y],us ++ [v],k',σ6,H8,?_,T.keep _ _ _ (T.keep _ _ _ st5 k1) fun b hb o e=>sb.extBut b o (Nat.ne_of_lt (Nat.lt_of_lt_of_le (hfp b hb) hD)) e,k2,k3,?_,rv.append (.cons r8 .nil),?_,w8⟩
   ·exact (I8.unpinned.unpinned).turned (it:=D) (t':=s5.toks) (h':=h') (fun b o hb e=>sb.extBut b o hb e) k3 hDC (.inl (by simp)) (fun x c e=>Nat.ne_of_lt (Nat.lt_of_lt_of_le (cells x c e) hD)) (fun p hp=>Nat.ne_of_lt (Nat.lt_of_lt_of_le (pinsz p hp) hD))
   ·rw [e']; simp
   ·rw [List.length_append]; exact hl8
theorem uA {tg:Expr} {pos:Pos} {elt iter:Expr} {ifs:List Expr} {g:TG} {tt:TT} {te:TE} {E:VS7} {Q:VK} {RR:Value -> Addr -> Result -> Shared -> Prop}
  (I:Inv X pins σ H2 s₂) (hcalm:X.calm = true) (T:Turn X.prog X.w X.K tg J fp it tn) (st:tn 0 s₂.heap) (f2:∀ b ∈ fp,FpOk X pins H2 b)
  (S:CSc X scope N' sub) (hcl1:∀ x c,cl.lookup x = some c -> X.env.cells.lookup x = some c) (hcl2:∀ y ∈ scope.names,y.2 = .free -> ∃ c,cl.lookup y.1 = some c)
  (hg:∀ C D fp s H,PG (cxC X N' scope cl C D fp s H) tg g) (ht:∀ C D fp s H,PIfs (cxC X N' scope cl C D fp s H) ifs tt) (he:∀ C D fp s H,PE (cxC X N' scope cl C D fp s H) elt te)
  (hW:vX J (capt sub σ) H2 g tt te Q)
  (hRR:∀ (D C:Addr) (oC:Obj) (m:Str -> Option Value) (s':Shared) (Hf:Hp),Inv X (pins ++ [(C,oC)]) σ Hf s' -> s'.heap.Ns C m -> FpOk X pins Hf C -> Q (.ref D) Hf -> RR (.ref D) C (.ok .next) s') :
  wpAny (model X.prog X.w) X.A (newList []) (fun acc s₃=>wpAny (model X.prog X.w) X.A (newFunctionEnv scope X.env.globals cl [] X.env.qual none .none (some X.env)) (fun cenv s₄ =>
   codeAny (model X.prog X.w) X.A (.compStart (.ListComp elt [⟨tg,iter,ifs,0⟩] scope pos) 0 (.ref it) acc { cenv with scope:=relabel scope X.env }) (RR acc cenv.locals) s₄) E s₃) E s₂:=by
 obtain ⟨W,⟨m0,w0⟩,turn⟩:=hW
 refine wpAny_newObj_type (wpAny_newFunctionEnv S.nocell (by intro y hy; simp at hy) (fun h₁ hns₁ hsb₁=>?_) S.kind)
 dsimp only at hns₁ hsb₁ ⊢
 have hC:(s₂.heap.push { cls:=.type "list",dict:=none,data:=.seq ([]:List Value).toArray }).objs.size = s₂.heap.objs.size + 1:=Heap.size_push ..
 rw [hC] at hns₁ hsb₁ ⊢
 have hk:∀ b o,(s₂.heap.push { cls:=.type "list",dict:=none,data:=.seq ([]:List Value).toArray }).get? b = some o -> h₁.get? b = some o:=fun b o e =>
  hsb₁.extBut b o (by have:=Heap.lt_size e; rw [hC] at this; exact Nat.ne_of_lt this) (Heap.get?_push_of_some _ e)
 have hfp:∀ b ∈ fp,b < s₂.heap.objs.size:=fun b hb=>by
  obtain ⟨o,e,_⟩:=T.obj _ _ st b hb
  exact Heap.lt_size e
 have I0:=tO (tk:=s₂.toks + ([]:List (Str × Value)).length) I S hcl1 hcl2 f2 hfp hns₁ hk
 have hD0:h₁.get? s₂.heap.objs.size = some { cls:=.type "list",data:=.seq ([]:List Value).toArray 0 }:=hk _ _ (Heap.get?_push_size _ rfl)
 have loop:codeAny (model X.prog X.w) X.A (.compLoop (.ListComp elt [⟨tg,iter,ifs,0⟩] scope pos) 0 (.ref it) (.ref s₂.heap.objs.size) (compEnvC scope cl (s₂.heap.objs.size + 1) X.env)) (RR (.ref s₂.heap.objs.size) (s₂.heap.objs.size + 1)) { s₂ with heap:=h₁,toks:=s₂.toks + ([]:List (Str × Value)).length } :=
  Yz (s₀:={ s₂ with heap:=s₂.heap.push { cls:=.type "list",dict:=none,data:=.seq ([]:List Value).toArray } }) (C:=s₂.heap.objs.size + 1) (D:=s₂.heap.objs.size) I hcalm T f2 hfp (fun b o e=>Heap.get?_push_of_some _ e) rfl (Nat.le_refl _) (Nat.le_succ _) (Nat.ne_of_lt (Nat.lt_succ_self _)) hcl1 (hg _ _ _ _ _) (ht _ _ _ _ _) (he _ _ _ _ _) turn hRR m0 _
   ⟨0,[],[],0,capt sub σ,H2,I0,T.keep _ _ _ st fun b hb o e=>hk b o (Heap.get?_push_of_some _ e),fun b hb=>(f2 b hb).1,I.hok.fresh (Nat.le_refl _),hD0,.nil,Nat.zero_le _,w0⟩
 exact codeAny_compStart_list loop (T.self _ _ _ _ _ (T.keep _ _ _ st fun b hb o e=>hk b o (Heap.get?_push_of_some _ e)) loop)
end
section
variable {X:Cx} {scope:Scope} {N':List Str} {sub:List (Option Nat)} {tg:Expr} {pos:Pos} {elt iter:Expr} {ifs:List Expr} {wi:TI} {g:TG} {tt:TT} {te:TE}
theorem zY (S:CSc X scope N' sub) (hcalm:X.calm = true) (hi:PI X tg iter wi)
  (hg:∀ cl C D fp s H,PG (cxC X N' scope cl C D fp s H) tg g) (ht:∀ cl C D fp s H,PIfs (cxC X N' scope cl C D fp s H) ifs tt) (he:∀ cl C D fp s H,PE (cxC X N' scope cl C D fp s H) elt te)
  (hs:∀ x,foldedSetIterable iter X.env x = pure x:=by intro _; rfl):PE X (.ListComp elt [⟨tg,iter,ifs,0⟩] scope pos) (W7 wi sub g tt te):=by
 intro pins s σ H Q I h
 obtain ⟨cl,hclos,hcl1,hcl2⟩:=S.clos I
 rw [eval_ListComp]
 refine wpAny_comprehension_free (use:=none) rfl hs hclos S.kind S.names (thn (hi pins s σ H _ I h) fun v s1 h1=>thn h1 fun itv s2 h2=>?_)
 obtain ⟨it,fp,tn,J,H2,e,I2,T,st2,f2,hW⟩:=h2
 subst e
 refine uA (RR:=fun acc C=>compPost (model X.prog X.w) X.A X.xe none (EP X pins σ Q) acc C) I2 hcalm T st2 f2 S hcl1 hcl2 (hg cl) (ht cl) (he cl) hW ?_
 intro D C oC m s' Hf IX hm fpc q
 refine ⟨m,hm,fun h' sb=>⟨.ref D,Hf,?_,rfl,q⟩⟩
 exact (IX.unpinned).turned (it:=C) (t':=s'.toks) (h':=h') (fun b o hb e=>sb.extBut b o hb e) fpc.1 fpc.2.1 fpc.2.2.2.1 fpc.2.2.2.2.1 fpc.2.2.2.2.2
theorem XN {i:Nat} {y:Str} {py spos:Pos} (hN:X.N.Nodup) (hiN:X.N[i]? = some y) (hy:X.env.scope.names.lookup y = some .local) (S:CSc X scope N' sub) (hcalm:X.calm = true) (hi:PI X tg iter wi)
  (hg:∀ cl C D fp s H,PG (cxC X N' scope cl C D fp s H) tg g) (ht:∀ cl C D fp s H,PIfs (cxC X N' scope cl C D fp s H) ifs tt) (he:∀ cl C D fp s H,PE (cxC X N' scope cl C D fp s H) elt te)
  (hsw:swapsWith (.ListComp elt [⟨tg,iter,ifs,0⟩] scope pos) (some (.Name y py)) spos.line X.env = pure true:=by rfl)
  (hs:∀ x,foldedSetIterable iter X.env x = pure x:=by intro _; rfl):PS X (.Assign [.Name y py] (.ListComp elt [⟨tg,iter,ifs,0⟩] scope pos) spos) (tAsg (W7 wi sub g tt te) (vW i)):=by
 intro pins s σ H D I h
 obtain ⟨cl,hclos,hcl1,hcl2⟩:=S.clos I
 rw [exec_Assign_Name_used _ _ _ _ hsw]
 refine wpAny_bind (wpAny_standAt (wpAny_bind ?_))
 show wpAny _ X.A (do let _ ← comprehension (.ListComp elt [⟨tg,iter,ifs,0⟩] scope pos) scope X.env _ (newList []) false (eval iter X.env) (some (assign (.Name y py) X.env))) _ _ s
 refine wpAny_bind (wpAny_mono (wpAny_comprehension_free (use:=some (assign (.Name y py) X.env)) (Q:=fun _ s'=>SP X pins D .next s') rfl hs hclos S.kind S.names
  (thn (hi pins s σ H _ I h) fun v s1 h1=>thn h1 fun itv s2 h2=>?_)) (fun _ s' hq=>wpAny_pure (wpAny_pure hq)) fun _ _ e=>e)
 obtain ⟨it,fp,tn,J,H2,e,I2,T,st2,f2,hW⟩:=h2
 subst e
 refine uA (Q:=fun x H1=>vW i x σ H1 D.nx) (RR:=fun acc C=>compPost (model X.prog X.w) X.A X.xe (some (assign (.Name y py) X.env)) (fun _ s'=>SP X pins D .next s') acc C) I2 hcalm T st2 f2 S hcl1 hcl2 (hg cl) (ht cl) (he cl) hW ?_
 intro L C oC m s' Hf IX hm fpc q
 have st:=zz (X:=X) (pos:=py) hN hiN (.inl hy) (.inr hy) _ s' σ Hf (.ref L) (.ref L) D.nx IX rfl q
 refine thn st fun _ s'' ⟨σ2,H2,I2',q2⟩=>?_
 have p:=I2'.pin (C,oC) (by simp)
 have hm':s''.heap.Ns C m:=by
  obtain ⟨o,es,ep,e1,r⟩:=hm
  have z:=(IX.pin (C,oC) (by simp)).1
  rw [e1] at z; cases z
  exact ⟨_,es,ep,p.1,r⟩
 refine ⟨m,hm',fun h' sb=>⟨σ2,H2,?_,q2⟩⟩
 exact (I2'.unpinned).turned (it:=C) (t':=s''.toks) (h':=h') (fun b o hb e=>sb.extBut b o hb e) p.2.1 fpc.2.1 fpc.2.2.2.1 fpc.2.2.2.2.1 fpc.2.2.2.2.2
end
section
variable {prog:Program} {w:World} {A:Around} {E:VS7} {s:Shared}
def t9 (h:Heap) (a:Addr) (cn:String) (vs:Array Value):Prop:=(cn = "tuple_iterator" /\ h.IsTuple a vs) \/ (cn = "list_iterator" /\ h.IsList a vs)
theorem t9.iter {a:Addr} {cn:String} {vs:Array Value} {Q:VS7} (h:t9 s.heap a cn vs)
  (q:Q (.ref s.heap.objs.size) { s with heap:=s.heap.push { cls:=.type cn,data:=.fields #[.ref a,.int 0 0] } }):wpAny (model prog w) A (pyIter (.ref a)) Q E s:=by
 rcases h with ⟨rfl,h⟩ | ⟨rfl,h⟩
 ·exact wpAny_pyIter_tuple h q
 ·exact wpAny_pyIter_list h q
theorem t9.push {h:Heap} {a:Addr} {cn:String} {vs:Array Value} (x:t9 h a cn vs) (o:Obj):t9 (h.push o) a cn vs:=by
 rcases x with ⟨rfl,x⟩ | ⟨rfl,x⟩
 ·exact .inl ⟨rfl,x.push o⟩
 ·exact .inr ⟨rfl,x.push o⟩
def zpO (c:String) (a:Addr):Obj:={ cls:=.type c,data:=.fields #[.ref a,.int 0 0] }
end
def SqC (c:Bool) (K:FG7) (H:Hp) (a:Addr) (xs:List V):Prop:=match c with
 | true=>SqT K H a xs
 | false=>SqL K H a xs
def uB (c:Bool) (h:Heap) (j a:Addr) (i:Nat):Prop:=match c with
 | true=>h.IsTupleIter j a i
 | false=>h.IsListIter j a i
def SeqC (c:Bool) (h:Heap) (a:Addr) (vs:Array Value):Prop:=match c with
 | true=>h.IsTuple a vs
 | false=>h.IsList a vs
def cnC (c:Bool):String:=match c with
 | true=>"tuple_iterator"
 | false=>"list_iterator"
theorem uB.at {c:Bool} {h h':Heap} {j a:Addr} {i:Nat} (x:uB c h j a i) (k:∀ o,h.get? j = some o -> h'.get? j = some o):uB c h' j a i:=by
 cases c
 ·exact Heap.IsListIter.at x k
 ·exact Heap.IsTupleIter.at x k
theorem uB.obj {c:Bool} {h:Heap} {j a:Addr} {i:Nat} (x:uB c h j a i):∃ o,h.get? j = some o /\ ∀ v,o.data ≠ .cell v:=by
 cases c
 ·obtain ⟨o,e,_,d⟩:=x
  exact ⟨o,e,fun v z=>by rw [d] at z; cases z⟩
 ·obtain ⟨o,e,_,d⟩:=x
  exact ⟨o,e,fun v z=>by rw [d] at z; cases z⟩
theorem uB.mk {c:Bool} {h:Heap} {j a:Addr} (e:h.get? j = some (zpO (cnC c) a)):uB c h j a 0:=by
 cases c
 ·exact ⟨_,e,rfl,rfl⟩
 ·exact ⟨_,e,rfl,rfl⟩
theorem SeqC.src {c:Bool} {h:Heap} {a:Addr} {vs:Array Value} (x:SeqC c h a vs):t9 h a (cnC c) vs:=by
 cases c
 ·exact .inr ⟨rfl,x⟩
 ·exact .inl ⟨rfl,x⟩
theorem SeqC.lt {c:Bool} {h:Heap} {a:Addr} {vs:Array Value} (x:SeqC c h a vs):a < h.objs.size:=by
 cases c
 ·obtain ⟨_,e,_⟩:=(show h.IsList a vs from x); exact Heap.lt_size e
 ·obtain ⟨_,e,_⟩:=(show h.IsTuple a vs from x); exact Heap.lt_size e
theorem Ub {prog:Program} {w:World} {A:Around} (hh:A.handled = none) (c:Bool) (j t:Addr) (hne:t ≠ j) (vs:Array Value) :
  Draws prog w A j [j,t] vs.size (fun i v=>vs[i]? = some v) (fun i h=>uB c h j t i /\ SeqC c h t vs):=by
 cases c
 ·exact Draws.list hh j t hne vs
 ·exact Yw hh j t hne vs
theorem Zx {prog:Program} {w:World} {A:Around} (hh:A.handled = none) (jt t:Addr) (vs:Array Value) {i:Nat} (hv:vs[i]? = none) :
  Draws prog w A jt [jt,t] i (fun _ _=>True) (fun j h=>j = i /\ h.IsListIter jt t i /\ h.IsList t vs) where
 live:=fun _ _ st=>let ⟨o,ho,_⟩:=st.2.1; ⟨o,ho⟩
 frame:=fun _ _ _ st hk=>⟨st.1,st.2.1.at (hk jt (by simp)),st.2.2.at (hk t (by simp))⟩
 item:=fun j s Q E hj st hQ=>absurd st.1 (Nat.ne_of_lt hj)
 done:=fun s Q E st hE=>wpAny_nextOf_list_end hh st.2.1 st.2.2 hv hE
theorem Zy {prog:Program} {w:World} {A:Around} (hh:A.handled = none) (c:Bool) (j t:Addr) (vs:Array Value) {i:Nat} (hv:vs[i]? = none) :
  Draws prog w A j [j,t] i (fun _ _=>True) (fun k h=>k = i /\ uB c h j t i /\ SeqC c h t vs):=by
 cases c
 ·exact Zx hh j t vs hv
 ·exact Yx hh j t vs hv
theorem sd {X:Cx} {pins:List (Addr × Obj)} {σ:L2.St} {H:Hp} {s:Shared} {c:Bool} {a:Addr} {xs:List V} (I:Inv X pins σ H s) (h:SqC c X.K H a xs):∃ its:List Value,Vals xs its /\ SeqC c s.heap a its.toArray:=by
 cases c
 ·obtain ⟨its,r,p,_⟩:=I.list h
  exact ⟨its,r,p.isList⟩
 ·obtain ⟨its,r,p,_⟩:=I.tuple h
  exact ⟨its,r,p⟩
theorem rD {X:Cx} {pins:List (Addr × Obj)} {σ:L2.St} {H:Hp} {s:Shared} {c:Bool} {a:Addr} {xs ys:List V} (I:Inv X pins σ H s) (h:SqC c X.K H a xs) (h':SqC c X.K H a ys):xs = ys:=by
 cases c
 ·exact I.list_inj h h'
 ·exact I.tuple_inj h h'
section
variable {prog:Program} {w:World} {A:Around} {E:VS7} {s:Shared}
open PySem.AutoSeq1 (wpAny_loadPart')
theorem YA (t:Addr) (c:Bool) (vs:Array Value) :
  Meets (Builtin.«enumerate.__new__» ⟨[.type "enumerate",.ref t],[]⟩) (fun _ R s=>SeqC c s.heap t vs ∧
   R (.ok (.ret (.ref (s.heap.push (zpO (cnC c) t)).objs.size)))
    { s with heap:=(s.heap.push (zpO (cnC c) t)).push { cls:=.type "enumerate",data:=.fields #[.none,.bool false,.ref s.heap.objs.size,rawInt 0,.none,.none] } }) :=
 .of_wp fun prog w A R s h=>by
  obtain ⟨hp,g,d,tk,os⟩:=s; obtain ⟨hT,h⟩:=h
  have hT':t9 (Shared.heap ⟨hp,g,d,tk,os⟩) t (cnC c) vs:=hT.src
  obtain ⟨ot,hot⟩:∃ o,hp.get? t = some o:=by
   cases c
   ·obtain ⟨o,e,_⟩:=(show hp.IsList t vs from hT); exact ⟨o,e⟩
   ·obtain ⟨o,e,_⟩:=(show hp.IsTuple t vs from hT); exact ⟨o,e⟩
  have hsub:=sub_enumerate
  wp_walk using wpAny_loadPart' hot
  refine wpAny_stack_any fun st=>wpAny_pure ?_
  split
  ·rename_i c' _ _ _ _ _
   cases (c' == Value.type "enumerate") <;> (wp_walk using wpAny_loadPart' hot,t9.iter hT') <;> exact ⟨_,rfl,h⟩
  ·wp_walk using wpAny_loadPart' hot,t9.iter hT'
   exact ⟨_,rfl,h⟩
theorem Zz {t:Addr} {c:Bool} {vs:Array Value} {Q:VS7} (ht:SeqC c s.heap t vs)
  (h:∀ h',IsEnum h' (s.heap.objs.size + 1) s.heap.objs.size 0 .none -> uB c h' s.heap.objs.size t 0 -> h'.objs.size = s.heap.objs.size + 2 -> (∀ b o,s.heap.get? b = some o -> h'.get? b = some o) -> Q (.ref (s.heap.objs.size + 1)) { s with heap:=h' }) :
  wpAny (model prog w) A (call (.type "enumerate") [.ref t]) Q E s:=by
 refine callType_new F.called_enumerate (by decide) (F.typeCall_enumerate_1 _) (F.newCall_enumerate_1 _) (fun obj=>F.args_object_init_2 obj _) F.entry_enumerate_new (YA t c vs) ⟨ht,?_⟩
 have hz:(s.heap.push (zpO (cnC c) t)).objs.size = s.heap.objs.size + 1:=Heap.size_push ..
 show _ /\ _
 rw [hz]
 have he:IsEnum ((s.heap.push (zpO (cnC c) t)).push { cls:=.type "enumerate",data:=.fields #[.none,.bool false,.ref s.heap.objs.size,rawInt 0,.none,.none] }) (s.heap.objs.size + 1) s.heap.objs.size 0 .none:=by
  have:=Heap.get?_push_size (s.heap.push (zpO (cnC c) t)) (o:={ cls:=.type "enumerate",data:=.fields #[.none,.bool false,.ref s.heap.objs.size,rawInt 0,.none,.none] }) rfl
  rw [hz] at this; exact this
 exact ⟨⟨_,he,rfl⟩,h _ he (.mk (Heap.get?_push_of_some _ (Heap.get?_push_size _ rfl))) (by rw [Heap.size_push,Heap.size_push]) fun b o x=>Heap.get?_push_of_some _ (Heap.get?_push_of_some _ x)⟩
end
def IteC (c:Bool) (K:FG7) (a:Addr):It :=
 ⟨fun i H=>∃ xs x,SqC c K H a xs /\ xs[i]? = some x,fun i H x H'=>∃ T v,H T = none /\ x = .ref T /\ H' = upd H T (.tup [.int i,v]) /\ ∀ xs,SqC c K H a xs -> xs[i]? = some v,fun i H=>∃ xs,SqC c K H a xs /\ xs.length <= i⟩
theorem ZA {P:Program} {w:World} {K:FG7} {elts:List Expr} {kt:Nat} {pt:Pos} (c:Bool) (a e jt:Addr) (hej:e ≠ jt) (hae:a ≠ e) (haj:a ≠ jt) :
  Turn P w K (.Tuple elts kt pt) (IteC c K a) [e,jt] e (fun i h=>(∃ old,IsEnum h e jt i old) /\ uB c h jt a i) where
 mem:=by simp
 obj:=fun i h st b hb=>by
  obtain ⟨⟨old,he⟩,st⟩:=st
  simp only [List.mem_cons,List.mem_nil_iff,or_false] at hb
  rcases hb with rfl | rfl
  ·exact ⟨_,he,fun v z=>by cases z⟩
  ·exact st.obj
 keep:=fun i h h' st k=>by
  obtain ⟨⟨old,he⟩,st⟩:=st
  exact ⟨⟨old,k e (by simp) _ he⟩,st.at fun o q=>k jt (by simp) o q⟩
 item:=by
  intro X hP hw hK hc i pins s σ H E I hf st hg
  subst hP hw hK
  obtain ⟨⟨old,he⟩,hit⟩:=st
  obtain ⟨xs,x,hq,hx⟩:=hg
  obtain ⟨its,rv,p⟩:=sd I hq
  obtain ⟨u,hu,ru⟩:=rv.get hx
  have hlt:i < its.toArray.size:=by have:=(List.getElem?_eq_some_iff.mp hu).1; simpa using this
  refine wpAny_pyNext_enum_itemD (Ub (A:=X.A.in1) (I.ok.hd hc) c jt a haj its.toArray) he ⟨hit,p⟩ hlt hej (by simp [hej,Ne.symm hae]) fun v h1 tk hv hout hst1 hT hsz hk=>?_
  have hvu:v = u:=by
   have e1:its.toArray[i]? = some v:=hv
   have e2:its.toArray[i]? = some u:=by simpa using hu
   rw [e1] at e2; exact Option.some.inj e2
  subst hvu
  refine ⟨_,rfl,wpAny_letOwnedTupleGo_enum (s:={ s with heap:=h1,toks:=tk + 1 }) hout fun h2 he2 hs2=>?_⟩
  have hk2:∀ b o,b ∉ [e,jt] -> s.heap.get? b = some o -> h2.get? b = some o:=fun b o hb q=>by
   have n1:b ≠ e:=fun z=>hb (by simp [z])
   have n2:b ≠ jt:=fun z=>hb (by simp [z])
   exact (hs2.2 b n1).trans (hk b o n1 n2 q)
  have eT:s.heap.objs.size ≠ e:=Nat.ne_of_gt (Heap.lt_size he)
  have hT2:h2.get? s.heap.objs.size = some { cls:=.type "tuple",data:=.seq #[.int i tk,v] }:=(hs2.2 _ eT).trans hT
  have hn:H s.heap.objs.size = none:=I.hok.fresh (Nat.le_refl _)
  have I2:Inv X pins σ (upd H s.heap.objs.size (.tup [.int i,x])) { s with heap:=h2,toks:=tk + 1 }:=XL (s:=s) I hk2 hf (Nat.le_refl _) ⟨by show 2 <= sizeLine; decide,[.int i tk,v],.cons ⟨_,rfl⟩ (.cons ru .nil),_,hT2,rfl,0,rfl⟩
  refine ⟨.ref s.heap.objs.size,upd H s.heap.objs.size (.tup [.int i,x]),I2,rfl,⟨_,x,hn,rfl,rfl,fun ys hy=>by rw [rD I hy hq]; exact hx⟩,⟨⟨v,by simpa using he2⟩,?_⟩,fun b hb=>?_⟩
  ·exact hst1.1.at fun o q=>(hs2.2 jt (Ne.symm hej)).trans q
  ·have nb:b ≠ s.heap.objs.size:=by
    obtain ⟨oj,hoj,_⟩:=hit.obj
    simp only [List.mem_cons,List.mem_nil_iff,or_false] at hb
    rcases hb with rfl | rfl
    ·exact Ne.symm eT
    ·exact Nat.ne_of_lt (Heap.lt_size hoj)
   rw [zy nb]; exact (hf b hb).1
 done:=by
  intro X hP hw hK hc i pins s σ H E I hf st hg
  subst hP hw hK
  obtain ⟨⟨old,he⟩,hit⟩:=st
  obtain ⟨xs,hq,hx⟩:=hg
  obtain ⟨its,rv,p⟩:=sd I hq
  have hl:=rv.length
  refine wpAny_pyNext_enum_endD (Zy (A:=X.A.in1) (I.ok.hd hc) c jt a its.toArray (i:=i) (by simp; omega)) he ⟨rfl,hit,p⟩ fun h' eb=>⟨rfl,?_⟩
  exact Yy (fp:=[e,jt]) (t':=s.toks) I (fun b o hb q=>eb b o (fun z=>hb (by simp [z])) q) hf
 self:=fun _ _ _ _ _ st h=>by
  obtain ⟨⟨old,he⟩,_⟩:=st
  exact wpAny_pyIter_enum he h
section
variable {X:Cx} {elts:List Expr} {kt:Nat} {pt:Pos} {K:FG7}
def Uc (c:Bool) (K:FG7) (ta:TA):TI:=fun σ H R=>ta σ H fun vs H1=>∃ a xs,vs = [.ref a] /\ SqC c K H1 a xs /\ R (IteC c K a) H1
theorem ue {a:Expr} {ta:TA} {p pos:Pos} (c:Bool) (hK:X.K = K) (hg:Gl X "enumerate") (hm:X.mg "enumerate" = none) (ha:PA X [a] ta) (hs:starEach [a] X.env = [(false,eval a X.env)]:=by rfl) :
  PI X (.Tuple elts kt pt) (.Call (.Name "enumerate" p) [a] [] pos) (Uc c K ta):=by
 subst hK
 intro pins s σ H R I h
 refine Call_ (wx I hg hm Ua (PyProof.Rows.callWith_type1 (thn (ha pos pins s σ H _ I h) fun us s1 ⟨vs,H1,I1,r1,q1⟩=>?_) hs rfl))
 obtain ⟨t,xs,e,hq,q⟩:=q1
 subst e
 obtain ⟨u,rfl,e1⟩:=wR r1
 cases (show u = Value.ref t from e1)
 obtain ⟨its,rv,p⟩:=sd I1 hq
 refine Zz p fun h' he hit _ hk=>?_
 refine wpAny_pyIter_enum he ?_
 have lt:t < s1.heap.objs.size:=p.lt
 have I2:Inv X pins σ H1 { s1 with heap:=h' }:=I1.kept (t':=s1.toks) hk
 refine ⟨s1.heap.objs.size + 1,[s1.heap.objs.size + 1,s1.heap.objs.size],_,_,H1,rfl,I2,ZA c t (s1.heap.objs.size + 1) s1.heap.objs.size (Nat.succ_ne_self _) (Nat.ne_of_lt (Nat.lt_succ_of_lt lt)) (Nat.ne_of_lt lt),⟨⟨_,he⟩,hit⟩,fun b hb=>?_,q⟩
 simp only [List.mem_cons,List.mem_nil_iff,or_false] at hb
 rcases hb with rfl | rfl
 ·exact I1.fpOk (Nat.le_succ _) (I1.hok.fresh (Nat.le_succ _))
 ·exact I1.fpOk (Nat.le_refl _) (I1.hok.fresh (Nat.le_refl _))
end
section
variable {K:FG7} {a:Addr} {c:Bool} {xs:List V} {g:TG} {tt:TT} {te:TE} {tb:TS} {D:Ends} {Q:VK} {σ:L2.St} {H:Hp}
theorem rE (Pv:Nat -> L2.St -> Hp -> Prop) (h0:Pv 0 σ H) (hl:∀ i σ H,i <= xs.length -> Pv i σ H -> SqC c K H a xs)
  (hs:∀ i x σ H T,xs[i]? = some x -> Pv i σ H -> H T = none -> g (.ref T) σ (upd H T (.tup [.int i,x])) fun σ2 H2=>tb { D with nx:=Pv (i + 1),ct:=Pv (i + 1),bk:=D.nx } σ2 H2) (hd:∀ σ H,Pv xs.length σ H -> D.nx σ H) :
  ∃ W:Nat -> Nat -> L2.St -> Hp -> Prop,(∃ m,W 0 m σ H) /\ ∀ i m σ H,W i m σ H →
   ((IteC c K a).stop i H /\ D.nx σ H) \/ ((IteC c K a).go i H /\ ∃ N:L2.St -> Hp -> Prop,(∀ σ' H',N σ' H' -> ∃ m',m' < m /\ W (i + 1) m' σ' H') /\ ∀ x H',(IteC c K a).yld i H x H' -> g x σ H' fun σ2 H2=>tb { D with nx:=N,ct:=N,bk:=D.nx } σ2 H2):=by
 refine ⟨fun i m σ H=>m = xs.length - i /\ i <= xs.length /\ Pv i σ H,⟨xs.length,by simp,Nat.zero_le _,h0⟩,?_⟩
 rintro i m σ H ⟨rfl,hi,p⟩
 have q:=hl i σ H hi p
 by_cases hlt:i < xs.length
 ·refine .inr ⟨⟨xs,xs[i],q,by simp [hlt]⟩,Pv (i + 1),fun σ' H' p'=>⟨xs.length - (i + 1),by omega,rfl,hlt,p'⟩,fun x H' y=>?_⟩
  obtain ⟨T,v,hT,rfl,rfl,y⟩:=y
  exact hs i v σ H T (y xs q) p hT
 ·have e:i = xs.length:=by omega
  subst e
  exact .inl ⟨⟨xs,q,Nat.le_refl _⟩,hd σ H p⟩
end
section
variable {X:Cx}
variable {K:FG7}
theorem Vf {es:List Expr} {k:Nat} {pos:Pos} {t:TGs} (n:Nat) (h0:X.K = K) (hc:X.calm = true) (h:PGs X es t)
  (hn:(assignEach es X.env).length = n) (hst:(assignEach es X.env).findIdx? (·.1) = none):PG X (.Tuple es k pos) (gTup K n t):=by subst h0; exact sU hc h hn hst
end
def InC (C:Int) (xs:List Int):Prop:=∀ v ∈ xs,-C <= v /\ v <= C
theorem InC.mono {B C:Int} {xs:List Int} (h:InC B xs) (hC:B <= C):InC C xs:=fun v hv=>by have:=h v hv; omega
theorem InC.inB {C:Int} {xs:List Int} (h:InC C xs) (hC:C < 2 ^ 300):InB (2 ^ 300) xs:=fun v hv=>by have:=h v hv; omega
theorem Deed.Bd.sh {d:Deed} {B:Int} {n:Nat} (h:d.Bd B) (hB:B <= 10 ^ 90):Sh (rB d) 5772 (n + 1):=XJ (h.mono (Int.le_trans hB (by decide)))
theorem InC.sh {xs:List Int} {C:Int} {m n:Nat} (h:InC C xs) (hC:C <= 10 ^ 90) (l:xs.length <= m):Sh (qL xs) (m * 1923 + 3) (n + 1) :=
 (Va (n:=n) (h.inB (Int.lt_of_le_of_lt hC (by decide)))).mono (by have:=Nat.mul_le_mul_right 1923 l; omega) (Nat.le_refl _)
theorem WF.dat {K:FG7} {H:Hp} {x:V} {g:List Deed × List Deed} (h:WF K H x g):Dat K H x (.tuple [.tuple (g.1.map rB),.tuple (g.2.map rB)]):=by
 obtain ⟨r,r1,r2,rfl,h0,d1,d2⟩:=h
 exact .tup h0 (.cons d1.dat (.cons d2.dat .nil))
theorem uy:∀ {ns:List Int} {us:List Value},IntsAre us ns -> Vals (ns.map V.int) us:=by
 intro ns us h
 induction h with
 | nil=>exact .nil
 | cons n t _ ih=>exact .cons ⟨t,rfl⟩ ih
structure Wk (prog:Program) (w:World) (A:Around) (T:String) (I:Addr) (n:Nat) (Fr:Addr -> Prop) (J:List Value -> Shared -> Prop) (Fn:List Value -> Shared -> Prop):Prop where
 ty:∀ acc s,J acc s -> s.TypeIs (.ref I) T
 self:∀ acc s (Q:VS7) (E:VS7),J acc s -> Q (.ref I) s -> wpAny (model prog w) A (pyIter (.ref I)) Q E s
 stay:∀ acc s (S:Addr) (ob:Obj) (h':Heap),J acc s -> Fr S -> s.heap.get? S = some ob -> ob.cls = .type "list" -> (∀ b o,b ≠ S -> s.heap.get? b = some o -> h'.get? b = some o) -> h'.objs.size = s.heap.objs.size -> J acc { s with heap:=h' }
 next:∀ acc s (S:Addr) (ob:Obj) (Q:Option Value -> Shared -> Prop) (E:VS7),J acc s -> Fr S -> s.heap.get? S = some ob -> ob.cls = .type "list" →
  (∀ v s',acc.length < n -> J (acc ++ [v]) s' -> s'.heap.get? S = some ob -> Q (some v) s') -> (∀ s',Fn acc s' -> s'.heap.get? S = some ob -> Q none s') -> wpAny (model prog w) A (pyNext (.ref I)) Q E s
 push:∀ acc s (o:Obj),J acc s -> J acc { s with heap:=s.heap.push o }
def vN (H:Hp) (a:Addr):Prop:=∃ p0 c t:Int,H a = some (.lst [.int p0,.int c,.int t]) /\ 0 <= p0
theorem vN.grow {H H':Hp} {a:Addr} (p:vN H a) (g:Grow [] H H'):vN H' a:=by
 obtain ⟨x,y,z,h,q⟩:=p
 exact ⟨x,y,z,g.keep _ _ (by simp) h,q⟩
theorem vN.new {H:Hp} {a l:Addr} (p:vN H a) (hl:H l = none) (o:HO):vN (upd H l o) a:=p.grow (Grow.new hl o)
theorem vN.ne {H:Hp} {a l:Addr} (p:vN H a) (h:H l = none):l ∉ [a]:=by
 intro z
 obtain ⟨x,y,w,hz,_⟩:=p
 rw [List.mem_singleton.mp z,hz] at h
 cases h
def U5 (ns:List Int):List Int:=ns.mergeSort fun a b=>decide (a <= b)
def dupS:List Int -> Option Int
 | a :: b :: r=>if a = b then some a else dupS (b :: r)
 | _=>none
def Ud (rows:List (List Int)) (l:Nat):List Int:=rows.map fun r=>r.getD l 0
def wW (rows:List (List Int)) (l:Nat):Option Int:=dupS (U5 (Ud rows l))
def se (k:Nat) (rows:List (List Int)) (o:Option (Nat × Int)):Prop:=match o with
 | none=>∀ l,l <= k -> wW rows l = none
 | some (l,v)=>l <= k /\ wW rows l = some v /\ ∀ j,j < l -> wW rows j = none
theorem se.one {k:Nat} {rows rows':List (List Int)} {o o':Option (Nat × Int)} (e:∀ l,wW rows l = wW rows' l) (h:se k rows o) (h':se k rows' o'):o = o':=by
 cases o with
 | none =>
  cases o' with
  | none=>rfl
  | some p =>
   obtain ⟨l,v⟩:=p
   have z:=h l h'.1
   rw [e,h'.2.1] at z; cases z
 | some p =>
  obtain ⟨l,v⟩:=p
  cases o' with
  | none =>
   have z:=h' l h.1
   rw [← e,h.2.1] at z; cases z
  | some p' =>
   obtain ⟨l',v'⟩:=p'
   obtain ⟨a1,a2,a3⟩:=h
   obtain ⟨b1,b2,b3⟩:=h'
   by_cases c:l < l'
   ·have z:=b3 l c
    rw [← e,a2] at z; cases z
   ·by_cases c2:l' < l
    ·have z:=a3 l' c2
     rw [e,b2] at z; cases z
    ·have:l = l':=by omega
     subst this
     rw [e,b2] at a2
     cases a2; rfl
def YB (K:FG7) (H:Hp) (x:V) (o:Option (Nat × Int)):Prop:=match o with
 | none=>x = .non
 | some (l,v)=>∃ r,x = .ref r /\ SqT K H r [.int l,.int v]
theorem Grow.clash {m:List Addr} {H H':Hp} (g:Grow m H H') {K:FG7} {x:V} {o:Option (Nat × Int)} (h:YB K H x o):YB K H' x o:=by
 cases o with
 | none=>exact h
 | some p =>
  obtain ⟨l,v⟩:=p
  obtain ⟨r,e,z⟩:=h
  exact ⟨r,e,g.sqT z⟩
theorem YC {xs:List V} {c:Nat}:cutV xs none (some (c:Int)) = xs.take c:=by
 unfold cutV
 rw [HT.sIx_none,HT.sIx_nat,List.drop_zero,Nat.sub_zero]
 by_cases h:c <= xs.length
 ·rw [Nat.min_eq_left h]
 ·rw [Nat.min_eq_right (by omega),List.take_of_length_le (by omega),List.take_of_length_le (by omega)]
theorem YD {xs:List V} {c:Nat}:cutV xs (some (c:Int)) none = xs.drop c:=by
 unfold cutV
 rw [HT.sIx_none,HT.sIx_nat]
 by_cases h:c <= xs.length
 ·rw [Nat.min_eq_left h,List.take_of_length_le (by rw [List.length_drop]; exact Nat.le_refl _)]
 ·rw [Nat.min_eq_right (by omega),List.drop_eq_nil_of_le (by omega),List.drop_eq_nil_of_le (by omega)]; simp
mutual
inductive Dq (K:FG7) (H:Hp):V -> PyData -> Prop
 | non:Dq K H .non .none
 | bl (b:Bool):Dq K H (.bl b) (.bool b)
 | int (i:Int):Dq K H (.int i) (.int i)
 | str (x:Str):Dq K H (.str x) (.str x)
 | tup {a:Addr} {xs:List V} {ds:List PyData}:SqT K H a xs -> DqAll K H xs ds -> Dq K H (.ref a) (.tuple ds)
 | lst {a:Addr} {xs:List V} {ds:List PyData}:SqL K H a xs -> DqAll K H xs ds -> Dq K H (.ref a) (.list ds)
inductive DqAll (K:FG7) (H:Hp):List V -> List PyData -> Prop
 | nil:DqAll K H [] []
 | cons {x:V} {xs:List V} {d:PyData} {ds:List PyData}:Dq K H x d -> DqAll K H xs ds -> DqAll K H (x :: xs) (d :: ds)
end
mutual
theorem Dat.dq {K:FG7} {H:Hp}:∀ {x:V} {d:PyData},Dat K H x d -> Dq K H x d
 | _,_,.non=>.non
 | _,_,.bl b=>.bl b
 | _,_,.int i=>.int i
 | _,_,.tup h t=>.tup h (DatAll.dq t)
 | _,_,.lst h t=>.lst h (DatAll.dq t)
theorem DatAll.dq {K:FG7} {H:Hp}:∀ {xs:List V} {ds:List PyData},DatAll K H xs ds -> DqAll K H xs ds
 | _,_,.nil=>.nil
 | _,_,.cons h t=>.cons (Dat.dq h) (DatAll.dq t)
end
theorem DqAll.len {K:FG7} {H:Hp}:∀ {xs:List V} {ds:List PyData},DqAll K H xs ds -> xs.length = ds.length
 | _,_,.nil=>rfl
 | _,_,.cons _ t=>congrArg (· + 1) (DqAll.len t)
theorem DqAll.app {K:FG7} {H:Hp}:∀ {xs:List V} {ds:List PyData} {ys:List V} {es:List PyData},DqAll K H xs ds -> DqAll K H ys es -> DqAll K H (xs ++ ys) (ds ++ es)
 | _,_,_,_,.nil,h=>h
 | _,_,_,_,.cons h t,g=>.cons h (DqAll.app t g)
theorem uf (n:Nat):(List.range n).all (fun _=>true) = true:=List.all_eq_true.mpr fun _ _=>rfl
section
variable {X:Cx} {pins:List (Addr × Obj)} {σ:L2.St} {H:Hp} {s:Shared}
mutual
theorem dq_eq (I:Inv X pins σ H s):∀ {d:PyData} {x y:V} {u v:Value} {A:Around},Dq X.K H x d -> Dq X.K H y d -> RelV x u -> RelV y v -> A.units + d.depth < cLine -> SeqAt.EqAt A s u v true
 | _,_,y,u,v,A,.non,hy,ru,rv,_=>by
  cases hy
  cases (show u = Value.none from ru)
  cases (show v = Value.none from rv)
  exact SeqAt.EqAt.same _
 | _,_,y,u,v,A,.bl b,hy,ru,rv,_=>by
  cases hy
  cases (show u = Value.bool b from ru)
  cases (show v = Value.bool b from rv)
  exact SeqAt.EqAt.same _
 | _,_,y,u,v,A,.int i,hy,ru,rv,_=>by
  cases hy
  obtain ⟨t,rfl⟩:=ru
  obtain ⟨t',rfl⟩:=rv
  have z:=SeqAt.EqAt.int_int (A:=A) (s:=s) i t i t'
  rw [beq_self_eq_true] at z
  exact z
 | _,_,y,u,v,A,.str x,hy,ru,rv,_=>by
  cases hy
  obtain ⟨t,rfl⟩:=ru
  obtain ⟨t',rfl⟩:=rv
  have z:=SeqAt.EqAt.str_str (A:=A) (s:=s) x t x t'
  rw [beq_self_eq_true] at z
  exact z
 | _,_,y,u,v,A,.tup (a:=a) (xs:=xs) (ds:=ds) hs ha,hy,ru,rv,hu=>by
  cases hy with
  | tup hs' ha' =>
   rename_i a' xs'
   cases (show u = Value.ref a from ru)
   cases (show v = Value.ref a' from rv)
   obtain ⟨us,r1,t1,_⟩:=I.tuple hs
   obtain ⟨ws,r2,t2,_⟩:=I.tuple hs'
   have hd:A.units + (PyData.depthAll ds + 1) < cLine:=hu
   by_cases e:a = a'
   ·subst e; exact SeqAt.EqAt.same _
   ·have l1:=ha.len
    have l2:=ha'.len
    have q:=SeqAt.RcAt.tuples (e:=fun _=>true) (yP t1) (yP t2) (by omega) (dqs_eq I ha ha' r1 r2 (A:=A.in1) (by show A.units + 1 + PyData.depthAll ds < cLine; omega))
    rw [uf,Bool.true_and,List.size_toArray,List.size_toArray,← r1.length,← r2.length,l1,l2,beq_self_eq_true] at q
    exact SeqAt.EqAt.of_refs e q
 | _,_,y,u,v,A,.lst (a:=a) (xs:=xs) (ds:=ds) hs ha,hy,ru,rv,hu=>by
  cases hy with
  | lst hs' ha' =>
   rename_i a' xs'
   cases (show u = Value.ref a from ru)
   cases (show v = Value.ref a' from rv)
   obtain ⟨us,r1,t1,_⟩:=I.list hs
   obtain ⟨ws,r2,t2,_⟩:=I.list hs'
   have hd:A.units + (PyData.depthAll ds + 1) < cLine:=hu
   by_cases e:a = a'
   ·subst e; exact SeqAt.EqAt.same _
   ·have l1:=ha.len
    have l2:=ha'.len
    have q:=SeqAt.RcAt.lists (e:=fun _=>true) t1.isList t2.isList (by rw [List.size_toArray,List.size_toArray,← r1.length,← r2.length,l1,l2]) (by omega) (dqs_eq I ha ha' r1 r2 (A:=A.in1) (by show A.units + 1 + PyData.depthAll ds < cLine; omega))
    rw [uf] at q
    exact SeqAt.EqAt.of_refs e q
theorem dqs_eq (I:Inv X pins σ H s):∀ {ds:List PyData} {xs ys:List V} {us vs:List Value} {A:Around},DqAll X.K H xs ds -> DqAll X.K H ys ds -> Vals xs us -> Vals ys vs -> A.units + PyData.depthAll ds < cLine →
  ∀ j (h1:j < us.toArray.size) (h2:j < vs.toArray.size),SeqAt.EqAt A s us.toArray[j] vs.toArray[j] true
 | _,_,_,_,_,A,.nil,hy,ru,rv,_=>fun j h1 _=>by
  cases ru
  exact absurd h1 (Nat.not_lt_zero j)
 | _,_,_,_,_,A,.cons (d:=d) (ds:=ds) hx tx,hy,ru,rv,hd=>fun j h1 h2=>by
  cases hy with
  | cons hy ty =>
   cases ru with
   | cons r1 rr1 =>
    cases rv with
    | cons r2 rr2 =>
     have hd':A.units + max d.depth (PyData.depthAll ds) < cLine:=hd
     cases j with
     | zero=>simpa using dq_eq I hx hy r1 r2 (A:=A) (by omega)
     | succ j =>
      have z:=dqs_eq I tx ty rr1 rr2 (A:=A) (by omega) j (by simpa using h1) (by simpa using h2)
      simpa using z
end
variable {K:FG7}
def U6 (K:FG7) (neg:Bool):R2:=fun x y H Q=>∃ d,Dq K H x d /\ Dq K H y d /\ (∃ a,x = .ref a) /\ d.depth <= 100 /\ Q (.bl neg) H
theorem Ue {k:Nat} (hK:X.K = K) (hr:Room k X.A):OpR X (compareOp .NotEq) (U6 K false):=by
 subst hK
 intro pins s σ H x y u v Q I rx ry h
 obtain ⟨d,hx,hy,⟨a0,e0⟩,hd,q⟩:=h
 have hu:=hr.un
 cases hx with
 | non=>cases e0
 | bl b=>cases e0
 | int i=>cases e0
 | str x=>cases e0
 | tup hs ha =>
  cases hy with
  | tup hs' ha' =>
   rename_i a xs ds a' xs'
   cases (show u = Value.ref a from rx)
   cases (show v = Value.ref a' from ry)
   obtain ⟨us,r1,t1,_⟩:=I.tuple hs
   obtain ⟨ws,r2,t2,_⟩:=I.tuple hs'
   have hd':PyData.depthAll ds + 1 <= 100:=hd
   refine SeqAt.RcNeAt.tuples (e:=fun _=>true) (yP t1) (yP t2) hr.units0 (dqs_eq I ha ha' r1 r2 (A:=X.A.in1) (by show X.A.units + 1 + PyData.depthAll ds < cLine; omega)) _ _ _ _ ?_
   rw [uf,Bool.true_and,List.size_toArray,List.size_toArray,← r1.length,← r2.length,ha.len,ha'.len,beq_self_eq_true]
   exact ⟨.bl false,H,I,rfl,q⟩
 | lst hs ha =>
  cases hy with
  | lst hs' ha' =>
   rename_i a xs ds a' xs'
   cases (show u = Value.ref a from rx)
   cases (show v = Value.ref a' from ry)
   obtain ⟨us,r1,t1,_⟩:=I.list hs
   obtain ⟨ws,r2,t2,_⟩:=I.list hs'
   have hd':PyData.depthAll ds + 1 <= 100:=hd
   refine SeqAt.RcNeAt.lists (e:=fun _=>true) t1.isList t2.isList (by rw [List.size_toArray,List.size_toArray,← r1.length,← r2.length,ha.len,ha'.len]) hr.units0 (dqs_eq I ha ha' r1 r2 (A:=X.A.in1) (by show X.A.units + 1 + PyData.depthAll ds < cLine; omega)) _ _ _ _ ?_
   rw [uf]
   exact ⟨.bl false,H,I,rfl,q⟩
end
def xN (k st a:Nat):Nat:=a ^^^ 2 ^ (k - st)
def nN (k st a:Nat):Nat:=(Vd k a st).toNat
def lN (k h g n:Nat):Nat:=(Vc k h g n).toNat
structure OneF (k st a:Nat):Prop where
 sw:swI k st a = Vd k a st
 num:Vd k a st = (nN k st a:Int)
 lt:nN k st a < 2 ^ (k - 1)
 nx:nN k st (xN k st a) = nN k st a
 xx:xN k st (xN k st a) = a
 xne:xN k st a ≠ a
 xlt:xN k st a < 2 ^ k
 w0:wfI k st a (Builtin.bitXor (figI k st a) 0) = (a:Int)
 w1:wfI k st a (Builtin.bitXor (figI k st a) 1) = (xN k st a:Int)
 c1:Builtin.bitXor (figI k st a) (figI k st (xN k st a)) = 1
 c0:Builtin.bitXor (figI k st a) (figI k st a) = 0
 b0:Builtin.bitXor (figI k st a) 0 = 0 \/ Builtin.bitXor (figI k st a) 0 = 1
 b1:Builtin.bitXor (figI k st a) 1 = 0 \/ Builtin.bitXor (figI k st a) 1 = 1
def plOf (gs:List Nat):List (Nat × Nat):=(List.range gs.length).map fun h=>(h,gs.getD h 0)
def uC (k:Nat) (gs:List Nat):Prop:=gs.length = 2 ^ k /\ ∀ g ∈ gs,g < 2 ^ k
theorem uC.get {k:Nat} {gs:List Nat} (h:uC k gs) {i:Nat} (hi:i < 2 ^ k):gs.getD i 0 < 2 ^ k:=by
 rw [List.getD_eq_getElem?_getD,List.getElem?_eq_getElem (by rw [h.1]; exact hi)]
 exact h.2 _ (List.getElem_mem _)
def Uf (k st:Nat) (q:Nat × Nat):Int:=Builtin.bitXor (figI k st (Vc k q.1 q.2 (st - 1))) (figI k st (Vc k q.1 q.2 st))
def Ug (k st:Nat) (m:List Int) (q:Nat × Nat):List Int:=m.set (nN k st (lN k q.1 q.2 st)) (Uf k st q)
def Uh (k st:Nat) (pl:List (Nat × Nat)):List Int:=pl.foldl (Ug k st) (List.replicate (2 ^ k / 2) 0)
def U7 (k:Nat) (gs:List Nat):List (List Int):=(List.range k).map fun n=>Uh k (n + 1) (plOf gs)
section
variable {X:Cx} {a:Expr} {ta:TA} {p p2 pos pos2:Pos}
def U8 (ta:TA):TE:=fun σ H Q=>ta σ H fun vs H1=>∃ n:Nat,vs = [.int n] /\ n <= 1000 /\ ∀ l,H1 l = none -> Q (.ref l) (upd H1 l (.lst ((List.range n).map fun i:Nat=>V.int i)))
theorem rF (hc:X.calm = true) (hgl:Gl X "list") (hml:X.mg "list" = none) (hgr:Gl X "range") (hmr:X.mg "range" = none) (ha:PA X [a] ta)
  (hs:starEach [a] X.env = [(false,eval a X.env)]:=by rfl) (hs2:starEach [(.Call (.Name "range" p2) [a] [] pos2:Expr)] X.env = [(false,eval (.Call (.Name "range" p2) [a] [] pos2) X.env)]:=by rfl) :
  PE X (.Call (.Name "list" p) [.Call (.Name "range" p2) [a] [] pos2] [] pos) (U8 ta):=by
 intro pins s σ H Q I h
 refine wpAny_Call_Name_kw (wx I hgl hml Wy (PyProof.Rows.callWith_type1 ?_ hs2 rfl))
 rw [hs2]
 show wpAny _ _ (spliced [(false,eval (.Call (.Name "range" p2) [a] [] pos2) X.env)]) _ _ s
 refine Calls.spliced_cons ?_
 refine Call_ (wx I hgr hmr boot_range (PyProof.Rows.callWith_type1 (thn (ha pos2 pins s σ H _ I h) fun us s1 ⟨vs,H1,I1,r1,q1⟩=>?_) hs rfl))
 obtain ⟨n,e,hn,q⟩:=q1
 subst e
 obtain ⟨u,rfl,e1⟩:=wR r1
 obtain ⟨t,rfl⟩:=e1
 refine call_range_1 (Calls.spliced_nil ?_)
 have I2:Inv X pins σ H1 { s1 with heap:=s1.heap.push { cls:=.type "range",data:=.fields #[.int 0 s1.toks,.int n t,.int 1 (s1.toks + 1)] },toks:=s1.toks + 1 + 1 }:=I1.kept fun b o e=>Heap.get?_push_of_some _ e
 refine call_list_range (n:=n) (I.ok.hd hc) (IsRange.new ..) (small_one (by omega) (by omega) (by omega) (by omega)) (by rw [rangeSize_one]; split <;> omega) (by omega) fun h' tk acc c' hk hS hacc=>?_
 have hvr:Vals ((List.range n).map fun i:Nat=>V.int i) acc.toList:=by
  have hlen:acc.toList.length = n:=by rw [Array.length_toList]; exact hacc.1
  have key:∀ (m:Nat) (l:List Value) (j:Nat),l.length = m -> (∀ i v,l[i]? = some v -> ∃ t,v = Value.int ((j + i:Nat):Int) t) -> Vals ((List.range' j m).map fun i:Nat=>V.int i) l:=by
   intro m
   induction m with
   | zero =>
    intro l j hl _
    rw [List.length_eq_zero_iff.mp hl]
    exact .nil
   | succ m ih =>
    intro l j hl hv
    match l,hl,hv with
    | x :: l,hl,hv =>
     refine .cons ?_ (ih l (j + 1) (by simpa using hl) fun i v h=>?_)
     ·obtain ⟨t,e⟩:=hv 0 x rfl
      exact ⟨t,e⟩
     ·obtain ⟨t,e⟩:=hv (i + 1) v (by simpa using h)
      exact ⟨t,by rw [e,show j + (i + 1) = j + 1 + i by omega]⟩
  rw [List.range_eq_range']
  refine key n acc.toList 0 hlen fun i v h=>?_
  obtain ⟨t,e⟩:=hacc.2 i v (by rw [← h]; exact (Array.getElem?_toList).symm)
  exact ⟨t,by rw [e]; congr 1; omega⟩
 refine ⟨.ref (s1.heap.push { cls:=.type "range",data:=.fields #[.int 0 s1.toks,.int n t,.int 1 (s1.toks + 1)] }).objs.size,_,I2.laid (t':=tk) hk (Nat.le_refl _) (show yh X.prog X.w _ h' _ (.lst ((List.range n).map fun i:Nat=>V.int i)) from ⟨by rw [List.length_map,List.length_range]; exact Nat.le_of_lt (zn hn),acc.toList,c',hvr,by simpa using hS⟩),rfl,q _ (I2.hok.fresh (Nat.le_refl _))⟩
end
def XO (gs:List Nat):List V:=gs.map fun g:Nat=>V.int g
def Ui (K:FG7) (H:Hp) (x:V) (k:Nat) (gs:List Nat) (o:Option (Nat × Int)):Prop:=∃ (r:Addr) (s:Str) (y:V),x = .ref r /\ SqT K H r [.str s,y] /\ match o with
 | none=>s = "settings" /\ yJ K H y (U7 k gs)
 | some (l,v)=>s = "clash" /\ ∃ c,y = .ref c /\ SqT K H c [.int l,.int v]
theorem Grow.ans {m:List Addr} {H H':Hp} (g:Grow m H H') {K:FG7} {x:V} {k:Nat} {gs:List Nat} {o:Option (Nat × Int)} (h:Ui K H x k gs o):Ui K H' x k gs o:=by
 obtain ⟨r,s,y,e,z,w⟩:=h
 refine ⟨r,s,y,e,g.sqT z,?_⟩
 cases o with
 | none=>exact ⟨w.1,g.rows w.2⟩
 | some p =>
  obtain ⟨l,v⟩:=p
  obtain ⟨w1,c,e,z⟩:=w
  exact ⟨w1,c,e,g.sqT z⟩
theorem AllR.of_get {α:Type} {R:V -> α -> Prop}:∀ {xs:List V} {ks:List α},xs.length = ks.length -> (∀ (i:Nat) (x:V),xs[i]? = some x -> ∃ k,ks[i]? = some k /\ R x k) -> AllR R xs ks
 | [],[],_,_=>trivial
 | x :: xs,k :: ks,hl,h=>by
  refine ⟨?_,AllR.of_get (by simpa using hl) fun i y hy=>by simpa using h (i + 1) y (by simpa using hy)⟩
  obtain ⟨k',e,r⟩:=h 0 x rfl
  cases e
  exact r
 | [],_ :: _,hl,_=>by simp at hl
 | _ :: _,[],hl,_=>by simp at hl
theorem uC.set {k:Nat} {gs:List Nat} (h:uC k gs) {j n:Nat} (hn:n < 2 ^ k):uC k (gs.set j n):=by
 refine ⟨by rw [List.length_set,h.1],fun g hg=>?_⟩
 rcases List.mem_or_eq_of_mem_set hg with z | rfl
 ·exact h.2 g z
 ·exact hn
def wfN (k s l:Nat) (w:Int):Nat:=(wfI k s l w).toNat
structure WfF (k s l:Nat) (w:Int):Prop where
 eq:wfI k s l w = (wfN k s l w:Int)
 lt:wfN k s l w < 2 ^ k
 at_:figI k s (wfN k s l w) = w
 off:∀ t:Nat,t <= k -> t ≠ s -> figI k t (wfN k s l w) = figI k t l
def mixN (k e x t:Nat):Nat:=(numL ((Zw k e).take (t - 1) ++ (Zw k x).drop t)).toNat
def fstI (rows:List (List Int)) (t n:Nat):Int:=(rows.getD (t - 1) []).getD n 0
def U9 (k:Nat) (rows:List (List Int)) (e m x y:Nat):Prop:=∃ t:Nat,m < t /\ t <= k /\ figI k t x ≠ figI k t y /\ (∀ u:Nat,t < u -> u <= k -> figI k u x = figI k u y) /\ figI k t x = fstI rows t (mixN k e x t)
structure OrdF (k:Nat) (rows:List (List Int)) (e n:Nat) (L:List Nat):Prop where
 len:L.length = 2 ^ n
 mem:∀ x ∈ L,x < 2 ^ k /\ ∀ t:Nat,1 <= t -> t <= k - n -> figI k t x = figI k t e
 all:∀ x:Nat,x < 2 ^ k -> (∀ t:Nat,1 <= t -> t <= k - n -> figI k t x = figI k t e) -> x ∈ L
 row:L.Pairwise (U9 k rows e (k - n))
def LsR (H:Hp) (x:V) (row:List Int):Prop:=∃ r,x = .ref r /\ H r = some (.lst (row.map V.int))
def LsB (H:Hp) (x:V) (rows:List (List Int)):Prop:=∃ l xs,x = .ref l /\ H l = some (.lst xs) /\ AllR (LsR H) xs rows
def LsN (a:Addr) (H:Hp) (x:V) (row:List Int):Prop:=∃ r,x = .ref r /\ r ∉ [a] /\ H r = some (.lst (row.map V.int))
def LsA (a:Addr) (H:Hp) (x:V) (rows:List (List Int)):Prop:=∃ l xs,x = .ref l /\ l ∉ [a] /\ H l = some (.lst xs) /\ AllR (LsN a H) xs rows
theorem LsA.b {a:Addr} {H:Hp} {x:V} {rows:List (List Int)} (h:LsA a H x rows):LsB H x rows:=by
 obtain ⟨l,xs,e,n,z,w⟩:=h
 exact ⟨l,xs,e,z,w.imp fun _ _ ⟨r,e,_,z⟩=>⟨r,e,z⟩⟩
def uF (K:FG7) (H:Hp) (f:Addr) (rows:List (List Int)):Prop:=∃ xs,H f = some (.lst xs) /\ AllR (zE K H) xs rows
theorem uF.grow {K:FG7} {H H':Hp} {f:Addr} {rows:List (List Int)} (h:uF K H f rows) (g:Grow [] H H'):uF K H' f rows:=by
 obtain ⟨xs,e,a⟩:=h
 exact ⟨xs,g.keep _ _ (by simp) e,g.boardsR a⟩
theorem uF.ne {K:FG7} {H:Hp} {f r:Addr} {rows:List (List Int)} (h:uF K H f rows) (e:H r = none):r ≠ f:=by
 obtain ⟨xs,e',_⟩:=h
 intro z; rw [z,e'] at e; cases e
theorem uF.set {K:FG7} {H:Hp} {f:Addr} {rows:List (List Int)} {xs:List V} (e:H f = some (.lst xs)) (a:AllR (zE K H) xs rows):uF K H f rows:=⟨xs,e,a⟩
abbrev cxO (X:Cx) (N':List Str) (scope:Scope) (cl:List (Str × Addr)) (C D:Addr) (fp:List Addr) (s:Shared) (H:Hp):Cx :=
 { X with N:=N',s₀:=s,H₀:=H,env:=compEnvC scope cl C X.env,outer:=X.stack,ex:=D :: fp,fn:=fun x=>scope.names.lookup x == some .cell,xe:=fun _ _=>False }
structure CScC (X:Cx) (scope:Scope) (N':List Str) (sub:List (Option Nat)):Prop where
 free:∀ y ∈ scope.names,y.2 = .free -> X.env.kindOf y.1 = some .cell
 nd:(scope.names.map (·.1)).Nodup
 kind:scope.kind = .function
 names:∀ y ∈ scope.names,y.2 = .local -> scope.names.lookup y.1 = some .local
 len:sub.length = N'.length
 cap:∀ (j:Nat) (y:Str) (i:Nat),N'[j]? = some y -> sub[j]? = some (some i) -> X.N[i]? = some y /\ X.env.scope.names.lookup y = some .cell /\ scope.names.lookup y = some .free
theorem wm {α:Type} {x:Str} {c:α}:∀ {a b:List (Str × α)},(a ++ b).lookup x = some c -> a.lookup x = some c \/ (a.lookup x = none /\ b.lookup x = some c)
 | [],b,h=>.inr ⟨rfl,h⟩
 | (k,v) :: r,b,h=>by
  rw [List.cons_append,List.lookup_cons] at h
  rw [List.lookup_cons]
  cases hb:x == k with
  | true=>rw [hb] at h; exact .inl h
  | false=>rw [hb] at h; exact wm h
theorem ZB {α:Type} {x:Str} {a b:List (Str × α)} (h:∃ c,a.lookup x = some c):∃ c,(a ++ b).lookup x = some c:=by
 induction a with
 | nil=>obtain ⟨c,h⟩:=h; cases h
 | cons p r ih =>
  obtain ⟨k,v⟩:=p
  rw [List.lookup_cons] at h
  rw [List.cons_append,List.lookup_cons]
  cases hb:x == k with
  | true=>exact ⟨v,rfl⟩
  | false=>rw [hb] at h; exact ih h
theorem uG {α:Type} {x:Str} {a b:List (Str × α)} (h:∃ c,b.lookup x = some c):∃ c,(a ++ b).lookup x = some c:=by
 induction a with
 | nil=>exact h
 | cons p r ih =>
  obtain ⟨k,v⟩:=p
  rw [List.cons_append,List.lookup_cons]
  cases hb:x == k with
  | true=>exact ⟨v,rfl⟩
  | false=>exact ih
theorem qT {α:Type} {x:Str} {c:α} {a b:List (Str × α)} (h:a.lookup x = none) (e:b.lookup x = some c):(a ++ b).lookup x = some c:=by
 induction a with
 | nil=>exact e
 | cons p r ih =>
  obtain ⟨k,v⟩:=p
  rw [List.lookup_cons] at h
  rw [List.cons_append,List.lookup_cons]
  cases hb:x == k with
  | true=>rw [hb] at h; cases h
  | false=>rw [hb] at h; exact ih h
theorem uH:∀ (names:List (Str × NameKind)) (n:Nat) (acc more:List (Str × Addr)),cellsFrom n names (acc ++ more) = cellsFrom n names acc ++ more
 | [],_,_,_=>rfl
 | (x,k) :: r,n,acc,more=>by
  unfold cellsFrom
  split
  ·exact uH r (n + 1) ((x,n) :: acc) more
  ·exact uH r n acc more
theorem uI:∀ {names:List (Str × NameKind)} {n:Nat} {acc:List (Str × Addr)} {x:Str} {c:Addr},(x,c) ∈ cellsFrom n names acc -> (x,c) ∈ acc \/ (x,NameKind.cell) ∈ names
 | [],_,_,_,_,h=>.inl h
 | (y,k) :: r,n,acc,x,c,h=>by
  unfold cellsFrom at h
  split at h
  ·rename_i hk
   have hk':k = .cell:=by simpa using hk
   rcases uI h with z | z
   ·rcases List.mem_cons.mp z with e | z
    ·cases e; exact .inr (by rw [hk']; simp)
    ·exact .inl z
   ·exact .inr (List.mem_cons_of_mem _ z)
  ·rcases uI h with z | z
   ·exact .inl z
   ·exact .inr (List.mem_cons_of_mem _ z)
theorem wX {α:Type} {x:Str}:∀ {a:List (Str × α)},x ∈ a.map (·.1) -> ∃ c,a.lookup x = some c
 | (k,v) :: r,h=>by
  rw [List.lookup_cons]
  cases hb:x == k with
  | true=>exact ⟨v,rfl⟩
  | false =>
   rcases List.mem_cons.mp h with e | h
   ·rw [e] at hb; simp at hb
   ·exact wX h
theorem vq:∀ {names:List (Str × NameKind)} {n:Nat} {acc:List (Str × Addr)} {x:Str},x ∈ acc.map (·.1) -> x ∈ (cellsFrom n names acc).map (·.1)
 | [],_,_,_,h=>h
 | (y,k) :: r,n,acc,x,h=>by
  unfold cellsFrom
  split
  ·exact vq (by rw [List.map_cons]; exact List.mem_cons_of_mem _ h)
  ·exact vq h
theorem jX:∀ {names:List (Str × NameKind)} {n:Nat} {acc:List (Str × Addr)} {x:Str},(x,NameKind.cell) ∈ names -> x ∈ (cellsFrom n names acc).map (·.1)
 | (y,k) :: r,n,acc,x,h=>by
  unfold cellsFrom
  rcases List.mem_cons.mp h with e | h
  ·cases e
   rw [if_pos (by decide)]
   exact vq (by rw [List.map_cons]; exact List.mem_cons_self)
  ·split <;> exact jX h
theorem rG {names:List (Str × NameKind)} {n:Nat} {x:Str} (h:(x,NameKind.cell) ∈ names):∃ c,(cellsFrom n names []).lookup x = some c:=wX (jX h)
theorem YE {names:List (Str × NameKind)} {n:Nat} {x:Str} (nd:(names.map (·.1)).Nodup) (h:(x,NameKind.free) ∈ names):(cellsFrom n names []).lookup x = none:=by
 cases e:(cellsFrom n names []).lookup x with
 | none=>rfl
 | some c =>
  rcases uI (PySem.mem_of_lookup e) with z | z
  ·cases z
  ·have key:∀ {l:List (Str × NameKind)},(l.map (·.1)).Nodup -> (x,NameKind.free) ∈ l -> (x,NameKind.cell) ∈ l -> False:=by
    intro l
    induction l with
    | nil=>intro _ h; cases h
    | cons p r ih =>
     intro nd h1 h2
     rw [List.map_cons,List.nodup_cons] at nd
     rcases List.mem_cons.mp h1 with e1 | h1 <;> rcases List.mem_cons.mp h2 with e2 | h2
     ·rw [← e1] at e2; cases e2
     ·exact nd.1 (by rw [← e1]; exact List.mem_map.mpr ⟨_,h2,rfl⟩)
     ·exact nd.1 (by rw [← e2]; exact List.mem_map.mpr ⟨_,h1,rfl⟩)
     ·exact ih nd.2 h1 h2
   exact (key nd h z).elim
section
variable {X:Cx} {pins:List (Addr × Obj)} {σ:L2.St} {H2:Hp} {s₂:Shared} {it:Addr} {fp:List Addr} {tn:Nat -> Heap -> Prop} {J:It} {scope:Scope} {cl:List (Str × Addr)} {N':List Str} {sub:List (Option Nat)}
theorem qU {h₁:Heap} {tk:Nat} (I:Inv X pins σ H2 s₂) (S:CScC X scope N' sub) (hcl1:∀ x c,cl.lookup x = some c -> X.env.cells.lookup x = some c) (hcl2:∀ y ∈ scope.names,y.2 = .free -> ∃ c,cl.lookup y.1 = some c)
    (hcc:CellsOk h₁ (s₂.heap.objs.size + 2) (cellsFrom (s₂.heap.objs.size + 2) scope.names []))
    (f2:∀ b ∈ fp,FpOk X pins H2 b) (hfp:∀ b ∈ fp,b < s₂.heap.objs.size) {m:Str -> Option Value} {ob:Obj}
    (hns:h₁.Ns (s₂.heap.objs.size + 1) m) (hk:∀ b o,(s₂.heap.push ob).get? b = some o -> h₁.get? b = some o) :
    Inv (cxO X N' scope (cellsFrom (s₂.heap.objs.size + 2) scope.names [] ++ cl) (s₂.heap.objs.size + 1) s₂.heap.objs.size fp { s₂ with heap:=s₂.heap.push ob } H2) pins (capt sub σ) H2 { s₂ with heap:=h₁,toks:=tk }:=by
  have old:∀ b o,s₂.heap.get? b = some o -> (s₂.heap.push ob).get? b = some o:=fun b o e=>Heap.get?_push_of_some _ e
  have old2:∀ b o,s₂.heap.get? b = some o -> h₁.get? b = some o:=fun b o e=>hk b o (old b o e)
  have sz:(s₂.heap.push ob).objs.size = s₂.heap.objs.size + 1:=Heap.size_push ..
  have lk:∀ x c,(cellsFrom (s₂.heap.objs.size + 2) scope.names [] ++ cl).lookup x = some c -> ((x,c) ∈ cellsFrom (s₂.heap.objs.size + 2) scope.names [] /\ h₁.IsCell c none /\ s₂.heap.objs.size + 2 <= c) \/ X.env.cells.lookup x = some c:=fun x c e=>by
    rcases wm e with e | ⟨_,e⟩
    · exact .inl ⟨PySem.mem_of_lookup e,hcc.empty x c (PySem.mem_of_lookup e)⟩
    · exact .inr (hcl1 x c e)
  have cells:∀ x c,X.env.cells.lookup x = some c -> c < s₂.heap.objs.size:=fun x c e=>let ⟨v,q⟩:=I.cell x c e; q.lt
  have has:∀ x,((relabel scope X.env).names.lookup x = some .cell \/ (relabel scope X.env).names.lookup x = some .free) -> ∃ c,(cellsFrom (s₂.heap.objs.size + 2) scope.names [] ++ cl).lookup x = some c:=fun x hx=>by
    rcases hx with hx | hx
    · obtain ⟨k',e,z⟩:=yF hx
      rcases z with z | ⟨_,z⟩
      · subst z; exact ZB (rG (PySem.mem_of_lookup e))
      · subst z; exact uG (hcl2 _ (PySem.mem_of_lookup e) rfl)
    · obtain ⟨k',e,z⟩:=yF hx
      rcases z with z | ⟨z,_⟩
      · subst z; exact uG (hcl2 _ (PySem.mem_of_lookup e) rfl)
      · cases z
  have frsz:∀ b ∈ frs X.stack,b < s₂.heap.objs.size:=fun b hb=>by
    rcases List.mem_cons.mp (I.stkSub b hb) with z | z
    · rw [z]; exact I.lt
    · exact Nat.lt_of_not_le fun q=>I.nofs q z
  refine
    { ok :=
      { mod:=I.ok.mod,kind:=S.kind,glob:=I.ok.glob,blt:=I.ok.blt
        above:=by show (s₂.heap.push ob).objs.size <= s₂.heap.objs.size + 1; rw [sz]; exact Nat.le_refl _
        inj:=fun x y c h1 h2=>?inj
        has:=has
        cab:=fun x c z e=>?cab
        hd:=I.ok.hd,frames:=I.ok.frames,stk:=.inl rfl
        exf:=fun b hb=>?exf
        bs:=fun b o e=>⟨old b o (I.bk b o e),(I.bs b o e).2⟩
        bsz:=by show X.base.objs.size <= (s₂.heap.push ob).objs.size; rw [sz]; exact Nat.le_succ_of_le (Nat.le_trans I.ok.bsz I.sz)
        noex:=fun b o e hb=>?noex
        exfs:=fun b hb=>?exfs
        funs:=?funs
        frf:=I.stkFree }
      os:=rfl,bare:=I.bare,base:=Un.kept fun b u e=>hk b u e
      loc:=⟨m,hns,?loc⟩
      cell:=fun x c e=>?cell
      free:=I.hok.fresh (Nat.le_succ _)
      freeC:=fun x c e=>?freeC
      pin:=fun p hp=>?pin
      hok:=I.hok.kept old2
      len:=?len }
  case exf =>
    rcases List.mem_cons.mp hb with rfl | hb
    · exact ⟨Nat.ne_of_lt (Nat.lt_succ_self _),fun x c e=>(lk x c e).elim (fun z=>Nat.ne_of_gt (Nat.lt_of_lt_of_le (Nat.lt_succ_of_lt (Nat.lt_succ_self _)) z.2.2)) (fun z=>Nat.ne_of_lt (cells x c z))⟩
    · exact ⟨Nat.ne_of_lt (Nat.lt_succ_of_lt (hfp b hb)),fun x c e=>(lk x c e).elim (fun z=>Nat.ne_of_gt (Nat.lt_of_lt_of_le (hfp b hb) (Nat.le_trans (Nat.le_add_right _ 2) z.2.2))) (fun z=>(f2 b hb).2.2.2.2.1 x c z)⟩
  case noex =>
    have hl:b < X.s₀.heap.objs.size:=Nat.lt_of_lt_of_le (Heap.lt_size e) I.ok.bsz
    rcases List.mem_cons.mp hb with rfl | hb
    · exact absurd (Nat.lt_of_lt_of_le hl I.sz) (Nat.lt_irrefl _)
    · rcases (f2 b hb).2.2.2.1 with z | z
      · exact I.ok.noex b o e z
      · exact absurd (Nat.lt_of_lt_of_le hl z) (Nat.lt_irrefl _)
  case exfs =>
    intro hs
    rcases List.mem_cons.mp hb with rfl | hb
    · exact absurd (frsz _ hs) (Nat.lt_irrefl _)
    · rcases List.mem_cons.mp (I.stkSub b hs) with z | z
      · exact (f2 b hb).2.1 z
      · exact (f2 b hb).2.2.1 z
  case funs=>exact Heap.FunFrames.of_keeps (fun b o e _=>⟨o,old b o e,rfl⟩) I.stack
  case loc =>
    intro j y v hj hv hvis
    obtain ⟨mX,_,lX⟩:=I.loc
    unfold capt at hv
    rw [List.getElem?_map] at hv
    cases hs:sub[j]? with
    | none=>rw [hs] at hv; cases hv
    | some o =>
      rw [hs] at hv
      cases o with
      | none=>cases hv
      | some i =>
        obtain ⟨hN,hc,hf⟩:=S.cap j y i hj hs
        have hv':σ[i]? = some (some v):=by
          have z:(match σ[i]? with | some v=>v | none=>none) = some v:=Option.some.inj hv
          cases q:σ[i]? with
          | none=>rw [q] at z; cases z
          | some w=>rw [q] at z; rw [show w = some v from z]
        obtain ⟨u,ru,hl⟩:=lX i y v hN hv' (.inr (.inl hc))
        refine ⟨u,ru,?_⟩
        have kc:(relabel scope X.env).names.lookup y = some .cell:=yW I.ok.kind hc hf
        rcases hl with ⟨z,_⟩ | ⟨_,c,e,ic⟩
        · have z':X.env.scope.names.lookup y = some .local :=z
          rw [hc] at z'; cases z'
        · obtain ⟨c',e'⟩:=hcl2 _ (PySem.mem_of_lookup hf) rfl
          have:=hcl1 _ _ e'
          rw [e] at this; cases this
          have e3:(cellsFrom (s₂.heap.objs.size + 2) scope.names [] ++ cl).lookup y = some c:=qT (YE S.nd (PySem.mem_of_lookup hf)) e'
          refine .inr ⟨.inl kc,c,e3,?_⟩
          obtain ⟨oc,h1,h2⟩:=ic
          exact ⟨oc,old2 _ _ h1,h2⟩
  case cell =>
    rcases lk x c e with ⟨_,z,_⟩ | z
    · exact ⟨none,z⟩
    · obtain ⟨v,oc,h1,h2⟩:=I.cell x c z
      exact ⟨v,oc,old2 _ _ h1,h2⟩
  case inj =>
    rcases lk x c h1 with ⟨m1,_,z1⟩ | z1 <;> rcases lk y c h2 with ⟨m2,_,z2⟩ | z2
    · exact name_of_addr hcc.apart m1 m2
    · exact absurd (Nat.lt_of_lt_of_le (cells y c z2) (Nat.le_trans (Nat.le_add_right _ 2) z1)) (Nat.lt_irrefl _)
    · exact absurd (Nat.lt_of_lt_of_le (cells x c z1) (Nat.le_trans (Nat.le_add_right _ 2) z2)) (Nat.lt_irrefl _)
    · exact I.ok.inj x y c z1 z2
  case cab =>
    show (s₂.heap.push ob).objs.size <= c
    rw [sz]
    have hz:scope.names.lookup x = some .cell:=by simpa using z
    rcases wm e with e | ⟨e,_⟩
    · have:=(hcc.empty x c (PySem.mem_of_lookup e)).2; omega
    · obtain ⟨c',e'⟩:=rG (n:=s₂.heap.objs.size + 2) (PySem.mem_of_lookup hz)
      rw [e'] at e; cases e
  case freeC =>
    rcases lk x c e with ⟨_,_,z⟩ | z
    · exact I.hok.fresh (by omega)
    · exact I.freeC x c z
  case pin =>
    obtain ⟨p1,p2,p3,p4,p5⟩:=I.pin p hp
    refine ⟨old2 _ _ p1,p2,Nat.ne_of_lt (Nat.lt_succ_of_lt (Heap.lt_size p1)),fun hs=>?_,p5⟩
    rcases List.mem_cons.mp (I.stkSub _ hs) with z | z
    · exact p3 z
    · exact p4 z
  case len =>
    show (capt sub σ).length = N'.length
    unfold capt
    rw [List.length_map]; exact S.len
theorem YF {C D:Addr} {s₀:Shared} {s':Shared} {σ':L2.St} {H':Hp} {ys:List V} {us:List Value} {k:Nat} {oC:Obj} (I:Inv X pins σ H2 s₂)
    (hs₀:∀ b o,s₂.heap.get? b = some o -> s₀.heap.get? b = some o) (hos:s₀.os = s₂.os) (hD:s₂.heap.objs.size <= D) (hC:s₂.heap.objs.size <= C) (hDC:D ≠ C) (f2:∀ b ∈ fp,FpOk X pins H2 b)
    (I':Inv (cxO X N' scope cl C D fp s₀ H2) pins σ' H' s') (hn:H' D = none) (hy:s'.heap.get? D = some { cls:=.type "list",data:=.seq us.toArray k }) (rv:Vals ys us) (hz:ys.length <= sizeLine)
    (ho:s'.heap.get? C = some oC) (hd:∀ v,oC.data ≠ .cell v):Inv X (pins ++ [(C,oC)]) σ (upd H' D (.lst ys)) s' /\ FpOk X pins (upd H' D (.lst ys)) C:=by
  have neD:∀ b o,s₂.heap.get? b = some o -> b ≠ D:=fun b o e=>Nat.ne_of_lt (Nat.lt_of_lt_of_le (Heap.lt_size e) hD)
  have nm:∀ b o,s₂.heap.get? b = some o -> b ∉ fp -> b ∉ D :: fp:=fun b o e h z=>(List.mem_cons.mp z).elim (neD b o e) h
  have U:=I'.base
  have HC:upd H' D (.lst ys) C = none:=by rw [zy (Ne.symm hDC)]; exact I'.free
  have fpc:FpOk X pins (upd H' D (.lst ys)) C:=I.fpOk hC HC
  have un:Un (frs X.stack) fp H2 (upd H' D (.lst ys)) s₂.heap s'.heap :=
    { keep:=fun b o e n h1 h2=>U.keep b o (hs₀ b o e) n h1 (nm b o e h2)
      slot:=fun b o e n h1 h2=>U.slot b o (hs₀ b o e) n h1 (nm b o e h2)
      free:=fun b o e n h2=>by rw [zy (neD b o e)]; exact U.free b o (hs₀ b o e) n (nm b o e h2)
      there:=fun b o e h2=>U.there b o (hs₀ b o e) (nm b o e h2)
      tups:=fun b xs e=>by have z:=U.tups b xs e; rw [zy (zx z hn)]; exact z
      frzs:=fun b o u e=>by have z:=U.frzs b o u e; rw [zy (zx z hn)]; exact z
      tbls:=fun b ps e=>by obtain ⟨more,z⟩:=U.tbls b ps e; exact ⟨more,by rw [zy (zx z hn)]; exact z⟩ }
  have hok:HOk X.prog X.w (upd H' D (.lst ys)) s'.heap:=HOk.track I'.hok hn ⟨hz,us,k,rv,hy⟩
  have IX:Inv X pins σ (upd H' D (.lst ys)) s':=I.call' (I'.os.trans hos) un hok I'.bare fun b hb=>⟨(f2 b hb).2.2.2.1,(f2 b hb).2.1,(f2 b hb).2.2.2.2.1,(f2 b hb).2.2.2.2.2⟩
  refine ⟨IX.pins_of fun p hp=>?_,fpc⟩
  rcases List.mem_append.mp hp with hp | hp
  · exact IX.pin p (List.mem_append_right _ hp)
  · rw [List.mem_singleton.mp hp]
    exact ⟨ho,HC,fpc.2.1,fpc.2.2.1,hd⟩
theorem YG {C D:Addr} {s₀:Shared} {tg:Expr} {pos:Pos} {elt iter:Expr} {ifs:List Expr} {g:TG} {tt:TT} {te:TE} {Q:VK} {RR:Value -> Addr -> Result -> Shared -> Prop} {W:Nat -> Nat -> List V -> L2.St -> Hp -> Prop}
  (I:Inv X pins σ H2 s₂) (hcalm:X.calm = true) (T:Turn X.prog X.w X.K tg J fp it tn) (f2:∀ b ∈ fp,FpOk X pins H2 b) (hfp:∀ b ∈ fp,b < s₂.heap.objs.size)
  (hs₀:∀ b o,s₂.heap.get? b = some o -> s₀.heap.get? b = some o) (hos:s₀.os = s₂.os) (hD:s₂.heap.objs.size <= D) (hC:s₂.heap.objs.size <= C) (hDC:D ≠ C)
  (hcl1:∀ x c,cl.lookup x = some c -> X.env.cells.lookup x = some c \/ (s₂.heap.objs.size <= c /\ D ≠ c))
  (hg:PG (cxO X N' scope cl C D fp s₀ H2) tg g) (ht:PIfs (cxO X N' scope cl C D fp s₀ H2) ifs tt) (he:PE (cxO X N' scope cl C D fp s₀ H2) elt te)
  (turn:∀ i m ys σ' H',W i m ys σ' H' →
   (J.stop i H' /\ ∀ l,H' l = none -> Q (.ref l) (upd H' l (.lst ys))) ∨
   (J.go i H' /\ ∃ Nn:List V -> L2.St -> Hp -> Prop,(∀ zs σ2 H2,Nn zs σ2 H2 -> ∃ m',m' < m /\ W (i + 1) m' zs σ2 H2) ∧
    ∀ x H2,J.yld i H' x H2 -> g x σ' H2 fun σ2 H3=>tt σ2 H3 fun b H4=>if b = true then te σ2 H4 fun y H5=>ys.length < sizeLine /\ Nn (ys ++ [y]) σ2 H5 else Nn ys σ2 H4))
  (hRR:∀ (D C:Addr) (oC:Obj) (m:Str -> Option Value) (s':Shared) (Hf:Hp),Inv X (pins ++ [(C,oC)]) σ Hf s' -> s'.heap.Ns C m -> FpOk X pins Hf C -> Q (.ref D) Hf -> RR (.ref D) C (.ok .next) s')
  (n:Nat) (s:Shared) (h:∃ i ys us k σ' H',Inv (cxO X N' scope cl C D fp s₀ H2) pins σ' H' s /\ tn i s.heap /\ (∀ b ∈ fp,H' b = none) /\ H' D = none ∧
   s.heap.get? D = some { cls:=.type "list",data:=.seq (us:List Value).toArray k } /\ Vals ys us /\ ys.length <= sizeLine /\ W i n ys σ' H') :
  codeAny (model X.prog X.w) X.A (.compLoop (.ListComp elt [⟨tg,iter,ifs,0⟩] scope pos) 0 (.ref it) (.ref D) (compEnvC scope cl C X.env)) (RR (.ref D) C) s:=by
 have frsz:∀ b ∈ frs X.stack,b < s₂.heap.objs.size:=fun b hb=>by
  rcases List.mem_cons.mp (I.stkSub b hb) with z | z
  ·rw [z]; exact I.lt
  ·exact Nat.lt_of_not_le fun q=>I.nofs q z
 have cells:∀ x c,cl.lookup x = some c -> D ≠ c:=fun x c e=>by
  rcases hcl1 x c e with z | z
  ·obtain ⟨v,q⟩:=I.cell x c z
   exact Nat.ne_of_gt (Nat.lt_of_lt_of_le q.lt hD)
  ·exact z.2
 have pinsz:∀ p ∈ X.pn ++ pins,p.1 < s₂.heap.objs.size:=fun p hp=>Heap.lt_size (I.pin p hp).1
 refine rh (fun n s=>∃ i ys us k σ' H',Inv (cxO X N' scope cl C D fp s₀ H2) pins σ' H' s /\ tn i s.heap /\ (∀ b ∈ fp,H' b = none) /\ H' D = none ∧
   s.heap.get? D = some { cls:=.type "list",data:=.seq (us:List Value).toArray k } /\ Vals ys us /\ ys.length <= sizeLine /\ W i n ys σ' H') ?_ n h
 rintro n s ⟨i,ys,us,k,σ',H',I',st',fr,hn,hy,rv,hz,w'⟩
 have pD:Inv (cxO X N' scope cl C D fp s₀ H2) (pins ++ [(D,{ cls:=.type "list",data:=.seq us.toArray k })]) σ' H' s:=I'.pins_of fun p hp=>by
  rcases List.mem_append.mp hp with hp | hp
  ·exact I'.pin p (List.mem_append_right _ hp)
  ·rw [List.mem_singleton.mp hp]
   exact ⟨hy,hn,hDC,fun z=>absurd (Nat.lt_of_lt_of_le (frsz _ z) hD) (Nat.lt_irrefl _),fun v z=>by cases z⟩
 have fpok:∀ {H'':Hp},(∀ b ∈ fp,H'' b = none) -> ∀ b ∈ fp,FpOk (cxO X N' scope cl C D fp s₀ H2) (pins ++ [(D,{ cls:=.type "list",data:=.seq us.toArray k })]) H'' b:=fun hz b hb=>by
  refine ⟨hz b hb,Nat.ne_of_lt (Nat.lt_of_lt_of_le (hfp b hb) hC),fun z=>?_,.inl (List.mem_cons_of_mem _ hb),fun x c e=>(hcl1 x c e).elim (fun z=>(f2 b hb).2.2.2.2.1 x c z) (fun z q=>absurd (Nat.lt_of_lt_of_le (q ▸ hfp b hb) z.1) (Nat.lt_irrefl _)),fun p hp=>?_⟩
  ·rcases List.mem_cons.mp (I.stkSub b z) with z | z
   ·exact (f2 b hb).2.1 z
   ·exact (f2 b hb).2.2.1 z
  ·rcases List.mem_append.mp hp with hp | hp
   ·exact (f2 b hb).2.2.2.2.2 p (List.mem_append_left _ hp)
   ·rcases List.mem_append.mp hp with hp | hp
    ·exact (f2 b hb).2.2.2.2.2 p (List.mem_append_right _ hp)
    ·rw [List.mem_singleton.mp hp]
     exact Nat.ne_of_gt (Nat.lt_of_lt_of_le (hfp b hb) hD)
 rcases turn i n ys σ' H' w' with ⟨stop,q⟩ | ⟨go,Nn,hN,step⟩
 ·refine thn (T.done (cxO X N' scope cl C D fp s₀ H2) rfl rfl rfl hcalm i _ s σ' H' (fun _ _=>False) pD (fpok fr) st' stop) fun r s1 ⟨hr,I1⟩=>?_
  subst hr
  have hy1:=(I1.pin (D,{ cls:=.type "list",data:=.seq us.toArray k }) (by simp)).1
  obtain ⟨m,hm,_⟩:=I1.loc
  obtain ⟨oC,es,ep,hoC,hdC,_⟩:=id hm
  obtain ⟨IX,fpc⟩:=YF I hs₀ hos hD hC hDC f2 I1.unpinned hn hy1 rv hz hoC (by intro v z; rw [hdC] at z; cases z)
  exact hRR D C oC m s1 _ IX hm fpc (q D hn)
 ·refine thn (T.item (cxO X N' scope cl C D fp s₀ H2) rfl rfl rfl hcalm i _ s σ' H' (fun _ _=>False) pD (fpok fr) st' go) fun r s1 ⟨u,hr,h4⟩=>?_
  subst hr
  refine thn h4 fun _ s2 ⟨x5,H5,I5,r5,y5,st5,fr5⟩=>?_
  have I5':=I5.pinned (fpok fr5) (T.obj _ _ st5)
  refine thn (hg _ s2 σ' H5 x5 u _ I5' r5 (step x5 H5 y5)) fun _ s3 ⟨σ6,H6,I6,q6⟩=>?_
  refine thn (ht _ s3 σ6 H6 _ I6 q6) fun ok s4 ⟨H7,I7,q7⟩=>?_
  have stay:∀ {σ7:L2.St} {H7:Hp} {s7:Shared},Inv (cxO X N' scope cl C D fp s₀ H2) (pins ++ [(D,{ cls:=.type "list",data:=.seq us.toArray k })] ++ ur fp s2.heap) σ7 H7 s7 →
    (∀ b ∈ fp,∀ o,s2.heap.get? b = some o -> s7.heap.get? b = some o) /\ (∀ b ∈ fp,H7 b = none) /\ H7 D = none /\ s7.heap.get? D = some { cls:=.type "list",data:=.seq us.toArray k }:=fun {σ7 H7 s7} I7=>by
   have d:=I7.pin (D,{ cls:=.type "list",data:=.seq us.toArray k }) (by simp)
   refine ⟨fun b hb o e=>(I7.pin (b,o) (List.mem_append_right _ (List.mem_append_right _ (yt hb e)))).1,fun b hb=>?_,d.2.1,d.1⟩
   obtain ⟨o,e,_⟩:=T.obj _ _ st5 b hb
   exact (I7.pin (b,o) (List.mem_append_right _ (List.mem_append_right _ (yt hb e)))).2.1
  cases ok with
  | false =>
   rw [if_neg (by decide)] at q7 ⊢
   obtain ⟨k1,k2,k3,k4⟩:=stay I7
   obtain ⟨m',hm,w7⟩:=hN ys σ6 H7 q7
   exact ⟨m',hm,i + 1,ys,us,k,σ6,H7,I7.unpinned.unpinned,T.keep _ _ _ st5 k1,k2,k3,k4,rv,hz,w7⟩
  | true =>
   rw [if_pos rfl] at q7 ⊢
   refine thn (he _ s4 σ6 H7 _ I7 q7) fun v s5 ⟨y,H8,I8,r8,hl8,n8⟩=>?_
   obtain ⟨k1,k2,k3,k4⟩:=stay I8
   refine wpAny_list_append_plain (l:=D) ⟨k,k4⟩ (fun h' pl sb=>?_) (by rw [List.size_toArray,← rv.length]; exact hz)
   obtain ⟨k',e'⟩:=pl
   obtain ⟨m',hm,w8⟩:=hN _ σ6 H8 n8
   refine ⟨m',hm,i + 1,ys ++ [y],us ++ [v],k',σ6,H8,?_,T.keep _ _ _ (T.keep _ _ _ st5 k1) fun b hb o e=>sb.extBut b o (Nat.ne_of_lt (Nat.lt_of_lt_of_le (hfp b hb) hD)) e,k2,k3,?_,rv.append (.cons r8 .nil),?_,w8⟩
   ·exact (I8.unpinned.unpinned).turned (it:=D) (t':=s5.toks) (h':=h') (fun b o hb e=>sb.extBut b o hb e) k3 hDC (.inl (by simp)) (fun x c e=>(cells x c e).symm) (fun p hp=>Nat.ne_of_lt (Nat.lt_of_lt_of_le (pinsz p hp) hD))
   ·rw [e']; simp
   ·rw [List.length_append]; exact hl8
theorem YH {M:Model} {A:Around} {E:VS7} {s:Shared} {scope:Scope} {globals:Addr} {closure:List (Str × Addr)} {qual:Str} {around:Env} {Q:Env -> Shared -> Prop} (hk:scope.kind = .function)
  (hQ:∀ h',h'.Ns s.heap.objs.size (fun _=>none) -> (∀ b o,s.heap.get? b = some o -> h'.get? b = some o) -> CellsOk h' (s.heap.objs.size + 1) (cellsFrom (s.heap.objs.size + 1) scope.names []) →
   Q (newEnv scope s.heap.objs.size globals (cellsFrom (s.heap.objs.size + 1) scope.names [] ++ closure) qual none .none (some around) builtinsNs) { s with heap:=h' }) :
  wpAny M A (newFunctionEnv scope globals closure [] qual none .none (some around)) Q E s:=by
 simp only [newFunctionEnv,Option.isSome_some,if_true]
 refine wpAny_bind (wpAny_alloc (wpAny_bind (wpAny_layCells _ (fun nm kd cs=>by cases h:kd == NameKind.cell <;> simp [h]) scope.names closure _ _ ?_)))
 have own:=cellsFrom_ok scope.names (s.heap.push ⟨.type "dict",none,.dict #[],#[]⟩) (s.heap.objs.size + 1) [] ⟨fun _ _ z=>(nomatch z),.nil⟩ (Nat.le_of_eq (Heap.size_push ..).symm)
 have sz:(s.heap.push ⟨.type "dict",none,.dict #[],#[]⟩).objs.size = s.heap.objs.size + 1:=Heap.size_push ..
 rw [sz] at own
 have ea:=uH scope.names (s.heap.objs.size + 1) [] closure
 rw [List.nil_append] at ea
 show wpAny _ _ _ _ _ { s with heap:=pushCells (s.heap.push ⟨.type "dict",none,.dict #[],#[]⟩) scope.names }
 dsimp only
 rw [sz,ea]
 exact wpAny_bind (wpAny_pure (wpAny_pure (hQ _ ((Heap.Ns.new s.heap (.type "dict")).keeps (pushCells_keeps _ _)) (fun b o e=>pushCells_keeps _ _ b o (Heap.get?_push_of_some _ e)) own)))
theorem qV {tg:Expr} {pos:Pos} {elt iter:Expr} {ifs:List Expr} {g:TG} {tt:TT} {te:TE} {E:VS7} {Q:VK} {RR:Value -> Addr -> Result -> Shared -> Prop}
  (I:Inv X pins σ H2 s₂) (hcalm:X.calm = true) (T:Turn X.prog X.w X.K tg J fp it tn) (st:tn 0 s₂.heap) (f2:∀ b ∈ fp,FpOk X pins H2 b)
  (S:CScC X scope N' sub) (hcl1:∀ x c,cl.lookup x = some c -> X.env.cells.lookup x = some c) (hcl2:∀ y ∈ scope.names,y.2 = .free -> ∃ c,cl.lookup y.1 = some c)
  (hg:∀ cl C D fp s H,PG (cxO X N' scope cl C D fp s H) tg g) (ht:∀ cl C D fp s H,PIfs (cxO X N' scope cl C D fp s H) ifs tt) (he:∀ cl C D fp s H,PE (cxO X N' scope cl C D fp s H) elt te)
  (hW:vX J (capt sub σ) H2 g tt te Q)
  (hRR:∀ (D C:Addr) (oC:Obj) (m:Str -> Option Value) (s':Shared) (Hf:Hp),Inv X (pins ++ [(C,oC)]) σ Hf s' -> s'.heap.Ns C m -> FpOk X pins Hf C -> Q (.ref D) Hf -> RR (.ref D) C (.ok .next) s') :
  wpAny (model X.prog X.w) X.A (newList []) (fun acc s₃=>wpAny (model X.prog X.w) X.A (newFunctionEnv scope X.env.globals cl [] X.env.qual none .none (some X.env)) (fun cenv s₄ =>
   codeAny (model X.prog X.w) X.A (.compStart (.ListComp elt [⟨tg,iter,ifs,0⟩] scope pos) 0 (.ref it) acc { cenv with scope:=relabel scope X.env }) (RR acc cenv.locals) s₄) E s₃) E s₂:=by
 obtain ⟨W,⟨m0,w0⟩,turn⟩:=hW
 refine wpAny_newObj_type (YH S.kind fun h₁ hns₁ hk0 hcc=>?_)
 dsimp only at hns₁ hk0 hcc ⊢
 have hC:(s₂.heap.push { cls:=.type "list",dict:=none,data:=.seq ([]:List Value).toArray }).objs.size = s₂.heap.objs.size + 1:=Heap.size_push ..
 rw [hC] at hns₁ hcc ⊢
 have hk:∀ b o,(s₂.heap.push { cls:=.type "list",dict:=none,data:=.seq ([]:List Value).toArray }).get? b = some o -> h₁.get? b = some o:=hk0
 have hfp:∀ b ∈ fp,b < s₂.heap.objs.size:=fun b hb=>by
  obtain ⟨o,e,_⟩:=T.obj _ _ st b hb
  exact Heap.lt_size e
 have I0:=qU (tk:=s₂.toks) I S hcl1 hcl2 hcc f2 hfp hns₁ hk
 have hD0:h₁.get? s₂.heap.objs.size = some { cls:=.type "list",data:=.seq ([]:List Value).toArray 0 }:=hk _ _ (Heap.get?_push_size _ rfl)
 have hcl3:∀ x c,(cellsFrom (s₂.heap.objs.size + 2) scope.names [] ++ cl).lookup x = some c -> X.env.cells.lookup x = some c \/ (s₂.heap.objs.size <= c /\ s₂.heap.objs.size ≠ c):=fun x c e=>by
  rcases wm e with e | ⟨_,e⟩
  ·have z:=(hcc.empty x c (PySem.mem_of_lookup e)).2
   exact .inr ⟨Nat.le_trans (Nat.le_add_right _ 2) z,Nat.ne_of_lt (Nat.lt_of_lt_of_le (Nat.lt_succ_of_lt (Nat.lt_succ_self _)) z)⟩
  ·exact .inl (hcl1 x c e)
 have loop:codeAny (model X.prog X.w) X.A (.compLoop (.ListComp elt [⟨tg,iter,ifs,0⟩] scope pos) 0 (.ref it) (.ref s₂.heap.objs.size) (compEnvC scope (cellsFrom (s₂.heap.objs.size + 2) scope.names [] ++ cl) (s₂.heap.objs.size + 1) X.env)) (RR (.ref s₂.heap.objs.size) (s₂.heap.objs.size + 1)) { s₂ with heap:=h₁,toks:=s₂.toks } :=
  YG (s₀:={ s₂ with heap:=s₂.heap.push { cls:=.type "list",dict:=none,data:=.seq ([]:List Value).toArray } }) (C:=s₂.heap.objs.size + 1) (D:=s₂.heap.objs.size) I hcalm T f2 hfp (fun b o e=>Heap.get?_push_of_some _ e) rfl (Nat.le_refl _) (Nat.le_succ _) (Nat.ne_of_lt (Nat.lt_succ_self _)) hcl3 (hg _ _ _ _ _ _) (ht _ _ _ _ _ _) (he _ _ _ _ _ _) turn hRR m0 _
   ⟨0,[],[],0,capt sub σ,H2,I0,T.keep _ _ _ st fun b hb o e=>hk b o (Heap.get?_push_of_some _ e),fun b hb=>(f2 b hb).1,I.hok.fresh (Nat.le_refl _),hD0,.nil,Nat.zero_le _,w0⟩
 exact codeAny_compStart_list loop (T.self _ _ _ _ _ (T.keep _ _ _ st fun b hb o e=>hk b o (Heap.get?_push_of_some _ e)) loop)
end
section
variable {X:Cx} {scope:Scope} {N':List Str} {sub:List (Option Nat)} {tg:Expr} {pos:Pos} {elt iter:Expr} {ifs:List Expr} {wi:TI} {g:TG} {tt:TT} {te:TE}
theorem CScC.clos {pins:List (Addr × Obj)} {σ:L2.St} {H:Hp} {s:Shared} (S:CScC X scope N' sub) (I:Inv X pins σ H s):∃ cl,closureFor scope X.env = pure cl /\ (∀ x c,cl.lookup x = some c -> X.env.cells.lookup x = some c) /\ ∀ y ∈ scope.names,y.2 = .free -> ∃ c,cl.lookup y.1 = some c :=
 tN fun y hy hf=>I.ok.has y.1 (.inl (S.free y hy hf))
theorem XQ (S:CScC X scope N' sub) (hcalm:X.calm = true) (hi:PI X tg iter wi)
  (hg:∀ cl C D fp s H,PG (cxO X N' scope cl C D fp s H) tg g) (ht:∀ cl C D fp s H,PIfs (cxO X N' scope cl C D fp s H) ifs tt) (he:∀ cl C D fp s H,PE (cxO X N' scope cl C D fp s H) elt te)
  (hs:∀ x,foldedSetIterable iter X.env x = pure x:=by intro _; rfl):PE X (.ListComp elt [⟨tg,iter,ifs,0⟩] scope pos) (W7 wi sub g tt te):=by
 intro pins s σ H Q I h
 obtain ⟨cl,hclos,hcl1,hcl2⟩:=S.clos I
 rw [eval_ListComp]
 refine wpAny_comprehension_free (use:=none) rfl hs hclos S.kind S.names (thn (hi pins s σ H _ I h) fun v s1 h1=>thn h1 fun itv s2 h2=>?_)
 obtain ⟨it,fp,tn,J,H2,e,I2,T,st2,f2,hW⟩:=h2
 subst e
 refine qV (RR:=fun acc C=>compPost (model X.prog X.w) X.A X.xe none (EP X pins σ Q) acc C) I2 hcalm T st2 f2 S hcl1 hcl2 hg ht he hW ?_
 intro D C oC m s' Hf IX hm fpc q
 refine ⟨m,hm,fun h' sb=>⟨.ref D,Hf,?_,rfl,q⟩⟩
 exact (IX.unpinned).turned (it:=C) (t':=s'.toks) (h':=h') (fun b o hb e=>sb.extBut b o hb e) fpc.1 fpc.2.1 fpc.2.2.2.1 fpc.2.2.2.2.1 fpc.2.2.2.2.2
end
theorem CScC.of {X:Cx} {scope:Scope} {N':List Str} {sub:List (Option Nat)} (sc:Scope) (NN:List Str) (e:X.env.scope = sc) (en:X.N = NN)
  (h:((scope.names.all fun y=>(y.2 != .free || sc.names.lookup y.1 == some .cell) && (y.2 != .local || scope.names.lookup y.1 == some .local)) && (sub.length == N'.length) &&
   ((N'.zip sub).all fun p=>match p.2 with | none=>true | some i=>NN[i]? == some p.1 && sc.names.lookup p.1 == some .cell && scope.names.lookup p.1 == some .free)) = true)
  (nd:(scope.names.map (·.1)).Nodup) (hk:scope.kind = .function):CScC X scope N' sub:=by
 rw [Bool.and_eq_true,Bool.and_eq_true] at h
 obtain ⟨⟨h1,h2⟩,h3⟩:=h
 have k1:=fun y hy=>List.all_eq_true.mp h1 y hy
 refine ⟨fun y hy hf=>?_,nd,hk,fun y hy hl=>?_,by simpa using h2,fun j y i hj hs=>?_⟩
 ·have:=k1 y hy
  simp only [hf,Bool.and_eq_true] at this
  have z:=this.1
  show X.env.scope.names.lookup y.1 = _
  rw [e]; simpa using z
 ·have:=k1 y hy
  simp only [hl,Bool.and_eq_true] at this
  simpa using this.2
 ·have hm:(y,some i) ∈ N'.zip sub:=by
   have:(N'.zip sub)[j]? = some (y,some i):=by
    rw [List.getElem?_zip_eq_some]; exact ⟨hj,hs⟩
   exact List.mem_of_getElem? this
  have:=List.all_eq_true.mp h3 _ hm
  simp only [Bool.and_eq_true,beq_iff_eq] at this
  rw [e,en]
  exact ⟨this.1.1,this.1.2,this.2⟩
theorem qW {scope:Scope} {env:Env} {y:Str} (h:scope.names.lookup y = some .cell):(relabel scope env).names.lookup y = some .cell:=by
 have key:∀ l:List (Str × NameKind),l.lookup y = some .cell -> (l.map fun (n,k)=>if (k == NameKind.free && env.scope.kind == .function && env.kindOf n == some .cell) then (n,NameKind.cell) else (n,k)).lookup y = some .cell:=by
  intro l
  induction l with
  | nil=>intro h; cases h
  | cons p r ih =>
   obtain ⟨n,k0⟩:=p
   intro h
   rw [List.map_cons]
   rw [List.lookup_cons] at h
   dsimp only
   cases hx:y == n with
   | true =>
    rw [hx] at h
    cases h
    rw [if_neg (by simp),List.lookup_cons,hx]
   | false =>
    rw [hx] at h
    by_cases hc2:(k0 == NameKind.free && env.scope.kind == .function && env.kindOf n == some .cell) = true
    ·rw [if_pos hc2,List.lookup_cons,hx]; exact ih h
    ·rw [if_neg hc2,List.lookup_cons,hx]; exact ih h
 exact key scope.names h
theorem CSc.nestO {X0:Cx} {scope scope2:Scope} {N' N2:List Str} {sub sub2:List (Option Nat)} {cl:List (Str × Addr)} {C D:Addr} {fp:List Addr} {s:Shared} {H:Hp} (S:CScC X0 scope N' sub) (hk0:X0.env.scope.kind = .function)
  (h:((scope2.names.all fun y=>(y.2 != .free || (scope.names.lookup y.1 == some .free || scope.names.lookup y.1 == some .cell)) && (y.2 != .cell) && (y.2 != .local || scope2.names.lookup y.1 == some .local)) && (sub2.length == N2.length) &&
   ((N2.zip sub2).all fun p=>match p.2 with | none=>true | some i=>N'[i]? == some p.1 && (scope.names.lookup p.1 == some .free || scope.names.lookup p.1 == some .cell) && scope2.names.lookup p.1 == some .free)) = true)
  (hk:scope2.kind = .function):CSc (cxO X0 N' scope cl C D fp s H) scope2 N2 sub2:=by
 rw [Bool.and_eq_true,Bool.and_eq_true] at h
 obtain ⟨⟨h1,h2⟩,h3⟩:=h
 have k1:=fun y hy=>List.all_eq_true.mp h1 y hy
 have cellOf:∀ y:Str,(scope.names.lookup y = some .free \/ scope.names.lookup y = some .cell) -> (relabel scope X0.env).names.lookup y = some .cell:=fun y hy=>by
  rcases hy with hy | hy
  ·exact yW hk0 (S.free (y,.free) (PySem.mem_of_lookup hy) rfl) hy
  ·exact qW hy
 refine ⟨fun y hy hf=>?_,fun y hy hc=>?_,hk,fun y hy hl=>?_,by simpa using h2,fun j y i hj hs=>?_⟩
 ·have:=k1 y hy
  simp only [hf,Bool.and_eq_true] at this
  have z:=this.1.1
  exact cellOf y.1 (by simpa using z)
 ·have:=k1 y hy
  simp only [hc,Bool.and_eq_true] at this
  simp at this
 ·have:=k1 y hy
  simp only [hl,Bool.and_eq_true] at this
  simpa using this.2
 ·have hm:(y,some i) ∈ N2.zip sub2:=by
   have:(N2.zip sub2)[j]? = some (y,some i):=by
    rw [List.getElem?_zip_eq_some]; exact ⟨hj,hs⟩
   exact List.mem_of_getElem? this
  have:=List.all_eq_true.mp h3 _ hm
  simp only [Bool.and_eq_true,Bool.or_eq_true,beq_iff_eq] at this
  exact ⟨this.1.1,cellOf y this.1.2,this.2⟩
theorem V9.at {ds:List Deed} (h:V9 ds) {i:Nat} (hi:i < ds.length):(ds.getD i look).Ok:=h _ (List.mem_of_getElem? (U3 hi))
structure MixOk (m:List Nat):Prop where
 nd:m.Nodup
 lt:∀ j ∈ m,j < m.length
 has:∀ j,j < m.length -> j ∈ m
theorem MixOk.of {m:List Nat} {n:Nat} (h:m.Perm (List.range n)):MixOk m /\ m.length = n:=by
 have hl:m.length = n:=by rw [h.length_eq,List.length_range]
 refine ⟨⟨(h.nodup_iff).mpr List.nodup_range,fun j hj=>?_,fun j hj=>?_⟩,hl⟩
 ·rw [hl]; exact List.mem_range.mp (h.mem_iff.mp hj)
 ·exact h.mem_iff.mpr (List.mem_range.mpr (by omega))
theorem MixOk.idx {m:List Nat} (h:MixOk m) {i:Nat} (hi:i < m.length):m.idxOf (m.getD i 0) = i:=by
 rw [List.getD_eq_getElem?_getD,List.getElem?_eq_getElem hi]
 exact h.nd.idxOf_getElem i hi
theorem MixOk.at {m:List Nat} (h:MixOk m) {j:Nat} (hj:j < m.length):m.idxOf j < m.length /\ m.getD (m.idxOf j) 0 = j:=by
 have hl:=List.idxOf_lt_length_of_mem (h.has j hj)
 refine ⟨hl,?_⟩
 rw [List.getD_eq_getElem?_getD,List.getElem?_eq_getElem hl]
 exact List.getElem_idxOf hl
structure WkD (prog:Program) (w:World) (A:Around) (T:String) (I:Addr) (n:Nat) (Fr:Addr -> Prop) (J:List Value -> Shared -> Prop) (Fn:List Value -> Shared -> Prop):Prop where
 ty:∀ acc s,J acc s -> s.TypeIs (.ref I) T
 self:∀ acc s (Q:VS7) (E:VS7),J acc s -> Q (.ref I) s -> wpAny (model prog w) A (pyIter (.ref I)) Q E s
 stay:∀ acc s (S:Addr) (ob:Obj) (h':Heap),J acc s -> Fr S -> s.heap.get? S = some ob -> (ob.cls = .type "list" /\ ∀ v,ob.data ≠ .cell v) -> (∀ b o,b ≠ S -> s.heap.get? b = some o -> h'.get? b = some o) -> h'.objs.size = s.heap.objs.size -> J acc { s with heap:=h' }
 next:∀ acc s (S:Addr) (ob:Obj) (Q:Option Value -> Shared -> Prop) (E:VS7),J acc s -> Fr S -> s.heap.get? S = some ob -> (ob.cls = .type "list" /\ ∀ v,ob.data ≠ .cell v) →
  (∀ v s',acc.length < n -> J (acc ++ [v]) s' -> s'.heap.get? S = some ob -> Q (some v) s') -> (∀ s',Fn acc s' -> s'.heap.get? S = some ob -> Q none s') -> wpAny (model prog w) A (pyNext (.ref I)) Q E s
 push:∀ acc s (o:Obj),J acc s -> J acc { s with heap:=s.heap.push o }
section
variable {X:Cx} {K:FG7} {a b:Expr} {ta:TA} {p p2 pos pos2:Pos}
theorem SqC.grow {c:Bool} {H H':Hp} {a:Addr} {xs:List V} (g:Grow [] H H') (h:SqC c K H a xs):SqC c K H' a xs:=by
 cases c
 ·exact g.sqL h
 ·exact g.sqT h
end
open PySem PySem.Spec PyProof.Rows L2 HT
section
variable {prog:Program} {w:World} {A:Around} {E:VS7} {s:Shared}
theorem XR (l b:Addr) (us ws:Array Value) (n m:Nat) (d1 d2:Option Addr) (e1 e2:Array (Option Value)) (h0:us.isEmpty = true) :
  Meets (Builtin.«tuple.__add__» ⟨[.ref l,.ref b],[]⟩) (fun _ R s=>s.heap.get? l = some ⟨.type "tuple",d1,.seq us n,e1⟩ /\ s.heap.get? b = some ⟨.type "tuple",d2,.seq ws m,e2⟩ /\ R (.ok (.ret (.ref b))) s) :=
 .of_wp fun P w A R s h=>by
  obtain ⟨hh,gg,dd,tk,os⟩:=s
  obtain ⟨eL,eT,q⟩:=h
  have k1:=PySem.AutoSeq1.sub_tuple_tuple
  wp_walk using PySem.AutoSeq1.wpAny_loadPart' eL,PySem.AutoSeq1.wpAny_loadPart' eT
  exact ⟨_,rfl,q⟩
theorem XS {t b:Addr} {vs ws:List Value} {Q:VS7} (ht:IsTup s.heap t vs.toArray) (hb:IsTup s.heap b ws.toArray) (hv:vs = []) (h1:Q (.ref b) s):wpAny (model prog w) A (binaryOp .Add (.ref t) (.ref b)) Q E s:=by
 obtain ⟨⟨c1,d1,x1,l1⟩,ho,hc,n,hd⟩:=id ht
 obtain ⟨⟨c2,d2,x2,l2⟩,ho2,hc2,m,hd2⟩:=id hb
 cases hc
 cases hd
 cases hc2
 cases hd2
 exact concat_meets ⟨_,ho,rfl⟩ ⟨_,ho2,rfl⟩ noFill_tuple_add seq_tuple_add PySem.F.slot_tuple_add PySem.F.entry_tuple_add (PySem.F.args_tuple_add_2 _ _) (XR t b vs.toArray ws.toArray n m d1 d2 l1 l2 (by simp [hv])) ⟨ho,ho2,h1⟩
theorem sf {t sl:Addr} {us:Array Value} {vl vu:Value} {lo hi:Option Int} {Q:VS7} (ht:IsTup s.heap t us) (hs:s.heap.IsSliceOf sl vl vu .none) (pl:IsPart vl lo) (pu:IsPart vu hi)
  (hw:sIx us.size 0 lo = 0 /\ sIx us.size us.size hi = us.size) (h:Q (.ref t) s):wpAny (model prog w) A (getItem (.ref t) (.ref sl)) Q E s:=by
 obtain ⟨os,hos,hcs,hds⟩:=id hs
 have hTs:s.TypeIs (.ref sl) "slice":=⟨os,hos,hcs⟩
 unfold getItem
 try with_reducible refine wpAny_holding ?_
 first | refine wpAny_bind (wpAny_pure ?_) | skip
 refine wpAny_bind (wpAny_sequenceKey ht.typeIs (by decide) ?_)
 refine wpAny_bind (wpAny_callSpecial?_slot (name:=Str.ofString "__getitem__") ht.typeIs PyProof.Rows.slot_tuple_getitem
  (wpAny_call_entry PyProof.Rows.slot_tuple_getitem ht.typeIs entry_tuple_getitem ?_ (args_tuple_getitem _ _)))
 show wpAny _ _ (Builtin.Tuple.tupleItemsOf (.ref t) >>= _) _ _ s
 refine wpAny_bind (tupleItemsOf_ ht ?_)
 refine wpAny_bind (wpAny_typeOf hTs ?_)
 rw [if_pos (by decide)]
 refine wpAny_bind (xI hs pl pu ?_)
 have yes:(((sIx us.size 0 lo:Nat):Int) == 0 && (1:Int) == 1 && (sIx us.size us.size hi - sIx us.size 0 lo) == us.size) = true:=by
  rw [hw.1,hw.2]; simp
 show wpAny _ _ (if (((sIx us.size 0 lo:Nat):Int) == 0 && (1:Int) == 1 && (sIx us.size us.size hi - sIx us.size 0 lo) == us.size) = true then _ else _) _ _ s
 rw [if_pos yes]
 refine wpAny_bind ?_
 unfold Builtin.Tuple.tupleIsExact
 refine wpAny_bind (wpAny_typeOf ht.typeIs (wpAny_pure ?_))
 show wpAny _ _ (rule _ >>= _) _ _ s
 exact wpAny_bind (wpAny_rule (wpAny_bind (wpAny_pure (wpAny_pure ⟨_,rfl,wpAny_pure h⟩))))
end
section
variable {X:Cx} {K:FG7}
def rSlG (K:FG7):V -> Option Int -> Option Int -> Hp -> VK -> Prop:=fun x lo hi H Q=>∃ a xs,x = .ref a /\ SqT K H a xs /\ ∀ p H',Grow [] H H' -> SqT K H' p (cutV xs lo hi) -> Q (.ref p) H'
theorem YI {xs:List V} {lo hi:Option Int} (h:HT.sIx xs.length 0 lo = 0 /\ HT.sIx xs.length xs.length hi = xs.length):cutV xs lo hi = xs:=by
 unfold cutV
 rw [h.1,h.2,List.drop_zero,Nat.sub_zero,List.take_length]
theorem xA (hK:X.K = K):SlR X (rSlG K):=by
 subst hK
 intro pins s σ H x v vl vu lo hi sl Q I rx hs pl pu h
 obtain ⟨a,xs,rfl,hx,q⟩:=h
 by_cases hw:HT.sIx xs.length 0 lo = 0 /\ HT.sIx xs.length xs.length hi = xs.length
 ·cases rx
  obtain ⟨its,r,ht,hz⟩:=I.tuple hx
  have hlen:its.toArray.size = xs.length:=by rw [List.size_toArray]; exact r.length.symm
  refine ⟨"tuple",_,PyProof.Rows.slot_tuple_getitem.lookup,ht.typeIs,?_⟩
  exact sf ht hs pl pu (by rw [hlen]; exact hw) ⟨.ref a,H,I,rfl,q a H (Grow.refl _ _) (by rw [YI hw]; exact hx)⟩
 ·exact V0 pins s σ H _ v vl vu lo hi sl Q I rx hs pl pu ⟨a,xs,rfl,hx,hw,fun p hp=>q p _ (Grow.new hp _) (SqT.of zd)⟩
def Ta (K:FG7):R2:=fun x y H Q=>∃ a b xs ys,x = .ref a /\ y = .ref b /\ SqT K H a xs /\ SqT K H b ys /\ xs.length + ys.length <= sizeLine /\ ∀ p H',Grow [] H H' -> SqT K H' p (xs ++ ys) -> Q (.ref p) H'
theorem xB (hK:X.K = K):OpR X (binaryOp .Add) (Ta K):=by
 subst hK
 intro pins s σ H x y v u Q I rx ry h
 obtain ⟨a,b,xs,ys,rfl,rfl,ha,hb,hz,q⟩:=h
 by_cases hx:xs = []
 ·cases rx
  cases ry
  obtain ⟨its,r1,p1,_⟩:=I.tuple ha
  obtain ⟨its2,r2,p2,_⟩:=I.tuple hb
  exact XS p1 p2 (r1.nil_iff.mpr hx) ⟨.ref b,H,I,rfl,q b H (Grow.refl _ _) (by rw [hx]; exact hb)⟩
 ·exact W1 pins s σ H _ _ v u Q I rx ry ⟨a,b,xs,ys,rfl,rfl,ha,hb,hx,hz,fun e=>q a H (Grow.refl _ _) (by rw [e,List.append_nil]; exact ha),fun _ p hp=>q p _ (Grow.new hp _) (SqT.of zd)⟩
end
def qX (P:Program) (w:World) (K:FG7) (mg:Str -> Option Value) (base:Heap) (C:Addr) (k:Nat) (m:Str) (ps:List Str) (sp:Sp):Prop :=
 ∃ (f:Addr) (fd:FuncData),FnOk P w K mg base CX0 k f fd ps sp /\ vn K fd ps [] /\ Meth K C m f
def sg (P:Program) (w:World) (K:FG7) (mg:Str -> Option Value) (base:Heap) (C:Addr) (k:Nat) (ps:List Str) (sp:Sp):Prop :=
 ∃ (j:Nat) (f:Addr) (fd:FuncData),j + 1 = k /\ FnOk P w K mg base CX0 j f fd ps sp /\ vn K fd ps [] /\ Mk K C f
section
variable {P:Program} {w:World} {K:FG7} {mg:Str -> Option Value} {base:Heap} {C:Addr} {j k:Nat} {m:Str} {ps:List Str} {sp:Sp}
theorem qX.mono (c:qX P w K mg base C j m ps sp) (h:j <= k):qX P w K mg base C k m ps sp:=by
 obtain ⟨f,fd,F,b,mt⟩:=c
 exact ⟨f,fd,F.mono h,b,mt⟩
theorem sg.mono (c:sg P w K mg base C j ps sp) (h:j <= k):sg P w K mg base C k ps sp:=by
 obtain ⟨i,f,fd,e,F,b,mt⟩:=c
 exact ⟨k - 1,f,fd,by omega,F.mono (by omega),b,mt⟩
end
structure CTxt (K:FG7) (mg:Str -> Option Value) (C:Addr):Prop where
 cl:Cls K C
 n1:ut K C "depth"
 n2:ut K C "gates"
 n3:ut K C "out_lines"
 n4:ut K C "ups"
 n5:ut K C "tokens"
 n6:ut K C "came_out"
 n7:ut K C "given"
 mgC:mg "Counter" = some (.ref C)
section
variable {X:Cx} {K:FG7}
def FrT (H:Hp) (r:Addr) (xs:List V):Prop:=∃ o:Obj,H r = some (.frz o (.tup xs)) /\ o.cls = .type "tuple" /\ o.dict = none
theorem FrT.sqT {H:Hp} {r:Addr} {xs:List V} (h:FrT H r xs):SqT K H r xs:=by
 obtain ⟨o,e,_⟩:=h
 exact .inl (.inr ⟨o,e⟩)
end
def Trc (h:Heap) (e T:Addr) (cls:Value):Prop :=
 ∃ oe vs oT ts,h.get? e = some oe /\ oe.cls = cls /\ oe.data = .fields vs /\ vs[1]? = some (.ref T) /\ T ≠ e /\ h.get? T = some oT /\ oT.data = .fields ts /\ ts[3]? = some .none /\ vs[2]? = some .none
structure Lft (fr:List Addr) (e T0 T:Addr) (cls:Value) (h h':Heap):Prop where
 keep:∀ b o,b ∉ fr -> b ≠ e -> b ≠ T0 -> h.get? b = some o -> h'.get? b = some o
 slot:∀ b o,b ∈ fr -> b ≠ e -> b ≠ T0 -> h.get? b = some o -> ∃ sl,h'.get? b = some { o with slots:=sl }
 new:h.get? T = none
 trc:Trc h' e T cls
section
variable {M:Model} {A:Around} {E:VS7} {s:Shared}
theorem wC {base:Heap} {env:Env} {outer:List Env} {L e:Addr} {oe:Obj} {vs:Array Value} {head:Value} {hadNext:Bool} {Q:Unit -> Shared -> Prop}
  (hfr:A.frames = some (env :: outer)) (hl:s.heap.FunFrames base (env :: outer)) (hf:env.frame = some L)
  (he:s.heap.get? e = some oe) (hd:oe.data = .fields vs) (hsz:1 < vs.size) (hv2:vs[2]? = some .none)
  (h:∀ h' T,Lft ((env :: outer).filterMap (·.frame)) e e T oe.cls s.heap h' -> Q () { s with heap:=h' }) :
  wpAny M A (do let a ← frameOf env; let pl ← entryPlaceOf L hadNext; let b ← EntryCells.newEntry head a .none (rawInt L) .none pl; setField (.ref e) 1 b) (fun _ s'=>wpAny M A (setFlight (.ref e) none) Q E s') E s:=by
 have hne:e ∉ (env :: outer).filterMap (·.frame):=fun hm=>by
  obtain ⟨_,o,ho,hnf⟩:=hl.mem hm
  rw [he] at ho
  cases ho
  exact hnf vs hd
 refine wpAny_bind (wpAny_frameOf_fun hfr hl hf fun h1 s1=>?_)
 refine wpAny_bind (wpAny_entryPlaceOf fun pl hpl=>?_)
 unfold EntryCells.newEntry newFields
 refine wpAny_bind (wpAny_newObj_type ?_ (hpl.sizeOk5 _ _ _ _ _))
 have e1:h1.get? e = some oe:=(s1.2.1 e hne).trans he
 have hTe:h1.objs.size ≠ e:=Nat.ne_of_gt (Heap.lt_size e1)
 generalize hT:({ cls:=.type "traceback",dict:=none,data:=.fields ([head,.ref L,.none,rawInt L,.none] ++ (if pl.isEmpty then List.replicate 6 Value.none else pl)).toArray }:Obj) = oT
 have hTd:oT.data = .fields ([head,.ref L,.none,rawInt L,.none] ++ (if pl.isEmpty then List.replicate 6 Value.none else pl)).toArray:=by rw [← hT]
 have hTf:oT.isFreed = false:=Obj.isFreed_of_fields hTd
 have e2:=Heap.get?_push_of_some (h:=h1) oT e1
 refine wpAny_setField e2 hd hsz ?_
 have d3:=Obj.data_mapFields hd (·.setIfInBounds 1 (Value.ref h1.objs.size))
 have e3:=Heap.get?_update_self (Obj.mapFields (·.setIfInBounds 1 (Value.ref h1.objs.size))) e2 (Obj.isFreed_of_fields d3)
 have t3:((h1.push oT).update e (Obj.mapFields (·.setIfInBounds 1 (Value.ref h1.objs.size)))).get? h1.objs.size = some oT:=(Heap.get?_update_other _ _ (Ne.symm hTe)).trans (Heap.get?_push_size h1 hTf)
 unfold setFlight
 refine wpAny_bind (wpAny_field e3 d3 (x:=.ref h1.objs.size) (by simp [hsz]) ?_)
 rw [if_pos (show (Value.ref h1.objs.size != Value.none) = true from by simp)]
 refine wpAny_setField t3 hTd (by simp only [List.size_toArray,List.length_append,List.length_cons,List.length_nil] <;> omega) (h _ h1.objs.size ?_)
 have keep:∀ b o,b ≠ e -> h1.get? b = some o →
   (((h1.push oT).update e (Obj.mapFields (·.setIfInBounds 1 (Value.ref h1.objs.size)))).update h1.objs.size (Obj.mapFields (·.setIfInBounds 3 ((none:Option Addr).elim Value.none fun f=>rawInt f)))).get? b = some o:=fun b o hbe hb=>by
  rw [Heap.get?_update_other _ _ (Nat.ne_of_gt (Heap.lt_size hb)),Heap.get?_update_other _ _ (Ne.symm hbe)]
  exact Heap.get?_push_of_some _ hb
 refine ⟨fun b o hb hbe _ ho=>keep b o hbe ((s1.2.1 b hb).trans ho),fun b o hb hbe _ ho=>?_,?_,?_⟩
 ·obtain ⟨sl,hs⟩:=s1.2.2 b o ho
  exact ⟨sl,keep b _ hbe hs⟩
 ·cases q:s.heap.get? h1.objs.size with
  | none=>rfl
  | some o =>
   have:=Heap.lt_size q
   rw [s1.1] at this
   exact absurd this (Nat.lt_irrefl _)
 ·refine ⟨_,_,_,_,(Heap.get?_update_other _ _ hTe).trans e3,Obj.cls_mapFields _ _,d3,by simp [hsz],hTe,Heap.get?_update_self _ t3 (Obj.isFreed_of_fields (Obj.data_mapFields hTd _)),Obj.data_mapFields hTd _,?_,(Array.getElem?_setIfInBounds_ne (by decide)).trans hv2⟩
  simp only [Array.getElem?_setIfInBounds,if_true]
  rw [if_pos (by simp only [List.size_toArray,List.length_append,List.length_cons,List.length_nil]; omega)]
  rfl
theorem qY {base:Heap} {env:Env} {outer:List Env} {L e:Addr} {oe:Obj} {vs:Array Value} {Q:Unit -> Shared -> Prop}
  (hfr:A.frames = some (env :: outer)) (hl:s.heap.FunFrames base (env :: outer)) (hf:env.frame = some L)
  (he:s.heap.get? e = some oe) (hd:oe.data = .fields vs) (h1:vs[1]? = some .none) (hv2:vs[2]? = some .none)
  (h:∀ h' T,Lft ((env :: outer).filterMap (·.frame)) e e T oe.cls s.heap h' -> Q () { s with heap:=h' }):wpAny M A (leaving env (.ref e)) Q E s:=by
 unfold leaving noteFrame
 simp only [hf]
 refine wpAny_bind (wpAny_bind (wpAny_field he hd h1 ?_))
 rw [if_neg (by decide)]
 exact wC hfr hl hf he hd (Array.getElem?_eq_some_iff.mp h1).1 hv2 h
theorem ZC {base:Heap} {env:Env} {outer:List Env} {L e T0:Addr} {cls:Value} {Q:Unit -> Shared -> Prop}
  (hfr:A.frames = some (env :: outer)) (hl:s.heap.FunFrames base (env :: outer)) (hf:env.frame = some L) (ht:Trc s.heap e T0 cls)
  (h:∀ h' T,Lft ((env :: outer).filterMap (·.frame)) e T0 T cls s.heap h' -> Q () { s with heap:=h' }):wpAny M A (leaving env (.ref e)) Q E s:=by
 obtain ⟨oe,vs,oT,ts,he,hcls,hd,h1,hTe,hT,hdT,h3,hv2⟩:=ht
 subst hcls
 unfold leaving noteFrame
 simp only [hf]
 refine wpAny_bind (wpAny_bind (wpAny_field he hd h1 ?_))
 rw [if_pos (show (Value.ref T0 != Value.none) = true from by simp)]
 refine wpAny_bind (wpAny_field hT hdT h3 ?_)
 rw [if_neg (show ¬ ((Value.none == rawInt L) = true) from by simp [rawInt])]
 refine wpAny_bind (wpAny_setField hT hdT (Array.getElem?_eq_some_iff.mp h3).1 ?_)
 have other:∀ b,b ≠ T0 -> (s.heap.update T0 (Obj.mapFields (·.setIfInBounds 3 Value.none))).get? b = s.heap.get? b:=fun b hb=>Heap.get?_update_other _ _ (Ne.symm hb)
 have nf:∀ b o,s.heap.get? b = some o -> (∀ vs,o.data ≠ .fields vs) -> b ≠ T0:=fun b o hb hnf q=>by
  rw [q,hT] at hb
  cases hb
  exact hnf ts hdT
 refine wC hfr (hl.of_keeps fun b o hb hnf=>⟨o,(other b (nf b o hb hnf)).trans hb,rfl⟩) hf ((other e (Ne.symm hTe)).trans he) hd (Array.getElem?_eq_some_iff.mp h1).1 hv2 fun h' T x=>h h' T ?_
 refine ⟨fun b o hb hbe hb0 ho=>x.keep b o hb hbe hbe ((other b hb0).trans ho),fun b o hb hbe hb0 ho=>x.slot b o hb hbe hbe ((other b hb0).trans ho),?_,x.trc⟩
 have:=x.new
 by_cases q:T = T0
 ·subst q
  have e5:=Heap.get?_update_self (Obj.mapFields (·.setIfInBounds 3 Value.none)) hT (Obj.isFreed_of_fields (Obj.data_mapFields hdT _))
  rw [show (s.heap.update T (Obj.mapFields (·.setIfInBounds 3 Value.none))).get? T = _ from e5] at this
  cases this
 ·rw [← other T q]; exact this
end
def CX1 (P:Program) (w:World):CXT:=fun outer H s E e s'=>∃ (a T C:Addr) (H':Hp),e = .ref a /\ s'.os = s.os /\ AllBare s'.gens /\ Un (frs outer) [] H H' s.heap s'.heap /\ HOk P w H' s'.heap ∧
 Trc s'.heap a T (.ref C) /\ H' a = none /\ H' T = none /\ s.heap.get? a = none /\ s.heap.get? T = none /\ E e (some C) H'
theorem yh.at {P:Program} {w:World} {H:Hp} {h:Heap} {a:Addr} {o:HO} (x:yh P w H h a o):∃ ob,h.get? a = some ob:=by
 induction o with
 | lst xs=>obtain ⟨z,its,n,r,e⟩:=x; exact ⟨_,e⟩
 | tup xs=>obtain ⟨z,its,r,ob,e,c⟩:=x; exact ⟨_,e⟩
 | dK kvs=>obtain ⟨z,y,vs,r,ob,es,ep,e,c⟩:=x; exact ⟨_,e⟩
 | dT kvs=>obtain ⟨z,y,xs,r,ob,es,ep,e,c⟩:=x; exact ⟨_,e⟩
 | set S n=>obtain ⟨ob,es,ep,t,e,c⟩:=x; exact ⟨_,e⟩
 | ins C dx fs=>obtain ⟨d,z,ne,e,_⟩:=x; exact ⟨_,e⟩
 | own y=>exact x
 | xd fs=>obtain ⟨mA,⟨od,es,ep,e,c⟩,r⟩:=x; exact ⟨_,e⟩
 | rng lo hi=>obtain ⟨t,u,v,e⟩:=x; exact ⟨_,e⟩
 | frz ob u ih=>exact ⟨_,x.1⟩
 | tbl ps=>exact ⟨_,x⟩
 | met f y=>exact ⟨_,x⟩
 | ext φ=>exact x.2.1
theorem XT {P:Program} {w:World} {H:Hp} {h h':Heap} {fr:List Addr} {e T0 T:Addr} {cls:Value} (x:HOk P w H h) (l:Lft fr e T0 T cls h h') (hfr:∀ b ∈ fr,H b = none) (he:H e = none) (h0:H T0 = none):HOk P w H h':=fun b u q=>by
 refine (x b u q).stay (fun c v hc r=>?_) (fun _ r=>r) fun _ _ r=>r
 have hn:H c ≠ none:=by
  rcases hc with rfl | hc
  ·rw [q]; exact fun z=>nomatch z
  ·rw [hc]; exact fun z=>nomatch z
 exact l.keep c v (fun z=>hn (hfr c z)) (fun z=>hn (by rw [z]; exact he)) (fun z=>hn (by rw [z]; exact h0)) r
section
variable {P:Program} {w:World} {K:FG7} {mg:Str -> Option Value} {base:Heap} {N:List Str} {qual:Str} {scope:Scope} {f:Addr} {cd:Value} {A:Around} {outer:List Env} {s0:Shared} {H0:Hp} {E:XK}
 {pins:List (Addr × Obj)} {σ:L2.St} {H:Hp} {s:Shared}
theorem YJ {h2:Heap} {e T0 T C:Addr} (I:Inv (cxOf (CX1 P w) P w K mg base N qual scope f cd A outer s0 H0 E) pins σ H s) (l:Lft ((envOfC qual scope s0.heap.objs.size f cd :: outer).filterMap (·.frame)) e T0 T (.ref C) s.heap h2)
  (new:∀ b o,s0.heap.get? b = some o -> b ≠ e /\ b ≠ T0) (he0:H e = none) (ht0:H T0 = none) (q:E (.ref e) (some C) H):CX1 P w outer H0 s0 E (.ref e) { s with heap:=h2 }:=by
 have hfr:∀ b ∈ (envOfC qual scope s0.heap.objs.size f cd :: outer).filterMap (·.frame),H b = none:=I.stkFree
 have hU:Un (frs outer) [] H0 H s0.heap s.heap:=I.base
 have newT:∀ b o,s0.heap.get? b = some o -> b ≠ T:=fun b o hb z=>by
  obtain ⟨o',h1⟩:=hU.there b o hb (by simp)
  have:=l.new
  rw [← z,h1] at this; cases this
 have nin:∀ b o,s0.heap.get? b = some o -> b ∉ frs outer -> b ∉ (envOfC qual scope s0.heap.objs.size f cd :: outer).filterMap (·.frame):=fun b o hb hn z=>by
  rcases List.mem_cons.mp (show b ∈ s0.heap.objs.size :: frs outer from z) with z | z
  ·exact Nat.ne_of_lt (Heap.lt_size hb) z
  ·exact hn z
 have isin:∀ b,b ∈ frs outer -> b ∈ (envOfC qual scope s0.heap.objs.size f cd :: outer).filterMap (·.frame):=fun b hb=>show b ∈ s0.heap.objs.size :: frs outer from List.mem_cons_of_mem _ hb
 refine ⟨e,T,C,H,rfl,I.os,I.bare,⟨fun b o hb hn hf hx'=>?_,fun b o hb hn hf hx'=>?_,hU.free,fun b o hb hx'=>?_,hU.tups,hU.frzs,hU.tbls⟩,XT I.hok l hfr he0 ht0,l.trc,he0,?_,?_,?_,q⟩
 ·obtain ⟨n1,n2⟩:=new b o hb
  exact l.keep b o (nin b o hb hf) n1 n2 (hU.keep b o hb hn hf hx')
 ·obtain ⟨n1,n2⟩:=new b o hb
  obtain ⟨sl,h1⟩:=hU.slot b o hb hn hf hx'
  obtain ⟨sl',h2⟩:=l.slot b _ (isin b hf) n1 n2 h1
  exact ⟨sl',h2⟩
 ·obtain ⟨n1,n2⟩:=new b o hb
  obtain ⟨o',h1⟩:=hU.there b o hb hx'
  by_cases z:b ∈ (envOfC qual scope s0.heap.objs.size f cd :: outer).filterMap (·.frame)
  ·obtain ⟨sl,h2⟩:=l.slot b o' z n1 n2 h1
   exact ⟨_,h2⟩
  ·exact ⟨o',l.keep b o' z n1 n2 h1⟩
 ·cases r:H T with
  | none=>rfl
  | some o =>
   obtain ⟨ob,z⟩:=yh.at (I.hok T o r)
   rw [l.new] at z; cases z
 ·cases r:s0.heap.get? e with
  | none=>rfl
  | some o=>exact absurd rfl (new e o r).1
 ·cases r:s0.heap.get? T with
  | none=>rfl
  | some o=>exact absurd rfl (newT T o r)
theorem Vg {h':Heap} {e C:Addr} {args:List Value} (I:Inv (cxOf (CX1 P w) P w K mg base N qual scope f cd A outer s0 H0 E) pins σ H s) (hx:Heap.MadeExcOf s.heap h' e (.ref C) args) (q:E (.ref e) (some C) H) :
  (cxOf (CX1 P w) P w K mg base N qual scope f cd A outer s0 H0 E).xe (.ref e) { s with heap:=h' }:=by
 obtain ⟨t,he,ht,_⟩:=hx.there
 have he0:H e = none:=by
  cases r:H e with
  | none=>rfl
  | some o =>
   obtain ⟨ob,z⟩:=yh.at (I.hok e o r)
   rw [hx.new] at z; cases z
 have I1:Inv (cxOf (CX1 P w) P w K mg base N qual scope f cd A outer s0 H0 E) pins σ H { s with heap:=h' }:=I.kept (t':=s.toks) hx.keeps
 have new:∀ b o,s0.heap.get? b = some o -> b ≠ e:=fun b o hb z=>by
  have hU:Un (frs outer) [] H0 H s0.heap s.heap:=I.base
  obtain ⟨o',ho'⟩:=hU.there b o hb (by simp)
  rw [z,hx.new] at ho'; cases ho'
 refine qY (base:=base) (outer:=outer) (L:=s0.heap.objs.size) I.ok.frames I1.stack rfl he rfl rfl rfl fun h2 T l=>?_
 exact YJ I1 l (fun b o hb=>⟨new b o hb,new b o hb⟩) he0 he0 q
theorem zT {E':XK} (hE:∀ e C H',E' e (some C) H' -> E e (some C) H'):uu (CX1 P w) (cxOf (CX1 P w) P w K mg base N qual scope f cd A outer s0 H0 E) E':=by
 intro pins σ H s ex s' I hc
 obtain ⟨e,T0,C,H',rfl,os,bare,un,hok,trc,e0,t0,ne,nt,q⟩:=hc
 have I1:Inv (cxOf (CX1 P w) P w K mg base N qual scope f cd A outer s0 H0 E) pins σ H' s':=I.call' (ch:=[]) os un hok bare (fun b z=>absurd z (by simp))
 have new:∀ b o,s0.heap.get? b = some o -> b ≠ e /\ b ≠ T0:=fun b o hb=>by
  have hU:Un (frs outer) [] H0 H s0.heap s.heap:=I.base
  obtain ⟨o',ho'⟩:=hU.there b o hb (by simp)
  refine ⟨fun z=>?_,fun z=>?_⟩
  ·rw [z,ne] at ho'; cases ho'
  ·rw [z,nt] at ho'; cases ho'
 refine ZC (base:=base) (outer:=outer) (L:=s0.heap.objs.size) I.ok.frames I1.stack rfl trc fun h2 T l=>?_
 exact YJ I1 l new e0 t0 (hE _ _ _ q)
end
abbrev veM:List Value:=[.type "ValueError",.type "Exception",.type "BaseException",.type "object"]
def ExcC (K:FG7) (mg:Str -> Option Value) (x:Str) (C:Addr):Prop:=∀ h:Heap,K.In h -> OwnCls x C veM "ValueError.__new__" mg h
def WG (X:Cx) (E:XK):Prop:=∀ (pins:List (Addr × Obj)) (σ:L2.St) (H:Hp) (s:Shared) (h':Heap) (e C:Addr) (args:List Value),Inv X pins σ H s -> Heap.MadeExcOf s.heap h' e (.ref C) args -> E (.ref e) (some C) H -> X.xe (.ref e) { s with heap:=h' }
def Uj (C:Addr) (E:XK) (te:TE):TS:=fun _ σ H=>te σ H fun _ H1=>∀ e,E (.ref e) (some C) H1
section
variable {X:Cx} {x:Str} {C:Addr} {np cpos pos:Pos} {e₀:Expr} {te:TE} {E:XK}
theorem yG (hc:X.calm = true) (O:ExcC X.K X.mg x C) (hg:Gl X x) (hr:WG X E) (he:PE X e₀ te) (hdb:(x == ("__debug__":Str)) = false:=by decide)
  (hst:starEach [e₀] X.env = [(false,eval e₀ X.env)]:=by rfl):PS X (.Raise (some (.Call (.Name x np) [e₀] [] cpos)) none pos) (Uj C E te):=by
 intro pins s σ H D I h
 obtain ⟨tl,N,nm,q,bs,hdct,sn,sub,ab,col,dd,k0,k1,k2,k3,k5,mN,hC,hN,hni,T⟩:=(O X.base I.mod.kin).obj
 refine wpAny_Raise_call_subT (C:=C) (nm:=nm) (q:=q) (N:=N) (bs:=bs) (bm:=tl) (hdct:=hdct) (sn:=sn) (sub:=sub) (ab:=ab) (col:=col) (dd:=dd) (k0:=k0) (k1:=k1) (k2:=k2) (k3:=k3) (k5:=k5)
  PySem.F.excBase_ValueError (mN:=mN) (T.hasType PySem.F.excBase_ValueError.hasBase) (I.ok.hd hc) (by rw [hst]; rfl) hni (uo I hg (O s.heap I.kIn).bound ⟨rfl,?_⟩ hdb)
 rw [hst]
 refine Calls.evalArgs_plain ?_
 show wpAny _ _ (spliced [(false,eval e₀ X.env)]) _ _ s
 refine Calls.spliced_cons (thn (he pins s σ H _ I h) fun v s1 ⟨y,H1,I1,r1,q1⟩=>Calls.spliced_nil ?_)
 exact ⟨rfl,szl rfl,I1.bk _ _ hC,hN.keeps I1.bk,T.keeps I1.bk,fun h' e hm=>hr pins σ H1 s1 h' e C _ I1 hm (q1 e)⟩
end
section
variable {P:Program} {w:World} {K:FG7} {mg:Str -> Option Value} {base:Heap} {N:List Str} {qual:Str} {scope:Scope} {f:Addr} {cd:Value} {A:Around} {outer:List Env} {s0:Shared} {H0:Hp} {E:XK}
theorem yn:WG (cxOf (CX1 P w) P w K mg base N qual scope f cd A outer s0 H0 E) E:=fun _ _ _ _ _ _ _ _ I hx q=>Vg I hx q
end
section
variable {M:Model} {A:Around} {E:VS7} {s:Shared}
theorem YK {base:Heap} {env:Env} {outer:List Env} {L e T0:Addr} {cls:Value} {Q:Unit -> Shared -> Prop}
  (hfr:A.frames = some (env :: outer)) (hl:s.heap.FunFrames base (env :: outer)) (hf:env.frame = some L) (ht:Trc s.heap e T0 cls)
  (h:∀ h' T,Lft ((env :: outer).filterMap (·.frame)) e T0 T cls s.heap h' -> Q () { s with heap:=h' }):wpAny M A (noteFrame (.ref e) env) (fun _ s'=>wpAny M A (setFlight (.ref e) none) Q E s') E s:=by
 obtain ⟨oe,vs,oT,ts,he,hcls,hd,h1,hTe,hT,hdT,h3,hv2⟩:=ht
 subst hcls
 unfold noteFrame
 simp only [hf]
 refine wpAny_bind (wpAny_field he hd h1 ?_)
 rw [if_pos (show (Value.ref T0 != Value.none) = true from by simp)]
 refine wpAny_bind (wpAny_field hT hdT h3 ?_)
 rw [if_neg (show ¬ ((Value.none == rawInt L) = true) from by simp [rawInt])]
 refine wpAny_bind (wpAny_setField hT hdT (Array.getElem?_eq_some_iff.mp h3).1 ?_)
 have other:∀ b,b ≠ T0 -> (s.heap.update T0 (Obj.mapFields (·.setIfInBounds 3 Value.none))).get? b = s.heap.get? b:=fun b hb=>Heap.get?_update_other _ _ (Ne.symm hb)
 have nf:∀ b o,s.heap.get? b = some o -> (∀ vs,o.data ≠ .fields vs) -> b ≠ T0:=fun b o hb hnf q=>by
  rw [q,hT] at hb
  cases hb
  exact hnf ts hdT
 refine wC hfr (hl.of_keeps fun b o hb hnf=>⟨o,(other b (nf b o hb hnf)).trans hb,rfl⟩) hf ((other e (Ne.symm hTe)).trans he) hd (Array.getElem?_eq_some_iff.mp h1).1 hv2 fun h' T x=>h h' T ?_
 refine ⟨fun b o hb hbe hb0 ho=>x.keep b o hb hbe hbe ((other b hb0).trans ho),fun b o hb hbe hb0 ho=>x.slot b o hb hbe hbe ((other b hb0).trans ho),?_,x.trc⟩
 have:=x.new
 by_cases q:T = T0
 ·subst q
  have e5:=Heap.get?_update_self (Obj.mapFields (·.setIfInBounds 3 Value.none)) hT (Obj.isFreed_of_fields (Obj.data_mapFields hdT _))
  rw [show (s.heap.update T (Obj.mapFields (·.setIfInBounds 3 Value.none))).get? T = _ from e5] at this
  cases this
 ·rw [← other T q]; exact this
theorem ZD {e T0:Addr} {cls:Value} {Q:Unit -> Shared -> Prop} (ht:Trc s.heap e T0 cls)
  (h:∀ h',(∀ b,b ≠ T0 -> h'.get? b = s.heap.get? b) -> Trc h' e T0 cls -> Q () { s with heap:=h' }):wpAny M A (setFlight (.ref e) none) Q E s:=by
 obtain ⟨oe,vs,oT,ts,he,hcls,hd,h1,hTe,hT,hdT,h3,hv2⟩:=ht
 unfold setFlight
 refine wpAny_bind (wpAny_field he hd h1 ?_)
 rw [if_pos (show (Value.ref T0 != Value.none) = true from by simp)]
 have other:∀ b,b ≠ T0 -> (s.heap.update T0 (Obj.mapFields (·.setIfInBounds 3 ((none:Option Addr).elim Value.none fun f=>rawInt f)))).get? b = s.heap.get? b:=fun b hb=>Heap.get?_update_other _ _ (Ne.symm hb)
 refine wpAny_setField hT hdT (Array.getElem?_eq_some_iff.mp h3).1 (h _ other ⟨oe,vs,_,_,(other e (Ne.symm hTe)).trans he,hcls,hd,h1,hTe,Heap.get?_update_self _ hT (Obj.isFreed_of_fields (Obj.data_mapFields hdT _)),Obj.data_mapFields hdT _,?_,hv2⟩)
 simp only [Array.getElem?_setIfInBounds,if_true]
 rw [if_pos (Array.getElem?_eq_some_iff.mp h3).1]
 rfl
end
structure ApX (X:Cx) (pins:List (Addr × Obj)) (H:Hp) (a T:Addr):Prop where
 s0:∀ b o,X.s₀.heap.get? b = some o -> b ≠ a /\ b ≠ T
 loc:X.env.locals ≠ a /\ X.env.locals ≠ T
 cel:∀ x c,X.env.cells.lookup x = some c -> c ≠ a /\ c ≠ T
 pin:∀ p ∈ X.pn ++ pins,p.1 ≠ a /\ p.1 ≠ T
 ha:H a = none
 hT:H T = none
theorem ApX.of {X:Cx} {pins:List (Addr × Obj)} {σ:L2.St} {H H':Hp} {s:Shared} {a T:Addr} (I:Inv X pins σ H s) (hx:X.ex = []) (na:s.heap.get? a = none) (nT:s.heap.get? T = none) (ha:H' a = none) (hT:H' T = none):ApX X pins H' a T:=by
 have ne:∀ b o,s.heap.get? b = some o -> b ≠ a /\ b ≠ T:=fun b o hb=>⟨fun z=>(by rw [z,na] at hb; cases hb),fun z=>(by rw [z,nT] at hb; cases hb)⟩
 refine ⟨fun b o hb=>?_,?_,fun x c hc=>?_,fun p hp=>ne _ _ (I.pin p hp).1,ha,hT⟩
 ·obtain ⟨o',h1⟩:=I.base.there b o hb (by rw [hx]; simp)
  exact ne b o' h1
 ·obtain ⟨m,⟨o,es,ep,ho,_⟩,_⟩:=I.loc
  exact ne _ _ ho
 ·obtain ⟨v,hv⟩:=I.cell x c hc
  obtain ⟨o,ho,_⟩:=hv
  exact ne _ _ ho
theorem Inv.leftK {X:Cx} {pins:List (Addr × Obj)} {σ:L2.St} {H:Hp} {s:Shared} {a T0:Addr} {h2:Heap} (I:Inv X pins σ H s) (hx:X.ex = []) (ap:ApX X pins H a T0)
  (lk:∀ b o,b ∉ frs X.stack -> b ≠ a -> b ≠ T0 -> s.heap.get? b = some o -> h2.get? b = some o) (ls:∀ b o,b ∈ frs X.stack -> b ≠ a -> b ≠ T0 -> s.heap.get? b = some o -> ∃ sl,h2.get? b = some { o with slots:=sl }):Inv X pins σ H { s with heap:=h2 }:=by
 have stk:∀ b,b ∈ frs X.stack -> b = X.env.locals \/ b ∈ X.fs:=fun b hb=>List.mem_cons.mp (I.stkSub b hb)
 have any:∀ b o,b ≠ a -> b ≠ T0 -> s.heap.get? b = some o -> ∃ sl,h2.get? b = some { o with slots:=sl }:=fun b o n1 n2 ho=>by
  by_cases z:b ∈ frs X.stack
  ·exact ls b o z n1 n2 ho
  ·exact ⟨o.slots,lk b o z n1 n2 ho⟩
 have cellK:∀ x c,X.env.cells.lookup x = some c -> ∀ v,s.heap.IsCell c v -> h2.IsCell c v:=fun x c e v ⟨o,ho,hd⟩=>by
  obtain ⟨n1,n2⟩:=ap.cel x c e
  obtain ⟨sl,h1⟩:=any c o n1 n2 ho
  exact ⟨_,h1,hd⟩
 refine ⟨I.ok,I.os,I.bare,⟨fun b o hb hn hf hx'=>?_,fun b o hb hn hf hx'=>?_,I.base.free,fun b o hb hx'=>?_,I.base.tups,I.base.frzs,I.base.tbls⟩,?_,fun x c hc=>?_,I.free,I.freeC,fun p hp=>?_,fun b u q=>?_,I.len⟩
 ·obtain ⟨n1,n2⟩:=ap.s0 b o hb
  refine lk b o (fun z=>?_) n1 n2 (I.base.keep b o hb hn hf hx')
  rcases stk b z with z | z
  ·exact absurd (Nat.lt_of_lt_of_le (Heap.lt_size hb) I.ok.above) (by rw [z]; exact Nat.lt_irrefl _)
  ·exact hf z
 ·obtain ⟨n1,n2⟩:=ap.s0 b o hb
  obtain ⟨sl,h1⟩:=I.base.slot b o hb hn hf hx'
  obtain ⟨sl',h3⟩:=any b _ n1 n2 h1
  exact ⟨sl',h3⟩
 ·obtain ⟨n1,n2⟩:=ap.s0 b o hb
  obtain ⟨o',h1⟩:=I.base.there b o hb hx'
  obtain ⟨sl,h3⟩:=any b o' n1 n2 h1
  exact ⟨_,h3⟩
 ·obtain ⟨m,⟨o,es,ep,ho,r⟩,hl⟩:=I.loc
  obtain ⟨sl,h1⟩:=any _ o ap.loc.1 ap.loc.2 ho
  refine ⟨m,⟨_,es,ep,h1,r⟩,fun i x v e1 e2 e3=>?_⟩
  obtain ⟨u,ru,lk⟩:=hl i x v e1 e2 e3
  refine ⟨u,ru,?_⟩
  rcases lk with lk | ⟨k1,c,k2,k3⟩
  ·exact .inl lk
  ·exact .inr ⟨k1,c,k2,cellK x c k2 _ k3⟩
 ·obtain ⟨v,hv⟩:=I.cell x c hc
  exact ⟨v,cellK x c hc v hv⟩
 ·obtain ⟨p1,p2,p3,p4,p5⟩:=I.pin p hp
  obtain ⟨n1,n2⟩:=ap.pin p hp
  refine ⟨lk _ _ (fun z=>?_) n1 n2 p1,p2,p3,p4,p5⟩
  rcases stk _ z with z | z
  ·exact p3 z
  ·exact p4 z
 ·refine (I.hok b u q).stay (fun c v hc r=>?_) (fun _ r=>r) fun _ _ r=>r
  have hn:H c ≠ none:=by
   rcases hc with rfl | hc
   ·rw [q]; exact fun z=>nomatch z
   ·rw [hc]; exact fun z=>nomatch z
  exact lk c v (fun z=>hn (I.stkFree c z)) (fun z=>hn (by rw [z]; exact ap.ha)) (fun z=>hn (by rw [z]; exact ap.hT)) r
theorem Inv.left {X:Cx} {pins:List (Addr × Obj)} {σ:L2.St} {H:Hp} {s:Shared} {a T0 T:Addr} {cls:Value} {h2:Heap} (I:Inv X pins σ H s) (hx:X.ex = []) (ap:ApX X pins H a T0)
  (l:Lft (frs X.stack) a T0 T cls s.heap h2):Inv X pins σ H { s with heap:=h2 }:=Inv.leftK I hx ap l.keep l.slot
abbrev pinX (X:Cx) (ps:List (Addr × Obj)) (E:VS7):Cx:={ X with pn:=X.pn ++ ps,xe:=E }
def YL (X:Cx) (ps:List (Addr × Obj)) (E:XK):VS7:=fun e s'=>∃ (a T C:Addr) (σ:L2.St) (H:Hp),e = .ref a /\ Inv X ps σ H s' /\ Trc s'.heap a T (.ref C) /\ ApX X ps H a T /\ E e (some C) H
section
variable {X:Cx} {ps pins:List (Addr × Obj)} {E:VS7} {σ:L2.St} {H:Hp} {s:Shared}
theorem Inv.pinX (I:Inv X ps σ H s):Inv (pinX X ps E) [] σ H s :=
 ⟨⟨I.ok.mod,I.ok.kind,I.ok.glob,I.ok.blt,I.ok.above,I.ok.inj,I.ok.has,I.ok.cab,I.ok.hd,I.ok.frames,I.ok.stk,I.ok.exf,I.ok.bs,I.ok.bsz,I.ok.noex,I.ok.exfs,I.ok.funs,I.ok.frf⟩,I.os,I.bare,I.base,I.loc,I.cell,I.free,I.freeC,fun p hp=>I.pin p (by simpa using hp),I.hok,I.len⟩
theorem Inv.unpin (I:Inv (L3.pinX X ps E) pins σ H s):Inv X ps σ H s :=
 ⟨⟨I.ok.mod,I.ok.kind,I.ok.glob,I.ok.blt,I.ok.above,I.ok.inj,I.ok.has,I.ok.cab,I.ok.hd,I.ok.frames,I.ok.stk,I.ok.exf,I.ok.bs,I.ok.bsz,I.ok.noex,I.ok.exfs,I.ok.funs,I.ok.frf⟩,I.os,I.bare,I.base,I.loc,I.cell,I.free,I.freeC,fun p hp=>I.pin p (List.mem_append_left _ hp),I.hok,I.len⟩
end
theorem XU {X:Cx} {ps:List (Addr × Obj)} {E:XK} (hx:X.ex = []):uu (CX1 X.prog X.w) (pinX X ps (YL X ps E)) E:=by
 intro pins σ H s ex s' I hc
 obtain ⟨a,T0,C,H',rfl,os,bare,un,hok,trc,e0,t0,ne,nt,q⟩:=hc
 have I0:Inv X ps σ H s:=Inv.unpin I
 have I1:Inv X ps σ H' s':=I0.call' (ch:=[]) os un hok bare (fun b z=>absurd z (by simp))
 exact ⟨a,T0,C,σ,H',rfl,I1,trc,ApX.of I0 hx ne nt e0 t0,q⟩
abbrev handX (X:Cx) (e:Addr):Cx:={ X with A:=X.A.mark (some (.ref e)),calm:=false,xe:=fun _ _=>False }
section
variable {X:Cx} {pins:List (Addr × Obj)} {σ:L2.St} {H:Hp} {s:Shared} {e:Addr}
theorem Inv.handX (I:Inv X pins σ H s):Inv (handX X e) pins σ H s :=
 ⟨⟨I.ok.mod,I.ok.kind,I.ok.glob,I.ok.blt,I.ok.above,I.ok.inj,I.ok.has,I.ok.cab,fun z=>(nomatch z),I.ok.frames,I.ok.stk,I.ok.exf,I.ok.bs,I.ok.bsz,I.ok.noex,I.ok.exfs,I.ok.funs,I.ok.frf⟩,I.os,I.bare,I.base,I.loc,I.cell,I.free,I.freeC,I.pin,I.hok,I.len⟩
theorem Inv.unhand (ok:X.Ok) (I:Inv (L3.handX X e) pins σ H s):Inv X pins σ H s:=⟨ok,I.os,I.bare,I.base,I.loc,I.cell,I.free,I.freeC,I.pin,I.hok,I.len⟩
theorem SP.unhand (ok:X.Ok) {D:Ends} {f:Flow} (h:SP (L3.handX X e) pins D f s):SP X pins D f s:=by
 cases f with
 | next=>obtain ⟨σ',H',I,q⟩:=h; exact ⟨σ',H',Inv.unhand ok I,q⟩
 | brk=>obtain ⟨σ',H',I,q⟩:=h; exact ⟨σ',H',Inv.unhand ok I,q⟩
 | cont=>obtain ⟨σ',H',I,q⟩:=h; exact ⟨σ',H',Inv.unhand ok I,q⟩
 | ret u=>obtain ⟨v,σ',H',I,r,q⟩:=h; exact ⟨v,σ',H',Inv.unhand ok I,r,q⟩
theorem SP.unpin {ps:List (Addr × Obj)} {E:VS7} {D:Ends} {f:Flow} (h:SP (L3.pinX X ps E) [] D f s):SP X ps D f s:=by
 cases f with
 | next=>obtain ⟨σ',H',I,q⟩:=h; exact ⟨σ',H',Inv.unpin I,q⟩
 | brk=>obtain ⟨σ',H',I,q⟩:=h; exact ⟨σ',H',Inv.unpin I,q⟩
 | cont=>obtain ⟨σ',H',I,q⟩:=h; exact ⟨σ',H',Inv.unpin I,q⟩
 | ret u=>obtain ⟨v,σ',H',I,r,q⟩:=h; exact ⟨v,σ',H',Inv.unpin I,r,q⟩
end
open PySem.W in
/-- an exception class as the text's constants show it -/
theorem excC_of {K:FG7} {mg:Str -> Option Value} {x:Str} {C:Addr} (b:mg x = some (.ref C)) (q:PySem.W.excIn K C veM "ValueError.__new__" = true):ExcC K mg x C:=by
 intro h X
 refine ⟨b,?_⟩
 unfold PySem.W.excIn at q
 cases ho:K.lookup C with
 | none=>rw [ho] at q; cases q
 | some ob =>
  rw [ho] at q
  obtain ⟨oc,od,oda,osl⟩:=ob
  split at q
  ·rename_i dd cd sl e
   obtain ⟨rfl,rfl,rfl,rfl⟩:=Obj.mk.inj (Option.some.inj e)
   split at q
   ·rename_i C' bm k0 k1 k2 k3 n k5 hm hs
    simp only [Bool.and_eq_true,beq_iff_eq,Bool.not_eq_true'] at q
    obtain ⟨⟨⟨⟨⟨rfl,rfl⟩,hdel⟩,ht⟩,hok⟩,hni⟩:=q
    obtain ⟨nm,bs,mro,ns,qn,hd,sn,sub,ab,col,del⟩:=cd
    dsimp only at hm hdel hok hni
    subst hm hdel
    obtain ⟨l⟩:=osl
    have hl:l = [k0,k1,k2,k3,some (.builtin "ValueError.__new__"),k5]:=hs
    subst hl
    exact ⟨bm,ns,nm,qn,bs,hd,sn,sub,ab,col,od,k0,k1,k2,k3,k5,_,X _ _ ho,.of_isNs (PySem.W.isNs_of_in X hok),PySem.W.nsMap_none_of_in X hok hni,PySem.W.tail_of_in X ht⟩
   ·cases q
  ·cases q
theorem Uk {X:Cx}:uu (CX1 X.prog X.w) X E0:=fun _ _ _ _ _ _ _ h=>by
 obtain ⟨_,_,_,_,_,_,_,_,_,_,_,_,_,_,q⟩:=h
 exact q.elim
section
variable {P:Program} {w:World} {K:FG7} {mg:Str -> Option Value} {base:Heap}
theorem Fun.okX {x qual:Str} {st:Stmt} {f:Addr} {fd:FuncData} {N ps:List Str} {k:Nat} {sp:Sp} (F:Fun K x qual st f fd) (S:FnScope N ps (zg st)) (len:∀ vs H Q E,sp vs H Q E -> vs.length = ps.length)
  (hbody:∀ (cdv:Value) (A:Around) (outer:List Env) (s:Shared) (H:Hp) (vs:List V) (Q:VK) (E:XK),Room k (A.deeper (envOfC qual (zg st) s.heap.objs.size f cdv)) -> sp vs H Q E →
   ∃ t,PSs (cxOf (CX1 P w) P w K mg base N qual (zg st) f cdv A outer s H E) (xR st) t /\ t { nx:=fun _ H'=>Q .non H',rt:=Q } (start N vs) H):FnOk P w K mg base (CX1 P w) (k + 1) f fd ps sp:=by
 obtain ⟨oc,od,kV,doc,pm,an,cdv,ct,osl,rfl,lk,hcd⟩:=F.ex
 exact VY lk hcd S len fun A outer s H vs Q E hr hsp=>hbody cdv A outer s H vs Q E hr hsp
end
def sk (P:Program) (w:World) (K:FG7) (mg:Str -> Option Value) (base:Heap) (C:Addr) (k:Nat) (m:Str) (ps:List Str) (sp:Sp):Prop :=
 ∃ (f:Addr) (fd:FuncData),FnOk P w K mg base (CX1 P w) k f fd ps sp /\ vn K fd ps [] /\ Meth K C m f
def zw (P:Program) (w:World) (K:FG7) (mg:Str -> Option Value) (base:Heap) (k:Nat) (x:Str) (ps:List Str) (sp:Sp):Prop :=
 ∃ (f:Addr) (fd:FuncData),FnOk P w K mg base (CX1 P w) k f fd ps sp /\ vn K fd ps [] /\ PySem.W.keepIn K (.ref f) = true /\ mg x = some (.ref f)
section
variable {P:Program} {w:World} {K:FG7} {mg:Str -> Option Value} {base:Heap} {C:Addr} {j k:Nat} {m x:Str} {ps:List Str} {sp:Sp}
theorem sk.mono (c:sk P w K mg base C j m ps sp) (h:j <= k):sk P w K mg base C k m ps sp:=by
 obtain ⟨f,fd,F,b,mt⟩:=c
 exact ⟨f,fd,F.mono h,b,mt⟩
theorem zw.mono (c:zw P w K mg base j x ps sp) (h:j <= k):zw P w K mg base k x ps sp:=by
 obtain ⟨f,fd,F,b,mt⟩:=c
 exact ⟨f,fd,F.mono h,b,mt⟩
end
section
variable {X:Cx} {C:Addr} {k:Nat} {m x:Str} {ps:List Str} {sp:Sp} {o e:Expr} {es:List Expr} {ta:TE} {t:TA} {apos pos p:Pos} {E:XK}
theorem zF (c:zw X.prog X.w X.K X.mg X.base k x ps sp) (hx:uu (CX1 X.prog X.w) X E) (hr:Room k X.A) (hg:Gl X x)
  (ha:PA X (e :: es) t) (hdb:(x == ("__debug__":Str)) = false:=by decide) (he:starEach (e :: es) X.env = (false,eval e X.env) :: starEach es X.env:=by rfl) (hpl:(backTo pos (starEach es X.env)).any (·.1) = false:=by rfl) :
  PE X (.Call (.Name x p) (e :: es) [] pos) (Yd sp [] E t):=by
 obtain ⟨f,fd,F,b,kp,m⟩:=c
 exact Ye F hr hg m kp b .nil hx ha hdb he hpl
end
open PySem PySem.Spec PyProof.Rows L2 PySem.W
open PySem.Builtin PySem.Builtin.ObjectAttr PySem.Builtin.Getset_descriptor in
theorem exc_class_get {prog:Program} {w:World} {A:Around} {s:Shared} {K:FG7} {a C:Addr} {o:Obj} {R:Result -> Shared -> Prop} {tp:Value} (X:K.In s.heap) (hx:s.heap.get? a = some o) (hc:o.cls = .ref C) (hm:PySem.W.mroIn K C (.type "object") = some true)
  (h:R (.ok (.ret (.ref C))) s):codeAny (model prog w) A (.call (.builtin "getset_descriptor.__get__") ⟨[.builtin "object.__class__",.ref a,tp],[]⟩) R s:=by
 obtain ⟨hh,g,dr,t,os⟩:=s
 have L0:Looks (model prog w) hh (typeOf (.ref a)) (.ref C):=hc ▸ (Looks.ld hx).andThen .now
 have L1:=looks_mroIn (M:=model prog w) X hm
 refine codeAny_call_builtin KF.slot_gs.plain KF.entry_gs (KF.slot_gs.check _ _ _ _ _ _ _ _ KF.type_class (KF.args_gs _ _ _) ?_)
 unfold Builtin.«getset_descriptor.__get__» descrGet
 rw [dga_obj]
 refine wpAny_bind (wpAny_pure ?_)
 unfold descrGetter descrCheckInstance descrNameAndClass isInstance
 simp only [KF.owner_class]
 repeat lk
 refine ⟨Code.quiet_builtin _ (by decide +kernel),codeAny_builtin KF.entry_class ?_⟩
 unfold Builtin.«object.__class__» shownTypeOf
 repeat lk
 exact h
section
variable {prog:Program} {w:World} {A:Around} {E:VS7} {K:FG7} {a C:Addr} {o:Obj} {h:Heap} {g:Array GenState} {d:Drawn} {t:Nat} {os:OsState}
theorem uJ {tk:Tok} {Q:PySem.Fin -> Shared -> Prop} (X:K.In h) (hx:h.get? a = some o) (hc:o.cls = .ref C) (ha:findIn K (.ref C) "__class__" = some (some (.builtin "object.__class__"))) (hm:PySem.W.mroIn K C (.type "object") = some true)
  (hq:Q (.done (.ret (.ref C))) ⟨h,g,d,t,os⟩):wpAny (model prog w) A (Builtin.«object.__getattribute__» ⟨[.ref a,.str "__class__" tk],[]⟩) Q E ⟨h,g,d,t,os⟩:=by
 have L0:Looks (model prog w) h (typeOf (.ref a)) (.ref C):=hc ▸ (Looks.ld hx).andThen .now
 have L1:=looks_findIn (M:=model prog w) X ha
 have f5:=PySem.F.typeOf_object_class
 have f6:=PySem.F.slot_gs_get.lookup
 have f7:=PySem.F.slot_gs_set.lookup
 repeat (any_goals (first | assumption | with_reducible refine L0.at ?_ | with_reducible refine L1.at ?_ | (with_reducible refine wpAny_loadPart_at hx ?_; rw [hc]) | wp_step))
 refine exc_class_get X hx hc hm ?_
 repeat (any_goals (first | assumption | wp_step))
theorem rH {M:Model} {nameV:Value} {Q:Unit -> Shared -> Prop} (X:K.In h) (hx:h.get? a = some o) (hc:o.cls = .ref C) (hb:PySem.W.mroIn K C (.type "BaseException") = some true) (hq:Q () ⟨h,g,d,t,os⟩) :
  wpAny M A (checkBuiltinCall "BaseException.__getattribute__" ⟨[.ref a,nameV],[]⟩) Q E ⟨h,g,d,t,os⟩:=by
 have hk:builtinKind "BaseException.__getattribute__" = some .slot:=by decide +kernel
 have hsplit:splitId "BaseException.__getattribute__" = some ("BaseException","__getattribute__"):=by decide +kernel
 have L0:Looks M h (typeOf (.ref a)) (.ref C):=hc ▸ (Looks.ld hx).andThen .now
 have L1:=looks_mroIn (M:=M) X hb
 have ha:=PySem.F.args_bexc_ga (.ref a) nameV
 simp only [checkBuiltinCall,hk,hsplit]
 refine wpAny_bind ?_
 unfold isInstance
 repeat (first | with_reducible refine L0.at ?_ | with_reducible refine L1.at ?_ | wp_step)
 exact hq
theorem tj {tk:Tok} {R:Result -> Shared -> Prop} (X:K.In h) (hx:h.get? a = some o) (hc:o.cls = .ref C) (ha:findIn K (.ref C) "__class__" = some (some (.builtin "object.__class__"))) (hm:PySem.W.mroIn K C (.type "object") = some true) (hb:PySem.W.mroIn K C (.type "BaseException") = some true)
  (hq:R (.ok (.ret (.ref C))) ⟨h,g,d,t,os⟩):codeAny (model prog w) A (.call (.builtin "BaseException.__getattribute__") ⟨[.ref a,.str "__class__" tk],[]⟩) R ⟨h,g,d,t,os⟩ :=
 codeAny_call_builtin (by decide +kernel) PySem.F.entry_bexc_ga (rH X hx hc hb (uJ X hx hc ha hm hq))
theorem rJ {tk:Tok} {Q:VS7} (X:K.In h) (hx:h.get? a = some o) (hc:o.cls = .ref C) (hga:findIn K (.ref C) "__getattribute__" = some (some (.builtin "BaseException.__getattribute__"))) (hgt:findIn K (.ref C) "__getattr__" = some none)
  (ha:findIn K (.ref C) "__class__" = some (some (.builtin "object.__class__"))) (hm:PySem.W.mroIn K C (.type "object") = some true) (hb:PySem.W.mroIn K C (.type "BaseException") = some true)
  (hq:Q (.ref C) ⟨h,g,d,t,os⟩):wpAny (model prog w) A (getAttrBy (.ref a) (.str "__class__" tk) false) Q E ⟨h,g,d,t,os⟩:=by
 have L0:Looks (model prog w) h (typeOf (.ref a)) (.ref C):=hc ▸ (Looks.ld hx).andThen .now
 have L1:=looks_findIn (M:=model prog w) X hga
 have L2:=looks_findIn (M:=model prog w) X hgt
 have f3:=PySem.F.attr_ValueError.ga.bind (.ref a)
 have hx2:(Value.builtin "BaseException.__getattribute__" == Value.builtin "object.__getattribute__") = false:=by decide +kernel
 have hx1:(onTheHeap (Value.ref C) && Value.builtin "BaseException.__getattribute__" == Value.builtin "object.__getattribute__") = false:=by rw [hx2]; rfl
 repeat (any_goals (first | assumption | with_reducible refine L0.at ?_ | with_reducible refine L1.at ?_ | with_reducible refine L2.at ?_ | (with_reducible refine wpAny_loadPart_at hx ?_; rw [hc]) | wp_step))
 refine tj X hx hc ha hm hb ?_
 repeat (any_goals (first | assumption | wp_step))
theorem tq {Q:Option Value -> Shared -> Prop} (X:K.In h) (hx:h.get? a = some o) (hc:o.cls = .ref C) (hga:findIn K (.ref C) "__getattribute__" = some (some (.builtin "BaseException.__getattribute__"))) (hgt:findIn K (.ref C) "__getattr__" = some none)
  (ha:findIn K (.ref C) "__class__" = some (some (.builtin "object.__class__"))) (hm:PySem.W.mroIn K C (.type "object") = some true) (hb:PySem.W.mroIn K C (.type "BaseException") = some true)
  (hq:Q (some (.ref C)) ⟨h,g,d,t + 1,os⟩):wpAny (model prog w) A (getAttr? (.ref a) "__class__") Q E ⟨h,g,d,t,os⟩:=by
 unfold getAttr? getAttrBy?
 repeat (any_goals (first | assumption | with_reducible apply rJ X hx hc hga hgt ha hm hb | wp_step))
end
structure ExcK (K:FG7) (C:Addr):Prop where
 ga:findIn K (.ref C) "__getattribute__" = some (some (.builtin "BaseException.__getattribute__"))
 gt:findIn K (.ref C) "__getattr__" = some none
 cl:findIn K (.ref C) "__class__" = some (some (.builtin "object.__class__"))
 ob:mroIn K C (.type "object") = some true
 be:mroIn K C (.type "BaseException") = some true
theorem YM {K:FG7} {C:Addr} {b:Value} {r:Bool} (e:mroIn K C b = some r):∃ cd,clsIn K C = some cd:=by
 obtain ⟨cd,a,_⟩:=Option.bind_eq_some_iff.mp e
 exact ⟨cd,a⟩
theorem XV {K:FG7} {a C:Addr} (F:ExcK K C):KitX K (.ref a) (.ref C) (fun h=>∃ o,h.get? a = some o /\ o.cls = .ref C) where
 ty:=fun M h _ p=>by
  obtain ⟨o,h1,h2⟩:=p
  exact h2 ▸ (Looks.ld h1).andThen .now
 it:=fun _ _ X _=>by
  obtain ⟨cdD,hcD⟩:=YM F.ob
  unfold clsIn at hcD
  split at hcD
  ·rename_i c' d' cd' sl' ho
   intro A' Q' E' s' k q
   unfold isType loadHead
   exact wpAny_bind (wpAny_loadPart (k _ _ (X _ _ ho)) (wpAny_pure q))
  ·cases hcD
 ne:=fun h tp dd its n sl X htp=>by
  obtain ⟨cdD,hcD⟩:=YM F.ob
  refine Bool.eq_false_iff.mpr fun q=>?_
  have e:C = tp:=Value.ref.inj (beq_iff_eq.mp q)
  subst e
  unfold clsIn at hcD
  split at hcD
  ·rename_i c' d' cd' sl' ho
   have z:=(X _ _ ho).symm.trans htp
   cases z
  ·cases hcD
 ca:=fun {_ _ _ _ _ s} X p k=>by
  obtain ⟨h,g,d,t,os⟩:=s
  obtain ⟨o,h1,h2⟩:=p
  exact tq X h1 h2 F.ga F.gt F.cl F.ob F.be k
def ExO (a C:Addr):HO:=.ext fun h=>∃ o,h.get? a = some o /\ o.cls = .ref C /\ ∃ vs,o.data = .fields vs /\ vs[2]? = some .none
theorem ExO.cl {h:Heap} {a C:Addr} (p:∃ o,h.get? a = some o /\ o.cls = .ref C /\ ∃ vs,o.data = .fields vs /\ vs[2]? = some .none):∃ o,h.get? a = some o /\ o.cls = .ref C:=p.imp fun _ z=>⟨z.1,z.2.1⟩
def Ul (K:FG7):List V -> Hp -> VK -> Prop:=fun xs H Q=>∃ (a C:Addr) (y:V) (c:Value) (b:Bool),xs = [.ref a,y] /\ H a = some (ExO a C) /\ (∀ u,RelV y u -> u = c) /\ ExcK K C /\ kitOne K (.ref C) c = some b /\ Q (.bl b) H
theorem xT {X:Cx} {K:FG7} (hK:X.K = K):xO X (.builtin "isinstance") (Ul K):=by
 subst hK
 intro pins s σ H xs us Q I r h
 obtain ⟨a,C,y,c,b,rfl,hH,hy,F,e,q⟩:=h
 obtain ⟨u,w',rfl,rx,ry⟩:=Ya r
 cases (show u = Value.ref a from rx)
 have:=hy w' ry
 subst this
 exact kia_one (XV F) I.kIn (ExO.cl (I.hok a _ hH).1) e (fun z=>nomatch z) fun tk=>⟨.bl b,H,I.tok _,rfl,q⟩
theorem sr {M:Model} {A:Around} {E:VS7} {K:FG7} {h:Heap} {g:Array GenState} {d:Drawn} {t:Nat} {os:OsState} {e C' C N:Addr} {oe:Obj} {Q:Bool -> Shared -> Prop} {nm q:Str} {bs bm:List Value} {hdct:Bool} {sn:List Str} {sub:List Value} {ab:Bool} {col:Option Bool} {dd:Option Addr} {k0 k1 k2 k3 k5:Option Value} {newId:String}
  (X:K.In h) (hC:h.get? C = some (excClassObj nm q C N bs bm hdct sn sub ab col dd k0 k1 k2 k3 k5 newId)) (he:h.get? e = some oe) (hcls:oe.cls = .ref C') (hbase:bm.contains (.type "BaseException") = true) (hup:mroIn K C' (.ref C) = some true)
  (hq:Q true ⟨h,g,d,t,os⟩):wpAny M A (excMatches (.ref e) (.ref C)) Q E ⟨h,g,d,t,os⟩:=by
 have hcB:(Value.ref C :: bm).contains (.type "BaseException") = true:=by rw [List.contains_cons,hbase,Bool.or_true]
 have L1:=looks_mroIn (M:=M) X hup
 have f:=tc_notTuple
 unfold excMatches
 repeat (first | (with_reducible refine wpAny_loadPart_at he ?_; rw [hcls]) | with_reducible refine L1.at ?_ | with_reducible refine wpAny_loadPart_at hC ?_ | (with_reducible refine wpAny_isSubtype_exc hC ?_; rw [hcB]) | wp_step)
 exact hq
section
variable {X:Cx} {pins:List (Addr × Obj)} {σ:L2.St} {H:Hp} {s:Shared}
theorem wY {M:Model} {A:Around} {E:VS7} {i:Nat} {x:Str} {pos:Pos} {Q:Unit -> Shared -> Prop} (I:Inv X pins σ H s) (hN:X.N.Nodup) (hi:X.N[i]? = some x) (hx:X.env.kindOf x = some .local) (hx2:X.env.scope.names.lookup x = some .local)
  (h:∀ s',Inv X pins (σ.set i none) H s' -> Q () s'):wpAny M A (do bindName X.env x .none; unbindBehindTheSuite X.env x pos) Q E s:=by
 have hcls:(X.env.scope.kind == .class || (X.env.scope.kind == .module && X.env.locals != X.env.globals)) = false:=by rw [I.ok.kind]; rfl
 refine wpAny_bind (wpAny_bindName (wO (v:=.non) I hN hi (.inl hx2) rfl (fun s1 I1=>?_) (.inr hx2)))
 unfold unbindBehindTheSuite
 refine wpAny_onRaise ?_
 unfold unbindName
 refine wpAny_bind (wpAny_point (wpAny_bind ?_))
 unfold deleteName
 simp only [hx,hcls]
 rw [if_neg (by decide)]
 obtain ⟨m,hn,hl⟩:=id I1.loc
 refine wpAny_bind (wpAny_nsDel_keeps hn fun h' v hn' hs=>?_)
 have hiσ:i < σ.length:=by rw [I.len]; exact (List.getElem?_eq_some_iff.mp hi).1
 have hm:(m x).isSome = true:=by
  obtain ⟨u,_,l⟩:=hl i x .non hi (List.getElem?_set_self hiσ) (.inl hx2)
  rcases l with ⟨_,e⟩ | ⟨k,_⟩
  ·rw [e]; rfl
  ·rcases k with k | k <;> (rw [hx] at k; cases k)
 simp only [hm,if_true,Bool.not_true,Bool.false_eq_true,if_false]
 refine wpAny_pure (wpAny_point (h _ ?_))
 obtain ⟨oL,_,_,hoL,_⟩:=id hn
 have cne:=I1.cne
 have tracked:HOk X.prog X.w H h':=fun b ob e=>by
  refine (I1.hok b ob e).stay (fun c w' hc q=>(hs.2 c ?_).trans q) (fun _ q=>q) fun _ _ q=>q
  rintro rfl
  have hfree:=I1.free
  rcases hc with hc | hc
  ·rw [← hc] at e; rw [hfree] at e; cases e
  ·rw [hfree] at hc; cases hc
 refine ⟨I1.ok,I1.os,I1.bare,⟨fun b o e n hb hx=>?_,fun b o e n hb hx=>?_,I1.base.free,fun b o e hx=>?_,I1.base.tups,I1.base.frzs,I1.base.tbls⟩,⟨_,hn',fun j y v' e1 e2 e3=>?_⟩,fun y c e=>?_,I1.free,I1.freeC,fun p hp=>?_,tracked,by rw [List.length_set]; exact I.len⟩
 ·exact (hs.2 b (Nat.ne_of_lt (Nat.lt_of_lt_of_le (Heap.lt_size e) I1.ok.above))).trans (I1.base.keep b o e n hb hx)
 ·obtain ⟨sl,e1⟩:=I1.base.slot b o e n hb hx
  exact ⟨sl,(hs.2 b (Nat.ne_of_lt (Nat.lt_of_lt_of_le (Heap.lt_size e) I1.ok.above))).trans e1⟩
 ·obtain ⟨o',e1⟩:=I1.base.there b o e hx
  exact ⟨o',(hs.2 b (Nat.ne_of_lt (Nat.lt_of_lt_of_le (Heap.lt_size e) I1.ok.above))).trans e1⟩
 ·have hj:j ≠ i:=fun z=>by
   subst z
   rw [List.getElem?_set_self hiσ] at e2
   cases e2
  rw [List.getElem?_set_ne (Ne.symm hj)] at e2
  obtain ⟨u',r',q⟩:=hl j y v' e1 (by rw [List.getElem?_set_ne (Ne.symm hj)]; exact e2) e3
  refine ⟨u',r',?_⟩
  rcases q with ⟨k,e⟩ | ⟨k,c,e,z⟩
  ·refine .inl ⟨k,?_⟩
   have:y ≠ x:=fun e=>hj (tW hN e1 (e ▸ hi))
   simp [this,e]
  ·exact .inr ⟨k,c,e,z.sameBut hs (cne y c e)⟩
 ·obtain ⟨w',z⟩:=I1.cell y c e
  exact ⟨w',z.sameBut hs (cne y c e)⟩
 ·obtain ⟨e,n,ne,nf,d⟩:=I1.pin p hp
  exact ⟨(hs.2 p.1 ne).trans e,n,ne,nf,d⟩
end
theorem Inv.trackX {X:Cx} {pins:List (Addr × Obj)} {σ:L2.St} {H:Hp} {s:Shared} {a T C:Addr} {o:Obj} (I:L2.Inv X pins σ H s) (ap:ApX X pins H a T) {vs:Array Value} (he:s.heap.get? a = some o) (hc:o.cls = .ref C) (hd:o.data = .fields vs) (h2:vs[2]? = some .none):L2.Inv X pins σ (upd H a (ExO a C)) s:=by
 refine ⟨I.ok,I.os,I.bare,⟨I.base.keep,I.base.slot,fun b o' e n hx=>?_,I.base.there,fun b xs e=>?_,fun b o' u e=>?_,fun b ps e=>?_⟩,I.loc,I.cell,?_,fun x c e=>?_,fun p hp=>?_,?_,I.len⟩
 ·rw [zy (ap.s0 b o' e).1]; exact I.base.free b o' e n hx
 ·have z:=I.base.tups b xs e
  rw [zy (zx z ap.ha)]; exact z
 ·have z:=I.base.frzs b o' u e
  rw [zy (zx z ap.ha)]; exact z
 ·obtain ⟨more,z⟩:=I.base.tbls b ps e
  exact ⟨more,by rw [zy (zx z ap.ha)]; exact z⟩
 ·rw [zy ap.loc.1]; exact I.free
 ·rw [zy (ap.cel x c e).1]; exact I.freeC x c e
 ·obtain ⟨p1,p2,p3,p4,p5⟩:=I.pin p hp
  exact ⟨p1,by rw [zy (ap.pin p hp).1]; exact p2,p3,p4,p5⟩
 ·refine HOk.track I.hok ap.ha ⟨⟨o,he,hc,vs,hd,h2⟩,⟨o,he⟩,fun h1 h2 φ k=>?_⟩
  obtain ⟨o',e1,e2⟩:=φ
  exact ⟨o',k _ e1,e2⟩
def WH (i:Nat) (D:Ends):Ends:={ nx:=fun σ H=>D.nx (σ.set i none) H,rt:=D.rt,bk:=fun σ H=>D.bk (σ.set i none) H,ct:=fun σ H=>D.ct (σ.set i none) H }
def Um (n i:Nat) (K:FG7) (B:Addr) (E:XK) (tb:TS) (th:Addr -> TS):TS:=fun D σ H=>tb D σ H /\ ∀ (e C':Addr) (σ':L2.St) (H':Hp),σ'.length = n -> H' e = none -> E (.ref e) (some C') H' -> mroIn K C' (.ref B) = some true /\ th e (WH i D) (σ'.set i (some (.ref e))) (upd H' e (ExO e C'))
section
variable {X:Cx} {x y:Str} {C:Addr} {np hpos pos:Pos} {body suite:List Stmt} {b₀:Stmt} {tb:TS} {th:Addr -> TS} {E:XK} {i:Nat} {K:FG7}
theorem XW (hK:X.K = K) (hx:X.ex = []) (hstk:X.stack = X.env :: X.outer) (hf:X.env.frame = some X.env.locals) (O:ExcC X.K X.mg x C) (hg:Gl X x) (hN:X.N.Nodup) (hi:X.N[i]? = some y) (hy:X.env.kindOf y = some .local) (hy2:X.env.scope.names.lookup y = some .local)
  (hB:∀ ps,PSs (pinX X ps (YL X ps E)) body tb) (hS:∀ e,PSs (handX X e) (b₀ :: suite) (th e)) (hdb:(x == ("__debug__":Str)) = false:=by decide) :
  PS X (.Try body [.ExceptHandler (some (.Name x np)) (some y) (b₀ :: suite) hpos] [] [] pos) (Um X.N.length i K C E tb th):=by
 subst hK
 intro pins s σ H D I ⟨hb,hh⟩
 refine wpAny_Try_except (wpAny_mono (hB pins [] s σ H D (Inv.pinX I) hb) (fun f s1 h1=>?_) (fun ex s1 h1=>?_))
 ·have h2:=SP.unpin h1
  cases f with
  | next=>exact wpAny_execs_nil h2
  | brk=>exact h2
  | cont=>exact h2
  | ret u=>exact h2
 ·obtain ⟨a,T,C',σ',H',rfl,I1,trc,ap,q⟩:=h1
  have hfr:X.A.frames = some (X.env :: X.outer):=by rw [← hstk]; exact I.ok.frames
  have hst:s1.heap.FunFrames X.base (X.env :: X.outer):=by rw [← hstk]; exact I1.stack
  refine YK (base:=X.base) (outer:=X.outer) hfr hst hf trc fun h2 T2 l=>?_
  have l':Lft (frs X.stack) a T T2 (.ref C') s1.heap h2:=by rw [hstk]; exact l
  have I2:=Inv.left I1 hx ap l'
  have I3:Inv (handX X a) pins σ' H' { s1 with heap:=h2 }:=Inv.handX I2
  obtain ⟨tl,N,nm,q0,bs,hdct,sn,sub,ab,col,dd,k0,k1,k2,k3,k5,mN,hC,hNs,hni,TL⟩:=(O X.base I.mod.kin).obj
  obtain ⟨oe,vs,oT,ts,he,hcls,_⟩:=id l.trc
  have hn:H' a = none:=ap.ha
  obtain ⟨hup,q2⟩:=hh a C' σ' H' I1.len hn q
  refine wpAny_handleBy_cons (codeAny_handlers_test (uo (X:=handX X a) I3 hg (O X.base I.mod.kin).bound ?_ hdb)) (by intro q; cases q)
  refine sr I2.kIn (I2.bk _ _ hC) he hcls (TL.hasType PySem.F.excBase_ValueError.hasBase) hup (codeAny_handlers_suite_as ?_)
  refine ZD (s:={ s1 with heap:=h2 }) l.trc fun h3 hk trc3=>?_
  have hT2:H' T2 = none:=by
   cases r:H' T2 with
   | none=>rfl
   | some o =>
    obtain ⟨ob,z⟩:=yh.at (I1.hok T2 o r)
    rw [l.new] at z; cases z
  have ap2:ApX X pins H' T2 T2:=ApX.of I1 hx l.new l.new hT2 hT2
  have I4:=Inv.leftK I2 hx ap2 (h2:=h3) (fun b o _ n1 _ ho=>(hk b n1).trans ho) (fun b o _ n1 _ ho=>⟨o.slots,(hk b n1).trans ho⟩)
  obtain ⟨oe3,vs3,oT3,ts3,he3,hcls3,hd3,_,_,_,_,_,hv3⟩:=id trc3
  have I5:=Inv.trackX (C:=C') I4 ap he3 hcls3 hd3 hv3
  have I6:L2.Inv (handX X a) pins σ' (upd H' a (ExO a C')) { s1 with heap:=h3 }:=Inv.handX I5
  refine wO (X:=handX X a) (v:=.ref a) I6 hN hi (.inl hy2) rfl (fun s5 I7=>?_) (.inr hy2)
  refine wpAny_mono (hS a pins s5 _ _ (WH i D) I7 q2) (fun f s2 h=>?_) (fun _ _ z=>False.elim z)
  cases f with
  | next =>
   obtain ⟨σ2,H2,J,q3⟩:=h
   exact wY (Inv.unhand I.ok J) hN hi hy hy2 fun s' J'=>⟨_,H2,J',q3⟩
  | brk =>
   obtain ⟨σ2,H2,J,q3⟩:=h
   exact wY (Inv.unhand I.ok J) hN hi hy hy2 fun s' J'=>⟨_,H2,J',q3⟩
  | cont =>
   obtain ⟨σ2,H2,J,q3⟩:=h
   exact wY (Inv.unhand I.ok J) hN hi hy hy2 fun s' J'=>⟨_,H2,J',q3⟩
  | ret u =>
   obtain ⟨v,σ2,H2,J,r,q3⟩:=h
   exact wY (Inv.unhand I.ok J) hN hi hy hy2 fun s' J'=>⟨v,_,H2,J',r,q3⟩
end
theorem rK:bootBuiltins "ValueError" = some (.type "ValueError"):=by kernel_rfl
end L3
namespace L2
open PySem PySem.Spec PyProof.Rows
end L2
namespace L2
open PySem PySem.Spec PyProof.Rows
end L2
namespace L2
open PySem PySem.Spec PyProof.Rows
end L2
namespace L2
open PySem PySem.Spec PyProof.Rows
end L2
namespace L2
open PySem PySem.Spec PyProof.Rows
end L2
namespace L2
open PySem PySem.Spec PyProof.Rows
end L2
namespace L2
open PySem PySem.Spec PyProof.Rows
section
variable {κ:Type} [DecidableEq κ]
def valV (kvs:List (κ × V)) (k:κ):Option V:=(kvs.find? fun kv=>decide (kv.1 = k)).map (·.2)
def putK (kvs:List (κ × V)) (k:κ) (v:V):List (κ × V) :=
 if (kvs.any fun kv=>decide (kv.1 = k)) = true then kvs.map (fun kv=>if kv.1 = k then (kv.1,v) else kv) else kvs ++ [(k,v)]
def Uo (kvs:List (κ × V)) (k:κ):List (κ × V):=kvs.filter fun kv=>decide (kv.1 ≠ k)
theorem wZ {p:κ × V} {r:List (κ × V)} {k:κ} (e:p.1 = k):valV (p :: r) k = some p.2:=by simp [valV,List.find?_cons,e]
theorem wn {p:κ × V} {r:List (κ × V)} {k:κ} (e:¬ p.1 = k):valV (p :: r) k = valV r k:=by simp [valV,List.find?_cons,e]
theorem ss (k:κ):∀ kvs:List (κ × V),(kvs.any fun kv=>decide (kv.1 = k)) = (valV kvs k).isSome
 | []=>rfl
 | p :: r=>by
  rw [List.any_cons]
  by_cases e:p.1 = k
  ·simp only [wZ e,decide_eq_true e,Bool.true_or,Option.isSome_some]
  ·rw [wn e,decide_eq_false e,Bool.false_or]; exact ss k r
theorem wD (kvs:List (κ × V)) (k:κ) (v:V):(putK kvs k v).length <= kvs.length + 1:=by
 unfold putK
 split
 ·rw [List.length_map]; omega
 ·rw [List.length_append,List.length_cons,List.length_nil]; omega
theorem jY {kvs:List (κ × V)} {k:κ} (v:V) (h:valV kvs k = none):putK kvs k v = kvs ++ [(k,v)]:=by
 unfold putK
 rw [ss,h]
 exact if_neg (by decide)
theorem RelO.isSome_eq {o:Option V} {u:Option Value} (r:RelO o u):o.isSome = u.isSome:=by
 cases o with
 | none=>cases u with
  | none=>rfl
  | some _=>exact (show False from r).elim
 | some _=>cases u with
  | none=>exact (show False from r).elim
  | some _=>rfl
theorem RelO.getD {o:Option V} {u:Option Value} {d:V} {d':Value} (r:RelO o u) (rd:RelV d d'):RelV (o.getD d) (u.getD d'):=by
 cases o with
 | none=>cases u with
  | none=>exact rd
  | some _=>exact (show False from r).elim
 | some _=>cases u with
  | none=>exact (show False from r).elim
  | some _=>exact r
theorem KV.val {kvs:List (κ × V)} {vs:List (κ × Value)} (r:KV kvs vs) (k:κ):RelO (valV kvs k) (valueAt vs k):=by
 unfold KV at r
 induction r with
 | nil=>exact True.intro
 | @cons p q ps qs h t ih =>
  obtain ⟨h1,h2⟩:=h
  by_cases e:p.1 = k
  ·have e':q.1 = k:=h1.symm.trans e
   have b:valueAt (q :: qs) k = some q.2:=by simp [valueAt,List.find?_cons,e']
   rw [wZ e,b]; exact h2
  ·have e':¬ q.1 = k:=fun z=>e (h1.trans z)
   have b:valueAt (q :: qs) k = valueAt qs k:=by simp [valueAt,List.find?_cons,e']
   rw [wn e,b]; exact ih
theorem KV.any {kvs:List (κ × V)} {vs:List (κ × Value)} (r:KV kvs vs) (k:κ):(kvs.any fun kv=>decide (kv.1 = k)) = vs.any fun kv=>decide (kv.1 = k):=by
 unfold KV at r
 induction r with
 | nil=>rfl
 | cons h t ih=>rw [List.any_cons,List.any_cons,ih,h.1]
theorem KV.repl {kvs:List (κ × V)} {vs:List (κ × Value)} (r:KV kvs vs) (k:κ) {y:V} {u:Value} (ry:RelV y u) :
  KV (kvs.map fun kv=>if kv.1 = k then (kv.1,y) else kv) (vs.map fun kv=>if kv.1 = k then (kv.1,u) else kv):=by
 unfold KV at r ⊢
 induction r with
 | nil=>exact .nil
 | @cons p q ps qs h t ih =>
  rw [List.map_cons,List.map_cons]
  refine .cons ?_ ih
  obtain ⟨h1,h2⟩:=h
  by_cases e:p.1 = k
  ·rw [if_pos e,if_pos (h1.symm.trans e)]; exact ⟨h1,ry⟩
  ·rw [if_neg e,if_neg (fun z=>e (h1.trans z))]; exact ⟨h1,h2⟩
theorem KV.put {kvs:List (κ × V)} {vs:List (κ × Value)} (r:KV kvs vs) (k:κ) {y:V} {u:Value} (ry:RelV y u):KV (putK kvs k y) (stored vs k u):=by
 unfold putK stored
 rw [r.any k]
 by_cases e:(vs.any fun kv=>decide (kv.1 = k)) = true
 ·rw [if_pos e,if_pos e]; exact r.repl k ry
 ·rw [if_neg e,if_neg e]; exact Paired.snoc r ⟨rfl,ry⟩
theorem KV.drop {kvs:List (κ × V)} {vs:List (κ × Value)} (r:KV kvs vs) (k:κ):KV (Uo kvs k) (without vs k):=by
 unfold KV at r ⊢
 unfold Uo without
 induction r with
 | nil=>exact .nil
 | @cons p q ps qs h t ih =>
  obtain ⟨h1,h2⟩:=h
  rw [List.filter_cons,List.filter_cons]
  by_cases e:p.1 = k
  ·have a:¬ decide (p.1 ≠ k) = true:=by simp [e]
   have b:¬ decide (q.1 ≠ k) = true:=by simp [h1.symm.trans e]
   rw [if_neg a,if_neg b]; exact ih
  ·have e':¬ q.1 = k:=fun z=>e (h1.trans z)
   have a:decide (p.1 ≠ k) = true:=by simp [e]
   have b:decide (q.1 ≠ k) = true:=by simp [e']
   rw [if_pos a,if_pos b]; exact .cons ⟨h1,h2⟩ ih
theorem KV.keys {kvs:List (κ × V)} {vs:List (κ × Value)} (r:KV kvs vs):kvs.map (·.1) = vs.map (·.1):=by
 unfold KV at r
 induction r with
 | nil=>rfl
 | cons h t ih=>rw [List.map_cons,List.map_cons,ih,h.1]
theorem KV.length {kvs:List (κ × V)} {vs:List (κ × Value)} (r:KV kvs vs):kvs.length = vs.length:=Paired.length r
end
theorem XX {P:Program} {w:World} {k:Key} {u:Value} (r:RelV (kV k) u):(z8 P w).is k u = true:=by
 cases k with
 | inl i=>obtain ⟨t,e⟩:=(show ∃ t,u = Value.int i t from r); subst e; exact qF P w i t
 | inr x=>obtain ⟨t,e⟩:=(show ∃ t,u = Value.str x t from r); subst e; exact qG P w x t
theorem rL {P:Program} {w:World}:∀ {ks:List Key} {us:List Value},Vals (ks.map kV) us -> ItemsAre (z8 P w) ks us
 | [],_,r=>by rw [List.map_nil] at r; cases r; exact .nil
 | k :: ks,_,r=>by
  rw [List.map_cons] at r
  cases r with
  | cons h t=>exact .cons (XX h) (rL t)
abbrev KT (H:Hp):List (List Key × V) -> List (List Key × Addr × Value) -> Prop:=Paired fun p q=>p.1 = q.1 /\ H q.2.1 = some (.tup (p.1.map kV)) /\ RelV p.2 q.2.2
theorem KT.val {H:Hp} {kvs:List (List Key × V)} {xs:List (List Key × Addr × Value)} (r:KT H kvs xs) (k:List Key):RelO (valV kvs k) ((atKey xs k).map (·.2)):=by
 induction r with
 | nil=>exact True.intro
 | @cons p q ps qs h t ih =>
  obtain ⟨h1,_,h2⟩:=h
  by_cases e:p.1 = k
  ·have e':q.1 = k:=h1.symm.trans e
   have b:atKey (q :: qs) k = some q.2:=by simp [atKey,List.find?_cons,e']
   rw [wZ e,b]; exact h2
  ·have e':¬ q.1 = k:=fun z=>e (h1.trans z)
   have b:atKey (q :: qs) k = atKey qs k:=by simp [atKey,List.find?_cons,e']
   rw [wn e,b]; exact ih
theorem KT.repl {H:Hp} {kvs:List (List Key × V)} {xs:List (List Key × Addr × Value)} (r:KT H kvs xs) (k:List Key) {y:V} {u:Value} (ry:RelV y u) :
  KT H (kvs.map fun kv=>if kv.1 = k then (kv.1,y) else kv) (xs.map (putAt k u)):=by
 induction r with
 | nil=>exact .nil
 | @cons p q ps qs h t ih =>
  rw [List.map_cons,List.map_cons]
  refine .cons ?_ ih
  obtain ⟨h1,h2,h3⟩:=h
  unfold putAt
  by_cases e:p.1 = k
  ·rw [if_pos e,if_pos (h1.symm.trans e)]; exact ⟨h1,h2,ry⟩
  ·rw [if_neg e,if_neg (fun z=>e (h1.trans z))]; exact ⟨h1,h2,h3⟩
theorem KT.put {H:Hp} {kvs:List (List Key × V)} {xs:List (List Key × Addr × Value)} (r:KT H kvs xs) (k:List Key) {b:Addr} {y:V} {u:Value} (hb:H b = some (.tup (k.map kV))) (ry:RelV y u) :
  KT H (putK kvs k y) (storedH xs k b u):=by
 have e:(kvs.any fun kv=>decide (kv.1 = k)) = (atKey xs k).isSome:=by
  rw [ss,(r.val k).isSome_eq,Option.isSome_map]
 unfold putK storedH
 rw [e]
 by_cases q:(atKey xs k).isSome = true
 ·rw [if_pos q,if_pos q]; exact r.repl k ry
 ·rw [if_neg q,if_neg q]; exact Paired.snoc r ⟨rfl,hb,ry⟩
theorem KT.keeps {H H':Hp} {kvs:List (List Key × V)} {xs:List (List Key × Addr × Value)} (r:KT H kvs xs) (ht:∀ b ys,H b = some (.tup ys) -> H' b = some (.tup ys)):KT H' kvs xs :=
 Paired.mapP r fun _ _ z=>⟨z.1,ht _ _ z.2.1,z.2.2⟩
section
variable {P:Program} {w:World} {H:Hp} {h:Heap} {a:Addr}
theorem Up {u:HO} (ok:HOk P w H h) (e:Rd H a u):yh P w H h a u:=e.ok ok
theorem XY {kvs:List (Key × V)} (ok:HOk P w H h) (e:Rd H a (.dK kvs)):kvs.length <= sizeLine /\ (a == sysModules) = false /\ ∃ vs,KV kvs vs /\ h.DictOf (z8 P w) a vs :=
 show yh P w H h a (.dK kvs) from Up ok e
theorem Tb {kvs:List (Key × V)} (ok:HOk P w H h) (e:H a = some (.dK kvs)):kvs.length <= sizeLine /\ (a == sysModules) = false /\ ∃ vs,KV kvs vs /\ h.DictOf (z8 P w) a vs:=XY ok (.inl e)
theorem uK {ks:List Key} (ok:HOk P w H h) (e:H a = some (.tup (ks.map kV))):(tupleKind (z8 P w)).is h ks a:=by
 obtain ⟨_,its,r,o,h1,h2,n,h3⟩:=(show yh P w H h a (.tup (ks.map kV)) from ok a _ e)
 exact ⟨o,its.toArray,n,h1,h2,h3,by simpa using rL r⟩
theorem XZ {kvs:List (List Key × V)} (ok:HOk P w H h) (e:Rd H a (.dT kvs)):kvs.length <= sizeLine /\ (a == sysModules) = false ∧
  ∃ xs,KT H kvs xs /\ h.DictOfH (tupleKind (z8 P w)) a xs:=by
 obtain ⟨z,y,xs,r,o,es,ep,h1,h2,h3,h4,h5⟩:=(show yh P w H h a (.dT kvs) from Up ok e)
 refine ⟨z,y,xs,r,o,es,ep,h1,h2,h3,h4,fun x hx=>?_,h5⟩
 have all:∀ {l:List (List Key × V)} {m:List (List Key × Addr × Value)},KT H l m -> ∀ x ∈ m,(tupleKind (z8 P w)).is h x.1 x.2.1:=by
  intro l m q
  induction q with
  | nil=>intro x hx; exact nomatch hx
  | @cons p q ps qs hq t ih =>
   intro x hx
   rcases List.mem_cons.mp hx with e | hx
   ·subst e
    exact uK ok (by rw [← hq.1]; exact hq.2.1)
   ·exact ih x hx
 exact all r x hx
theorem YN {kvs:List (List Key × V)} (ok:HOk P w H h) (e:H a = some (.dT kvs)):kvs.length <= sizeLine /\ (a == sysModules) = false ∧
  ∃ xs,KT H kvs xs /\ h.DictOfH (tupleKind (z8 P w)) a xs:=XZ ok (.inl e)
end
def DGet (H:Hp) (a:Addr) (y:V) (r:Option V):Prop :=
 (∃ kvs k,Rd H a (.dK kvs) /\ y = kV k /\ r = valV kvs k) \/ ∃ kvs k b,Rd H a (.dT kvs) /\ y = .ref b /\ H b = some (.tup (k.map kV)) /\ r = valV kvs k
def DPut (H:Hp) (a:Addr) (y v:V) (H':Hp):Prop :=
 (∃ kvs k,H a = some (.dK kvs) /\ y = kV k /\ kvs.length < sizeLine /\ H' = upd H a (.dK (putK kvs k v))) ∨
 ∃ kvs k b,H a = some (.dT kvs) /\ y = .ref b /\ H b = some (.tup (k.map kV)) /\ kvs.length < sizeLine /\ H' = upd H a (.dT (putK kvs k v))
theorem DGet.k {H:Hp} {a:Addr} {kvs:List (Key × V)} {k:Key} (e:H a = some (.dK kvs)):DGet H a (kV k) (valV kvs k):=.inl ⟨kvs,k,.inl e,rfl,rfl⟩
theorem DGet.t {H:Hp} {a b:Addr} {kvs:List (List Key × V)} {k:List Key} (e:H a = some (.dT kvs)) (eb:H b = some (.tup (k.map kV))):DGet H a (.ref b) (valV kvs k):=.inr ⟨kvs,k,b,.inl e,rfl,eb,rfl⟩
theorem DPut.k {H:Hp} {a:Addr} {kvs:List (Key × V)} {k:Key} {v:V} (e:H a = some (.dK kvs)) (hl:kvs.length < sizeLine):DPut H a (kV k) v (upd H a (.dK (putK kvs k v))):=.inl ⟨kvs,k,e,rfl,hl,rfl⟩
theorem DPut.t {H:Hp} {a b:Addr} {kvs:List (List Key × V)} {k:List Key} {v:V} (e:H a = some (.dT kvs)) (eb:H b = some (.tup (k.map kV))) (hl:kvs.length < sizeLine) :
  DPut H a (.ref b) v (upd H a (.dT (putK kvs k v))):=.inr ⟨kvs,k,b,e,rfl,eb,hl,rfl⟩
section
variable {X:Cx} {pins:List (Addr × Obj)} {σ:St} {H:Hp} {s:Shared} {a:Addr} {y v:V} {u r:Value} {o:Option V} {A:Around} {E:VS7}
theorem Inv.big (I:Inv X pins σ H s):sysModules < s.heap.objs.size:=by
 have h:mainGlobals < s.heap.objs.size:=(I.mod.glob.keeps I.bk).lt
 exact Nat.lt_trans (by decide) h
theorem YO {Q:VS7} (hu:A.units + 1 < cLine) (I:Inv X pins σ H s) (g:DGet H a y (some v)) (ry:RelV y u) (h:∀ w' s',Inv X pins σ H s' -> RelV v w' -> Q w' s') :
  wpAny (model X.prog X.w) A (getItem (.ref a) u) Q E s:=by
 rcases g with ⟨kvs,k,e,ey,l⟩ | ⟨kvs,k,b,e,ey,eb,l⟩
 ·subst ey
  obtain ⟨z,hd,vs,rel,dd⟩:=XY I.hok e
  obtain ⟨w',hw,rw'⟩:=RelO.some_of (v:=v) (o:=valueAt vs k) (by rw [l]; exact rel.val k)
  exact wpAny_getItem_of (XX ry) dd.mapOf hw (h w' _ (I.tok _) rw')
 ·subst ey
  cases (show u = Value.ref b from ry)
  obtain ⟨z,hd,xs,rel,dd⟩:=XZ I.hok e
  obtain ⟨w',hw,rw'⟩:=RelO.some_of (v:=v) (o:=(atKey xs k).map (·.2)) (by rw [l]; exact rel.val k)
  obtain ⟨p,hp,hp2⟩:=Option.map_eq_some_iff.mp hw
  refine wpAny_getItem_heap (tupleKind_room_in1 hu) (uK I.hok eb) dd hp ?_
  rw [hp2]
  exact h w' _ (I.tok _) rw'
theorem Vh {Q:VS7} (hu:A.units + 1 < cLine) (I:Inv X pins σ H s) (g:DGet H a y o) (ry:RelV y u) (h:∀ s',Inv X pins σ H s' -> Q (.bool (!o.isSome)) s') :
  wpAny (model X.prog X.w) A (compareOp .NotIn u (.ref a)) Q E s:=by
 rcases g with ⟨kvs,k,e,ey,l⟩ | ⟨kvs,k,b,e,ey,eb,l⟩
 ·subst ey
  obtain ⟨z,hd,vs,rel,dd⟩:=XY I.hok e
  refine wpAny_notIn_of (XX ry) hd dd.mapOf ?_
  rw [← (rel.val k).isSome_eq,← l]
  exact h _ (I.tok _)
 ·subst ey
  cases (show u = Value.ref b from ry)
  obtain ⟨z,hd,xs,rel,dd⟩:=XZ I.hok e
  refine wpAny_notIn_heap (tupleKind_room_in1 hu) (uK I.hok eb) hd dd ?_
  have q:=(rel.val k).isSome_eq
  rw [Option.isSome_map] at q
  rw [← q,← l]
  exact h _ (I.tok _)
theorem qZ {h':Heap} {t':Nat} {ob:HO} (I:Inv X pins σ H s) (mu:Mut (H a)) (hs:Heap.SameBut a s.heap h') (he:∃ q,h'.get? a = some q) (new:yh X.prog X.w (upd H a ob) h' a ob) :
  Inv X pins σ (upd H a ob) { s with heap:=h',toks:=t' } :=
 I.write (x:=a) (e:=a) mu (.inl rfl) (fun b q hb z=>(hs.2 b hb).trans z) he new
theorem Uq {P:Program} {w:World} {H':Hp} {h':Heap} {kvs:List (Key × V)} {vs:List (Key × Value)} (z:kvs.length <= sizeLine) (hd:(a == sysModules) = false) (rel:KV kvs vs) (dd:h'.DictOf (z8 P w) a vs) :
  yh P w H' h' a (.dK kvs):=⟨z,hd,vs,rel,dd⟩
theorem YQ {H':Hp} {Q:Unit -> Shared -> Prop} (hu:A.units + 1 < cLine) (I:Inv X pins σ H s) (g:DPut H a y v H') (ry:RelV y u) (rv:RelV v r) (h:∀ s',Inv X pins σ H' s' -> Q () s') :
  wpAny (model X.prog X.w) A (setItem (.ref a) u r) Q E s:=by
 rcases g with ⟨kvs,k,e,ey,l,eH⟩ | ⟨kvs,k,b,e,ey,eb,l,eH⟩
 ·subst ey eH
  obtain ⟨z,hd,vs,rel,dd⟩:=Tb I.hok e
  have hz:vs.length <= sizeLine:=by rw [← rel.length]; exact z
  have hl:(putK kvs k v).length <= sizeLine:=by have:=wD kvs k v; omega
  refine wpAny_setItem_pairs (hsz:=hz) (XX ry) dd fun h' dd' hs=>h _ ?_
  have he:∃ q,h'.get? a = some q:=let ⟨q,_,_,hq,_⟩:=dd'; ⟨q,hq⟩
  exact qZ I (by rw [e]; exact True.intro) hs he (Uq hl hd (rel.put k rv) dd')
 ·subst ey eH
  cases (show u = Value.ref b from ry)
  obtain ⟨z,hd,xs,rel,dd⟩:=YN I.hok e
  have hz:xs.length <= sizeLine:=by rw [← Paired.length rel]; exact z
  have hl:(putK kvs k v).length <= sizeLine:=by have:=wD kvs k v; omega
  refine wpAny_setItem_heap (hsz:=hz) (tupleKind_room_in1 hu) (uK I.hok eb) dd fun h' dd' hs=>h _ ?_
  obtain ⟨q,es,ep,hq,h2,h3,h4,_,h5⟩:=dd'
  refine qZ I (by rw [e]; exact True.intro) hs ⟨q,hq⟩ ⟨hl,hd,_,(rel.put k eb rv).keeps fun c ys ec=>?_,q,es,ep,hq,h2,h3,h4,h5⟩
  rw [zy (VN ec e (fun z=>nomatch z))]
  exact ec
end
def NoSl (i:Expr):Prop:=∀ ov iv,subscripted i false ov iv = operate [ov,iv] (getItem ov iv)
theorem Vi {prog:Program} {w:World} {A:Around} {E:VS7} {s:Shared} {env:Env} {value slice:Expr} {pos:Pos} {T id:String} {Q:VS7}
  (hl:typeLookup (.type T) "__getitem__" = pure (some (.builtin id))) (hs:NoSl slice)
  (h:wpAny (model prog w) A (eval value env) (fun o s₁=>wpAny (model prog w) A (eval slice env) (fun i s₂=>s₂.TypeIs o T /\ wpAny (model prog w) A (getItem o i) Q E s₂) E s₁) E s) :
  wpAny (model prog w) A (eval (.Subscript value slice pos) env) Q E s:=by
 refine Subscript_ (wpAny_mono h (fun o s₁ h₁=>wpAny_mono h₁ (fun i s₂ h₂=>?_) fun _ _ x=>x) fun _ _ x=>x)
 obtain ⟨hT,h₂⟩:=h₂
 unfold subscriptTail
 refine wpAny_bind ?_
 rw [getitemInPython_of_ne hT.not_modules]
 refine wpAny_bind (wpAny_specialOf hT hl ?_)
 have fin:wpAny (model prog w) A (subscripted slice false o i) (fun r s₃=>wpAny (model prog w) A (letTemporaryGo value o r >>= fun _=>pure r) Q E s₃) E s₂:=by
  rw [hs o i]
  exact wpAny_operating (wpAny_mono h₂ (fun r s₃ h₃=>wpAny_bind (wpAny_letTemporaryGo (wpAny_pure h₃))) fun _ _ x=>x)
 first
  | exact wpAny_pure (wpAny_bind fin)
  | exact wpAny_bind (wpAny_pure (wpAny_bind fin))
  | exact wpAny_bind fin
theorem q9 {X:Cx} {pins:List (Addr × Obj)} {σ:St} {H:Hp} {s:Shared} {a:Addr} {y:V} {o:Option V} (I:Inv X pins σ H s) (g:DGet H a y o):s.TypeIs (.ref a) "dict":=by
 rcases g with ⟨kvs,k,e,_,_⟩ | ⟨kvs,k,b,e,_,_,_⟩
 ·obtain ⟨_,_,vs,_,dd⟩:=XY I.hok e
  exact dd.typeIs
 ·obtain ⟨_,_,xs,_,dd⟩:=XZ I.hok e
  exact dd.typeIs
def Tc (td ty:TE):TE:=fun σ H Q=>td σ H fun x H1=>ty σ H1 fun y H2=>∃ a v,x = .ref a /\ DGet H2 a y (some v) /\ Q v H2
def Vj (ty td:TE):TE:=fun σ H Q=>ty σ H fun y H1=>td σ H1 fun x H2=>∃ a o,x = .ref a /\ DGet H2 a y o /\ Q (.bl (!o.isSome)) H2
def Td (td ty tv:TE):TS:=fun D σ H=>tv σ H fun v H1=>td σ H1 fun x H2=>ty σ H2 fun y H3=>∃ a H4,x = .ref a /\ DPut H3 a y v H4 /\ D.nx σ H4
section
variable {X:Cx} {o i e value:Expr} {pos pos' tpos:Pos} {td ty tv:TE}
theorem YR (hu:X.A.units + 1 < cLine) (ho:PE X o td) (hi:PE X i ty) (hs:NoSl i):PE X (.Subscript o i pos) (Tc td ty):=by
 intro pins s σ H Q I h
 refine Vi PySem.F.slot_dict_getitem.lookup hs (thn (ho pins s σ H _ I h) fun u s1 ⟨x,H1,I1,rx,q1⟩=>thn (hi pins s1 σ H1 _ I1 q1) fun iv s2 ⟨y,H2,I2,ry,a,v,ex,g,q2⟩=>?_)
 subst ex
 obtain rfl:u = Value.ref a:=rx
 exact ⟨q9 I2 g,YO hu I2 g ry fun w' s3 I3 rw'=>⟨v,H2,I3,rw',q2⟩⟩
theorem YS (hu:X.A.units + 1 < cLine) (hi:PE X i ty) (ho:PE X o td):PC X .NotIn i o (Vj ty td):=by
 intro pins s σ H Q I h
 refine thn (hi pins s σ H _ I h) fun iv s1 ⟨y,H1,I1,ry,q1⟩=>thn (ho pins s1 σ H1 _ I1 q1) fun u s2 ⟨x,H2,I2,rx,a,ov,ex,g,q2⟩=>?_
 subst ex
 obtain rfl:u = Value.ref a:=rx
 exact Vh hu I2 g ry fun s3 I3=>⟨.bl (!ov.isSome),H2,I3,rfl,q2⟩
theorem Vk (hu:X.A.units + 1 < cLine) (ho:PE X o td) (hi:PE X i ty) (hv:PE X value tv) (hs:swapsWith value (some (.Subscript o i pos')) pos.line X.env = pure false) :
  PS X (.Assign [.Subscript o i pos'] value pos) (Td td ty tv):=by
 intro pins s σ H D I h
 refine wpAny_Assign_Subscript (thn (hv pins s σ H _ I h) fun r s1 ⟨v,H1,I1,rv,q1⟩=>thn (ho pins s1 σ H1 _ I1 q1) fun u s2 ⟨x,H2,I2,rx,q2⟩=>thn (hi pins s2 σ H2 _ I2 q2) fun iv s3 ⟨y,H3,I3,ry,a,H4,ex,g,q3⟩=>?_) hs
 subst ex
 obtain rfl:u = Value.ref a:=rx
 exact YQ hu I3 g ry rv fun s4 I4=>⟨σ,H4,I4,q3⟩
end
theorem jZ {P:Program} {w:World} {H:Hp} (h:Heap) (hb:sysModules < h.objs.size):yh P w H (h.push { cls:=.type "dict",data:=.dict #[] }) h.objs.size (.dT []) :=
 ⟨Nat.zero_le _,beq_eq_false_iff_ne.mpr (Ne.symm (Nat.ne_of_lt hb)),[],.nil,_,#[],0,Heap.get?_push_size _ rfl,⟨rfl,rfl,rfl⟩,rfl,rfl,List.nodup_nil⟩
structure M1 (X:Cx) (o:Expr) (m:Str) (apos:Pos) (e:Expr) (cpos:Pos):Prop where
 base:attributeBase o m X.env (eval o X.env) = eval o X.env
 few:((backTo cpos (starEach [e] X.env)).all (fun x=>!x.1) && (backToKw cpos (keywordEach [] X.env)).all (fun x=>x.1.isSome)
  && decide (([e]:List Expr).length + ([]:List Keyword).length + (if ([]:List Keyword).isEmpty then 0 else 1) < 30)) = true
 line:(apos.endLine == cpos.line) = true
 trees:backTo cpos (starEach [e] X.env) = [(false,eval e X.env)]
structure M2 (X:Cx) (o:Expr) (m:Str) (apos:Pos) (e f:Expr) (cpos:Pos):Prop where
 base:attributeBase o m X.env (eval o X.env) = eval o X.env
 few:((backTo cpos (starEach [e,f] X.env)).all (fun x=>!x.1) && (backToKw cpos (keywordEach [] X.env)).all (fun x=>x.1.isSome)
  && decide (([e,f]:List Expr).length + ([]:List Keyword).length + (if ([]:List Keyword).isEmpty then 0 else 1) < 30)) = true
 line:(apos.endLine == cpos.line) = true
 trees:backTo cpos (starEach [e,f] X.env) = [(false,eval e X.env),(false,eval f X.env)]
end L2
namespace Att
open PySem PySem.W PySem.Calls PyProof.Rows
end Att
namespace L2
open PySem PySem.Spec PyProof.Rows
end L2
namespace L3
open PySem PySem.Spec PyProof.Rows L2
section
variable {prog:Program} {w:World} {κ:Type} [DecidableEq κ] {knd:HeapKind prog w κ} {A:Around} {E:VS7} {s:Shared}
theorem ZE (d:Addr) (hd:(d == sysModules) = false) :
  MeetsIn prog w (Builtin.«dict.__len__» ⟨[.ref d],[]⟩) (fun _ R s=>∃ xs,s.heap.DictOfH knd d xs /\ R (.ok (.ret (.int xs.length s.toks))) { s with toks:=s.toks + 1 }) :=
 .of_wp fun A R s ⟨xs,hm,h⟩=>by
  obtain ⟨o,es,ep,ho,hc,hdat,he,_,_⟩:=hm
  show wpAny _ _ (dictSize d >>= _) _ _ s
  unfold dictSize
  refine wpAny_bind (wpAny_bind (wpAny_dictEntries ho hdat (wpAny_pure ?_)))
  show wpAny _ _ (Builtin.Dict.pendingCount d >>= _) _ _ s
  refine wpAny_bind (wpAny_pendingCount_other hd ?_)
  refine wpAny_ret_mkInt ?_
  rw [Nat.add_zero,size_of_entries he]; exact h
theorem YT {d:Addr} {xs:List (κ × Addr × Value)} {Q:VS7} (hd:(d == sysModules) = false) (hm:s.heap.DictOfH knd d xs) (hfit:(xs.length:Int) < 2 ^ 63)
  (h:Q (.int xs.length (s.toks + 1)) { s with toks:=s.toks + 1 + 1 }):wpAny (model prog w) A (Builtin.«len» ⟨[.ref d],[]⟩) (fun fin s'=>∃ r,fin = .done (.ret r) /\ Q r s') E s:=by
 unfold Builtin.«len»
 refine wpAny_bind (m:=oneArg "len" _) (wpAny_pure ?_)
 refine wpAny_bind (m:=callSpecial? (.ref d) (Str.ofString "__len__")) (wpAny_callSpecial?_slot (name:=Str.ofString "__len__") hm.typeIs F.slot_dict_len
  (call_meetsIn F.slot_dict_len hm.typeIs F.entry_dict_len (F.args_dict_len_1 _) (ZE (knd:=knd) d hd) ⟨xs,hm,?_⟩))
 show wpAny _ _ _ _ _ { s with toks:=s.toks + 1 }
 refine wpAny_bind (wpAny_holding (wpAny_pure ?_))
 refine wpAny_bind (wpAny_letGo ?_)
 show wpAny _ _ (if ((xs.length:Nat):Int) < 0 then _ else _) _ _ _
 rw [if_neg (by omega)]
 show wpAny _ _ (if ((xs.length:Nat):Int) >= 2 ^ 63 then _ else _) _ _ _
 rw [if_neg (by omega)]
 exact wpAny_bind (wpAny_mkInt (wpAny_pure ⟨_,rfl,h⟩))
end
section
variable {X:Cx}
theorem ZF:xO X (.builtin "len") (fun xs H Q=>∃ a kvs,xs = [V.ref a] /\ H a = some (.dT kvs) /\ Q (.int kvs.length) H):=by
 intro pins s σ H xs us Q I r h
 obtain ⟨a,kvs,rfl,ha,q⟩:=h
 obtain ⟨u,rfl,ru⟩:=wR r
 cases ru
 obtain ⟨z,hd,ys,rel,dd⟩:=YN I.hok ha
 have hl:kvs.length = ys.length:=Paired.length rel
 refine Calls.call_function_entry kind_len plain_len entry_len (args_len1 _) (YT hd dd (by rw [← hl]; rw [sizeLine_eq] at z; omega) ?_)
 rw [← hl]
 exact ⟨.int kvs.length,H,I.tok _,⟨_,rfl⟩,q⟩
end
def Vl (tk tv:TE):TE:=fun σ H Q=>∀ p,H p = none -> tk σ (upd H p (.dT [])) fun y H1=>tv σ H1 fun v H2=>H2 p = some (.dT []) /\ ∃ b ks,y = .ref b /\ H2 b = some (.tup (ks.map kV)) /\ Q (.ref p) (upd H2 p (.dT [(ks,v)]))
section
variable {X:Cx} {pos:Pos} {k v:Expr} {tk tv:TE}
theorem YU (hu:X.A.units + 1 < cLine) (hk:PE X k tk) (hv:PE X v tv):PE X (.Dict [some k] [v] pos) (Vl tk tv):=by
 intro pins s σ H Q I q
 have hn:=I.hok.fresh (Nat.le_refl s.heap.objs.size)
 have I1:=I.laid (a:=s.heap.objs.size) (o:=.dT []) (h':=s.heap.push { cls:=.type "dict",data:=.dict #[] }) (t':=s.toks) (fun _ _ q=>Heap.get?_push_of_some _ q) (Nat.le_refl _) (jZ s.heap I.big)
 rw [arm_eval_Dict,zip_pairTrees [some k] [v] X.env pos rfl rfl,dictDisplay_pairs (pairTrees [some k] [v] X.env pos) (by intro z; cases z) (show 1 < 17 by decide)]
 refine wpAny_bind (wpAny_standAt (wpAny_bind ?_))
 unfold subDict
 refine wpAny_bind (wpAny_alloc ?_)
 refine wpAny_bind (wpAny_holding ?_)
 rw [if_pos (show (pairTrees [some k] [v] X.env pos).length <= 15 from (show 1 <= 15 by decide))]
 refine wpAny_bind (pairTrees_cons_walk (thn (hk pins _ σ _ _ I1 (q _ hn)) fun kv s1 ⟨y,H1,I2,ry,q1⟩=>thn (hv pins s1 σ H1 _ I2 q1) fun vv s2 ⟨vV,H2,I3,rv,e,b,ks,ey,eb,q2⟩=>pairTrees_nil_walk ?_))
 subst ey
 cases (show kv = Value.ref b from ry)
 obtain ⟨z,hd,xs,rel,dd⟩:=YN I3.hok e
 cases rel
 refine wpAny_holding ?_
 rw [List.forIn_cons]
 refine wpAny_bind (wpAny_bind (wpAny_bind (wpAny_dictSet_heap (hsz:=Nat.zero_le _) (show (tupleKind (z8 X.prog X.w)).room X.A from Nat.lt_of_succ_lt hu) (uK I3.hok eb) dd fun h' dd' hs=>wpAny_pure ?_)))
 show wpAny _ _ (forIn [] _ _) _ _ _
 rw [List.forIn_nil]
 first
  | refine wpAny_pure (wpAny_pure (wpAny_pure (wpAny_pure ⟨.ref s.heap.objs.size,_,?_,rfl,q2⟩)))
  | refine wpAny_pure (wpAny_pure (wpAny_pure ⟨.ref s.heap.objs.size,_,?_,rfl,q2⟩))
 obtain ⟨qo,es,ep,hq,h2,h3,h4,_,h5⟩:=dd'
 refine qZ I3 (by rw [e]; exact True.intro) hs ⟨qo,hq⟩ ⟨by show 1 <= _; rw [sizeLine_eq]; decide,hd,_,(KT.put .nil ks eb rv).keeps fun c ys ec=>?_,qo,es,ep,hq,h2,h3,h4,h5⟩
 rw [zy (VN ec e (fun z=>nomatch z))]
 exact ec
end
open PySem PySem.Spec PyProof.Rows L2 PySem.W
def xK (es:Array DictEntry) (d:Addr) (ep:Nat) (h:Heap):Prop:=∃ o,h.get? d = some o /\ o.ExactDict /\ o.data = .dict es ep
section
variable {prog:Program} {w:World} {A:Around} {E:VS7} {s:Shared} {es:Array DictEntry} {d it:Addr} {ep i:Nat}
theorem xK.typeIs (h:xK es d ep s.heap):s.TypeIs (.ref d) "dict":=let ⟨o,ho,hc,_⟩:=h; ⟨o,ho,hc.1⟩
theorem xK.keep {h h':Heap} (x:xK es d ep h) (e:∀ o,h.get? d = some o -> h'.get? d = some o):xK es d ep h':=let ⟨o,ho,r⟩:=x; ⟨o,e o ho,r⟩
theorem X1 {Q:VS7} (hd:(d == sysModules) = false) (hm:xK es d ep s.heap)
  (hQ:Q (.ref s.heap.objs.size) { s with heap:=s.heap.push { cls:=.type "dict_keyiterator",data:=.fields #[.ref d,.int 0 0,.int es.size 0,.int ep 0] } }) :
  wpAny (model prog w) A (pyIter (.ref d)) Q E s:=by
 obtain ⟨o,ho,hc,hdat⟩:=id hm
 have hT:s.TypeIs (.ref d) "dict":=hm.typeIs
 refine wpAny_pyIter_slot hT PySem.F.slot_dict_iter (wpAny_call_entry PySem.F.slot_dict_iter hT PySem.F.entry_dict_iter ?_ (PySem.F.args_dict_iter_1 _))
 unfold Builtin.«dict.__iter__»
 refine wpAny_bind ?_
 unfold Builtin.Dict.dictSlotNone
 refine wpAny_bind (wpAny_notOrdered_dict hT ?_)
 show wpAny _ _ (pure (Value.ref d)) _ _ s
 refine wpAny_pure ?_
 show wpAny _ _ (Builtin.Dict.showsAll d >>= _) _ _ s
 unfold Builtin.Dict.showsAll
 rw [if_neg (by rw [hd]; exact Bool.false_ne_true)]
 refine wpAny_bind (wpAny_pure ?_)
 refine wpAny_bind (wpAny_dictEntries ho hdat ?_)
 refine wpAny_bind (wpAny_dictEpoch ho hdat ?_)
 refine wpAny_bind (wpAny_newObj_type (wpAny_pure ⟨_,rfl,"dict_keyiterator",_,⟨_,Heap.get?_push_size _ rfl,rfl⟩,PySem.F.slot_dict_keyiterator_next.lookup,?_⟩))
 simpa [rawInt] using hQ
theorem X2 {Q:Option Value -> Shared -> Prop} (hit:s.heap.IsKeyIter it d i es.size ep) (hm:xK es d ep s.heap) (hlt:i < es.size)
  (hQ:∀ h',h'.IsKeyIter it d (i + 1) es.size ep -> Heap.SameBut it s.heap h' -> Q (some es[i].key) { s with heap:=h' }) :
  wpAny (model prog w) A (pyNext (.ref it)) Q E s:=by
 obtain ⟨o,ho,hc,hd⟩:=id hit
 obtain ⟨od,hod,hcd,hdd⟩:=id hm
 unfold pyNext
 refine wpAny_bind (wpAny_attempt (wpAny_callSpecial?_slot (name:=Str.ofString "__next__") hit.typeIs PySem.F.slot_dict_keyiterator_next
  (wpAny_call_entry PySem.F.slot_dict_keyiterator_next hit.typeIs PySem.F.entry_dict_keyiterator_next ?_ (PySem.F.args_dict_keyiterator_next_1 _))))
 refine wpAny_bind (wpAny_pure ?_)
 refine wpAny_bind ?_
 refine wpAny_bind ?_
 first | refine wpAny_bind (wpAny_typeNameOfWhole_keyiter hit.typeIs (wpAny_pure ?_)) | refine wpAny_bind (wpAny_typeNameOf_keyiter hit.typeIs (wpAny_pure ?_))
 refine wpAny_bind (wpAny_fieldsOf ho hd ?_)
 have hown:Builtin.Dict_items.ownsTuple "dict_keyiterator" = false:=by decide
 simp only [hown,Bool.false_eq_true,if_false]
 show wpAny _ _ (if (Value.ref d == Value.none) = true then _ else _) _ _ s
 rw [if_neg (show ¬ ((Value.ref d == Value.none) = true) from Bool.false_ne_true)]
 refine wpAny_bind (wpAny_pure ?_)
 refine wpAny_bind (wpAny_dictEntries hod hdd ?_)
 rw [if_neg (by simp)]
 refine wpAny_bind (wpAny_pure ?_)
 refine wpAny_bind (wpAny_dictEpoch hod hdd ?_)
 rw [if_neg (by simp)]
 refine wpAny_pure ?_
 simp only [show ¬ ((i:Int) < 0) from by omega,if_false,Int.toNat_natCast,Array.getElem?_eq_getElem hlt]
 refine wpAny_bind ?_
 first | refine wpAny_bind (wpAny_typeNameOfWhole_keyiter hit.typeIs (wpAny_pure ?_)) | refine wpAny_bind (wpAny_typeNameOf_keyiter hit.typeIs (wpAny_pure ?_))
 refine wpAny_bind (wpAny_isOneOf_keyiter hit.typeIs ?_)
 show wpAny _ _ (setField (.ref it) 1 (rawInt ((i:Int) + 1)) >>= _) _ _ s
 refine wpAny_bind (wpAny_setField ho hd (by simp) ?_)
 have hit':(s.heap.update it (Obj.mapFields (·.setIfInBounds 1 (rawInt ((i:Int) + 1))))).IsKeyIter it d (i + 1) es.size ep :=
  ⟨_,Heap.get?_update_self _ ho (Obj.isFreed_of_fields (Obj.data_mapFields hd _)),(Obj.cls_mapFields ..).trans hc,by rw [Obj.data_mapFields hd]; simp [rawInt]⟩
 refine wpAny_bind (wpAny_holding ?_)
 refine wpAny_bind (wpAny_isOneOf_keyiter (s:={ s with heap:=s.heap.update it (Obj.mapFields (·.setIfInBounds 1 (rawInt ((i:Int) + 1)))) }) hit'.typeIs ?_)
 show wpAny _ _ (pure es[i].key) _ _ _
 exact wpAny_pure (wpAny_pure ⟨_,rfl,wpAny_pure (hQ _ hit' (Heap.SameBut.update ..))⟩)
theorem Vm {Q:Option Value -> Shared -> Prop} (hh:A.handled = none) (hit:s.heap.IsKeyIter it d es.size es.size ep) (hm:xK es d ep s.heap)
  (hQ:∀ h',Heap.ExtBut it s.heap h' -> Q none { s with heap:=h' }):wpAny (model prog w) A (pyNext (.ref it)) Q E s:=by
 obtain ⟨o,ho,hc,hd⟩:=id hit
 obtain ⟨od,hod,hcd,hdd⟩:=id hm
 unfold pyNext
 refine wpAny_bind (wpAny_attempt (wpAny_callSpecial?_slot (name:=Str.ofString "__next__") hit.typeIs PySem.F.slot_dict_keyiterator_next
  (wpAny_call_entry PySem.F.slot_dict_keyiterator_next hit.typeIs PySem.F.entry_dict_keyiterator_next ?_ (PySem.F.args_dict_keyiterator_next_1 _))))
 refine wpAny_bind (wpAny_pure ?_)
 refine wpAny_bind ?_
 refine wpAny_bind ?_
 first | refine wpAny_bind (wpAny_typeNameOfWhole_keyiter hit.typeIs (wpAny_pure ?_)) | refine wpAny_bind (wpAny_typeNameOf_keyiter hit.typeIs (wpAny_pure ?_))
 refine wpAny_bind (wpAny_fieldsOf ho hd ?_)
 have hown:Builtin.Dict_items.ownsTuple "dict_keyiterator" = false:=by decide
 simp only [hown,Bool.false_eq_true,if_false]
 show wpAny _ _ (if (Value.ref d == Value.none) = true then _ else _) _ _ s
 rw [if_neg (show ¬ ((Value.ref d == Value.none) = true) from Bool.false_ne_true)]
 refine wpAny_bind (wpAny_pure ?_)
 refine wpAny_bind (wpAny_dictEntries hod hdd ?_)
 rw [if_neg (by simp)]
 refine wpAny_bind (wpAny_pure ?_)
 refine wpAny_bind (wpAny_dictEpoch hod hdd ?_)
 rw [if_neg (by simp)]
 refine wpAny_pure ?_
 simp only [show ¬ ((es.size:Int) < 0) from by omega,if_false,Int.toNat_natCast,Array.getElem?_eq_none (Nat.le_refl es.size)]
 refine wpAny_bind ?_
 first | refine wpAny_bind (wpAny_typeNameOfWhole_keyiter hit.typeIs (wpAny_pure ?_)) | refine wpAny_bind (wpAny_typeNameOf_keyiter hit.typeIs (wpAny_pure ?_))
 show wpAny _ _ (setField (.ref it) 0 .none >>= _) _ _ s
 refine wpAny_bind (wpAny_setField ho hd (by simp) ?_)
 show wpAny _ _ (newExc (.type "StopIteration") [] >>= _) _ _ _
 refine wpAny_bind ?_
 simp only [newExc,newTuple]
 refine wpAny_bind (wpAny_newObj_type ?_ (by size_fits))
 refine wpAny_bind (m:=firstArgMember _ _) (wpAny_of_eq (a:=Value.none) (by first | rfl | (simp only [firstArgMember]; rfl)) ?_)
 refine wpAny_newObj_type ?_ (by size_fits)
 simp only [raiseNew]
 refine wpAny_bind (wpAny_handled ?_)
 rw [show A.in1.handled = none from hh]
 refine wpAny_bind (wpAny_pure (wpAny_throw ?_))
 refine wpAny_bind (wpAny_isInstance (T:="StopIteration") (b:=true) ⟨_,Heap.get?_push_size _ rfl,rfl⟩ isSubtype_stop ?_)
 exact wpAny_pure (hQ _ (((Heap.SameBut.update ..).extBut.push _).push _))
theorem YV (hh:A.handled = none) (I d:Addr) (hne:d ≠ I) (es:Array DictEntry) (ep:Nat) :
  Walks prog w A I [I,d] [I] es.size (fun i v=>∃ h:i < es.size,v = es[i].key) (fun i h=>h.IsKeyIter I d i es.size ep /\ xK es d ep h) where
 sub:=fun b hb=>by simp at hb; simp [hb]
 frame:=fun _ _ _ st hk=>⟨st.1.at fun o e=>hk I (by simp) o e,st.2.keep fun o e=>hk d (by simp) o e⟩
 item:=fun i s Q E hi st hQ=>by
  refine X2 st.1 st.2 hi fun h' hit' hs'=>?_
  exact hQ _ h' s.toks ⟨hi,rfl⟩ ⟨hit',st.2.keep fun o e=>hs'.extBut d o hne e⟩ fun b o hb e=>hs'.extBut b o (fun h=>hb (by simp [h])) e
 done:=fun s Q E st hQ=>Vm hh st.1 st.2 fun h' he'=>hQ h' s.toks fun b o hb e=>he' b o (fun h=>hb (by simp [h])) e
 self:=fun _ _ _ _ st hQ=>wpAny_pyIter_keyiter st.1 hQ
theorem Vn (lo:(d == sysModules) = false):KdlSrc prog w "dict" d d es.size (fun i v=>∃ h:i < es.size,v = es[i].key) (xK es d ep) where
 type:=fun _ hm=>hm.typeIs
 there:=fun _ hm=>let ⟨_,ho,_⟩:=hm; ⟨Heap.lt_size ho,Heap.lt_size ho⟩
 keep:=fun _ _ hm hk=>hm.keep fun o e=>hk d (.inl rfl) o e
 notList:=by decide
 notTuple:=by decide
 hint:=fun _ _ _ _ hm hq=>kdl_hint_dict hm.typeIs hq
 iter:=fun _ _ hh hm=>⟨_,_,(fun _ _ hq=>X1 lo hm hq),YV hh _ d (let ⟨_,ho,_⟩:=hm; Nat.ne_of_lt (Heap.lt_size ho)) es ep,⟨⟨_,Heap.get?_push_size _ rfl,rfl,rfl⟩,hm.keep fun o e=>Heap.get?_push_of_some _ e⟩⟩
end
def Vo (H:Hp) (z:V) (p:List Key × V):Prop:=∃ b,z = .ref b /\ H b = some (.tup (p.1.map kV))
theorem j3 {H:Hp}:∀ {kvs:List (List Key × V)} {xs:List (List Key × Addr × Value)},KT H kvs xs -> AllR (Vo H) (xs.map fun q=>V.ref q.2.1) kvs
 | _,_,.nil=>trivial
 | _,_,.cons h t=>⟨⟨_,rfl,h.2.1⟩,j3 t⟩
theorem rM:∀ xs:List (List Key × Addr × Value),Vals (xs.map fun q=>V.ref q.2.1) (xs.map fun q=>Value.ref q.2.1)
 | []=>.nil
 | _ :: xs=>.cons rfl (rM xs)
open PySem PySem.Spec PyProof.Rows L2 HT
theorem vY:fillsNumberSlot (.type "tuple") "mul" = pure false :=
 PySem.fillsNumberSlot_seq (id:="tuple.__mul__") (r:=some (.builtin "tuple.__rmul__")) PySem.F.slot_tuple_mul.lookup (by decide +kernel) (by rw [typeLookup_type,builtinLookup_eq_fast]; kernel_rfl) (by decide +kernel)
theorem rN:seqRepeat? (.type "tuple") = pure (some (.builtin "tuple.__mul__")):=by
 unfold seqRepeat?
 rw [PySem.seqSlot_of (T:="tuple") (name:="__mul__") (id:="tuple.__mul__") PySem.F.slot_tuple_mul.lookup (by decide +kernel),PySem.seqSlot_of (T:="tuple") (name:="__rmul__") (id:="tuple.__rmul__") (by rw [typeLookup_type,builtinLookup_eq_fast]; kernel_rfl) (by decide +kernel)]
 rfl
theorem tu (a:Int) (t:Tok) (l:Addr) (us:Array Value) (n:Nat) (d1:Option Addr) (e1:Array (Option Value)) :
  Meets (Builtin.«int.__rmul__» ⟨[.int a t,.ref l],[]⟩) (fun _ R s=>s.heap.get? l = some ⟨.type "tuple",d1,.seq us n,e1⟩ /\ R (.ok (.ret Value.notImplemented)) s) :=
 .of_wp fun prog w A R s h=>by obtain ⟨hp,g,d,tk,os⟩:=s; obtain ⟨hl,h⟩:=h; wp_walk; exact ⟨_,rfl,h⟩
theorem YW (l:Addr) (us:Array Value) (n:Nat) (d1:Option Addr) (e1:Array (Option Value)) (x:Int) (u:Tok) (h1:¬ x < -(2 ^ 63)) (h2:¬ x >= 2 ^ 63) (h0:us.isEmpty = false) (h3:(x == 1) = false) (h4:¬ x <= 0) (h5:¬ (us.size:Int) * x > (2 ^ 63 - 1) / 8) (h6:Builtin.Tuple.tupleTooMany ((us.size:Int) * x) = false) (h7:(List.foldl (fun x1 x2=>x1 ++ x2) #[] (List.replicate x.toNat us)).size <= sizeLine) :
  Meets (Builtin.«tuple.__mul__» ⟨[.ref l,.int x u],[]⟩) (fun _ R s=>s.heap.get? l = some ⟨.type "tuple",d1,.seq us n,e1⟩ /\ R (.ok (.ret (Value.ref s.heap.objs.size))) { s with heap:=s.heap.push { cls:=Value.type "tuple",data:=Data.seq (List.foldl (fun x1 x2=>x1 ++ x2) #[] (List.replicate x.toNat us)) },toks:=s.toks }) :=
 .of_wp fun prog w A R s h=>by
  obtain ⟨hp,g,d,tk,os⟩:=s; obtain ⟨hl,h⟩:=h
  wp_walk using PySem.AutoSeq1.wpAny_loadPart' hl
  rw [if_neg (by simp only [Bool.or_eq_true,decide_eq_true_eq]; omega)]
  wp_walk using PySem.AutoSeq1.wpAny_loadPart' hl
  rw [if_neg h5]
  rw [if_neg (by rw [h6]; decide)]
  unfold Builtin.Tuple.tupleExact
  refine wpAny_bind (wpAny_newObj_type ?_ h7)
  exact wpAny_pure ⟨_,rfl,h⟩
theorem ZG (l:Addr) (us:Array Value) (n:Nat) (d1:Option Addr) (e1:Array (Option Value)) (u:Tok) :
  Meets (Builtin.«tuple.__mul__» ⟨[.ref l,.int 1 u],[]⟩) (fun _ R s=>s.heap.get? l = some ⟨.type "tuple",d1,.seq us n,e1⟩ /\ R (.ok (.ret (Value.ref l))) s) :=
 .of_wp fun prog w A R s h=>by
  obtain ⟨hp,g,d,tk,os⟩:=s; obtain ⟨hl,h⟩:=h
  wp_walk using PySem.AutoSeq1.wpAny_loadPart' hl
  exact ⟨_,rfl,h⟩
theorem ZH (l:Addr) (us:Array Value) (n:Nat) (d1:Option Addr) (e1:Array (Option Value)) (u:Tok) (h0:us.isEmpty = false) :
  Meets (Builtin.«tuple.__mul__» ⟨[.ref l,.int 0 u],[]⟩) (fun _ R s=>s.heap.get? l = some ⟨.type "tuple",d1,.seq us n,e1⟩ /\ R (.ok (.ret (Value.ref s.heap.objs.size))) { s with heap:=s.heap.push { cls:=Value.type "tuple",data:=Data.seq #[] },toks:=s.toks }) :=
 .of_wp fun prog w A R s h=>by
  obtain ⟨hp,g,d,tk,os⟩:=s; obtain ⟨hl,h⟩:=h
  wp_walk using PySem.AutoSeq1.wpAny_loadPart' hl
  exact ⟨_,rfl,h⟩
section
variable {X:Cx} {K:FG7}
def Te (K:FG7):R2:=fun x y H Q=>∃ (a:Addr) (k:Nat) (xs:List V),x = .ref a /\ y = .int k /\ SqT K H a xs /\ xs ≠ [] /\ xs.length * k <= sizeLine /\ ∀ p H',Grow [] H H' -> SqT K H' p (List.replicate k xs).flatten -> Q (.ref p) H'
theorem xg (hK:X.K = K):OpR X (binaryOp .Mult) (Te K):=by
 subst hK
 intro pins s σ H x y v u Q I rx ry h
 obtain ⟨a,k,xs,rfl,rfl,ha,hne,hz,q⟩:=h
 cases rx
 obtain ⟨t,rfl⟩:=ry
 obtain ⟨its,r,ht,hzz⟩:=I.tuple ha
 obtain ⟨⟨c1,d1,x1,l1⟩,ho,hc,n,hd⟩:=id ht
 cases hc
 cases hd
 have hl:=r.length
 have he:its.toArray.isEmpty = false:=by
  cases its with
  | nil=>exact absurd (r.nil_iff.mp rfl) hne
  | cons _ _=>rfl
 have hsl:(sizeLine:Nat) <= (2 ^ 63 - 1) / 8:=by decide
 have hpos:0 < xs.length:=List.length_pos_iff.mpr hne
 have hk:k <= xs.length * k:=Nat.le_mul_of_pos_left k hpos
 refine wpAny_binaryOp_repeat_ref (T:="tuple") (U:="int") (by decide) ⟨_,ho,rfl⟩ (fun s'=>typeIs_int s' k t) vY PySem.F.fills_int_mul PySem.F.slot_int_rmul rN PySem.F.slot_int_index.lookup
  (call_meets PySem.F.slot_int_rmul (typeIs_int s k t) PySem.F.entry_int_rmul (PySem.F.args_int_rmul_2 _ _) (tu k t a its.toArray n d1 l1)
   ⟨ho,rfl,⟨_,ho,rfl⟩,?_⟩)
 by_cases k1:k = 1
 ·subst k1
  refine call_meets PySem.F.slot_tuple_mul ⟨_,ho,rfl⟩ PySem.F.entry_tuple_mul (PySem.F.args_tuple_mul_2 _ _) (ZG a its.toArray n d1 l1 t) ⟨ho,?_⟩
  exact ⟨.ref a,H,I,rfl,q a H (Grow.refl _ _) (by simpa using ha)⟩
 by_cases k0:k = 0
 ·subst k0
  refine call_meets PySem.F.slot_tuple_mul ⟨_,ho,rfl⟩ PySem.F.entry_tuple_mul (PySem.F.args_tuple_mul_2 _ _) (ZH a its.toArray n d1 l1 t he) ⟨ho,?_⟩
  refine ⟨.ref s.heap.objs.size,_,I.laid (t':=s.toks) (o:=.tup []) (fun b ob q=>Heap.get?_push_of_some _ q) (Nat.le_refl _) ⟨Nat.zero_le _,[],.nil,IsTup.new _ _⟩,rfl,q _ _ (Grow.new (I.hok.fresh (Nat.le_refl _)) _) (by simpa using SqT.of zd)⟩
 have hnew:List.foldl (fun x1 x2=>x1 ++ x2) #[] (List.replicate (k:Int).toNat its.toArray) = (List.replicate k its).flatten.toArray:=by
  have:=uw its k []
  rw [List.nil_append] at this
  exact this
 have hsz:(List.replicate k its).flatten.length <= sizeLine:=by rw [qI,← hl,Nat.mul_comm]; exact hz
 refine call_meets PySem.F.slot_tuple_mul ⟨_,ho,rfl⟩ PySem.F.entry_tuple_mul (PySem.F.args_tuple_mul_2 _ _) (YW a its.toArray n d1 l1 k t (by omega) (by omega) he (beq_false_of_ne (by omega)) (by omega) ?_ ?_ (by rw [hnew,List.size_toArray]; exact hsz)) ⟨ho,?_⟩
 ·rw [List.size_toArray,← hl]
  have:((xs.length:Nat):Int) * (k:Int) = ((xs.length * k:Nat):Int):=by rw [Int.natCast_mul]
  rw [this]; omega
 ·rw [List.size_toArray,← hl]
  have:((xs.length:Nat):Int) * (k:Int) = ((xs.length * k:Nat):Int):=by rw [Int.natCast_mul]
  rw [this]
  exact decide_eq_false (by omega)
 ·rw [hnew]
  refine ⟨.ref s.heap.objs.size,_,I.laid (t':=s.toks) (o:=.tup (List.replicate k xs).flatten) (fun b ob q=>Heap.get?_push_of_some _ q) (Nat.le_refl _) ⟨by rw [qI,Nat.mul_comm]; exact hz,_,r.rep k,IsTup.new _ _⟩,rfl,q _ _ (Grow.new (I.hok.fresh (Nat.le_refl _)) _) (SqT.of zd)⟩
end
section
variable {prog:Program} {w:World} {A:Around} {E:VS7} {s:Shared}
theorem su {Q:List Value -> Shared -> Prop} {r:Addr} {a b c:Int} {t u v:Tok} {n:Nat} (hh:A.handled = none) (hr:IsRange s.heap r a b c t u v) (hsmall:Builtin.Range.small a b c = true)
  (hn:Builtin.Range.rangeSize a b c = n) (hlen:n <= 2 ^ 24)
  (hQ:∀ (h':Heap) tk acc',(∀ b o,s.heap.get? b = some o -> h'.get? b = some o) -> ItemsOf (fun i v=>∃ t,v = .int (a + i * c) t) acc' n -> Q acc'.toList { s with heap:=h',toks:=tk }) :
  wpAny (model prog w) A (collect (.ref r)) Q E s:=by
 unfold collect
 refine wpAny_bind (wpAny_runValue (codeAny_builtin F.entry_proto_collect ?_))
 rw [Around.under_plainId F.plain_proto_collect _]
 show wpAny _ A.in1 (newList [] >>= fun l=>again (.builtin "list.__iadd__" ⟨[l,.ref r],[]⟩)) _ _ s
 refine wpAny_bind (wpAny_newObj_type ?_)
 refine wpAny_pure ⟨plainId_quiet F.plain_list_iadd _,codeAny_builtin F.entry_list_iadd ?_⟩
 rw [Around.under_plainId F.plain_list_iadd _]
 show wpAny _ A.in1 (Builtin.List.listExtendWith (.ref s.heap.objs.size) (.ref r) (.ref s.heap.objs.size)) _ _ _
 have hS:(s.heap.push { cls:=.type "list",data:=.seq ([]:List Value).toArray }).get? s.heap.objs.size = some { cls:=.type "list",data:=.seq ([]:List Value).toArray }:=Heap.get?_push_size _ rfl
 have hr':IsRange (s.heap.push { cls:=.type "list",data:=.seq ([]:List Value).toArray }) r a b c t u v:=Heap.get?_push_of_some _ hr
 have fin:∀ (h':Heap) tk acc' c',(∀ b o,s.heap.get? b = some o -> h'.get? b = some o) -> h'.get? s.heap.objs.size = some { cls:=.type "list",dict:=none,data:=.seq acc' c',slots:=#[] } -> ItemsOf (fun i v=>∃ t,v = .int (a + i * c) t) acc' n →
   wpAny (model prog w) A (load s.heap.objs.size >>= fun o=>match o.data with | .seq xs _=>pure xs.toList | _=>unsupported "internal:collect") Q E { s with heap:=h',toks:=tk }:=fun h' tk acc' c' hk hS' hacc =>
  wpAny_bind (wpAny_load hS' (wpAny_pure (hQ h' tk acc' hk hacc)))
 refine wpAny_mono (wpAny_extend_range (R:=fun r' s'=>∃ (h':Heap) (tk:Nat) (acc':Array Value) (c':Nat),r' = .ok (.ret (.ref s.heap.objs.size)) /\ s' = { s with heap:=h',toks:=tk } /\ (∀ b o,s.heap.get? b = some o -> h'.get? b = some o) /\ h'.get? s.heap.objs.size = some { cls:=.type "list",dict:=none,data:=.seq acc' c',slots:=#[] } /\ ItemsOf (fun i v=>∃ t,v = .int (a + i * c) t) acc' n) (s:={ s with heap:=s.heap.push { cls:=.type "list",data:=.seq ([]:List Value).toArray } }) (A:=A) hh hr' hsmall hn hlen s.heap.objs.size _ _ hS fun h' tk acc' c' hk hS hacc =>
  ⟨h',tk,acc',c',rfl,rfl,fun b o e=>hk b o (Nat.ne_of_lt (Heap.lt_size e)) (Heap.get?_push_of_some _ e),hS,hacc⟩) (fun fn s' h=>?_) (fun e s' h=>?_)
 ·cases fn with
  | done f =>
   obtain ⟨h',tk,acc',c',e,rfl,hf,hl,hS'⟩:=h
   cases e
   exact fin h' tk acc' c' hf hl hS'
  | again c =>
   refine ⟨h.1,codeAny_mono h.2 fun r s'' hr=>?_⟩
   obtain ⟨h',tk,acc',c',e,rfl,hf,hl,hS'⟩:=hr
   subst e
   exact fin h' tk acc' c' hf hl hS'
 ·obtain ⟨h',tk,acc',c',e,_⟩:=h
  cases e
theorem vZ {Q:VS7} {r:Addr} {a b c:Int} {t u v:Tok} {n:Nat} (hh:A.handled = none) (hr:IsRange s.heap r a b c t u v) (hsmall:Builtin.Range.small a b c = true)
  (hn:Builtin.Range.rangeSize a b c = n) (hlen:n <= 2 ^ 24) (hsz:n <= sizeLine)
  (hQ:∀ (h':Heap) tk acc',(∀ b o,s.heap.get? b = some o -> h'.get? b = some o) -> ItemsOf (fun i v=>∃ t,v = .int (a + i * c) t) acc' n -> Q (.ref h'.objs.size) { s with heap:=h'.push { cls:=.type "tuple",data:=.seq acc' },toks:=tk }) :
  wpAny (model prog w) A (call (.type "tuple") [.ref r]) Q E s:=by
 refine callType_codes (Q₁:=fun obj s₁=>s₁.TypeIs obj "tuple" /\ Q obj s₁) F.called_tuple (F.typeCall_tuple_1 _) F.entry_object_init ?_ fun obj s₁ h₁=>?_
 ·refine codeAny_of_tree ?_
  show wpAny _ A.in1.in1 (do checkBuiltinCall "tuple.__new__" ⟨[.type "tuple",.ref r],[]⟩; again (.builtin "tuple.__new__" ⟨[.type "tuple",.ref r],[]⟩)) _ _ s
  refine wpAny_bind (wpAny_of_eq (F.newCall_tuple_1 _) (wpAny_pure ⟨plainId_quiet F.plain_tuple_new _,codeAny_builtin F.entry_tuple_new ?_⟩))
  rw [Around.under_plainId F.plain_tuple_new _]
  have hsub:=sub_tuple_self
  have hinit:=init_tuple_lookup
  have hmh:=madeHere_tuple
  have hTI:s.TypeIs (.ref r) "range":=⟨_,hr,rfl⟩
  wp_walk using wpAny_typeOf hTI,su (A:=A.in1.in1) hh hr hsmall hn hlen
  intro h' tk acc hf hacc
  show wpAny _ _ (Builtin.Tuple.tupleExact acc.toList.toArray >>= fun v=>ret v) _ _ _
  unfold Builtin.Tuple.tupleExact
  refine wpAny_bind (wpAny_newObj_type ?_ (by show acc.toList.toArray.size <= sizeLine; simp only [Array.toArray_toList]; rw [hacc.1]; exact hsz))
  refine wpAny_pure ⟨⟨_,Heap.get?_push_size _ rfl,rfl⟩,?_⟩
  have e:acc.toList.toArray = acc:=by simp
  rw [e]
  exact hQ h' tk acc hf hacc
 ·exact ⟨h₁.1,F.args_object_init_2 obj _,object_init_meets F.called_tuple.init.lookup F.called_tuple.made (by decide) prog w A.in1 _ s₁ ⟨h₁.1,rfl,h₁.2⟩⟩
end
theorem ZI:∀ (m:Nat) (l:List Value) (j:Nat),l.length = m -> (∀ i v,l[i]? = some v -> ∃ t,v = Value.int ((j + i:Nat):Int) t) -> Vals ((List.range' j m).map fun i:Nat=>V.int i) l:=by
 intro m
 induction m with
 | zero =>
  intro l j hl _
  rw [List.length_eq_zero_iff.mp hl]
  exact .nil
 | succ m ih =>
  intro l j hl hv
  match l,hl,hv with
  | x :: l,hl,hv =>
   refine .cons ?_ (ih l (j + 1) (by simpa using hl) fun i v h=>?_)
   ·obtain ⟨t,e⟩:=hv 0 x rfl
    exact ⟨t,e⟩
   ·obtain ⟨t,e⟩:=hv (i + 1) v (by simpa using h)
    exact ⟨t,by rw [e,show j + (i + 1) = j + 1 + i by omega]⟩
section
variable {X:Cx} {a:Expr} {ta:TA} {p p2 pos pos2:Pos}
def Tf (ta:TA):TE:=fun σ H Q=>ta σ H fun vs H1=>∃ n:Nat,vs = [.int n] /\ n <= 1000 /\ ∀ l,H1 l = none -> Q (.ref l) (upd H1 l (.tup ((List.range n).map fun i:Nat=>V.int i)))
theorem uL (hc:X.calm = true) (hgl:Gl X "tuple") (hml:X.mg "tuple" = none) (hgr:Gl X "range") (hmr:X.mg "range" = none) (ha:PA X [a] ta)
  (hs:starEach [a] X.env = [(false,eval a X.env)]:=by rfl) (hs2:starEach [(.Call (.Name "range" p2) [a] [] pos2:Expr)] X.env = [(false,eval (.Call (.Name "range" p2) [a] [] pos2) X.env)]:=by rfl) :
  PE X (.Call (.Name "tuple" p) [.Call (.Name "range" p2) [a] [] pos2] [] pos) (Tf ta):=by
 intro pins s σ H Q I h
 refine wpAny_Call_Name_kw (wx I hgl hml zS (PyProof.Rows.callWith_type1 ?_ hs2 rfl))
 rw [hs2]
 show wpAny _ _ (spliced [(false,eval (.Call (.Name "range" p2) [a] [] pos2) X.env)]) _ _ s
 refine Calls.spliced_cons ?_
 refine Call_ (wx I hgr hmr boot_range (PyProof.Rows.callWith_type1 (thn (ha pos2 pins s σ H _ I h) fun us s1 ⟨vs,H1,I1,r1,q1⟩=>?_) hs rfl))
 obtain ⟨n,e,hn,q⟩:=q1
 subst e
 obtain ⟨u,rfl,e1⟩:=wR r1
 obtain ⟨t,rfl⟩:=e1
 refine call_range_1 (Calls.spliced_nil ?_)
 have I2:Inv X pins σ H1 { s1 with heap:=s1.heap.push { cls:=.type "range",data:=.fields #[.int 0 s1.toks,.int n t,.int 1 (s1.toks + 1)] },toks:=s1.toks + 1 + 1 }:=I1.kept fun b o e=>Heap.get?_push_of_some _ e
 refine vZ (n:=n) (I.ok.hd hc) (IsRange.new ..) (small_one (by omega) (by omega) (by omega) (by omega)) (by rw [rangeSize_one]; split <;> omega) (by omega) (Nat.le_of_lt (zn hn)) fun h' tk acc hk hacc=>?_
 have hvr:Vals ((List.range n).map fun i:Nat=>V.int i) acc.toList:=by
  have hlen:acc.toList.length = n:=by rw [Array.length_toList]; exact hacc.1
  rw [List.range_eq_range']
  refine ZI n acc.toList 0 hlen fun i v h=>?_
  obtain ⟨t,e⟩:=hacc.2 i v (by rw [← h]; exact (Array.getElem?_toList).symm)
  exact ⟨t,by rw [e]; congr 1; omega⟩
 have I3:Inv X pins σ H1 { s1 with heap:=h',toks:=tk }:=I2.kept (t':=tk) hk
 refine ⟨.ref h'.objs.size,_,I3.laid (t':=tk) (o:=.tup ((List.range n).map fun i:Nat=>V.int i)) (fun b o e=>Heap.get?_push_of_some _ e) (Nat.le_refl _) ⟨by rw [List.length_map,List.length_range]; exact Nat.le_of_lt (zn hn),acc.toList,hvr,by simpa using IsTup.new _ _⟩,rfl,q _ (I3.hok.fresh (Nat.le_refl _))⟩
end
def zR (a b:List Int):List Int:=a.map fun i=>b.getD i.toNat 0
theorem rO {a b:List Int}:(zR a b).length = a.length:=by unfold zR; rw [List.length_map]
theorem YX {S:Nat} {a b:List Int} (ha:Rng S a) (hb:Rng S b) (hl:b.length = S):Rng S (zR a b):=by
 intro x hx
 obtain ⟨i,hi,rfl⟩:=List.mem_map.mp hx
 have h1:=ha i hi
 have h2:i.toNat < b.length:=by omega
 refine hb _ ?_
 rw [List.getD_eq_getElem?_getD,List.getElem?_eq_getElem h2,Option.getD_some]
 exact List.getElem_mem h2
def yU (tab:List (List Int)) (i j:Int):Int:=(tab.getD i.toNat []).getD j.toNat 0
def misT (tab:List (List Int)) (i j l:Nat):Prop:=yU tab (yU tab i j) l ≠ yU tab i (yU tab j l)
def tT (tab:List (List Int)) (i j l:Nat):Prop:=(i < tab.length /\ j < tab.length /\ l < tab.length) /\ misT tab i j l ∧
 ∀ i' j' l':Nat,i' < tab.length -> j' < tab.length -> l' < tab.length -> (i' < i \/ (i' = i /\ (j' < j \/ (j' = j /\ l' < l)))) -> ¬ misT tab i' j' l'
theorem tT.eq {tab:List (List Int)} {i j l i' j' l':Nat} (a:tT tab i j l) (b:tT tab i' j' l'):i = i' /\ j = j' /\ l = l':=by
 have h1:¬ (i' < i \/ (i' = i /\ (j' < j \/ (j' = j /\ l' < l)))):=fun z=>a.2.2 i' j' l' b.1.1 b.1.2.1 b.1.2.2 z b.2.1
 have h2:¬ (i < i' \/ (i = i' /\ (j < j' \/ (j = j' /\ l < l')))):=fun z=>b.2.2 i j l a.1.1 a.1.2.1 a.1.2.2 z a.2.1
 omega
def ja (K:FG7) (H:Hp) (tab:List (List Int)) (y:V):Prop :=
 (y = .non /\ ∀ i j l:Nat,i < tab.length -> j < tab.length -> l < tab.length -> ¬ misT tab i j l) \/ ∃ i j l:Nat,tT tab i j l /\ zE K H y [(i:Int),(j:Int),(l:Int)]
theorem sv {R:Nat} {tab:List (List Int)} (h:tf R R tab) {i j:Int} (i0:0 <= i) (i1:i < R) (j0:0 <= j) (j1:j < R):0 <= yU tab i j /\ yU tab i j < R:=by
 obtain ⟨hl,hr⟩:=h
 have hi:i.toNat < tab.length:=by omega
 have e:tab.getD i.toNat [] = tab[i.toNat]:=by rw [List.getD_eq_getElem?_getD,List.getElem?_eq_getElem hi,Option.getD_some]
 obtain ⟨h1,h2⟩:=hr _ (List.getElem_mem hi)
 have hj:j.toNat < tab[i.toNat].length:=by omega
 unfold yU
 rw [e,List.getD_eq_getElem?_getD,List.getElem?_eq_getElem hj,Option.getD_some]
 exact h2 _ (List.getElem_mem hj)
theorem jb {R:Nat} {tab:List (List Int)} (h:tf R R tab) {i:Int} (i0:0 <= i) (i1:i < R):(tab.getD i.toNat []).length = R:=by
 obtain ⟨hl,hr⟩:=h
 have hi:i.toNat < tab.length:=by omega
 rw [List.getD_eq_getElem?_getD,List.getElem?_eq_getElem hi,Option.getD_some]
 exact (hr _ (List.getElem_mem hi)).1
def FamD (H:Hp) (x:V) (fam:List (List Int)):Prop:=∃ l kvs,x = .ref l /\ H l = some (.dT kvs) /\ kvs.map (·.1) = fam.map (List.map Sum.inl)
theorem jc:∀ d:List Int,(d.map (Sum.inl:Int -> Key)).map kV = d.map V.int
 | []=>rfl
 | x :: d=>by rw [List.map_cons,List.map_cons,List.map_cons,jc d]; rfl
def brkD:Option (Nat × Nat × Nat) -> PyData
 | none=>.none
 | some t=>qL [(t.1:Int),(t.2.1:Int),(t.2.2:Int)]
def BrkO (tab:List (List Int)):Option (Nat × Nat × Nat) -> Prop
 | none=>∀ i j l:Nat,i < tab.length -> j < tab.length -> l < tab.length -> ¬ misT tab i j l
 | some t=>tT tab t.1 t.2.1 t.2.2
theorem BrkO.eq {tab:List (List Int)} {o o':Option (Nat × Nat × Nat)} (a:BrkO tab o) (b:BrkO tab o'):o = o':=by
 cases o with
 | none=>cases o' with
  | none=>rfl
  | some t=>exact absurd b.2.1 (a _ _ _ b.1.1 b.1.2.1 b.1.2.2)
 | some t=>cases o' with
  | none=>exact absurd a.2.1 (b _ _ _ a.1.1 a.1.2.1 a.1.2.2)
  | some t' =>
   obtain ⟨i,j,l⟩:=t
   obtain ⟨i',j',l'⟩:=t'
   obtain ⟨e1,e2,e3⟩:=tT.eq a b
   rw [show i = i' from e1,show j = j' from e2,show l = l' from e3]
theorem ja.o {K:FG7} {H:Hp} {tab:List (List Int)} {y:V} (h:ja K H tab y):∃ o,BrkO tab o /\ Dat K H y (brkD o) /\ ((o = none /\ y = .non) \/ ∃ a,y = .ref a):=by
 rcases h with ⟨rfl,h⟩ | ⟨i,j,l,h,hb⟩
 ·exact ⟨none,h,.non,.inl ⟨rfl,rfl⟩⟩
 ·exact ⟨some (i,j,l),h,hb.dat,.inr (let ⟨a,e,_⟩:=hb; ⟨a,e⟩)⟩
theorem ja.grow {K:FG7} {m:List Addr} {H H':Hp} {tab:List (List Int)} {y:V} (h:ja K H tab y) (g:Grow m H H'):ja K H' tab y:=by
 rcases h with h | ⟨i,j,l,h,hb⟩
 ·exact .inl h
 ·exact .inr ⟨i,j,l,h,g.board hb⟩
def TabG (K:FG7) (H:Hp) (y:V) (tab:List (List Int)):Prop:=yJ K H y tab /\ 1 <= tab.length /\ tab.length <= 60 /\ tf tab.length tab.length tab
def jd (K:FG7) (H:Hp) (z:V):Prop:=∃ t y1 y2 tab,z = .ref t /\ SqT K H t [y1,y2] /\ TabG K H y1 tab /\ ja K H tab y2
theorem jd.grow {K:FG7} {m:List Addr} {H H':Hp} {z:V} (h:jd K H z) (g:Grow m H H'):jd K H' z:=by
 obtain ⟨t,y1,y2,tab,e,h1,⟨h2,h3⟩,h4⟩:=h
 exact ⟨t,y1,y2,tab,e,g.sqT h1,⟨g.rows h2,h3⟩,h4.grow g⟩
def je (S:Nat):Nat -> List (List Nat)
 | 0=>[[]]
 | n + 1=>(je S n).flatMap fun r=>(List.range S).map fun v=>v :: r
theorem uM {S:Nat}:∀ {n:Nat} {r:List Nat},r.length = n -> (∀ v ∈ r,v < S) -> r ∈ je S n
 | 0,r,h,_=>by rw [List.eq_nil_of_length_eq_zero h]; exact List.mem_singleton.mpr rfl
 | n + 1,[],h,_=>by cases h
 | n + 1,v :: r,h,hb=>by
  refine List.mem_flatMap.mpr ⟨r,uM (Nat.succ.inj h) (fun z hz=>hb z (List.mem_cons.mpr (.inr hz))),List.mem_map.mpr ⟨v,List.mem_range.mpr (hb v (List.mem_cons.mpr (.inl rfl))),rfl⟩⟩
def X3 (a b:List Nat):List Nat:=a.map fun i=>b.getD i 0
def powN (m:List Nat):Nat -> List Nat
 | 0=>List.range m.length
 | n + 1=>X3 (powN m n) m
def YY (m:List Nat):Nat -> List Nat -> List (List Nat)
 | 0,a=>[a]
 | n + 1,a=>a :: YY m n (X3 a m)
def WI:Bool:=(List.range 6).all fun S=>(je S S).all fun m=>match (YY m 11 (List.range S)).reverse with
 | l :: rest=>rest.contains l
 | []=>false
theorem YZ:WI = true:=by decide +kernel
theorem j4 (m:List Nat):∀ (n k:Nat),YY m n (powN m k) = (List.range (n + 1)).map fun i=>powN m (k + i)
 | 0,k=>rfl
 | n + 1,k=>by
  show powN m k :: YY m n (powN m (k + 1)) = _
  rw [j4 m n (k + 1),List.range_succ_eq_map (n:=n + 1),List.map_cons,List.map_map]
  congr 1
  refine List.map_congr_left fun i _=>?_
  show powN m (k + 1 + i) = powN m (k + (i + 1))
  rw [show k + 1 + i = k + (i + 1) by omega]
theorem ZJ {S:Nat} {m:List Nat} (hS:S <= 5) (hl:m.length = S) (hr:∀ v ∈ m,v < S):∃ i < 11,powN m 11 = powN m i:=by
 have h:=YZ
 unfold WI at h
 have h1:=List.all_eq_true.mp h S (List.mem_range.mpr (by omega))
 have h2:=List.all_eq_true.mp h1 m (uM hl hr)
 have e:YY m 11 (List.range S) = (List.range 12).map fun i=>powN m (0 + i):=by rw [← hl]; exact j4 m 11 0
 rw [e,List.range_succ (n:=11),List.map_append,List.reverse_append] at h2
 have h3:(((List.range 11).map fun i=>powN m (0 + i)).reverse.contains (powN m (0 + 11))) = true:=h2
 rw [List.contains_iff_mem,List.mem_reverse] at h3
 obtain ⟨i,hi,e⟩:=List.mem_map.mp h3
 rw [Nat.zero_add,Nat.zero_add] at e
 exact ⟨i,List.mem_range.mp hi,e.symm⟩
theorem nd1 {α:Type} {a:α}:[a].Nodup:=List.nodup_cons.mpr ⟨(fun z=>nomatch z),List.nodup_nil⟩
def idL (S:Nat):List Int:=(List.range S).map fun i:Nat=>(i:Int)
abbrev FW:=List (List Int × List Int)
def zO (f:FW):List (List Int):=f.map (·.1)
def ye (f:FW) (d:List Int):Option (List Int):=(f.find? fun p=>decide (p.1 = d)).map (·.2)
theorem wF {d:List Int}:∀ {f:FW},d ∈ zO f -> ∃ w,ye f d = some w
 | [],h=>by cases h
 | p :: f,h=>by
  by_cases e:p.1 = d
  ·exact ⟨p.2,by simp [ye,List.find?_cons,e]⟩
  ·have:d ∈ zO f:=by
    rcases List.mem_cons.mp h with h | h
    ·exact absurd h.symm e
    ·exact h
   obtain ⟨w,hw⟩:=wF this
   exact ⟨w,by simpa [ye,List.find?_cons,e] using hw⟩
theorem w4 {d w:List Int}:∀ {f:FW},ye f d = some w -> (d,w) ∈ f
 | [],h=>by cases h
 | p :: f,h=>by
  by_cases e:p.1 = d
  ·have h':p.2 = w:=by simpa [ye,List.find?_cons,e] using h
   exact List.mem_cons.mpr (.inl (by rw [← e,← h']))
  ·exact List.mem_cons.mpr (.inr (w4 (by simpa [ye,List.find?_cons,e] using h)))
theorem ZK {f:FW} {d w:List Int} (h:ye f d = some w):d ∈ zO f:=List.mem_map.mpr ⟨_,w4 h,rfl⟩
theorem jf {f:FW} {d:List Int} (h:¬ (ye f d).isSome = true):d ∉ zO f:=fun z=>by
 obtain ⟨w,hw⟩:=wF z
 rw [hw] at h; exact h rfl
def xh (d:List Int) (fm:FW × List (List Int)) (n:Nat) (m:List Int):FW × List (List Int) :=
 if (ye fm.1 (zR d m)).isSome = true then fm else (fm.1 ++ [(zR d m,(ye fm.1 d).getD [] ++ [(n:Int)])],fm.2 ++ [zR d m])
def fRow (ms:List (List Int)) (d:List Int):Nat -> FW × List (List Int) -> FW × List (List Int)
 | 0,fm=>fm
 | i + 1,fm=>xh d (fRow ms d i fm) i (ms.getD i [])
def yv (ms last:List (List Int)):Nat -> FW × List (List Int) -> FW × List (List Int)
 | 0,fm=>fm
 | j + 1,fm=>fRow ms (last.getD j []) ms.length (yv ms last j fm)
inductive FamR (ms:List (List Int)):FW -> List (List Int) -> FW -> Prop
 | done {f:FW} {last:List (List Int)}:last = [] \/ 60 < f.length -> FamR ms f last f
 | step {f r:FW} {last:List (List Int)}:last ≠ [] -> f.length <= 60 -> FamR ms (yv ms last last.length (f,[])).1 (yv ms last last.length (f,[])).2 r -> FamR ms f last r
theorem FamR.eq {ms:List (List Int)} {f r:FW} {last:List (List Int)} (a:FamR ms f last r):∀ {r'},FamR ms f last r' -> r = r':=by
 induction a with
 | done h =>
  intro r' b
  cases b with
  | done _=>rfl
  | step h1 h2 _ =>
   rcases h with h | h
   ·exact absurd h h1
   ·omega
 | step h1 h2 _ ih =>
  intro r' b
  cases b with
  | done h =>
   rcases h with h | h
   ·exact absurd h h1
   ·omega
  | step _ _ c=>exact ih c
inductive Word (ms:List (List Int)) (S:Nat):List Int -> Prop
 | id:Word ms S (idL S)
 | more {d m:List Int}:Word ms S d -> m ∈ ms -> Word ms S (zR d m)
def Mks (ms:List (List Int)) (S:Nat):Prop:=∀ m ∈ ms,m.length = S /\ Rng S m
def Dd (S:Nat) (d:List Int):Prop:=d.length = S /\ Rng S d
theorem WJ (S:Nat):Dd S (idL S):=by
 refine ⟨by unfold idL; rw [List.length_map,List.length_range],fun v hv=>?_⟩
 obtain ⟨i,hi,rfl⟩:=List.mem_map.mp hv
 have:=List.mem_range.mp hi
 omega
theorem sx {S:Nat} {a b:List Int} (ha:Dd S a) (hb:Dd S b):Dd S (zR a b):=⟨rO.trans ha.1,YX ha.2 hb.2 hb.1⟩
theorem Word.dd {ms:List (List Int)} {S:Nat} (hm:Mks ms S) {d:List Int} (h:Word ms S d):Dd S d:=by
 induction h with
 | id=>exact WJ S
 | more _ h ih=>exact sx ih (hm _ h)
theorem jg {S:Nat} {i:Int} (h0:0 <= i) (h1:i < S):(idL S).getD i.toNat 0 = i:=by
 have:i.toNat < S:=by omega
 unfold idL
 rw [List.getD_eq_getElem?_getD,List.getElem?_map,List.getElem?_range this]
 show ((i.toNat:Nat):Int) = i
 omega
theorem X4 {S:Nat} {a:List Int} (ha:Dd S a):zR a (idL S) = a:=by
 unfold zR
 conv=>rhs; rw [← List.map_id a]
 refine List.map_congr_left fun i hi=>?_
 obtain ⟨h0,h1⟩:=ha.2 i hi
 exact jg h0 h1
theorem jh {S:Nat} {a b c:List Int} (ha:Dd S a) (hb:b.length = S):zR a (zR b c) = zR (zR a b) c:=by
 unfold zR
 rw [List.map_map]
 refine List.map_congr_left fun i hi=>?_
 obtain ⟨h0,h1⟩:=ha.2 i hi
 have hi':i.toNat < b.length:=by omega
 show (b.map fun i=>c.getD i.toNat 0).getD i.toNat 0 = c.getD (b.getD i.toNat 0).toNat 0
 rw [List.getD_eq_getElem?_getD,List.getElem?_map,List.getElem?_eq_getElem hi',List.getD_eq_getElem?_getD (l:=b),List.getElem?_eq_getElem hi']
 rfl
theorem Word.mul {ms:List (List Int)} {S:Nat} (hm:Mks ms S) {a b:List Int} (ha:Word ms S a) (hb:Word ms S b):Word ms S (zR a b):=by
 induction hb with
 | id=>rw [X4 (ha.dd hm)]; exact ha
 | more h1 h2 ih=>rw [jh (ha.dd hm) (h1.dd hm).1]; exact .more ih h2
def Ex (fm fm':FW × List (List Int)):Prop:=∃ g:FW,fm'.1 = fm.1 ++ g /\ fm'.2 = fm.2 ++ zO g
theorem Ex.refl (fm:FW × List (List Int)):Ex fm fm:=⟨[],by rw [List.append_nil],by show _ = _ ++ []; rw [List.append_nil]⟩
theorem Ex.trans {a b c:FW × List (List Int)} (h:Ex a b) (k:Ex b c):Ex a c:=by
 obtain ⟨g,h1,h2⟩:=h
 obtain ⟨g',k1,k2⟩:=k
 exact ⟨g ++ g',by rw [k1,h1,List.append_assoc],by rw [k2,h2,List.append_assoc]; unfold zO; rw [List.map_append]⟩
theorem Ex.keys {a b:FW × List (List Int)} (h:Ex a b) {d:List Int} (hd:d ∈ zO a.1):d ∈ zO b.1:=by
 obtain ⟨g,h1,_⟩:=h
 unfold zO at *
 rw [h1,List.map_append]
 exact List.mem_append.mpr (.inl hd)
theorem WK {a b:FW × List (List Int)} (h:Ex a b) (l:a.2.length <= a.1.length):b.2.length <= b.1.length:=by
 obtain ⟨g,h1,h2⟩:=h
 rw [h1,h2,List.length_append,List.length_append]
 unfold zO
 rw [List.length_map]
 omega
theorem j5 {d m:List Int} {fm:FW × List (List Int)} {n:Nat}:Ex fm (xh d fm n m):=by
 unfold xh
 split
 ·exact Ex.refl fm
 ·exact ⟨[_],rfl,rfl⟩
theorem uN {ms:List (List Int)} {d:List Int} {fm:FW × List (List Int)}:∀ i,Ex fm (fRow ms d i fm)
 | 0=>Ex.refl fm
 | i + 1=>(uN i).trans j5
theorem wo {ms last:List (List Int)} {fm:FW × List (List Int)}:∀ j,Ex fm (yv ms last j fm)
 | 0=>Ex.refl fm
 | j + 1=>(wo j).trans (uN _)
theorem X5 {d m:List Int} {fm:FW × List (List Int)} {n:Nat}:zR d m ∈ zO (xh d fm n m).1:=by
 unfold xh
 split
 ·rename_i h
  obtain ⟨w,hw⟩:=Option.isSome_iff_exists.mp h
  exact ZK hw
 ·unfold zO; rw [List.map_append]; exact List.mem_append.mpr (.inr (List.mem_singleton.mpr rfl))
theorem Y0 {ms:List (List Int)} {d:List Int} {fm:FW × List (List Int)}:∀ i,∀ k < i,zR d (ms.getD k []) ∈ zO (fRow ms d i fm).1
 | 0,_,h=>by cases h
 | i + 1,k,h=>by
  by_cases e:k = i
  ·rw [e]; exact X5
  ·exact j5.keys (Y0 i k (by omega))
theorem j6 {ms last:List (List Int)} {fm:FW × List (List Int)}:∀ j,∀ k < j,∀ i < ms.length,zR (last.getD k []) (ms.getD i []) ∈ zO (yv ms last j fm).1
 | 0,_,h,_,_=>by cases h
 | j + 1,k,h,i,hi=>by
  by_cases e:k = j
  ·rw [e]; exact Y0 _ i hi
  ·exact (uN _).keys (j6 j k (by omega) i hi)
theorem X6 {d m:List Int} {fm:FW × List (List Int)} {n:Nat}:(xh d fm n m).1.length <= fm.1.length + 1:=by
 unfold xh
 split
 ·omega
 ·rw [List.length_append]; exact Nat.le_refl _
theorem ji {ms:List (List Int)} {d:List Int} {fm:FW × List (List Int)}:∀ i,(fRow ms d i fm).1.length <= fm.1.length + i
 | 0=>Nat.le_refl _
 | i + 1=>Nat.le_trans X6 (by have:=ji (ms:=ms) (d:=d) (fm:=fm) i; omega)
theorem sA {ms last:List (List Int)} {fm:FW × List (List Int)}:∀ j,(yv ms last j fm).1.length <= fm.1.length + j * ms.length
 | 0=>by rw [Nat.zero_mul]; exact Nat.le_refl _
 | j + 1=>Nat.le_trans (ji _) (by have:=sA (ms:=ms) (last:=last) (fm:=fm) j; rw [Nat.succ_mul]; omega)
structure GoodF (ms:List (List Int)) (S:Nat) (f:FW):Prop where
 nd:(zO f).Nodup
 wd:∀ d ∈ zO f,Word ms S d
theorem ZL {ms:List (List Int)} {S:Nat} {d m:List Int} {fm:FW × List (List Int)} {n:Nat} (h:GoodF ms S fm.1) (hd:Word ms S d) (hm:m ∈ ms):GoodF ms S (xh d fm n m).1:=by
 unfold xh
 split
 ·exact h
 ·rename_i c
  have hn:=jf c
  refine ⟨?_,fun z hz=>?_⟩
  ·show (zO (fm.1 ++ [_])).Nodup
   unfold zO at hn ⊢
   rw [List.map_append]
   refine List.nodup_append.mpr ⟨h.nd,nd1,fun a ha b hb e=>?_⟩
   rw [e,List.mem_singleton.mp hb] at ha
   exact hn ha
  ·unfold zO at hz
   rw [List.map_append] at hz
   rcases List.mem_append.mp hz with hz | hz
   ·exact h.wd z hz
   ·rw [List.mem_singleton.mp hz]; exact .more hd hm
theorem yO {ms:List (List Int)} {i:Nat} (h:i < ms.length):ms.getD i [] ∈ ms:=by
 rw [List.getD_eq_getElem?_getD,List.getElem?_eq_getElem h]; exact List.getElem_mem h
theorem uO {ms:List (List Int)} {S:Nat} {d:List Int} {fm:FW × List (List Int)} (h:GoodF ms S fm.1) (hd:Word ms S d):∀ i,i <= ms.length -> GoodF ms S (fRow ms d i fm).1
 | 0,_=>h
 | i + 1,hi=>ZL (uO h hd i (by omega)) hd (yO (by omega))
theorem vt {ms last:List (List Int)} {S:Nat} {fm:FW × List (List Int)} (h:GoodF ms S fm.1) (hd:∀ d ∈ last,Word ms S d):∀ j,j <= last.length -> GoodF ms S (yv ms last j fm).1
 | 0,_=>h
 | j + 1,hj=>uO (vt h hd j (by omega)) (hd _ (yO (by omega))) _ (Nat.le_refl _)
structure LI (ms:List (List Int)) (S:Nat) (f:FW) (last:List (List Int)):Prop where
 good:GoodF ms S f
 idk:idL S ∈ zO f
 sub:∀ d ∈ last,d ∈ zO f
 len:last.length <= f.length
 cl:∀ d ∈ zO f,d ∉ last -> ∀ m ∈ ms,zR d m ∈ zO f
 hd:f.head? = some (idL S,[])
theorem LI.init (ms:List (List Int)) (S:Nat):LI ms S [(idL S,[])] [idL S] where
 good:=⟨nd1,fun d hd=>by rw [List.mem_singleton.mp hd]; exact .id⟩
 idk:=List.mem_singleton.mpr rfl
 sub:=fun d hd=>hd
 len:=Nat.le_refl _
 cl:=fun d hd hn=>absurd hd hn
 hd:=rfl
theorem j7 {l:List (List Int)} {d:List Int} (h:d ∈ l):∃ k < l.length,l.getD k [] = d:=by
 obtain ⟨k,hk,e⟩:=List.mem_iff_getElem.mp h
 exact ⟨k,hk,by rw [List.getD_eq_getElem?_getD,List.getElem?_eq_getElem hk]; exact e⟩
theorem LI.pass {ms last:List (List Int)} {S:Nat} {f:FW} (h:LI ms S f last):LI ms S (yv ms last last.length (f,[])).1 (yv ms last last.length (f,[])).2:=by
 have hE:Ex (f,[]) (yv ms last last.length (f,[])):=wo _
 have hI:=fun k hk i hi=>j6 (ms:=ms) (last:=last) (fm:=(f,[])) last.length k hk i hi
 have hG:=vt (last:=last) (fm:=(f,[])) h.good (fun d hd=>h.good.wd d (h.sub d hd)) last.length (Nat.le_refl _)
 revert hE hI hG
 generalize yv ms last last.length (f,[]) = fm
 intro hE hI hG
 obtain ⟨g,e1,e2⟩:=id hE
 rw [List.nil_append] at e2
 have ek:zO fm.1 = zO f ++ zO g:=by rw [e1]; unfold zO; rw [List.map_append]
 refine ⟨hG,hE.keys h.idk,fun d hd=>?_,?_,fun d hd hn m hm=>?_,?_⟩
 ·rw [ek]; rw [e2] at hd; exact List.mem_append.mpr (.inr hd)
 ·rw [e2,e1,List.length_append]; unfold zO; rw [List.length_map]; omega
 ·rw [ek] at hd
  rcases List.mem_append.mp hd with hd | hd
  ·by_cases w:d ∈ last
   ·obtain ⟨k,hk,rfl⟩:=j7 w
    obtain ⟨i,hi,rfl⟩:=j7 hm
    exact hI k hk i hi
   ·exact hE.keys (h.cl d hd w m hm)
  ·rw [e2] at hn; exact absurd hd hn
 ·rw [e1,List.head?_append,h.hd]; rfl
structure FamOk (ms:List (List Int)) (S:Nat) (r:FW):Prop where
 good:GoodF ms S r
 idk:idL S ∈ zO r
 cl:r.length <= 60 -> ∀ d ∈ zO r,∀ m ∈ ms,zR d m ∈ zO r
 hd:r.head? = some (idL S,[])
theorem FamR.ok {ms last:List (List Int)} {S:Nat} {f r:FW} (a:FamR ms f last r) (h:LI ms S f last):FamOk ms S r:=by
 induction a with
 | done c =>
  refine ⟨h.good,h.idk,fun hl d hd m hm=>?_,h.hd⟩
  rcases c with rfl | c
  ·exact h.cl d hd (fun z=>by cases z) m hm
  ·omega
 | step _ _ _ ih=>exact ih h.pass
def FamL (ms:List (List Int)) (S:Nat) (r:FW):Prop:=FamR ms [(idL S,[])] [idL S] r
theorem FamL.ok {ms:List (List Int)} {S:Nat} {r:FW} (h:FamL ms S r):FamOk ms S r:=FamR.ok h (LI.init ms S)
def Few (ms:List (List Int)) (S:Nat):Prop:=∃ l:List (List Int),l.length <= 60 /\ ∀ d,Word ms S d -> d ∈ l
theorem FamOk.all {ms:List (List Int)} {S:Nat} {r:FW} (h:FamOk ms S r) (hl:r.length <= 60) {d:List Int} (hd:Word ms S d):d ∈ zO r:=by
 induction hd with
 | id=>exact h.idk
 | more _ hm ih=>exact h.cl hl _ ih _ hm
theorem FamOk.few {ms:List (List Int)} {S:Nat} {r:FW} (h:FamOk ms S r) (hl:r.length <= 60):Few ms S:=⟨zO r,by unfold zO; rw [List.length_map]; exact hl,fun _ hd=>h.all hl hd⟩
theorem ug:∀ {l l':List (List Int)},l.Nodup -> (∀ x ∈ l,x ∈ l') -> l.length <= l'.length
 | [],_,_,_=>Nat.zero_le _
 | a :: l,l',hn,h=>by
  have ha:a ∈ l':=h a (List.mem_cons.mpr (.inl rfl))
  obtain ⟨h1,h2⟩:=List.nodup_cons.mp hn
  have:=ug (l:=l) (l':=l'.erase a) h2 fun x hx=>(List.mem_erase_of_ne (fun e=>h1 (by rw [← e]; exact hx))).mpr (h x (List.mem_cons.mpr (.inr hx)))
  rw [List.length_erase_of_mem ha] at this
  have:0 < l'.length:=List.length_pos_of_mem ha
  rw [List.length_cons]; omega
theorem FamOk.le {ms:List (List Int)} {S:Nat} {r:FW} (h:FamOk ms S r) (hf:Few ms S):r.length <= 60:=by
 obtain ⟨l,hl,hw⟩:=hf
 have:=ug h.good.nd fun d hd=>hw d (h.good.wd d hd)
 unfold zO at this
 rw [List.length_map] at this
 omega
def WL (f:FW):Prop:=0 < f.length /\ ∀ q ∈ f,q.2.length < f.length
theorem X7 {d m:List Int} {fm:FW × List (List Int)} {n:Nat} (h:WL fm.1):WL (xh d fm n m).1:=by
 unfold xh
 split
 ·exact h
 ·refine ⟨by show 0 < (fm.1 ++ [_]).length; rw [List.length_append]; exact Nat.lt_of_lt_of_le h.1 (Nat.le_add_right _ _),fun q hq=>?_⟩
  have hq':q ∈ fm.1 ++ [(zR d m,(ye fm.1 d).getD [] ++ [(n:Int)])]:=hq
  show q.2.length < (fm.1 ++ [_]).length
  rw [List.length_append]
  rcases List.mem_append.mp hq' with w | w
  ·have:=h.2 q w
   show _ < _ + 1
   omega
  ·rw [List.mem_singleton.mp w]
   show ((ye fm.1 d).getD [] ++ [(n:Int)]).length < _ + 1
   rw [List.length_append]
   show _ + 1 < _ + 1
   cases e:ye fm.1 d with
   | none =>
    show 0 + 1 < _ + 1
    have:=h.1
    omega
   | some v =>
    have:=h.2 _ (w4 e)
    show v.length + 1 < _ + 1
    have e2:v.length < fm.1.length:=this
    omega
theorem jj {ms:List (List Int)} {d:List Int} {fm:FW × List (List Int)} (h:WL fm.1):∀ i,WL (fRow ms d i fm).1
 | 0=>h
 | i + 1=>X7 (jj h i)
theorem sE {ms last:List (List Int)} {fm:FW × List (List Int)} (h:WL fm.1):∀ j,WL (yv ms last j fm).1
 | 0=>h
 | j + 1=>jj (sE h j) _
theorem jk {ms last:List (List Int)} {f:FW} {j:Nat} (h:(yv ms last j (f,[])).2 ≠ []):f.length < (yv ms last j (f,[])).1.length:=by
 obtain ⟨g,e1,e2⟩:=wo (ms:=ms) (last:=last) (fm:=(f,[])) j
 rw [e1,List.length_append]
 cases g with
 | nil=>exact absurd e2 h
 | cons a g=>show f.length < f.length + (g.length + 1); omega
def toI (a:List Nat):List Int:=a.map fun i:Nat=>(i:Int)
theorem Y1 {a b:List Nat}:zR (toI a) (toI b) = toI (X3 a b):=by
 unfold zR X3 toI
 rw [List.map_map,List.map_map]
 refine List.map_congr_left fun i _=>?_
 show (b.map fun i:Nat=>(i:Int)).getD ((i:Int)).toNat 0 = ((b.getD i 0:Nat):Int)
 rw [Int.toNat_natCast,List.getD_eq_getElem?_getD,List.getElem?_map,List.getD_eq_getElem?_getD]
 cases b[i]? <;> rfl
theorem Vp {S:Nat} {m:List Int} (hS:S <= 5) (hm:Dd S m):Few [m] S:=by
 obtain ⟨n,rfl⟩:∃ n:List Nat,m = toI n:=⟨m.map Int.toNat,by
  unfold toI
  rw [List.map_map]
  conv=>lhs; rw [← List.map_id m]
  refine List.map_congr_left fun i hi=>?_
  obtain ⟨h0,_⟩:=hm.2 i hi
  show i = ((i.toNat:Nat):Int)
  omega⟩
 have hl:n.length = S:=by have:=hm.1; unfold toI at this; rw [List.length_map] at this; exact this
 have hr:∀ v ∈ n,v < S:=fun v hv=>by
  have:=hm.2 (v:Int) (List.mem_map.mpr ⟨v,hv,rfl⟩)
  omega
 obtain ⟨i0,hi0,e0⟩:=ZJ hS hl hr
 refine ⟨(List.range 11).map fun i=>toI (powN n i),by rw [List.length_map,List.length_range]; decide,fun d hd=>?_⟩
 have key:∃ i < 11,d = toI (powN n i):=by
  induction hd with
  | id=>exact ⟨0,by decide,by show _ = toI (List.range n.length); rw [hl]; rfl⟩
  | more _ h ih =>
   obtain ⟨i,hi,rfl⟩:=ih
   rw [List.mem_singleton.mp h,Y1]
   by_cases c:i = 10
   ·rw [c]; exact ⟨i0,hi0,by rw [← e0]; rfl⟩
   ·exact ⟨i + 1,by omega,rfl⟩
 obtain ⟨i,hi,rfl⟩:=key
 exact List.mem_map.mpr ⟨i,List.mem_range.mpr hi,rfl⟩
def KeyB (H:Hp) (y:V) (row:List Int):Prop:=∃ b,y = .ref b /\ H b = some (.tup (row.map V.int))
theorem KeyB.board {K:FG7} {H:Hp} {y:V} {row:List Int} (h:KeyB H y row):zE K H y row:=let ⟨b,e,hb⟩:=h; ⟨b,e,SqT.of hb⟩
theorem KeyB.grow {m:List Addr} {H H':Hp} {y:V} {row:List Int} (h:KeyB H y row) (g:Grow m H H'):KeyB H' y row:=let ⟨b,e,hb⟩:=h; ⟨b,e,g.tup _ _ hb⟩
def kI (d:List Int):List Key:=d.map Sum.inl
theorem j8:∀ {a b:List Int},kI a = kI b -> a = b
 | [],[],_=>rfl
 | [],_ :: _,e=>by cases e
 | _ :: _,[],e=>by cases e
 | x :: a,y :: b,e=>by
  unfold kI at e
  rw [List.map_cons,List.map_cons] at e
  injection e with e1 e2
  rw [Sum.inl.inj e1,j8 e2]
theorem Y2 (d:List Int):(kI d).map kV = d.map V.int:=jc d
def KvF (K:FG7) (H:Hp):List (List Key × V) -> FW -> Prop
 | [],[]=>True
 | p :: kvs,q :: f=>(p.1 = kI q.1 /\ zE K H p.2 q.2) /\ KvF K H kvs f
 | _,_=>False
section
variable {K:FG7} {H H':Hp} {m:List Addr}
theorem KvF.len:∀ {kvs:List (List Key × V)} {f:FW},KvF K H kvs f -> kvs.length = f.length
 | [],[],_=>rfl
 | _ :: _,_ :: _,h=>by rw [List.length_cons,List.length_cons,KvF.len h.2]
 | [],_ :: _,h=>h.elim
 | _ :: _,[],h=>h.elim
theorem KvF.keys:∀ {kvs:List (List Key × V)} {f:FW},KvF K H kvs f -> kvs.map (·.1) = (zO f).map (List.map Sum.inl)
 | [],[],_=>rfl
 | p :: kvs,q :: f,h=>by
  show p.1 :: kvs.map (·.1) = q.1.map Sum.inl :: (zO f).map (List.map Sum.inl)
  rw [KvF.keys h.2,h.1.1]; rfl
 | [],_ :: _,h=>h.elim
 | _ :: _,[],h=>h.elim
theorem KvF.grow (g:Grow m H H'):∀ {kvs:List (List Key × V)} {f:FW},KvF K H kvs f -> KvF K H' kvs f
 | [],[],_=>trivial
 | _ :: _,_ :: _,h=>⟨⟨h.1.1,g.board h.1.2⟩,KvF.grow g h.2⟩
 | [],_ :: _,h=>h.elim
 | _ :: _,[],h=>h.elim
theorem KvF.app:∀ {kvs:List (List Key × V)} {f:FW} {kvs':List (List Key × V)} {f':FW},KvF K H kvs f -> KvF K H kvs' f' -> KvF K H (kvs ++ kvs') (f ++ f')
 | [],[],_,_,_,k=>k
 | _ :: _,_ :: _,_,_,h,k=>⟨h.1,KvF.app h.2 k⟩
 | [],_ :: _,_,_,h,_=>h.elim
 | _ :: _,[],_,_,h,_=>h.elim
theorem KvF.val (d:List Int):∀ {kvs:List (List Key × V)} {f:FW},KvF K H kvs f -> (∃ v w,valV kvs (kI d) = some v /\ ye f d = some w /\ zE K H v w) \/ (valV kvs (kI d) = none /\ ye f d = none)
 | [],[],_=>.inr ⟨rfl,rfl⟩
 | p :: kvs,q :: f,h=>by
  by_cases e:q.1 = d
  ·exact .inl ⟨p.2,q.2,wZ (by rw [h.1.1,e]),by simp [ye,List.find?_cons,e],h.1.2⟩
  ·have e':¬ p.1 = kI d:=fun z=>e (j8 (h.1.1.symm.trans z))
   have ew:ye (q :: f) d = ye f d:=by simp [ye,List.find?_cons,e]
   rw [wn e',ew]
   exact KvF.val d h.2
 | [],_ :: _,h=>h.elim
 | _ :: _,[],h=>h.elim
end
theorem Mks.take {ms:List (List Int)} {S n:Nat} (h:Mks ms S):Mks (ms.take n) S:=fun m hm=>h m (List.mem_of_mem_take hm)
def FamW (K:FG7) (H:Hp) (y:V) (f:FW):Prop:=∃ l kvs,y = .ref l /\ H l = some (.dT kvs) /\ KvF K H kvs f
theorem FamW.d {K:FG7} {H:Hp} {y:V} {f:FW} (h:FamW K H y f):FamD H y (zO f):=let ⟨l,kvs,e,hl,hk⟩:=h; ⟨l,kvs,e,hl,hk.keys⟩
theorem Grow.setDT {m:List Addr} {H:Hp} {p:Addr} {xs:List (List Key × V)} (h:H p = some (.dT xs)) (hm:p ∈ m) (ys:List (List Key × V)):Grow m H (upd H p (.dT ys)) :=
 ⟨fun b u hb q=>by rw [zy (show b ≠ p from fun z=>hb (by rw [z]; exact hm))]; exact q,fun b zs q=>by rw [zy (fun z=>by subst z; rw [h] at q; cases q)]; exact q,fun b u v q=>by rw [zy (fun z=>by subst z; rw [h] at q; cases q)]; exact q⟩
theorem Room.u1F {k:Nat} {A:Around} (r:Room k A):A.units + 1 < cLine:=by have:=r.un; omega
def uh (K:FG7):Sp:=sp2 fun x y H Q=>∃ (S:Nat) (a b:List Int),zE K H x a /\ zE K H y b /\ Rng S a /\ b.length = S /\ a.length <= 5 /\ ∀ y H',Grow [] H H' -> KeyB H' y (zR a b) -> Q y H'
theorem Ur (S:Nat):((List.range S).map fun i:Nat=>V.int i) = (idL S).map V.int:=by
 unfold idL; rw [List.map_map]; rfl
section
variable {c:TT} {e:TE} {i:Nat} {v v':V} {t u r:TS} {D:Ends} {σ:L2.St} {H:Hp} {rt:VK} {bk ct:L2.St -> Hp -> Prop}
theorem xJ (h:t D (σ.set i (some v)) H):vW i v σ H ({ nx:=t D,rt:=rt,bk:=bk,ct:=ct }:Ends).nx:=h
theorem c_if (Good:L2.St -> Hp -> Prop) (hr:∀ σ' H',Good σ' H' -> r D σ' H') (hc:(∀ σ' H',Good σ' H' -> r D σ' H') -> tIfS c t u { D with nx:=r D } σ H):tSeq (tIfS c t u) r D σ H:=hc hr
theorem zL (h:t D σ H):VQ ({ nx:=t D,rt:=rt,bk:=bk,ct:=ct }:Ends) σ H:=h
theorem WM (Good:Bool -> Hp -> Prop) (hc:∀ K:Bool -> Hp -> Prop,(∀ b H',Good b H' -> K b H') -> c σ H K) (hr:∀ b H',Good b H' -> if b = true then t { D with nx:=r D } σ H' else u { D with nx:=r D } σ H'):tSeq (tIfS c t u) r D σ H:=hc _ hr
end
def misH (ds tab:List (List Int)) (i j:Nat):Prop:=ds.getD (yU tab i j).toNat [] ≠ zR (ds.getD i []) (ds.getD j [])
def tU (R:Nat) (ds tab:List (List Int)) (i j:Nat):Prop:=(i < R /\ j < R) /\ misH ds tab i j /\ ∀ i' j':Nat,i' < R -> j' < R -> (i' < i \/ (i' = i /\ j' < j)) -> ¬ misH ds tab i' j'
theorem tU.eq {R:Nat} {ds tab:List (List Int)} {i j i' j':Nat} (a:tU R ds tab i j) (b:tU R ds tab i' j'):i = i' /\ j = j':=by
 have h1:¬ (i' < i \/ (i' = i /\ j' < j)):=fun z=>a.2.2 i' j' b.1.1 b.1.2 z b.2.1
 have h2:¬ (i < i' \/ (i = i' /\ j < j')):=fun z=>b.2.2 i j a.1.1 a.1.2 z a.2.1
 omega
def jl (K:FG7) (H:Hp) (R:Nat) (ds tab:List (List Int)) (y:V):Prop :=
 (y = .non /\ ∀ i j:Nat,i < R -> j < R -> ¬ misH ds tab i j) \/ ∃ i j:Nat,tU R ds tab i j /\ zE K H y [(i:Int),(j:Int)]
structure DT (K:FG7) (H:Hp) (R M:Nat) (ds tab:List (List Int)) (x y:V):Prop where
 hx:yJ K H x ds
 hy:yJ K H y tab
 r1:1 <= R
 r60:R <= 60
 m1:1 <= M
 m5:M <= 5
 hD:tf R M ds
 hT:tf R R tab
theorem DT.grow {K:FG7} {m:List Addr} {H H':Hp} {R M:Nat} {ds tab:List (List Int)} {x y:V} (h:DT K H R M ds tab x y) (g:Grow m H H'):DT K H' R M ds tab x y :=
 ⟨g.rows h.hx,g.rows h.hy,h.r1,h.r60,h.m1,h.m5,h.hD,h.hT⟩
def hldD:Option (Nat × Nat) -> PyData
 | none=>.none
 | some t=>qL [(t.1:Int),(t.2:Int)]
def HldO (R:Nat) (ds tab:List (List Int)):Option (Nat × Nat) -> Prop
 | none=>∀ i j:Nat,i < R -> j < R -> ¬ misH ds tab i j
 | some t=>tU R ds tab t.1 t.2
theorem HldO.eq {R:Nat} {ds tab:List (List Int)} {o o':Option (Nat × Nat)} (a:HldO R ds tab o) (b:HldO R ds tab o'):o = o':=by
 cases o with
 | none=>cases o' with
  | none=>rfl
  | some t=>exact absurd b.2.1 (a _ _ b.1.1 b.1.2)
 | some t=>cases o' with
  | none=>exact absurd a.2.1 (b _ _ a.1.1 a.1.2)
  | some t' =>
   obtain ⟨i,j⟩:=t
   obtain ⟨i',j'⟩:=t'
   obtain ⟨e1,e2⟩:=tU.eq a b
   rw [show i = i' from e1,show j = j' from e2]
theorem jl.o {K:FG7} {H:Hp} {R:Nat} {ds tab:List (List Int)} {y:V} (h:jl K H R ds tab y):∃ o,HldO R ds tab o /\ Dat K H y (hldD o) /\ ((o = none /\ y = .non) \/ ∃ a,y = .ref a):=by
 rcases h with ⟨rfl,h⟩ | ⟨i,j,h,hb⟩
 ·exact ⟨none,h,.non,.inl ⟨rfl,rfl⟩⟩
 ·exact ⟨some (i,j),h,hb.dat,.inr (let ⟨a,e,_⟩:=hb; ⟨a,e⟩)⟩
theorem jl.grow {K:FG7} {m:List Addr} {H H':Hp} {R:Nat} {ds tab:List (List Int)} {y:V} (h:jl K H R ds tab y) (g:Grow m H H'):jl K H' R ds tab y:=by
 rcases h with h | ⟨i,j,h,hb⟩
 ·exact .inl h
 ·exact .inr ⟨i,j,h,g.board hb⟩
theorem FamOk.closed {ms:List (List Int)} {S:Nat} {r:FW} (h:FamOk ms S r) (hM:Mks ms S) (hl:r.length <= 60) {a b:List Int} (ha:a ∈ zO r) (hb:b ∈ zO r):zR a b ∈ zO r :=
 h.all hl ((h.good.wd a ha).mul hM (h.good.wd b hb))
structure SomeAt (K:FG7) (H:Hp) (p lf:Addr) (S:Nat) (rows:List (List Int)):Prop where
 l:∃ zs,H lf = some (.lst zs) /\ AllR (zE K H) zs rows
 np:lf ∉ [p]
 r1:1 <= rows.length
 r60:rows.length <= 60
 ok:Mks rows S
 cl:∀ a ∈ rows,∀ b ∈ rows,zR a b ∈ rows
theorem SomeAt.of {K:FG7} {H:Hp} {p lf:Addr} {S:Nat} {rows ms:List (List Int)} {zs:List V} {f:FW} (hF:FamL ms S f) (hM:Mks ms S) (hf:Few ms S) (hl:H lf = some (.lst zs)) (np:lf ∉ [p]) (hz:AllR (zE K H) zs rows) (pm:rows.Perm (zO f)):SomeAt K H p lf S rows:=by
 have hO:=hF.ok
 have h60:=hO.le hf
 have lk:rows.length = f.length:=by rw [pm.length_eq]; unfold zO; rw [List.length_map]
 refine ⟨⟨zs,hl,hz⟩,np,?_,by omega,fun d hd=>(hO.good.wd d (pm.mem_iff.mp hd)).dd hM,fun a ha b hb=>pm.mem_iff.mpr (hO.closed hM h60 (pm.mem_iff.mp ha) (pm.mem_iff.mp hb))⟩
 have:0 < rows.length:=List.length_pos_of_mem (pm.mem_iff.mpr hO.idk)
 omega
def Y3 (K:FG7) (H:Hp) (z:V):Prop:=∃ t y1 y2 y3 R M ds tab,z = .ref t /\ SqT K H t [y1,y2,y3] /\ DT K H R M ds tab y1 y2 /\ jl K H R ds tab y3
theorem Y3.grow {K:FG7} {m:List Addr} {H H':Hp} {z:V} (h:Y3 K H z) (g:Grow m H H'):Y3 K H' z:=by
 obtain ⟨t,y1,y2,y3,R,M,ds,tab,e,h1,h2,h3⟩:=h
 exact ⟨t,y1,y2,y3,R,M,ds,tab,e,g.sqT h1,h2.grow g,h3.grow g⟩
theorem Y4 {K:FG7} {H:Hp} {xs:List V} {rows:List (List Int)} (h:AllR (zE K H) xs rows) {i:Nat} (h1:i < rows.length):∃ a,atI xs (i:Int) = some (V.ref a) /\ SqT K H a ((rows.getD i []).map V.int):=by
 have:=wy h (i:=(i:Int)) (Int.natCast_nonneg i) (by omega)
 rw [Int.toNat_natCast] at this
 exact this
theorem Vq {a b:List Int}:(if true = true then !eqVs (a.map V.int) (b.map V.int) else eqVs (a.map V.int) (b.map V.int)) = !decide (a = b):=by rw [if_pos rfl,wU]
theorem vw:∀ a:List Int,(a.map V.int).all xy = true
 | []=>rfl
 | _ :: a=>by rw [List.map_cons,List.all_cons,vw a]; rfl
section
variable {prog:Program} {w:World} {A:Around} {R:Result -> Shared -> Prop} {s:Shared}
theorem ZM {kx vx target iter:Expr} {ifs:List Expr} {scope:Scope} {pos:Pos} {it:Value} {D:Addr} {env:Env} (I:Nat -> Shared -> Prop)
  (turn:∀ n s,I n s -> wpAny (model prog w) A (pyNext it) (fun r s₁=>match r with
   | none=>R (.ok .next) s₁
   | some v=>wpAny (model prog w) A (letOwnedTupleGo target it v) (fun _ s₂=>wpAny (model prog w) A (assign target env v) (fun _ s₃ =>
     wpAny (model prog w) A (forIn ifs true fun c r=>if r = true then do let ok ← isTrue c env (eval c env); pure (ForInStep.yield ok) else pure (ForInStep.yield r)) (fun ok s₄ =>
      if ok = true then wpAny (model prog w) A (eval kx env) (fun kv s₅=>wpAny (model prog w) A (eval vx env) (fun vv s₆ =>
       wpAny (model prog w) A (dictSet D kv vv) (fun _ s₇=>∃ m,m < n /\ I m s₇) (fun _ _=>False) s₆) (fun _ _=>False) s₅) (fun _ _=>False) s₄
      else ∃ m,m < n /\ I m s₄) (fun _ _=>False) s₃) (fun _ _=>False) s₂) (fun _ _=>False) s₁) (fun _ _=>False) s)
  (n:Nat) (h:I n s) :
  codeAny (model prog w) A (.compLoop (.DictComp kx vx [⟨target,iter,ifs,0⟩] scope pos) 0 it (.ref D) env) R s:=by
 refine codeAny_loop rfl I (fun n s hI=>?_) n h
 show wpAny _ A ((compTurn (.DictComp kx vx [⟨target,iter,ifs,0⟩] scope pos) 0 it (.ref D) env).onRaise (fun x=>do noteFrame x env; theTreesLotGoes x)) _ _ s
 refine wpAny_noted ?_
 rw [compTurn_dict]
 have no:∀ (E:VS7) (e:Value) (s:Shared),(fun (_:Value) (_:Shared)=>False) e s -> E e s:=fun _ _ _ f=>f.elim
 refine wpAny_bind (wpAny_standAt (wpAny_bind (wpAny_mono (turn n s hI) (fun r s₁ h₁=>?_) (no _))))
 cases r with
 | none=>exact wpAny_pure h₁
 | some v =>
  refine wpAny_bind (wpAny_mono h₁ (fun _ s₂ h₂=>?_) (no _))
  refine wpAny_bind (wpAny_mono h₂ (fun _ s₃ h₃=>wpAny_bind (wpAny_mono h₃ (fun ok s₄ h₄=>?_) (no _))) (no _))
  cases ok with
  | false=>exact wpAny_pure ⟨rfl,h₄⟩
  | true =>
   exact wpAny_bind (wpAny_bind (wpAny_mono h₄ (fun kv s₅ h₅=>wpAny_bind (wpAny_holding (wpAny_mono h₅ (fun vv s₆ h₆=>wpAny_bind (wpAny_standAt (wpAny_holding (wpAny_mono h₆ (fun _ s₇ h₇=>wpAny_pure ⟨rfl,h₇⟩) (no _))))) (no _)))) (no _)))
end
def DRaw (prog:Program) (w:World) (Hb:Hp) (h:Heap) (D:Addr) (o:Obj) (kvs:List (List Key × V)):Prop :=
 kvs.length <= sizeLine /\ (D == sysModules) = false /\ ∃ xs:List (List Key × Addr × Value),KT Hb kvs xs /\ ∃ es ep,h.get? D = some o /\ o.ExactDict /\ o.data = .dict es ep /\ es.toList = xs.map (entryOfKey (tupleKind (z8 prog w))) /\ (xs.map (·.1)).Nodup
theorem DRaw.at {prog:Program} {w:World} {Hb:Hp} {h h':Heap} {D:Addr} {o:Obj} {kvs:List (List Key × V)} (r:DRaw prog w Hb h D o kvs) (e:h'.get? D = some o):DRaw prog w Hb h' D o kvs :=
 let ⟨z,y,xs,k,es,ep,_,h2,h3,h4,h5⟩:=r; ⟨z,y,xs,k,es,ep,e,h2,h3,h4,h5⟩
theorem DRaw.obj {prog:Program} {w:World} {Hb H':Hp} {h:Heap} {D:Addr} {o:Obj} {kvs:List (List Key × V)} (r:DRaw prog w Hb h D o kvs) (hk:∀ b xs,Hb b = some (.tup xs) -> H' b = some (.tup xs)):yh prog w H' h D (.dT kvs) :=
 let ⟨z,y,xs,k,es,ep,h1,h2,h3,h4,h5⟩:=r; ⟨z,y,xs,k.keeps hk,o,es,ep,h1,h2,h3,h4,h5⟩
theorem DRaw.nocell {prog:Program} {w:World} {Hb:Hp} {h:Heap} {D:Addr} {o:Obj} {kvs:List (List Key × V)} (r:DRaw prog w Hb h D o kvs) (v:Option Value):o.data ≠ .cell v:=by
 obtain ⟨_,_,_,_,es,ep,_,_,h3,_⟩:=r
 rw [h3]; intro z; cases z
def Y5 (J:It) (σ0:L2.St) (H1:Hp) (g:TG) (tt:TT) (tk tv:TE) (Q:VK):Prop :=
 ∃ W:Nat -> Nat -> List (List Key × V) -> L2.St -> Hp -> Prop,(∃ m,W 0 m [] σ0 H1) /\ ∀ i m kvs σ' H',W i m kvs σ' H' →
  (J.stop i H' /\ ∀ l,H' l = none -> Q (.ref l) (upd H' l (.dT kvs))) ∨
  (J.go i H' /\ ∃ Nn:List (List Key × V) -> L2.St -> Hp -> Prop,(∀ zs σ2 H2,Nn zs σ2 H2 -> ∃ m',m' < m /\ W (i + 1) m' zs σ2 H2) ∧
   ∀ x H2,J.yld i H' x H2 -> g x σ' H2 fun σ2 H3=>tt σ2 H3 fun b H4=>if b = true then tk σ2 H4 fun y H5=>tv σ2 H5 fun v H6=>kvs.length < sizeLine /\ ∃ b ks,y = .ref b /\ H1 b = some (.tup (ks.map kV)) /\ Nn (putK kvs ks v) σ2 H6 else Nn kvs σ2 H4)
def Us (wi:TI) (sub:List (Option Nat)) (g:TG) (tt:TT) (tk tv:TE):TE:=fun σ H Q=>wi σ H fun J H1=>Y5 J (capt sub σ) H1 g tt tk tv Q
section
variable {X:Cx} {pins:List (Addr × Obj)} {σ:L2.St} {H2:Hp} {s₂:Shared} {it:Addr} {fp:List Addr} {tn:Nat -> Heap -> Prop} {J:It} {scope:Scope} {cl:List (Str × Addr)} {N':List Str} {sub:List (Option Nat)}
theorem Y6 {C D:Addr} {s₀:Shared} {s':Shared} {σ':L2.St} {H':Hp} {kvs:List (List Key × V)} {o oC:Obj} (I:Inv X pins σ H2 s₂)
    (hs₀:∀ b o,s₂.heap.get? b = some o -> s₀.heap.get? b = some o) (hos:s₀.os = s₂.os) (hD:s₂.heap.objs.size <= D) (hC:s₂.heap.objs.size <= C) (hDC:D ≠ C) (f2:∀ b ∈ fp,FpOk X pins H2 b)
    (I':Inv (cxC X N' scope cl C D fp s₀ H2) pins σ' H' s') (hn:H' D = none) (rv:DRaw X.prog X.w H2 s'.heap D o kvs)
    (ho:s'.heap.get? C = some oC) (hd:∀ v,oC.data ≠ .cell v):Inv X (pins ++ [(C,oC)]) σ (upd H' D (.dT kvs)) s' /\ FpOk X pins (upd H' D (.dT kvs)) C:=by
  have neD:∀ b o,s₂.heap.get? b = some o -> b ≠ D:=fun b o e=>Nat.ne_of_lt (Nat.lt_of_lt_of_le (Heap.lt_size e) hD)
  have nm:∀ b o,s₂.heap.get? b = some o -> b ∉ fp -> b ∉ D :: fp:=fun b o e h z=>(List.mem_cons.mp z).elim (neD b o e) h
  have U:=I'.base
  have HC:upd H' D (.dT kvs) C = none:=by rw [zy (Ne.symm hDC)]; exact I'.free
  have fpc:FpOk X pins (upd H' D (.dT kvs)) C:=I.fpOk hC HC
  have tp:∀ b xs,H2 b = some (.tup xs) -> upd H' D (.dT kvs) b = some (.tup xs):=fun b xs e=>by have z:=U.tups b xs e; rw [zy (zx z hn)]; exact z
  have un:Un (frs X.stack) fp H2 (upd H' D (.dT kvs)) s₂.heap s'.heap :=
    { keep:=fun b o e n h1 h2=>U.keep b o (hs₀ b o e) n h1 (nm b o e h2)
      slot:=fun b o e n h1 h2=>U.slot b o (hs₀ b o e) n h1 (nm b o e h2)
      free:=fun b o e n h2=>by rw [zy (neD b o e)]; exact U.free b o (hs₀ b o e) n (nm b o e h2)
      there:=fun b o e h2=>U.there b o (hs₀ b o e) (nm b o e h2)
      tups:=tp
      frzs:=fun b o u e=>by have z:=U.frzs b o u e; rw [zy (zx z hn)]; exact z
      tbls:=fun b ps e=>by obtain ⟨more,z⟩:=U.tbls b ps e; exact ⟨more,by rw [zy (zx z hn)]; exact z⟩ }
  have hok:HOk X.prog X.w (upd H' D (.dT kvs)) s'.heap:=HOk.track I'.hok hn (rv.obj tp)
  have IX:Inv X pins σ (upd H' D (.dT kvs)) s':=I.call' (I'.os.trans hos) un hok I'.bare fun b hb=>⟨(f2 b hb).2.2.2.1,(f2 b hb).2.1,(f2 b hb).2.2.2.2.1,(f2 b hb).2.2.2.2.2⟩
  refine ⟨IX.pins_of fun p hp=>?_,fpc⟩
  rcases List.mem_append.mp hp with hp | hp
  · exact IX.pin p (List.mem_append_right _ hp)
  · rw [List.mem_singleton.mp hp]
    exact ⟨ho,HC,fpc.2.1,fpc.2.2.1,hd⟩
theorem Y7 {C D:Addr} {s₀:Shared} {tg:Expr} {pos:Pos} {kx vx iter:Expr} {ifs:List Expr} {g:TG} {tt:TT} {tk tv:TE} {Q:VK} {RR:Value -> Addr -> Result -> Shared -> Prop} {W:Nat -> Nat -> List (List Key × V) -> L2.St -> Hp -> Prop}
  (hu:X.A.units + 1 < cLine) (I:Inv X pins σ H2 s₂) (hcalm:X.calm = true) (T:Turn X.prog X.w X.K tg J fp it tn) (f2:∀ b ∈ fp,FpOk X pins H2 b) (hfp:∀ b ∈ fp,b < s₂.heap.objs.size)
  (hs₀:∀ b o,s₂.heap.get? b = some o -> s₀.heap.get? b = some o) (hos:s₀.os = s₂.os) (hD:s₂.heap.objs.size <= D) (hC:s₂.heap.objs.size <= C) (hDC:D ≠ C)
  (hcl1:∀ x c,cl.lookup x = some c -> X.env.cells.lookup x = some c)
  (hg:PG (cxC X N' scope cl C D fp s₀ H2) tg g) (ht:PIfs (cxC X N' scope cl C D fp s₀ H2) ifs tt) (hk:PE (cxC X N' scope cl C D fp s₀ H2) kx tk) (he:PE (cxC X N' scope cl C D fp s₀ H2) vx tv)
  (turn:∀ i m kvs σ' H',W i m kvs σ' H' →
   (J.stop i H' /\ ∀ l,H' l = none -> Q (.ref l) (upd H' l (.dT kvs))) ∨
   (J.go i H' /\ ∃ Nn:List (List Key × V) -> L2.St -> Hp -> Prop,(∀ zs σ2 H2,Nn zs σ2 H2 -> ∃ m',m' < m /\ W (i + 1) m' zs σ2 H2) ∧
    ∀ x H3,J.yld i H' x H3 -> g x σ' H3 fun σ2 H3=>tt σ2 H3 fun b H4=>if b = true then tk σ2 H4 fun y H5=>tv σ2 H5 fun v H6=>kvs.length < sizeLine /\ ∃ b ks,y = .ref b /\ H2 b = some (.tup (ks.map kV)) /\ Nn (putK kvs ks v) σ2 H6 else Nn kvs σ2 H4))
  (hRR:∀ (D C:Addr) (oC:Obj) (m:Str -> Option Value) (s':Shared) (Hf:Hp),Inv X (pins ++ [(C,oC)]) σ Hf s' -> s'.heap.Ns C m -> FpOk X pins Hf C -> Q (.ref D) Hf -> RR (.ref D) C (.ok .next) s')
  (n:Nat) (s:Shared) (h:∃ i kvs o σ' H',Inv (cxC X N' scope cl C D fp s₀ H2) pins σ' H' s /\ tn i s.heap /\ (∀ b ∈ fp,H' b = none) /\ H' D = none ∧
   DRaw X.prog X.w H2 s.heap D o kvs /\ W i n kvs σ' H') :
  codeAny (model X.prog X.w) X.A (.compLoop (.DictComp kx vx [⟨tg,iter,ifs,0⟩] scope pos) 0 (.ref it) (.ref D) (compEnvC scope cl C X.env)) (RR (.ref D) C) s:=by
 have frsz:∀ b ∈ frs X.stack,b < s₂.heap.objs.size:=fun b hb=>by
  rcases List.mem_cons.mp (I.stkSub b hb) with z | z
  ·rw [z]; exact I.lt
  ·exact Nat.lt_of_not_le fun q=>I.nofs q z
 have cells:∀ x c,cl.lookup x = some c -> c < s₂.heap.objs.size:=fun x c e=>let ⟨v,q⟩:=I.cell x c (hcl1 x c e); q.lt
 have pinsz:∀ p ∈ X.pn ++ pins,p.1 < s₂.heap.objs.size:=fun p hp=>Heap.lt_size (I.pin p hp).1
 refine ZM (fun n s=>∃ i kvs o σ' H',Inv (cxC X N' scope cl C D fp s₀ H2) pins σ' H' s /\ tn i s.heap /\ (∀ b ∈ fp,H' b = none) /\ H' D = none ∧
   DRaw X.prog X.w H2 s.heap D o kvs /\ W i n kvs σ' H') ?_ n h
 rintro n s ⟨i,kvs,o,σ',H',I',st',fr,hn,rv,w'⟩
 have hy:s.heap.get? D = some o:=let ⟨_,_,_,_,_,_,e,_⟩:=rv; e
 have pD:Inv (cxC X N' scope cl C D fp s₀ H2) (pins ++ [(D,o)]) σ' H' s:=I'.pins_of fun p hp=>by
  rcases List.mem_append.mp hp with hp | hp
  ·exact I'.pin p (List.mem_append_right _ hp)
  ·rw [List.mem_singleton.mp hp]
   exact ⟨hy,hn,hDC,fun z=>absurd (Nat.lt_of_lt_of_le (frsz _ z) hD) (Nat.lt_irrefl _),rv.nocell⟩
 have fpok:∀ {H'':Hp},(∀ b ∈ fp,H'' b = none) -> ∀ b ∈ fp,FpOk (cxC X N' scope cl C D fp s₀ H2) (pins ++ [(D,o)]) H'' b:=fun hz b hb=>by
  refine ⟨hz b hb,Nat.ne_of_lt (Nat.lt_of_lt_of_le (hfp b hb) hC),fun z=>?_,.inl (List.mem_cons_of_mem _ hb),fun x c e=>(f2 b hb).2.2.2.2.1 x c (hcl1 x c e),fun p hp=>?_⟩
  ·rcases List.mem_cons.mp (I.stkSub b z) with z | z
   ·exact (f2 b hb).2.1 z
   ·exact (f2 b hb).2.2.1 z
  ·rcases List.mem_append.mp hp with hp | hp
   ·exact (f2 b hb).2.2.2.2.2 p (List.mem_append_left _ hp)
   ·rcases List.mem_append.mp hp with hp | hp
    ·exact (f2 b hb).2.2.2.2.2 p (List.mem_append_right _ hp)
    ·rw [List.mem_singleton.mp hp]
     exact Nat.ne_of_gt (Nat.lt_of_lt_of_le (hfp b hb) hD)
 rcases turn i n kvs σ' H' w' with ⟨stop,q⟩ | ⟨go,Nn,hN,step⟩
 ·refine thn (T.done (cxC X N' scope cl C D fp s₀ H2) rfl rfl rfl hcalm i _ s σ' H' (fun _ _=>False) pD (fpok fr) st' stop) fun r s1 ⟨hr,I1⟩=>?_
  subst hr
  have hy1:=(I1.pin (D,o) (by simp)).1
  obtain ⟨m,hm,_⟩:=I1.loc
  obtain ⟨oC,es,ep,hoC,hdC,_⟩:=id hm
  obtain ⟨IX,fpc⟩:=Y6 I hs₀ hos hD hC hDC f2 I1.unpinned hn (rv.at hy1) hoC (by intro v z; rw [hdC] at z; cases z)
  exact hRR D C oC m s1 _ IX hm fpc (q D hn)
 ·refine thn (T.item (cxC X N' scope cl C D fp s₀ H2) rfl rfl rfl hcalm i _ s σ' H' (fun _ _=>False) pD (fpok fr) st' go) fun r s1 ⟨u,hr,h4⟩=>?_
  subst hr
  refine thn h4 fun _ s2 ⟨x5,H5,I5,r5,y5,st5,fr5⟩=>?_
  have I5':=I5.pinned (fpok fr5) (T.obj _ _ st5)
  refine thn (hg _ s2 σ' H5 x5 u _ I5' r5 (step x5 H5 y5)) fun _ s3 ⟨σ6,H6,I6,q6⟩=>?_
  refine thn (ht _ s3 σ6 H6 _ I6 q6) fun ok s4 ⟨H7,I7,q7⟩=>?_
  have stay:∀ {σ7:L2.St} {H7:Hp} {s7:Shared},Inv (cxC X N' scope cl C D fp s₀ H2) (pins ++ [(D,o)] ++ ur fp s2.heap) σ7 H7 s7 →
    (∀ b ∈ fp,∀ o,s2.heap.get? b = some o -> s7.heap.get? b = some o) /\ (∀ b ∈ fp,H7 b = none) /\ H7 D = none /\ s7.heap.get? D = some o:=fun {σ7 H7 s7} I7=>by
   have d:=I7.pin (D,o) (by simp)
   refine ⟨fun b hb o e=>(I7.pin (b,o) (List.mem_append_right _ (List.mem_append_right _ (yt hb e)))).1,fun b hb=>?_,d.2.1,d.1⟩
   obtain ⟨o,e,_⟩:=T.obj _ _ st5 b hb
   exact (I7.pin (b,o) (List.mem_append_right _ (List.mem_append_right _ (yt hb e)))).2.1
  cases ok with
  | false =>
   rw [if_neg (by decide)] at q7 ⊢
   obtain ⟨k1,k2,k3,k4⟩:=stay I7
   obtain ⟨m',hm,w7⟩:=hN kvs σ6 H7 q7
   exact ⟨m',hm,i + 1,kvs,o,σ6,H7,I7.unpinned.unpinned,T.keep _ _ _ st5 k1,k2,k3,rv.at k4,w7⟩
  | true =>
   rw [if_pos rfl] at q7 ⊢
   refine thn (hk _ s4 σ6 H7 _ I7 q7) fun kv s5 ⟨y,H8,I8,ry,q8⟩=>?_
   refine thn (he _ s5 σ6 H8 _ I8 q8) fun vv s6 ⟨v,H9,I9,r9,hl9,b,ks,ey,eb,n9⟩=>?_
   subst ey
   cases (show kv = Value.ref b from ry)
   obtain ⟨k1,k2,k3,k4⟩:=stay I9
   have tp:∀ b xs,H2 b = some (.tup xs) -> H9 b = some (.tup xs):=I9.base.tups
   obtain ⟨z,hd,xs,rel,es,ep,h1,h2,h3,h4',h5⟩:=rv.at k4
   have dd:s6.heap.DictOfH (tupleKind (z8 X.prog X.w)) D xs:=by
    refine ⟨o,es,ep,h1,h2,h3,h4',fun x hx=>?_,h5⟩
    have all:∀ {l:List (List Key × V)} {m:List (List Key × Addr × Value)},KT H2 l m -> ∀ x ∈ m,(tupleKind (z8 X.prog X.w)).is s6.heap x.1 x.2.1:=by
     intro l m q
     induction q with
     | nil=>intro x hx; exact nomatch hx
     | @cons p q ps qs hq t ih =>
      intro x hx
      rcases List.mem_cons.mp hx with e | hx
      ·subst e
       exact uK I9.hok (by rw [← hq.1]; exact tp _ _ hq.2.1)
      ·exact ih x hx
    exact all rel x hx
   have xl:xs.length <= sizeLine:=by rw [← Paired.length rel]; exact z
   refine wpAny_dictSet_heap (hsz:=xl) (show (tupleKind (z8 X.prog X.w)).room X.A from Nat.lt_of_succ_lt hu) (uK I9.hok (tp _ _ eb)) dd fun h' dd' sb=>?_
   obtain ⟨o',es',ep',hq1,hq2,hq3,hq4,_,hq5⟩:=dd'
   obtain ⟨m',hm,w9⟩:=hN _ σ6 H9 n9
   have pl:=wD kvs ks v
   refine ⟨m',hm,i + 1,putK kvs ks v,o',σ6,H9,?_,T.keep _ _ _ (T.keep _ _ _ st5 k1) fun b hb o e=>sb.extBut b o (Nat.ne_of_lt (Nat.lt_of_lt_of_le (hfp b hb) hD)) e,k2,k3,⟨by omega,hd,_,rel.put ks eb r9,es',ep',hq1,hq2,hq3,hq4,hq5⟩,w9⟩
   exact (I9.unpinned.unpinned).turned (it:=D) (t':=_) (h':=h') (fun b o hb e=>sb.extBut b o hb e) k3 hDC (.inl (by simp)) (fun x c e=>Nat.ne_of_lt (Nat.lt_of_lt_of_le (cells x c e) hD)) (fun p hp=>Nat.ne_of_lt (Nat.lt_of_lt_of_le (pinsz p hp) hD))
theorem jm {tg:Expr} {pos:Pos} {kx vx iter:Expr} {ifs:List Expr} {g:TG} {tt:TT} {tk tv:TE} {E:VS7} {Q:VK} {RR:Value -> Addr -> Result -> Shared -> Prop}
  (hu:X.A.units + 1 < cLine) (I:Inv X pins σ H2 s₂) (hcalm:X.calm = true) (T:Turn X.prog X.w X.K tg J fp it tn) (st:tn 0 s₂.heap) (f2:∀ b ∈ fp,FpOk X pins H2 b)
  (S:CSc X scope N' sub) (hcl1:∀ x c,cl.lookup x = some c -> X.env.cells.lookup x = some c) (hcl2:∀ y ∈ scope.names,y.2 = .free -> ∃ c,cl.lookup y.1 = some c)
  (hg:∀ C D fp s H,PG (cxC X N' scope cl C D fp s H) tg g) (ht:∀ C D fp s H,PIfs (cxC X N' scope cl C D fp s H) ifs tt) (hk:∀ C D fp s H,PE (cxC X N' scope cl C D fp s H) kx tk) (he:∀ C D fp s H,PE (cxC X N' scope cl C D fp s H) vx tv)
  (hW:Y5 J (capt sub σ) H2 g tt tk tv Q)
  (hRR:∀ (D C:Addr) (oC:Obj) (m:Str -> Option Value) (s':Shared) (Hf:Hp),Inv X (pins ++ [(C,oC)]) σ Hf s' -> s'.heap.Ns C m -> FpOk X pins Hf C -> Q (.ref D) Hf -> RR (.ref D) C (.ok .next) s') :
  wpAny (model X.prog X.w) X.A newDict (fun acc s₃=>wpAny (model X.prog X.w) X.A (newFunctionEnv scope X.env.globals cl [] X.env.qual none .none (some X.env)) (fun cenv s₄ =>
   codeAny (model X.prog X.w) X.A (.compStart (.DictComp kx vx [⟨tg,iter,ifs,0⟩] scope pos) 0 (.ref it) acc { cenv with scope:=relabel scope X.env }) (RR acc cenv.locals) s₄) E s₃) E s₂:=by
 obtain ⟨W,⟨m0,w0⟩,turn⟩:=hW
 refine wpAny_newObj_type (wpAny_newFunctionEnv S.nocell (by intro y hy; simp at hy) (fun h₁ hns₁ hsb₁=>?_) S.kind)
 dsimp only at hns₁ hsb₁ ⊢
 have hC:(s₂.heap.push { cls:=.type "dict",dict:=none,data:=.dict #[] }).objs.size = s₂.heap.objs.size + 1:=Heap.size_push ..
 rw [hC] at hns₁ hsb₁ ⊢
 have hk1:∀ b o,(s₂.heap.push { cls:=.type "dict",dict:=none,data:=.dict #[] }).get? b = some o -> h₁.get? b = some o:=fun b o e =>
  hsb₁.extBut b o (by have:=Heap.lt_size e; rw [hC] at this; exact Nat.ne_of_lt this) (Heap.get?_push_of_some _ e)
 have hfp:∀ b ∈ fp,b < s₂.heap.objs.size:=fun b hb=>by
  obtain ⟨o,e,_⟩:=T.obj _ _ st b hb
  exact Heap.lt_size e
 have I0:=tO (tk:=s₂.toks + ([]:List (Str × Value)).length) I S hcl1 hcl2 f2 hfp hns₁ hk1
 have hD0:h₁.get? s₂.heap.objs.size = some { cls:=.type "dict",data:=.dict #[] }:=hk1 _ _ (Heap.get?_push_size _ rfl)
 obtain ⟨_,hd0,xs0,rel0,o0,es0,ep0,q1,q2,q3,q4,q5⟩:=(jZ (P:=X.prog) (w:=X.w) (H:=H2) s₂.heap I.big)
 rw [Heap.get?_push_size _ rfl] at q1
 cases q1
 have loop:codeAny (model X.prog X.w) X.A (.compLoop (.DictComp kx vx [⟨tg,iter,ifs,0⟩] scope pos) 0 (.ref it) (.ref s₂.heap.objs.size) (compEnvC scope cl (s₂.heap.objs.size + 1) X.env)) (RR (.ref s₂.heap.objs.size) (s₂.heap.objs.size + 1)) { s₂ with heap:=h₁,toks:=s₂.toks + ([]:List (Str × Value)).length } :=
  Y7 (s₀:={ s₂ with heap:=s₂.heap.push { cls:=.type "dict",dict:=none,data:=.dict #[] } }) (C:=s₂.heap.objs.size + 1) (D:=s₂.heap.objs.size) hu I hcalm T f2 hfp (fun b o e=>Heap.get?_push_of_some _ e) rfl (Nat.le_refl _) (Nat.le_succ _) (Nat.ne_of_lt (Nat.lt_succ_self _)) hcl1 (hg _ _ _ _ _) (ht _ _ _ _ _) (hk _ _ _ _ _) (he _ _ _ _ _) turn hRR m0 _
   ⟨0,[],_,capt sub σ,H2,I0,T.keep _ _ _ st fun b hb o e=>hk1 b o (Heap.get?_push_of_some _ e),fun b hb=>(f2 b hb).1,I.hok.fresh (Nat.le_refl _),⟨Nat.zero_le _,hd0,[],.nil,es0,ep0,hD0,q2,q3,by cases rel0; exact q4,List.nodup_nil⟩,w0⟩
 exact codeAny_compStart_dict loop (T.self _ _ _ _ _ (T.keep _ _ _ st fun b hb o e=>hk1 b o (Heap.get?_push_of_some _ e)) loop)
end
section
variable {X:Cx} {scope:Scope} {N':List Str} {sub:List (Option Nat)} {tg:Expr} {pos:Pos} {kx vx iter:Expr} {ifs:List Expr} {wi:TI} {g:TG} {tt:TT} {tk tv:TE}
theorem X8 (hu:X.A.units + 1 < cLine) (S:CSc X scope N' sub) (hcalm:X.calm = true) (hi:PI X tg iter wi)
  (hg:∀ cl C D fp s H,PG (cxC X N' scope cl C D fp s H) tg g) (ht:∀ cl C D fp s H,PIfs (cxC X N' scope cl C D fp s H) ifs tt) (hk:∀ cl C D fp s H,PE (cxC X N' scope cl C D fp s H) kx tk) (he:∀ cl C D fp s H,PE (cxC X N' scope cl C D fp s H) vx tv)
  (hs:∀ x,foldedSetIterable iter X.env x = pure x:=by intro _; rfl):PE X (.DictComp kx vx [⟨tg,iter,ifs,0⟩] scope pos) (Us wi sub g tt tk tv):=by
 intro pins s σ H Q I h
 obtain ⟨cl,hclos,hcl1,hcl2⟩:=S.clos I
 rw [arm_eval_DictComp]
 refine wpAny_comprehension_free (use:=none) rfl hs hclos S.kind S.names (thn (hi pins s σ H _ I h) fun v s1 h1=>thn h1 fun itv s2 h2=>?_)
 obtain ⟨it,fp,tn,J,H2,e,I2,T,st2,f2,hW⟩:=h2
 subst e
 refine jm (RR:=fun acc C=>compPost (model X.prog X.w) X.A X.xe none (EP X pins σ Q) acc C) hu I2 hcalm T st2 f2 S hcl1 hcl2 (hg cl) (ht cl) (hk cl) (he cl) hW ?_
 intro D C oC m s' Hf IX hm fpc q
 refine ⟨m,hm,fun h' sb=>⟨.ref D,Hf,?_,rfl,q⟩⟩
 exact (IX.unpinned).turned (it:=C) (t':=s'.toks) (h':=h') (fun b o hb e=>sb.extBut b o hb e) fpc.1 fpc.2.1 fpc.2.2.2.1 fpc.2.2.2.2.1 fpc.2.2.2.2.2
end
section
variable {prog:Program} {w:World} {A:Around} {E:VS7} {s:Shared} {T:String} {r d:Addr} {n:Nat} {P:Nat -> Value -> Prop} {OK:Heap -> Prop}
theorem jn {Q:List Value -> Shared -> Prop} (K:KdlSrc prog w T r d n P OK) (hh:A.handled = none) (hok:OK s.heap) (hn:n <= sizeLine)
  (hQ:∀ (h':Heap) tk acc',(∀ b o,s.heap.get? b = some o -> h'.get? b = some o) -> ItemsOf P acc' n -> Q acc'.toList { s with heap:=h',toks:=tk }) :
  wpAny (model prog w) A (collect (.ref r)) Q E s:=by
 unfold collect
 refine wpAny_bind (wpAny_runValue (codeAny_builtin F.entry_proto_collect ?_))
 rw [Around.under_plainId F.plain_proto_collect _]
 show wpAny _ A.in1 (newList [] >>= fun l=>again (.builtin "list.__iadd__" ⟨[l,.ref r],[]⟩)) _ _ s
 refine wpAny_bind (wpAny_newObj_type ?_)
 refine wpAny_pure ⟨plainId_quiet F.plain_list_iadd _,codeAny_builtin F.entry_list_iadd ?_⟩
 rw [Around.under_plainId F.plain_list_iadd _]
 show wpAny _ A.in1 (Builtin.List.listExtendWith (.ref s.heap.objs.size) (.ref r) (.ref s.heap.objs.size)) _ _ _
 have hS:(s.heap.push { cls:=.type "list",data:=.seq ([]:List Value).toArray }).get? s.heap.objs.size = some { cls:=.type "list",data:=.seq ([]:List Value).toArray }:=Heap.get?_push_size _ rfl
 have hok':OK (s.heap.push { cls:=.type "list",data:=.seq ([]:List Value).toArray }):=K.keep _ _ hok fun b _ o e=>Heap.get?_push_of_some _ e
 have fin:∀ (h':Heap) tk acc' c',(∀ b o,s.heap.get? b = some o -> h'.get? b = some o) -> h'.get? s.heap.objs.size = some { cls:=.type "list",dict:=none,data:=.seq acc' c',slots:=#[] } -> ItemsOf P acc' n →
   wpAny (model prog w) A (load s.heap.objs.size >>= fun o=>match o.data with | .seq xs _=>pure xs.toList | _=>unsupported "internal:collect") Q E { s with heap:=h',toks:=tk }:=fun h' tk acc' c' hk hS' hacc =>
  wpAny_bind (wpAny_load hS' (wpAny_pure (hQ h' tk acc' hk hacc)))
 refine wpAny_mono (kdl_extend (R:=fun r' s'=>∃ (h':Heap) (tk:Nat) (acc':Array Value) (c':Nat),r' = .ok (.ret (.ref s.heap.objs.size)) /\ s' = { s with heap:=h',toks:=tk } /\ (∀ b o,s.heap.get? b = some o -> h'.get? b = some o) /\ h'.get? s.heap.objs.size = some { cls:=.type "list",dict:=none,data:=.seq acc' c',slots:=#[] } /\ ItemsOf P acc' n)
   K hh (s:={ s with heap:=s.heap.push { cls:=.type "list",data:=.seq ([]:List Value).toArray } }) hok' s.heap.objs.size (Ne.symm (Nat.ne_of_lt (K.there _ hok).1)) (Ne.symm (Nat.ne_of_lt (K.there _ hok).2)) _ 0 hS (fun h' tk acc' c' hk hS hacc =>
  ⟨h',tk,acc',c',rfl,rfl,fun b o e=>hk b o (Nat.ne_of_lt (Heap.lt_size e)) (Heap.get?_push_of_some _ e),hS,hacc⟩) hn) (fun fn s' h=>?_) (fun e s' h=>?_)
 ·cases fn with
  | done f =>
   obtain ⟨h',tk,acc',c',e,rfl,hf,hl,hS'⟩:=h
   cases e
   exact fin h' tk acc' c' hf hl hS'
  | again c =>
   refine ⟨h.1,codeAny_mono h.2 fun r s'' hr=>?_⟩
   obtain ⟨h',tk,acc',c',e,rfl,hf,hl,hS'⟩:=hr
   subst e
   exact fin h' tk acc' c' hf hl hS'
 ·obtain ⟨h',tk,acc',c',e,_⟩:=h
  cases e
theorem wz {Q:VS7} (K:KdlSrc prog w T r d n P OK) (hh:A.handled = none) (hok:OK s.heap) (hn:n <= sizeLine)
  (hQ:∀ (h':Heap) tk acc',(∀ b o,s.heap.get? b = some o -> h'.get? b = some o) -> ItemsOf P acc' n -> Q (.ref h'.objs.size) { s with heap:=h'.push { cls:=.type "tuple",data:=.seq acc' },toks:=tk }) :
  wpAny (model prog w) A (call (.type "tuple") [.ref r]) Q E s:=by
 refine callType_codes (Q₁:=fun obj s₁=>s₁.TypeIs obj "tuple" /\ Q obj s₁) F.called_tuple (F.typeCall_tuple_1 _) F.entry_object_init ?_ fun obj s₁ h₁=>?_
 ·refine codeAny_of_tree ?_
  show wpAny _ A.in1.in1 (do checkBuiltinCall "tuple.__new__" ⟨[.type "tuple",.ref r],[]⟩; again (.builtin "tuple.__new__" ⟨[.type "tuple",.ref r],[]⟩)) _ _ s
  refine wpAny_bind (wpAny_of_eq (F.newCall_tuple_1 _) (wpAny_pure ⟨plainId_quiet F.plain_tuple_new _,codeAny_builtin F.entry_tuple_new ?_⟩))
  rw [Around.under_plainId F.plain_tuple_new _]
  have hsub:=sub_tuple_self
  have hinit:=init_tuple_lookup
  have hmh:=madeHere_tuple
  have hTI:=K.type s hok
  have hnt:=K.notTuple
  wp_walk using wpAny_typeOf hTI,jn (A:=A.in1.in1) K hh hok hn
  intro h' tk acc hf hacc
  show wpAny _ _ (Builtin.Tuple.tupleExact acc.toList.toArray >>= fun v=>ret v) _ _ _
  unfold Builtin.Tuple.tupleExact
  refine wpAny_bind (wpAny_newObj_type ?_ (by show acc.toList.toArray.size <= sizeLine; simp only [Array.toArray_toList]; rw [hacc.1]; exact hn))
  refine wpAny_pure ⟨⟨_,Heap.get?_push_size _ rfl,rfl⟩,?_⟩
  have e:acc.toList.toArray = acc:=by simp
  rw [e]
  exact hQ h' tk acc hf hacc
 ·exact ⟨h₁.1,F.args_object_init_2 obj _,object_init_meets F.called_tuple.init.lookup F.called_tuple.made (by decide) prog w A.in1 _ s₁ ⟨h₁.1,rfl,h₁.2⟩⟩
end
section
variable {X:Cx}
theorem rP {k:Nat} (hr:Room k X.A):xO X (.type "tuple") (fun xs H Q=>∃ a kvs,xs = [V.ref a] /\ H a = some (.dT kvs) /\ ∀ l zs,H l = none -> zs.length = kvs.length -> AllR (Vo H) zs kvs -> Q (.ref l) (upd H l (.tup zs))):=by
 intro pins s σ H xs us Q I r h
 obtain ⟨a,kvs,rfl,ha,q⟩:=h
 obtain ⟨u,rfl,ru⟩:=wR r
 cases ru
 obtain ⟨z,hd,ys,rel,dd⟩:=YN I.hok ha
 obtain ⟨o,es,ep,ho,hc,hdat,he,_,_⟩:=dd
 have hl:kvs.length = ys.length:=Paired.length rel
 have hes:es.size = ys.length:=size_of_entries he
 refine wz (Vn (es:=es) (ep:=ep) hd) hr.hd ⟨o,ho,hc,hdat⟩ (by rw [hes,← hl]; exact z) fun h' tk acc' kp hI=>?_
 have hacc:acc'.toList = ys.map fun q=>Value.ref q.2.1:=by
  apply List.ext_getElem
  ·rw [Array.length_toList,hI.1,hes,List.length_map]
  ·intro j h1 h2
   rw [Array.length_toList] at h1
   obtain ⟨hj,ev⟩:=hI.2 j acc'[j] (Array.getElem?_eq_getElem h1)
   have hy:j < ys.length:=by omega
   have ee:=entry_at he j
   rw [Array.getElem?_eq_getElem hj,List.getElem?_eq_getElem hy,Option.map_some] at ee
   rw [Array.getElem_toList,ev,Option.some.inj ee,List.getElem_map]
   rfl
 have fr:H h'.objs.size = none:=(I.kept (t':=tk) kp).hok.fresh (Nat.le_refl _)
 refine ⟨.ref h'.objs.size,_,(I.kept (t':=tk) kp).laid (t':=tk) (o:=.tup (ys.map fun q=>V.ref q.2.1)) (fun b ob q=>Heap.get?_push_of_some _ q) (Nat.le_refl _) ⟨by rw [List.length_map,← hl]; exact z,acc'.toList,by rw [hacc]; exact rM ys,?_⟩,rfl,q _ _ fr (by rw [List.length_map,hl]) (j3 rel)⟩
 rw [Array.toArray_toList]
 exact IsTup.new _ _
end
def xC:Nat -> List (List Int) -> List (List Key × V)
 | _,[]=>[]
 | j,d :: r=>(kI d,V.int j) :: xC (j + 1) r
theorem rQ:∀ (j:Nat) (a b:List (List Int)),xC j (a ++ b) = xC j a ++ xC (j + a.length) b
 | j,[],b=>rfl
 | j,d :: a,b=>by
  show (kI d,V.int j) :: xC (j + 1) (a ++ b) = (kI d,V.int j) :: (xC (j + 1) a ++ xC (j + (a.length + 1)) b)
  rw [rQ (j + 1) a b,show j + 1 + a.length = j + (a.length + 1) by omega]
theorem rR:∀ (j:Nat) (a:List (List Int)),(xC j a).length = a.length
 | _,[]=>rfl
 | j,_ :: a=>congrArg (· + 1) (rR (j + 1) a)
theorem j9 {d:List Int}:∀ (j:Nat) {a:List (List Int)},d ∉ a -> valV (xC j a) (kI d) = none
 | _,[],_=>rfl
 | j,e :: a,h=>by
  show valV ((kI e,V.int j) :: xC (j + 1) a) (kI d) = none
  rw [wn (fun z=>h (List.mem_cons.mpr (.inl (j8 z).symm)))]
  exact j9 (j + 1) fun z=>h (List.mem_cons.mpr (.inr z))
def ixF:List (List Int) -> List Int -> Nat
 | [],_=>0
 | e :: a,d=>if e = d then 0 else ixF a d + 1
theorem rS {d:List Int}:∀ (j:Nat) {a:List (List Int)},d ∈ a -> valV (xC j a) (kI d) = some (V.int ((j + ixF a d:Nat):Int))
 | _,[],h=>nomatch h
 | j,e :: a,h=>by
  show valV ((kI e,V.int j) :: xC (j + 1) a) (kI d) = some (V.int ((j + (if e = d then 0 else ixF a d + 1):Nat):Int))
  by_cases c:e = d
  ·rw [wZ (by rw [c]),if_pos c]; rfl
  ·rw [wn (fun z=>c (j8 z)),if_neg c]
   have h':d ∈ a:=(List.mem_cons.mp h).resolve_left fun z=>c z.symm
   rw [rS (j + 1) h',show j + 1 + ixF a d = j + (ixF a d + 1) by omega]
def ownT (fam:List (List Int)):List (List Int):=fam.map fun a=>fam.map fun b=>(ixF fam (zR a b):Int)
theorem GoodF.le {ms:List (List Int)} {S:Nat} {f:FW} (h:GoodF ms S f) (hf:Few ms S):f.length <= 60:=by
 obtain ⟨l,hl,hw⟩:=hf
 have:=ug h.nd fun d hd=>hw d (h.wd d hd)
 unfold zO at this
 rw [List.length_map] at this
 omega
structure Fam (S:Nat) (fam:List (List Int)):Prop where
 nd:fam.Nodup
 dd:∀ d ∈ fam,Dd S d
 cl:∀ a ∈ fam,∀ b ∈ fam,zR a b ∈ fam
 hd:fam[0]? = some (idL S)
 l60:fam.length <= 60
theorem FamL.fam {ms:List (List Int)} {S:Nat} {f:FW} (h:FamL ms S f) (hM:Mks ms S) (hf:Few ms S):Fam S (zO f):=by
 have hO:=h.ok
 have h60:=hO.le hf
 refine ⟨hO.good.nd,fun d hd=>(hO.good.wd d hd).dd hM,fun a ha b hb=>hO.closed hM h60 ha hb,?_,by unfold zO; rw [List.length_map]; exact h60⟩
 have:=hO.hd
 cases f with
 | nil=>cases this
 | cons p f=>cases this; rfl
structure MksAt (K:FG7) (H:Hp) (x:V) (ms:List (List Int)) (S:Nat):Prop where
 at':yJ K H x ms
 ok:Mks ms S
 s1:1 <= S
 s5:S <= 5
 m1:1 <= ms.length
 m4:ms.length <= 4
 few:Few ms S
theorem MksAt.grow {K:FG7} {m:List Addr} {H H':Hp} {x:V} {ms:List (List Int)} {S:Nat} (h:MksAt K H x ms S) (g:Grow m H H'):MksAt K H' x ms S:=⟨g.rows h.at',h.ok,h.s1,h.s5,h.m1,h.m4,h.few⟩
def ZN (K:FG7) (H:Hp) (x:V) (rows:List (List Int)):Prop:=∃ r xs,x = .ref r /\ SqT K H r xs /\ AllR (KeyB H) xs rows
theorem ZN.rows {K:FG7} {H:Hp} {x:V} {rows:List (List Int)} (h:ZN K H x rows):yJ K H x rows:=let ⟨r,xs,e,h1,h2⟩:=h; ⟨r,xs,e,h1,h2.imp fun _ _ z=>z.board⟩
theorem ZN.grow {K:FG7} {m:List Addr} {H H':Hp} {x:V} {rows:List (List Int)} (h:ZN K H x rows) (g:Grow m H H'):ZN K H' x rows:=let ⟨r,xs,e,h1,h2⟩:=h; ⟨r,xs,e,g.sqT h1,h2.imp fun _ _ z=>z.grow g⟩
theorem rT {H:Hp}:∀ {zs:List V} {kvs:List (List Key × V)} {fam:List (List Int)},AllR (Vo H) zs kvs -> kvs.map (·.1) = fam.map (List.map Sum.inl) -> AllR (KeyB H) zs fam
 | [],[],[],_,_=>trivial
 | [],[],_ :: _,_,e=>by cases e
 | _ :: _,_ :: _,[],_,e=>by cases e
 | z :: zs,p :: kvs,d :: fam,h,e=>by
  rw [List.map_cons,List.map_cons] at e
  injection e with e1 e2
  obtain ⟨⟨b,hb,hp⟩,ht⟩:=h
  refine ⟨⟨b,hb,?_⟩,rT ht e2⟩
  rw [hp,e1,jc]
 | [],_ :: _,_,h,_=>h.elim
 | _ :: _,[],_,h,_=>h.elim
section
variable {K:FG7} {a:Addr} {c:Bool} {xs:List V} {k:Nat} {g:TG} {tt:TT} {te tk tv:TE} {Q:VK} {σ:L2.St} {H:Hp}
theorem rV (Pv:Nat -> List V -> Hp -> Prop) (h0:Pv 0 [] H) (hl:∀ i ys H',Pv i ys H' -> SqT K H' a xs)
  (hs:∀ i x ys H',xs[i]? = some x -> Pv i ys H' -> te (σ.set k (some x)) H' fun y H5=>ys.length < sizeLine /\ Pv (i + 1) (ys ++ [y]) H5)
  (hd:∀ ys H',Pv xs.length ys H' -> ∀ l,H' l = none -> Q (.ref l) (upd H' l (.lst ys))):vX (Itt K a) σ H (vW k) Zt te Q :=
 tS (fun _=>true) Pv h0 hl (fun _ _ _ _ h=>h) (fun i x ys H' hx p _=>hs i x ys H' hx p) (fun _ _ _ _ _ _ z=>nomatch z) hd
theorem ZO (Pv:Nat -> List (List Key × V) -> L2.St -> Hp -> Prop) (h0:Pv 0 [] σ H) (hl:∀ i zs σ H,Pv i zs σ H -> SqC c K H a xs)
  (hs:∀ i x zs σ H' T,xs[i]? = some x -> Pv i zs σ H' -> H' T = none -> g (.ref T) σ (upd H' T (.tup [.int i,x])) fun σ2 H3=>tt σ2 H3 fun b H4=>if b = true then tk σ2 H4 fun y H5=>tv σ2 H5 fun v H6=>zs.length < sizeLine /\ ∃ b ks,y = .ref b /\ H b = some (.tup (ks.map kV)) /\ Pv (i + 1) (putK zs ks v) σ2 H6 else Pv (i + 1) zs σ2 H4)
  (hd:∀ zs σ H,Pv xs.length zs σ H -> ∀ l,H l = none -> Q (.ref l) (upd H l (.dT zs))) :
  Y5 (IteC c K a) σ H g tt tk tv Q:=by
 refine ⟨fun i m zs σ H=>m = xs.length - i /\ i <= xs.length /\ Pv i zs σ H,⟨xs.length,by simp,Nat.zero_le _,h0⟩,?_⟩
 rintro i m zs σ H' ⟨rfl,hi,p⟩
 have q:=hl i zs σ H' p
 by_cases hlt:i < xs.length
 ·refine .inr ⟨⟨xs,xs[i],q,by simp [hlt]⟩,Pv (i + 1),fun ws σ' H' p'=>⟨xs.length - (i + 1),by omega,rfl,hlt,p'⟩,fun x H'' y=>?_⟩
  obtain ⟨T,v,hT,rfl,rfl,y1⟩:=y
  exact hs i v zs σ H' T (y1 xs q) p hT
 ·have e:i = xs.length:=by omega
  subst e
  exact .inl ⟨⟨xs,q,Nat.le_refl _⟩,hd zs σ H' p⟩
end
structure OrdB (n:Nat) (lt:Nat -> Nat -> Bool):Prop where
 tr:∀ {i j k:Nat},lt i j = true -> lt j k = true -> lt i k = true
 as:∀ {i j:Nat},lt i j = true -> lt j i = false
 to:∀ {i j:Nat},i < n -> j < n -> i ≠ j -> lt i j = false -> lt j i = true
structure PmA (n:Nat) (p:Array Nat):Prop where
 sz:p.size = n
 pm:p.toList.Perm (List.range n)
theorem PmA.lt {n:Nat} {p:Array Nat} (h:PmA n p) {i:Nat} (hi:i < n):p.getD i 0 < n:=by
 have hi':i < p.toList.length:=by rw [Array.length_toList,h.sz]; exact hi
 have e:p.getD i 0 = p.toList[i]:=by simp [Array.getD,h.sz,hi]
 rw [e]
 exact List.mem_range.mp (h.pm.mem_iff.mp (List.getElem_mem hi'))
theorem PmA.inj {n:Nat} {p:Array Nat} (h:PmA n p) {i j:Nat} (hi:i < n) (hj:j < n) (hne:i ≠ j):p.getD i 0 ≠ p.getD j 0:=by
 have hi':i < p.toList.length:=by rw [Array.length_toList,h.sz]; exact hi
 have hj':j < p.toList.length:=by rw [Array.length_toList,h.sz]; exact hj
 have e:p.getD i 0 = p.toList[i]:=by simp [Array.getD,h.sz,hi]
 have e':p.getD j 0 = p.toList[j]:=by simp [Array.getD,h.sz,hj]
 rw [e,e']
 intro z
 exact hne ((List.getElem_inj (h.pm.nodup_iff.mpr List.nodup_range)).mp z)
def Ups (lt:Nat -> Nat -> Bool) (p:Array Nat) (k:Nat):Prop:=∀ i j,i < j -> j < k -> lt (p.getD i 0) (p.getD j 0) = true
def Vr (lt:Nat -> Nat -> Bool) (p:Array Nat) (k:Nat):Prop:=∀ i j,i < j -> j < k -> lt (p.getD j 0) (p.getD i 0) = true
section
variable {n:Nat} {lt:Nat -> Nat -> Bool} {cmp:Nat -> Nat -> (Bool -> Shared -> Prop) -> Shared -> Prop} {s:Shared}
theorem Ups.snoc {p:Array Nat} {m:Nat} (o:OrdB n lt) (h1:1 <= m) (u:Ups lt p m) (e:lt (p.getD (m - 1) 0) (p.getD m 0) = true):Ups lt p (m + 1):=by
 intro i j hij hj
 by_cases hjm:j < m
 ·exact u i j hij hjm
 ·obtain rfl:j = m:=by omega
  by_cases hi:i = j - 1
  ·subst hi; exact e
  ·exact o.tr (u i (j - 1) (by omega) (by omega)) e
theorem Vr.snoc {p:Array Nat} {m:Nat} (o:OrdB n lt) (h1:1 <= m) (u:Vr lt p m) (e:lt (p.getD m 0) (p.getD (m - 1) 0) = true):Vr lt p (m + 1):=by
 intro i j hij hj
 by_cases hjm:j < m
 ·exact u i j hij hjm
 ·obtain rfl:j = m:=by omega
  by_cases hi:i = j - 1
  ·subst hi; exact e
  ·exact o.tr e (u i (j - 1) (by omega) (by omega))
end
section
variable {prog:Program} {w:World} {A:Around} {E:VS7} {s:Shared} {b fin:Bool} {Q:Bool -> Shared -> Prop}
structure RowAt (h:Heap) (v:Value) (row:List Int) (x:Addr) (ob:Obj) (its:Array Value) (n:Nat):Prop where
 e:v = .ref x
 g:h.get? x = some ob
 c:ob.cls = .type "tuple"
 d:ob.data = .seq its n
 i:IntsAre its.toList row
def Row1 (h:Heap) (v:Value) (row:List Int):Prop:=∃ x ob its n,RowAt h v row x ob its n
inductive Rows (h:Heap):List Value -> List (List Int) -> Prop
 | nil:Rows h [] []
 | cons {v vs row rows}:Row1 h v row -> Rows h vs rows -> Rows h (v :: vs) (row :: rows)
theorem Rows.len {h:Heap}:∀ {vs rows},Rows h vs rows -> vs.length = rows.length
 | _,_,.nil=>rfl
 | _,_,.cons _ t=>congrArg (· + 1) t.len
theorem Rows.get {h:Heap}:∀ {vs rows} {i:Nat},Rows h vs rows -> i < vs.length -> Row1 h (vs.getD i Value.none) (rows.getD i [])
 | _,_,_,.nil,hi=>absurd hi (by simp)
 | _,_,0,.cons r _,_=>r
 | _,_,i + 1,.cons _ t,hi=>by
  have:=t.get (i:=i) (by simpa using hi)
  exact this
theorem Rows.old {h h':Heap} (k:∀ x ob,h.get? x = some ob -> h'.get? x = some ob):∀ {vs rows},Rows h vs rows -> Rows h' vs rows
 | _,_,.nil=>.nil
 | _,_,.cons ⟨x,ob,its,n,r⟩ t=>.cons ⟨x,ob,its,n,r.e,k _ _ r.g,r.c,r.d,r.i⟩ (t.old k)
theorem Rows.tups {h:Heap}:∀ {vs rows},Rows h vs rows -> (∀ r ∈ rows,r ≠ []) -> ∃ fs,KatTups h vs fs /\ fs.length = vs.length /\ ∀ f ∈ fs,∃ n t,f = Value.int n t
 | _,_,.nil,_=>⟨[],.nil,rfl,fun f hf=>absurd hf (by simp)⟩
 | _,_,.cons ⟨x,ob,its,n,r⟩ t,ne=>by
  rename_i v vs row rows
  obtain ⟨fs,k,l,a⟩:=t.tups fun r hr=>ne r (List.mem_cons_of_mem _ hr)
  have hne:=ne row List.mem_cons_self
  obtain ⟨f,hf,n',t',rfl⟩:∃ f,its[0]? = some f /\ ∃ n t,f = Value.int n t:=by
   have hi:=r.i
   rw [← Array.getElem?_toList]
   revert hi
   generalize its.toList = us
   intro hi
   cases hi with
   | nil=>exact absurd rfl hne
   | cons n t _=>exact ⟨_,rfl,n,t,rfl⟩
  obtain rfl:=r.e
  exact ⟨Value.int n' t' :: fs,.cons r.g r.c r.d hf k,congrArg (· + 1) l,fun f hf=>by
   rcases List.mem_cons.mp hf with rfl | hf
   ·exact ⟨n',t',rfl⟩
   ·exact a f hf⟩
end
section
variable {prog:Program} {w:World} {A:Around} {E:VS7} {s:Shared} {es:Array DictEntry} {d it r:Addr} {ep i:Nat}
theorem X9 {Q:VS7} (lo:(d == sysModules) = false) (hm:xK es d ep s.heap) (q:Q (.ref s.heap.objs.size) { s with heap:=s.heap.push { cls:=.type "dict_values",data:=.fields #[.ref d] } }) :
  wpAny (model prog w) A (call (.builtin "dict.values") [.ref d]) Q E s:=by
 have hT:s.TypeIs (.ref d) "dict":=hm.typeIs
 refine wpAny_call_entry PySem.F.slot_dict_values hT PySem.F.entry_dict_values ?_ (PySem.F.args_dict_values_1 _)
 unfold Builtin.«dict.values»
 refine wpAny_bind ?_
 unfold Builtin.Dict.noArgs
 refine wpAny_bind (wpAny_notOrdered_dict hT (show wpAny _ _ (pure d) _ _ s from wpAny_pure ?_))
 show wpAny _ _ (Builtin.Dict.showsAll d >>= _) _ _ s
 unfold Builtin.Dict.showsAll
 rw [if_neg (by rw [lo]; exact Bool.false_ne_true)]
 exact wpAny_bind (wpAny_pure (wpAny_bind (wpAny_newObj_type (wpAny_pure ⟨_,rfl,q⟩))))
theorem Wa {Q:VS7} (hv:s.heap.IsValuesView r d) (hm:xK es d ep s.heap)
  (hQ:Q (.ref s.heap.objs.size) { s with heap:=s.heap.push { cls:=.type "dict_valueiterator",data:=.fields #[.ref d,.int 0 0,.int es.size 0,.int ep 0] } }) :
  wpAny (model prog w) A (pyIter (.ref r)) Q E s:=by
 obtain ⟨ov,hov,hcv,hdv⟩:=id hv
 obtain ⟨o,ho,hc,hdat⟩:=id hm
 refine wpAny_pyIter_slot hv.typeIs PySem.F.slot_dict_values_iter (wpAny_call_entry PySem.F.slot_dict_values_iter hv.typeIs PySem.F.entry_dict_values_iter ?_ (PySem.F.args_dict_values_iter_1 _))
 unfold Builtin.«dict_values.__iter__»
 refine wpAny_bind (wpAny_pure (wpAny_bind ?_))
 unfold Builtin.Dict_items.dictOf
 refine wpAny_bind (wpAny_field hov hdv (x:=.ref d) rfl (wpAny_pure (wpAny_bind ?_)))
 unfold Builtin.Dict_items.newIterator
 refine wpAny_bind (wpAny_dictEntries ho hdat (wpAny_bind (wpAny_dictEpoch ho hdat ?_)))
 have own:Builtin.Dict_items.ownsTuple "dict_valueiterator" = false:=by decide
 simp only [own,Bool.false_eq_true,if_false]
 refine wpAny_newObj_type (wpAny_pure ⟨_,rfl,"dict_valueiterator",_,⟨_,Heap.get?_push_size _ rfl,rfl⟩,PySem.F.slot_dict_valueiterator_next.lookup,?_⟩)
 simpa [rawInt] using hQ
theorem Wb {Q:Option Value -> Shared -> Prop} (hit:s.heap.IsValIter it d i es.size ep) (hm:xK es d ep s.heap) (hlt:i < es.size)
  (hQ:∀ h',h'.IsValIter it d (i + 1) es.size ep -> Heap.SameBut it s.heap h' -> Q (some es[i].val) { s with heap:=h' }) :
  wpAny (model prog w) A (pyNext (.ref it)) Q E s:=by
 obtain ⟨o,ho,hc,hd⟩:=id hit
 obtain ⟨od,hod,hcd,hdd⟩:=id hm
 unfold pyNext
 refine wpAny_bind (wpAny_attempt (wpAny_callSpecial?_slot (name:=Str.ofString "__next__") hit.typeIs PySem.F.slot_dict_valueiterator_next
  (wpAny_call_entry PySem.F.slot_dict_valueiterator_next hit.typeIs PySem.F.entry_dict_valueiterator_next ?_ (PySem.F.args_dict_valueiterator_next_1 _))))
 refine wpAny_bind (wpAny_pure ?_)
 refine wpAny_bind ?_
 refine wpAny_bind ?_
 first | refine wpAny_bind (wpAny_typeNameOfWhole_valiter hit.typeIs (wpAny_pure ?_)) | refine wpAny_bind (wpAny_typeNameOf_valiter hit.typeIs (wpAny_pure ?_))
 refine wpAny_bind (wpAny_fieldsOf ho hd ?_)
 have hown:Builtin.Dict_items.ownsTuple "dict_valueiterator" = false:=by decide
 simp only [hown,Bool.false_eq_true,if_false]
 show wpAny _ _ (if (Value.ref d == Value.none) = true then _ else _) _ _ s
 rw [if_neg (show ¬ ((Value.ref d == Value.none) = true) from Bool.false_ne_true)]
 refine wpAny_bind (wpAny_pure ?_)
 refine wpAny_bind (wpAny_dictEntries hod hdd ?_)
 rw [if_neg (by simp)]
 refine wpAny_bind (wpAny_pure ?_)
 refine wpAny_bind (wpAny_dictEpoch hod hdd ?_)
 rw [if_neg (by simp)]
 refine wpAny_pure ?_
 simp only [show ¬ ((i:Int) < 0) from by omega,if_false,Int.toNat_natCast,Array.getElem?_eq_getElem hlt]
 refine wpAny_bind ?_
 first | refine wpAny_bind (wpAny_typeNameOfWhole_valiter hit.typeIs (wpAny_pure ?_)) | refine wpAny_bind (wpAny_typeNameOf_valiter hit.typeIs (wpAny_pure ?_))
 refine wpAny_bind (wpAny_isOneOf_valiter hit.typeIs ?_)
 show wpAny _ _ (setField (.ref it) 1 (rawInt ((i:Int) + 1)) >>= _) _ _ s
 refine wpAny_bind (wpAny_setField ho hd (by simp) ?_)
 have hit':(s.heap.update it (Obj.mapFields (·.setIfInBounds 1 (rawInt ((i:Int) + 1))))).IsValIter it d (i + 1) es.size ep :=
  ⟨_,Heap.get?_update_self _ ho (Obj.isFreed_of_fields (Obj.data_mapFields hd _)),(Obj.cls_mapFields ..).trans hc,by rw [Obj.data_mapFields hd]; simp [rawInt]⟩
 refine wpAny_bind (wpAny_holding ?_)
 refine wpAny_bind (wpAny_isOneOf_valiter (s:={ s with heap:=s.heap.update it (Obj.mapFields (·.setIfInBounds 1 (rawInt ((i:Int) + 1)))) }) hit'.typeIs ?_)
 refine wpAny_bind (wpAny_isOneOf_valiter (s:={ s with heap:=s.heap.update it (Obj.mapFields (·.setIfInBounds 1 (rawInt ((i:Int) + 1)))) }) hit'.typeIs ?_)
 show wpAny _ _ (pure es[i].val) _ _ _
 exact wpAny_pure (wpAny_pure ⟨_,rfl,wpAny_pure (hQ _ hit' (Heap.SameBut.update ..))⟩)
theorem Vs {Q:Option Value -> Shared -> Prop} (hh:A.handled = none) (hit:s.heap.IsValIter it d es.size es.size ep) (hm:xK es d ep s.heap)
  (hQ:∀ h',Heap.ExtBut it s.heap h' -> Q none { s with heap:=h' }):wpAny (model prog w) A (pyNext (.ref it)) Q E s:=by
 obtain ⟨o,ho,hc,hd⟩:=id hit
 obtain ⟨od,hod,hcd,hdd⟩:=id hm
 unfold pyNext
 refine wpAny_bind (wpAny_attempt (wpAny_callSpecial?_slot (name:=Str.ofString "__next__") hit.typeIs PySem.F.slot_dict_valueiterator_next
  (wpAny_call_entry PySem.F.slot_dict_valueiterator_next hit.typeIs PySem.F.entry_dict_valueiterator_next ?_ (PySem.F.args_dict_valueiterator_next_1 _))))
 refine wpAny_bind (wpAny_pure ?_)
 refine wpAny_bind ?_
 refine wpAny_bind ?_
 first | refine wpAny_bind (wpAny_typeNameOfWhole_valiter hit.typeIs (wpAny_pure ?_)) | refine wpAny_bind (wpAny_typeNameOf_valiter hit.typeIs (wpAny_pure ?_))
 refine wpAny_bind (wpAny_fieldsOf ho hd ?_)
 have hown:Builtin.Dict_items.ownsTuple "dict_valueiterator" = false:=by decide
 simp only [hown,Bool.false_eq_true,if_false]
 show wpAny _ _ (if (Value.ref d == Value.none) = true then _ else _) _ _ s
 rw [if_neg (show ¬ ((Value.ref d == Value.none) = true) from Bool.false_ne_true)]
 refine wpAny_bind (wpAny_pure ?_)
 refine wpAny_bind (wpAny_dictEntries hod hdd ?_)
 rw [if_neg (by simp)]
 refine wpAny_bind (wpAny_pure ?_)
 refine wpAny_bind (wpAny_dictEpoch hod hdd ?_)
 rw [if_neg (by simp)]
 refine wpAny_pure ?_
 simp only [show ¬ ((es.size:Int) < 0) from by omega,if_false,Int.toNat_natCast,Array.getElem?_eq_none (Nat.le_refl es.size)]
 refine wpAny_bind ?_
 first | refine wpAny_bind (wpAny_typeNameOfWhole_valiter hit.typeIs (wpAny_pure ?_)) | refine wpAny_bind (wpAny_typeNameOf_valiter hit.typeIs (wpAny_pure ?_))
 show wpAny _ _ (setField (.ref it) 0 .none >>= _) _ _ s
 refine wpAny_bind (wpAny_setField ho hd (by simp) ?_)
 show wpAny _ _ (newExc (.type "StopIteration") [] >>= _) _ _ _
 refine wpAny_bind ?_
 simp only [newExc,newTuple]
 refine wpAny_bind (wpAny_newObj_type ?_ (by size_fits))
 refine wpAny_bind (m:=firstArgMember _ _) (wpAny_of_eq (a:=Value.none) (by first | rfl | (simp only [firstArgMember]; rfl)) ?_)
 refine wpAny_newObj_type ?_ (by size_fits)
 simp only [raiseNew]
 refine wpAny_bind (wpAny_handled ?_)
 rw [show A.in1.handled = none from hh]
 refine wpAny_bind (wpAny_pure (wpAny_throw ?_))
 refine wpAny_bind (wpAny_isInstance (T:="StopIteration") (b:=true) ⟨_,Heap.get?_push_size _ rfl,rfl⟩ isSubtype_stop ?_)
 exact wpAny_pure (hQ _ (((Heap.SameBut.update ..).extBut.push _).push _))
theorem Y8 (hh:A.handled = none) (I d:Addr) (hne:d ≠ I) (es:Array DictEntry) (ep:Nat) :
  Walks prog w A I [I,d] [I] es.size (fun i v=>∃ h:i < es.size,v = es[i].val) (fun i h=>h.IsValIter I d i es.size ep /\ xK es d ep h) where
 sub:=fun b hb=>by simp at hb; simp [hb]
 frame:=fun _ _ _ st hk=>⟨st.1.at fun o e=>hk I (by simp) o e,st.2.keep fun o e=>hk d (by simp) o e⟩
 item:=fun i s Q E hi st hQ=>by
  refine Wb st.1 st.2 hi fun h' hit' hs'=>?_
  exact hQ _ h' s.toks ⟨hi,rfl⟩ ⟨hit',st.2.keep fun o e=>hs'.extBut d o hne e⟩ fun b o hb e=>hs'.extBut b o (fun h=>hb (by simp [h])) e
 done:=fun s Q E st hQ=>Vs hh st.1 st.2 fun h' he'=>hQ h' s.toks fun b o hb e=>he' b o (fun h=>hb (by simp [h])) e
 self:=fun _ _ _ _ st hQ=>wpAny_pyIter_valiter st.1 hQ
theorem Vt:KdlSrc prog w "dict_values" r d es.size (fun i v=>∃ h:i < es.size,v = es[i].val) (fun h=>h.IsValuesView r d /\ xK es d ep h) where
 type:=fun _ hm=>hm.1.typeIs
 there:=fun _ hm=>⟨let ⟨_,ho,_⟩:=hm.1; Heap.lt_size ho,let ⟨_,ho,_⟩:=hm.2; Heap.lt_size ho⟩
 keep:=fun _ _ hm hk=>⟨let ⟨o,ho,x⟩:=hm.1; ⟨o,hk r (.inl rfl) o ho,x⟩,hm.2.keep fun o e=>hk d (.inr rfl) o e⟩
 notList:=by decide
 notTuple:=by decide
 hint:=fun _ _ _ _ hm hq=>kdl_hint_values hm.1.typeIs hq
 iter:=fun _ _ hh hm=>⟨_,_,(fun _ _ hq=>Wa hm.1 hm.2 hq),Y8 hh _ d (let ⟨_,ho,_⟩:=hm.2; Nat.ne_of_lt (Heap.lt_size ho)) es ep,⟨⟨_,Heap.get?_push_size _ rfl,rfl,rfl⟩,hm.2.keep fun o e=>Heap.get?_push_of_some _ e⟩⟩
end
theorem Y9 {H:Hp}:∀ {kvs:List (List Key × V)} {ys:List (List Key × Addr × Value)},KT H kvs ys -> Vals (kvs.map (·.2)) (ys.map fun q=>q.2.2)
 | _,_,.nil=>.nil
 | _,_,.cons h t=>.cons h.2.2 (Y9 t)
section
variable {X:Cx} {o:Expr} {to:TE} {p pos apos cpos:Pos}
def Wc (to:TE):TE:=fun σ H Q=>to σ H fun x H1=>∃ a kvs,x = V.ref a /\ H1 a = some (.dT kvs) /\ ∀ l,H1 l = none -> Q (.ref l) (upd H1 l (.tup (kvs.map (·.2))))
theorem ZP {k:Nat} (hr:Room k X.A) (hgl:Gl X "tuple") (hmt:X.mg "tuple" = none) (ho:PE X o to)
  (hbase:attributeBase o "values" X.env (eval o X.env) = eval o X.env:=by rfl) (hline:(apos.endLine == cpos.line) = true:=by rfl)
  (hs2:starEach [(.Call (.Attribute o "values" apos) [] [] cpos:Expr)] X.env = [(false,eval (.Call (.Attribute o "values" apos) [] [] cpos) X.env)]:=by rfl) :
  PE X (.Call (.Name "tuple" p) [.Call (.Attribute o "values" apos) [] [] cpos] [] pos) (Wc to):=by
 intro pins s σ H Q I h
 refine wpAny_Call_Name_kw (wx I hgl hmt zS (PyProof.Rows.callWith_type1 ?_ hs2 rfl))
 rw [hs2]
 show wpAny _ _ (spliced [(false,eval (.Call (.Attribute o "values" apos) [] [] cpos) X.env)]) _ _ s
 refine Calls.spliced_cons ?_
 refine wpAny_Call_method0_late hbase hline (thn (ho pins s σ H _ I h) fun v s1 ⟨x,H1,I1,r1,a,kvs,ex,ha,q⟩=>?_)
 subst ex
 obtain rfl:v = Value.ref a:=r1
 obtain ⟨z,hd,ys,rel,dd⟩:=YN I1.hok ha
 obtain ⟨ob,es,ep,e0,hc,hdat,he,_,_⟩:=dd
 have hl:kvs.length = ys.length:=Paired.length rel
 have hes:es.size = ys.length:=size_of_entries he
 have em:xK es a ep s1.heap:=⟨ob,e0,hc,hdat⟩
 refine ⟨"dict","dict.values",PySem.F.plainAttrs_dict,PySem.F.slot_dict_values,PySem.F.type_dict_values,em.typeIs,fun b e=>by cases e; exact ⟨ob,e0,hc.2.1⟩,Calls.callWith_builtin rfl (PySem.evalArgs_none (X9 hd em (Calls.spliced_nil ?_)))⟩
 have em':xK es a ep (s1.heap.push { cls:=.type "dict_values",data:=.fields #[.ref a] }):=em.keep fun o e=>Heap.get?_push_of_some _ e
 have I2:Inv X pins σ H1 { s1 with heap:=s1.heap.push { cls:=.type "dict_values",data:=.fields #[.ref a] } }:=I1.kept (t':=s1.toks) fun b o e=>Heap.get?_push_of_some _ e
 refine wz (s:={ s1 with heap:=s1.heap.push { cls:=.type "dict_values",data:=.fields #[.ref a] } }) (Vt (es:=es) (ep:=ep) (d:=a) (r:=s1.heap.objs.size)) hr.hd ⟨⟨_,Heap.get?_push_size _ rfl,rfl,rfl⟩,em'⟩ (by rw [hes,← hl]; exact z) fun h' tk acc' kp hI=>?_
 have hacc:acc'.toList = ys.map fun q=>q.2.2:=by
  apply List.ext_getElem
  ·rw [Array.length_toList,hI.1,hes,List.length_map]
  ·intro j h1 h2
   rw [Array.length_toList] at h1
   obtain ⟨hj,ev⟩:=hI.2 j acc'[j] (Array.getElem?_eq_getElem h1)
   have hy:j < ys.length:=by omega
   have ee:=entry_at he j
   rw [Array.getElem?_eq_getElem hj,List.getElem?_eq_getElem hy,Option.map_some] at ee
   rw [Array.getElem_toList,ev,Option.some.inj ee,List.getElem_map]
   rfl
 have fr:H1 h'.objs.size = none:=(I2.kept (t':=tk) kp).hok.fresh (Nat.le_refl _)
 refine ⟨.ref h'.objs.size,_,(I2.kept (t':=tk) kp).laid (t':=tk) (o:=.tup (kvs.map (·.2))) (fun b ob q=>Heap.get?_push_of_some _ q) (Nat.le_refl _) ⟨by rw [List.length_map]; exact z,acc'.toList,by rw [hacc]; exact Y9 rel,?_⟩,rfl,q _ fr⟩
 rw [Array.toArray_toList]
 exact IsTup.new _ _
end
structure Nm (S:Nat) (π:List Int):Prop where
 l:π.length = S
 pm:π.Perm (idL S)
def ap (π:List Int) (i:Int):Int:=π.getD i.toNat 0
theorem rW {l:List Int} {i:Nat} (h:i < l.length):l.getD i 0 ∈ l:=by
 rw [List.getD_eq_getElem?_getD,List.getElem?_eq_getElem h]; exact List.getElem_mem h
theorem jo {S:Nat} {i:Int}:i ∈ idL S ↔ 0 <= i /\ i < S:=by
 unfold idL
 rw [List.mem_map]
 constructor
 ·rintro ⟨k,hk,rfl⟩
  have:=List.mem_range.mp hk
  omega
 ·rintro ⟨h0,h1⟩
  exact ⟨i.toNat,List.mem_range.mpr (by omega),by omega⟩
theorem Xa (S:Nat):(idL S).Nodup:=by
 unfold idL
 exact List.Pairwise.map _ (fun a b h z=>h (by omega)) (List.nodup_range (n:=S))
section
variable {S:Nat} {π:List Int}
theorem Nm.rng (h:Nm S π) {i:Int} (h0:0 <= i) (h1:i < S):0 <= ap π i /\ ap π i < S:=jo.mp (h.pm.mem_iff.mp (rW (by rw [h.l]; omega)))
theorem Nm.inj (h:Nm S π) {i j:Int} (i0:0 <= i) (i1:i < S) (j0:0 <= j) (j1:j < S) (e:ap π i = ap π j):i = j:=by
 have hi:i.toNat < π.length:=by rw [h.l]; omega
 have hj:j.toNat < π.length:=by rw [h.l]; omega
 have e':π[i.toNat] = π[j.toNat]:=by
  unfold ap at e
  rwa [List.getD_eq_getElem?_getD,List.getD_eq_getElem?_getD,List.getElem?_eq_getElem hi,List.getElem?_eq_getElem hj] at e
 have:=(List.getElem_inj (h.pm.nodup_iff.mpr (Xa S))).mp e'
 omega
def un (π:List Int) (j:Int):Int:=(π.idxOf j:Nat)
theorem Nm.un (h:Nm S π) {j:Int} (j0:0 <= j) (j1:j < S):0 <= L3.un π j /\ L3.un π j < S /\ ap π (L3.un π j) = j:=by
 have hm:j ∈ π:=h.pm.mem_iff.mpr (jo.mpr ⟨j0,j1⟩)
 have hl:π.idxOf j < π.length:=List.idxOf_lt_length_of_mem hm
 have hS:=h.l
 refine ⟨Int.natCast_nonneg _,by show ((π.idxOf j:Nat):Int) < S; omega,?_⟩
 show π.getD ((π.idxOf j:Nat):Int).toNat 0 = j
 rw [Int.toNat_natCast,List.getD_eq_getElem?_getD,List.getElem?_eq_getElem hl]
 exact List.getElem_idxOf hl
theorem Nm.un_ap (h:Nm S π) {i:Int} (i0:0 <= i) (i1:i < S):L3.un π (ap π i) = i:=by
 obtain ⟨a,b⟩:=h.rng i0 i1
 obtain ⟨c,d,e⟩:=h.un a b
 exact h.inj c d i0 i1 e
def ren (π d:List Int):List Int:=(idL π.length).map fun j=>ap π (ap d (un π j))
theorem jp:(ren π d).length = π.length:=by unfold ren idL; rw [List.length_map,List.length_map,List.length_range]
theorem Ut {f:Int -> Int} {i:Int} (h0:0 <= i) (h1:i < S):ap ((idL S).map f) i = f i:=by
 unfold ap
 have hl:i.toNat < (idL S).length:=by unfold idL; rw [List.length_map,List.length_range]; omega
 rw [List.getD_eq_getElem?_getD,List.getElem?_map,List.getElem?_eq_getElem hl]
 show f ((idL S)[i.toNat]) = f i
 congr 1
 have e:=jg h0 h1
 rwa [List.getD_eq_getElem?_getD,List.getElem?_eq_getElem hl] at e
theorem Nm.ren_ap (h:Nm S π) {d:List Int} {j:Int} (j0:0 <= j) (j1:j < S):ap (ren π d) j = ap π (ap d (L3.un π j)):=by
 unfold ren; rw [h.l]; exact Ut j0 j1
theorem Wd {d:List Int} (hd:Dd S d) {i:Int} (h0:0 <= i) (h1:i < S):0 <= ap d i /\ ap d i < S:=hd.2 _ (rW (by rw [hd.1]; omega))
theorem Nm.ren_dd (h:Nm S π) {d:List Int} (hd:Dd S d):Dd S (ren π d):=by
 refine ⟨jp.trans h.l,fun v hv=>?_⟩
 unfold ren at hv
 obtain ⟨j,hj,rfl⟩:=List.mem_map.mp hv
 rw [h.l] at hj
 obtain ⟨j0,j1⟩:=jo.mp hj
 obtain ⟨c,e,_⟩:=h.un j0 j1
 obtain ⟨x,y⟩:=Wd hd c e
 exact h.rng x y
theorem Xb {a b:List Int} (ha:a.length = S) (hb:b.length = S) (h:∀ i:Int,0 <= i -> i < S -> ap a i = ap b i):a = b:=by
 refine List.ext_getElem (by rw [ha,hb]) fun i h1 h2=>?_
 have:=h (i:Int) (by omega) (by omega)
 unfold ap at this
 rwa [Int.toNat_natCast,List.getD_eq_getElem?_getD,List.getD_eq_getElem?_getD,List.getElem?_eq_getElem h1,List.getElem?_eq_getElem h2] at this
theorem Xc {a b:List Int} (ha:Dd S a) {i:Int} (h0:0 <= i) (h1:i < S):ap (zR a b) i = ap b (ap a i):=by
 unfold ap zR
 have hl:i.toNat < a.length:=by rw [ha.1]; omega
 rw [List.getD_eq_getElem?_getD,List.getElem?_map,List.getD_eq_getElem?_getD (l:=a),List.getElem?_eq_getElem hl]; rfl
theorem Nm.ren_then (h:Nm S π) {a b:List Int} (ha:Dd S a) (hb:Dd S b):zR (ren π a) (ren π b) = ren π (zR a b):=by
 refine Xb (S:=S) (rO.trans (h.ren_dd ha).1) (jp.trans h.l) fun j j0 j1=>?_
 obtain ⟨c,e,_⟩:=h.un j0 j1
 obtain ⟨x,y⟩:=Wd ha c e
 obtain ⟨p,q⟩:=h.rng x y
 rw [Xc (h.ren_dd ha) j0 j1,h.ren_ap j0 j1,h.ren_ap p q,h.un_ap x y,h.ren_ap j0 j1,Xc ha c e]
theorem Uu {i:Int} (h0:0 <= i) (h1:i < S):ap (idL S) i = i:=jg h0 h1
theorem Nm.ren_id (h:Nm S π):ren π (idL S) = idL S:=by
 refine Xb (S:=S) (jp.trans h.l) (WJ S).1 fun j j0 j1=>?_
 obtain ⟨c,e,f⟩:=h.un j0 j1
 rw [h.ren_ap j0 j1,Uu c e,f,Uu j0 j1]
theorem Nm.ren_inj (h:Nm S π) {a b:List Int} (ha:Dd S a) (hb:Dd S b) (e:ren π a = ren π b):a = b:=by
 refine Xb ha.1 hb.1 fun i i0 i1=>?_
 obtain ⟨p,q⟩:=h.rng i0 i1
 have z:ap (ren π a) (ap π i) = ap (ren π b) (ap π i):=by rw [e]
 rw [h.ren_ap p q,h.ren_ap p q,h.un_ap i0 i1] at z
 obtain ⟨x,y⟩:=Wd ha i0 i1
 obtain ⟨x',y'⟩:=Wd hb i0 i1
 exact h.inj x y x' y' z
def rnF (π:List Int) (f:FW):FW:=f.map fun p=>(ren π p.1,p.2)
theorem Nm.word (h:Nm S π) {d:List Int} (hd:Dd S d):∀ {f:FW},(∀ k ∈ zO f,Dd S k) -> ye (rnF π f) (ren π d) = ye f d
 | [],_=>rfl
 | p :: f,hf=>by
  have hp:=hf p.1 List.mem_cons_self
  have ih:=h.word hd (f:=f) fun k hk=>hf k (List.mem_cons_of_mem _ hk)
  unfold ye rnF at ih ⊢
  rw [List.map_cons,List.find?_cons,List.find?_cons]
  by_cases e:p.1 = d
  ·have e':ren π p.1 = ren π d:=by rw [e]
   simp only [decide_eq_true e,decide_eq_true e']; rfl
  ·have e':¬ ren π p.1 = ren π d:=fun z=>e (h.ren_inj hp hd z)
   simp only [decide_eq_false e,decide_eq_false e']
   exact ih
def rnP (π:List Int) (fm:FW × List (List Int)):FW × List (List Int):=(rnF π fm.1,fm.2.map (ren π))
theorem Nm.step (h:Nm S π) {d m:List Int} {n:Nat} {fm:FW × List (List Int)} (hd:Dd S d) (hm:Dd S m) (hf:∀ k ∈ zO fm.1,Dd S k):xh (ren π d) (rnP π fm) n (ren π m) = rnP π (xh d fm n m):=by
 have e1:=h.word (sx hd hm) hf
 have e2:=h.word hd hf
 unfold xh
 rw [h.ren_then hd hm]
 show (if (ye (rnF π fm.1) (ren π (zR d m))).isSome = true then rnP π fm else _) = _
 rw [e1]
 by_cases c:(ye fm.1 (zR d m)).isSome = true
 ·rw [if_pos c,if_pos c]
 ·rw [if_neg c,if_neg c]
  unfold rnP rnF
  show (_ ++ [(_,(ye (rnF π fm.1) (ren π d)).getD [] ++ [(n:Int)])],_) = _
  rw [e2]
  simp only [List.map_append,List.map_cons,List.map_nil]
theorem Za {ms:List (List Int)} {i:Nat} (hi:i < ms.length):(ms.map (ren π)).getD i [] = ren π (ms.getD i []):=by
 rw [List.getD_eq_getElem?_getD,List.getD_eq_getElem?_getD,List.getElem?_map,List.getElem?_eq_getElem hi]; rfl
variable {ms:List (List Int)}
theorem Nm.row (h:Nm S π) (hM:Mks ms S) {d:List Int} {fm:FW × List (List Int)} (hd:Word ms S d) (hf:GoodF ms S fm.1):∀ i,i <= ms.length -> fRow (ms.map (ren π)) (ren π d) i (rnP π fm) = rnP π (fRow ms d i fm)
 | 0,_=>rfl
 | i + 1,hi=>by
  have ih:=h.row hM hd hf i (by omega)
  show xh (ren π d) (fRow (ms.map (ren π)) (ren π d) i (rnP π fm)) i ((ms.map (ren π)).getD i []) = rnP π (xh d (fRow ms d i fm) i (ms.getD i []))
  rw [ih,Za (by omega)]
  exact h.step (hd.dd hM) (hM _ (yO (by omega))) fun k hk=>((uO hf hd i (by omega)).wd k hk).dd hM
theorem Nm.pass (h:Nm S π) (hM:Mks ms S) {last:List (List Int)} {fm:FW × List (List Int)} (hd:∀ d ∈ last,Word ms S d) (hf:GoodF ms S fm.1):∀ j,j <= last.length -> yv (ms.map (ren π)) (last.map (ren π)) j (rnP π fm) = rnP π (yv ms last j fm)
 | 0,_=>rfl
 | j + 1,hj=>by
  have ih:=h.pass hM hd hf j (by omega)
  show fRow (ms.map (ren π)) ((last.map (ren π)).getD j []) (ms.map (ren π)).length (yv (ms.map (ren π)) (last.map (ren π)) j (rnP π fm)) = rnP π (fRow ms (last.getD j []) ms.length (yv ms last j fm))
  rw [ih,Za (by omega),List.length_map]
  exact h.row hM (hd _ (yO (by omega))) (vt hf hd j (by omega)) _ (Nat.le_refl _)
theorem Nm.few (h:Nm S π) (hM:Mks ms S) (hf:Few ms S):Few (ms.map (ren π)) S:=by
 obtain ⟨l,hl,ha⟩:=hf
 refine ⟨l.map (ren π),by rw [List.length_map]; exact hl,fun d hd=>?_⟩
 have key:∃ d',Word ms S d' /\ ren π d' = d:=by
  induction hd with
  | id=>exact ⟨_,.id,h.ren_id⟩
  | more _ hm ih =>
   obtain ⟨d',hd',rfl⟩:=ih
   obtain ⟨m',hm',rfl⟩:=List.mem_map.mp hm
   exact ⟨_,.more hd' hm',(h.ren_then (hd'.dd hM) (hM m' hm')).symm⟩
 obtain ⟨d',hd',rfl⟩:=key
 exact List.mem_map.mpr ⟨d',ha d' hd',rfl⟩
theorem Nm.ixF (h:Nm S π) {d:List Int} (hd:Dd S d):∀ {fam:List (List Int)},(∀ k ∈ fam,Dd S k) -> ixF (fam.map (ren π)) (ren π d) = L3.ixF fam d
 | [],_=>rfl
 | k :: fam,hf=>by
  have ih:=h.ixF hd (fam:=fam) fun k hk=>hf k (List.mem_cons_of_mem _ hk)
  rw [List.map_cons]
  unfold L3.ixF
  by_cases e:k = d
  ·rw [if_pos e,if_pos (by rw [e])]
  ·rw [if_neg e,if_neg (fun z=>e (h.ren_inj (hf k List.mem_cons_self) hd z)),ih]
theorem Nm.own (h:Nm S π) {fam:List (List Int)} (hF:Fam S fam):ownT (fam.map (ren π)) = ownT fam:=by
 unfold ownT
 rw [List.map_map]
 refine List.map_congr_left fun a ha=>?_
 show (fam.map (ren π)).map (fun b=>(L3.ixF (fam.map (ren π)) (zR (ren π a) b):Int)) = _
 rw [List.map_map]
 refine List.map_congr_left fun b hb=>?_
 show ((L3.ixF (fam.map (ren π)) (zR (ren π a) (ren π b)):Nat):Int) = _
 rw [h.ren_then (hF.dd a ha) (hF.dd b hb),h.ixF (sx (hF.dd a ha) (hF.dd b hb)) hF.dd]
end
theorem Word.sub {ms ms':List (List Int)} {S:Nat} (hM:Mks ms' S) (h:∀ m ∈ ms,Word ms' S m) {d:List Int} (hd:Word ms S d):Word ms' S d:=by
 induction hd with
 | id=>exact .id
 | more _ hm ih=>exact ih.mul hM (h _ hm)
theorem Few.sub {ms ms':List (List Int)} {S:Nat} (hM:Mks ms S) (h2:∀ m ∈ ms',Word ms S m) (hf:Few ms S):Few ms' S:=by
 obtain ⟨l,hl,ha⟩:=hf
 exact ⟨l,hl,fun d hd=>ha d (hd.sub hM h2)⟩
theorem KvF.vals {K:FG7} {H:Hp}:∀ {kvs:List (List Key × V)} {f:FW},KvF K H kvs f -> AllR (zE K H) (kvs.map (·.2)) (f.map (·.2))
 | [],[],_=>trivial
 | _ :: _,_ :: _,⟨h,t⟩=>⟨h.2,t.vals⟩
 | [],_ :: _,h=>h.elim
 | _ :: _,[],h=>h.elim
theorem MksAt.turn {K:FG7} {H H':Hp} {x y:V} {ms ms':List (List Int)} {S:Nat} (h:MksAt K H x ms S) (r:yJ K H' y ms') (w:∀ m ∈ ms',Word ms S m) (m1:1 <= ms'.length) (m4:ms'.length <= 4):MksAt K H' y ms' S :=
 ⟨r,fun m hm=>(w m hm).dd h.ok,h.s1,h.s5,m1,m4,Few.sub h.ok w h.few⟩
abbrev OKey:=Option Key
def okV:OKey -> V
 | none=>.non
 | some k=>kV k
def DcO (a:Addr) (kvs:List (V × V)):HO:=.ext fun h=>∃ o es n,h.get? a = some o /\ o.cls = .type "dict" /\ o.data = .dict es n /\ Vals (kvs.map (·.1)) (es.toList.map (·.key)) /\ Vals (kvs.map (·.2)) (es.toList.map (·.val))
mutual
/-- nested data,whose lists and dicts are none of m -/
inductive Od (K:FG7) (m:List Addr) (H:Hp):V -> PyData -> Prop
 | non:Od K m H .non .none
 | bl (b:Bool):Od K m H (.bl b) (.bool b)
 | int (i:Int):Od K m H (.int i) (.int i)
 | str (x:Str):Od K m H (.str x) (.str x)
 | tup {a:Addr} {xs:List V} {ds:List PyData}:SqT K H a xs -> Ods K m H xs ds -> Od K m H (.ref a) (.tuple ds)
 | lst {a:Addr} {xs:List V} {ds:List PyData}:H a = some (.lst xs) -> a ∉ m -> a ≠ sysModules -> Ods K m H xs ds -> Od K m H (.ref a) (.list ds)
 | dct {a:Addr} {kvs:List (V × V)} {ds:List (PyData × PyData)}:H a = some (DcO a kvs) -> a ∉ m -> a ≠ sysModules -> Ods K m H (kvs.map (·.1)) (ds.map (·.1)) -> Ods K m H (kvs.map (·.2)) (ds.map (·.2)) -> Od K m H (.ref a) (.dict ds)
inductive Ods (K:FG7) (m:List Addr) (H:Hp):List V -> List PyData -> Prop
 | nil:Ods K m H [] []
 | cons {x:V} {xs:List V} {d:PyData} {ds:List PyData}:Od K m H x d -> Ods K m H xs ds -> Ods K m H (x :: xs) (d :: ds)
end
section
variable {K:FG7} {m:List Addr} {H H':Hp}
mutual
theorem Od.grow (g:Grow m H H'):∀ {x:V} {d:PyData},Od K m H x d -> Od K m H' x d
 | _,_,.non=>.non
 | _,_,.bl b=>.bl b
 | _,_,.int i=>.int i
 | _,_,.str x=>.str x
 | _,_,.tup h t=>.tup (g.sqT h) (Ods.grow g t)
 | _,_,.lst h n b t=>.lst (g.keep _ _ n h) n b (Ods.grow g t)
 | _,_,.dct h n b t u=>.dct (g.keep _ _ n h) n b (Ods.grow g t) (Ods.grow g u)
theorem Ods.grow (g:Grow m H H'):∀ {xs:List V} {ds:List PyData},Ods K m H xs ds -> Ods K m H' xs ds
 | _,_,.nil=>.nil
 | _,_,.cons h t=>.cons (Od.grow g h) (Ods.grow g t)
end
theorem Ods.length:∀ {xs:List V} {ds:List PyData},Ods K m H xs ds -> xs.length = ds.length
 | _,_,.nil=>rfl
 | _,_,.cons _ t=>congrArg (· + 1) (Ods.length t)
theorem Ods.get:∀ {xs:List V} {ds:List PyData} {i:Nat} {x:V},Ods K m H xs ds -> xs[i]? = some x -> ∃ d,ds[i]? = some d /\ Od K m H x d
 | _,_,_,_,.nil,e=>by simp at e
 | _,_,0,_,.cons h _,e=>by simp at e; subst e; exact ⟨_,rfl,h⟩
 | _,_,i + 1,x,.cons _ t,e=>Ods.get (i:=i) t (by simpa using e)
theorem Ods.at:∀ {xs:List V} {ds:List PyData} {i:Nat} {d:PyData},Ods K m H xs ds -> ds[i]? = some d -> ∃ x,xs[i]? = some x /\ Od K m H x d
 | _,_,_,_,.nil,e=>by simp at e
 | _,_,0,_,.cons h _,e=>by simp at e; subst e; exact ⟨_,rfl,h⟩
 | _,_,i + 1,x,.cons _ t,e=>Ods.at (i:=i) t (by simpa using e)
theorem Ods.append:∀ {xs ys:List V} {ds es:List PyData},Ods K m H xs ds -> Ods K m H ys es -> Ods K m H (xs ++ ys) (ds ++ es)
 | _,_,_,_,.nil,s=>s
 | _,_,_,_,.cons r t,s=>.cons r (Ods.append t s)
theorem Ods.take:∀ {xs:List V} {ds:List PyData} (n:Nat),Ods K m H xs ds -> Ods K m H (xs.take n) (ds.take n)
 | _,_,0,_=>.nil
 | _,_,_ + 1,.nil=>.nil
 | _,_,n + 1,.cons r t=>.cons r (Ods.take n t)
theorem Ods.drop:∀ {xs:List V} {ds:List PyData} (n:Nat),Ods K m H xs ds -> Ods K m H (xs.drop n) (ds.drop n)
 | _,_,0,r=>r
 | _,_,_ + 1,.nil=>.nil
 | _,_,n + 1,.cons _ t=>Ods.drop n t
end
section
variable {X:Cx} {pins:List (Addr × Obj)} {σ:L2.St} {H:Hp} {s:Shared} {m:List Addr}
theorem jq (I:Inv X pins σ H s):sysModules < s.heap.objs.size:=Nat.lt_trans (by decide) (show mainGlobals < s.heap.objs.size from (I.mod.glob.keeps I.bk).lt)
theorem DcO.at (I:Inv X pins σ H s) {a:Addr} {kvs:List (V × V)} (h:H a = some (DcO a kvs)):∃ o es n,s.heap.get? a = some o /\ o.cls = .type "dict" /\ o.data = .dict es n /\ Vals (kvs.map (·.1)) (es.toList.map (·.key)) /\ Vals (kvs.map (·.2)) (es.toList.map (·.val)):=(I.hok a _ h).1
mutual
theorem Od.reads (I:Inv X pins σ H s):∀ {x:V} {d:PyData} {u:Value},Od X.K m H x d -> RelV x u -> ∃ as,Reads s.heap u d as /\ sysModules ∉ as
 | _,_,u,.non,r=>by
  cases (show u = Value.none from r)
  exact ⟨_,.none,by simp⟩
 | _,_,u,.bl b,r=>by
  cases (show u = Value.bool b from r)
  exact ⟨_,.bool b,by simp⟩
 | _,_,u,.int i,r=>by
  obtain ⟨t,rfl⟩:=r
  exact ⟨_,.int i t,by simp⟩
 | _,_,u,.str x,r=>by
  obtain ⟨t,rfl⟩:=r
  exact ⟨_,.str x t,by simp⟩
 | _,_,u,.tup (a:=a) hs hd,r=>by
  cases (show u = Value.ref a from r)
  obtain ⟨its,r1,⟨o,e1,e2,n,e3⟩,_⟩:=I.tuple hs
  obtain ⟨as,q,ns⟩:=Ods.reads I hd r1
  exact ⟨_,.tuple e1 e2 e3 q,ns⟩
 | _,_,u,.lst (a:=a) hs _ hb hd,r=>by
  cases (show u = Value.ref a from r)
  obtain ⟨its,r1,⟨o,n,e1,e2,_,e3⟩,_⟩:=I.list (SqL.of hs)
  obtain ⟨as,q,ns⟩:=Ods.reads I hd r1
  exact ⟨_,.list e1 e2 e3 q,fun z=>(List.mem_cons.mp z).elim (fun e=>hb e.symm) ns⟩
 | _,_,u,.dct (a:=a) hs _ hb h1 h2,r=>by
  cases (show u = Value.ref a from r)
  obtain ⟨o,es,n,e1,e2,e3,v1,v2⟩:=DcO.at I hs
  obtain ⟨as,q1,n1⟩:=Ods.reads I h1 v1
  obtain ⟨bs,q2,n2⟩:=Ods.reads I h2 v2
  refine ⟨_,.dict e1 e2 e3 q1 q2,fun z=>?_⟩
  rcases List.mem_append.mp z with z | z
  ·exact (List.mem_cons.mp z).elim (fun e=>hb e.symm) n1
  ·exact n2 z
theorem Ods.reads (I:Inv X pins σ H s):∀ {xs:List V} {ds:List PyData} {us:List Value},Ods X.K m H xs ds -> Vals xs us -> ∃ as,ReadsAll s.heap us ds as /\ sysModules ∉ as
 | _,_,_,.nil,.nil=>⟨_,.nil,by simp⟩
 | _,_,_,.cons h t,.cons r rs=>by
  obtain ⟨as,q,n1⟩:=Od.reads I h r
  obtain ⟨bs,q2,n2⟩:=Ods.reads I t rs
  exact ⟨_,.cons q q2,fun z=>(List.mem_append.mp z).elim n1 n2⟩
end
end
section
variable {K:FG7} {m m':List Addr} {H:Hp}
mutual
theorem Od.more {a:Addr} (h:H a = none):∀ {x:V} {d:PyData},Od K m H x d -> Od K (a :: m) H x d
 | _,_,.non=>.non
 | _,_,.bl b=>.bl b
 | _,_,.int i=>.int i
 | _,_,.str x=>.str x
 | _,_,.tup q t=>.tup q (Ods.more h t)
 | _,_,.lst q n b t=>.lst q (fun z=>(List.mem_cons.mp z).elim (fun e=>by rw [e,h] at q; cases q) n) b (Ods.more h t)
 | _,_,.dct q n b t u=>.dct q (fun z=>(List.mem_cons.mp z).elim (fun e=>by rw [e,h] at q; cases q) n) b (Ods.more h t) (Ods.more h u)
theorem Ods.more {a:Addr} (h:H a = none):∀ {xs:List V} {ds:List PyData},Ods K m H xs ds -> Ods K (a :: m) H xs ds
 | _,_,.nil=>.nil
 | _,_,.cons q t=>.cons (Od.more h q) (Ods.more h t)
end
mutual
theorem Od.less (h:∀ b ∈ m',b ∈ m):∀ {x:V} {d:PyData},Od K m H x d -> Od K m' H x d
 | _,_,.non=>.non
 | _,_,.bl b=>.bl b
 | _,_,.int i=>.int i
 | _,_,.str x=>.str x
 | _,_,.tup q t=>.tup q (Ods.less h t)
 | _,_,.lst q n b t=>.lst q (fun z=>n (h _ z)) b (Ods.less h t)
 | _,_,.dct q n b t u=>.dct q (fun z=>n (h _ z)) b (Ods.less h t) (Ods.less h u)
theorem Ods.less (h:∀ b ∈ m',b ∈ m):∀ {xs:List V} {ds:List PyData},Ods K m H xs ds -> Ods K m' H xs ds
 | _,_,.nil=>.nil
 | _,_,.cons q t=>.cons (Od.less h q) (Ods.less h t)
end
end
structure DR where
 p:List Addr -> L2.St -> Hp -> Prop
 mono:∀ {m σ H H'},Grow [] H H' -> p m σ H -> p m σ H'
 more:∀ {a m σ H},H a = none -> p m σ H -> p (a :: m) σ H
def DR.t:DR:=⟨fun _ _ _=>True,fun _ _=>trivial,fun _ _=>trivial⟩
def DR.and (a b:DR):DR:=⟨fun m σ H=>a.p m σ H /\ b.p m σ H,fun g h=>⟨a.mono g h.1,b.mono g h.2⟩,fun g h=>⟨a.more g h.1,b.more g h.2⟩⟩
def DR.var (K:FG7) (i:Nat) (d:PyData):DR:=⟨fun m σ H=>∃ x,σ[i]? = some (some x) /\ Od K m H x d,fun g h=>by obtain ⟨x,e,o⟩:=h; exact ⟨x,e,o.grow (g.mono (by simp))⟩,fun g h=>by obtain ⟨x,e,o⟩:=h; exact ⟨x,e,o.more g⟩⟩
def tOd (K:FG7) (R:DR) (D:PyData):TE:=fun σ H Q=>∃ m,R.p m σ H /\ (∀ b ∈ m,H b ≠ none) /\ ∀ x H',Grow [] H H' -> Od K m H' x D -> Q x H'
def tOds (K:FG7) (R:DR) (Ds:List PyData):TA:=fun σ H Q=>∃ m,R.p m σ H /\ (∀ b ∈ m,H b ≠ none) /\ ∀ xs H',Grow [] H H' -> Ods K m H' xs Ds -> Q xs H'
theorem z6 {H H':Hp} {m:List Addr} (g:Grow [] H H') (h:∀ b ∈ m,H b ≠ none):∀ b ∈ m,H' b ≠ none:=fun b hb z=>by
 cases e:H b with
 | none=>exact h b hb e
 | some o=>rw [g.keep b o (by simp) e] at z; cases z
section
variable {X:Cx} {K:FG7} {R R':DR} {D:PyData} {Ds:List PyData} {e:Expr} {es:List Expr} {pos:Pos} {j}
theorem WN:PE X (.Constant .none j pos) (tOd K .t .none):=fun pins s σ H Q I ⟨m,_,_,q⟩=>jH pins s σ H Q I (q _ _ (Grow.refl _ _) .non)
theorem Vu {b:Bool}:PE X (.Constant (.bool b) j pos) (tOd K .t (.bool b)):=fun pins s σ H Q I ⟨m,_,_,q⟩=>vT pins s σ H Q I (q _ _ (Grow.refl _ _) (.bl b))
theorem yl {i:Int}:PE X (.Constant (.int i) j pos) (tOd K .t (.int i)):=fun pins s σ H Q I ⟨m,_,_,q⟩=>ze pins s σ H Q I (q _ _ (Grow.refl _ _) (.int i))
theorem WO {i:Int} {pos2:Pos}:PE X (.UnaryOp .USub (.Constant (.int i) j pos) pos2) (tOd K .t (.int (-i))):=fun pins s σ H Q I ⟨m,_,_,q⟩=>UL VU ze pins s σ H Q I ⟨_,rfl,q _ _ (Grow.refl _ _) (.int (-i))⟩
theorem Uv {i n:Int} {j2:Nat} {p1 p2:Pos} (h:CPow i n):PE X (.BinOp (.Constant (.int i) j p1) .Pow (.Constant (.int n) j2 p2) pos) (tOd K .t (.int (i ^ n.toNat))):=fun pins s σ H Q I ⟨m,_,_,q⟩=>zK jJ ze ze pins s σ H Q I ⟨_,_,rfl,rfl,h,q _ _ (Grow.refl _ _) (.int _)⟩
theorem WP {x:Str}:PE X (.Constant (.str x) j pos) (tOd K .t (.str x)):=fun pins s σ H Q I ⟨m,_,_,q⟩=>z3 pins s σ H Q I (q _ _ (Grow.refl _ _) (.str x))
theorem wA {i:Nat} (D:PyData) (h:PE X e (tVar i)):PE X e (tOd K (.var K i D) D):=fun pins s σ H Q I ⟨m,⟨x,ex,o⟩,_,q⟩=>h pins s σ H Q I ⟨x,ex,q _ _ (Grow.refl _ _) o⟩
theorem zI:PA X [] (tOds K .t []):=fun pos pins s σ H Q I ⟨m,_,_,q⟩=>zb pos pins s σ H Q I (q _ _ (Grow.refl _ _) .nil)
theorem yp (h:PE X e (tOd K R D)) (t:PA X es (tOds K R' Ds)) (hs:starEach (e :: es) X.env = (false,eval e X.env) :: starEach es X.env:=by rfl):PA X (e :: es) (tOds K (.and R R') (D :: Ds)):=fun pos pins s σ H Q I ⟨m,⟨r1,r2⟩,b,q⟩ =>
 za h t hs pos pins s σ H Q I ⟨m,r1,b,fun x H1 g1 o1=>⟨m,R'.mono g1 r2,z6 g1 b,fun xs H2 g2 o2=>q _ _ (g1.trans g2) (.cons (o1.grow (g2.mono (by simp))) o2)⟩⟩
theorem w5 (h:PE X e (tOd K R D)) (hs:starEach [e] X.env = (false,eval e X.env) :: starEach [] X.env:=by rfl):PA X [e] (tOds K R [D]):=fun pos pins s σ H Q I ⟨m,r1,b,q⟩ =>
 za h zb hs pos pins s σ H Q I ⟨m,r1,b,fun x H1 g1 o1=>q _ _ g1 (.cons o1 .nil)⟩
theorem zm (h:PE X e (tOd K .t D)) (t:PA X es (tOds K R' Ds)) (hs:starEach (e :: es) X.env = (false,eval e X.env) :: starEach es X.env:=by rfl):PA X (e :: es) (tOds K R' (D :: Ds)):=fun pos pins s σ H Q I ⟨m,r2,b,q⟩ =>
 yp h t hs pos pins s σ H Q I ⟨m,⟨trivial,r2⟩,b,q⟩
theorem zU {x1} (h:PA X es (tOds K R Ds)) (hl:Ds.length <= 1000:=by decide):PE X (.Tuple es x1 pos) (tOd K R (.tuple Ds)):=fun pins s σ H Q I ⟨m,r,b,q⟩ =>
 yz h pins s σ H Q I ⟨m,r,b,fun xs H' g o=>⟨by rw [o.length]; exact Nat.le_of_lt (zn hl),fun p hp =>
  have g2:=Grow.new (m:=[]) hp (.tup xs)
  q _ _ (g.trans g2) (.tup (SqT.of zd) (o.grow (g2.mono (by simp))))⟩⟩
def Tg (t:TA):TE:=fun σ H Q=>t σ H fun xs H1=>xs.length <= sizeLine /\ ∀ p,H1 p = none -> p ≠ sysModules -> Q (.ref p) (upd H1 p (.lst xs))
theorem Vv {t:TA} (h:PA X es t):PE X (.List es pos) (Tg t):=by
 intro pins s σ H Q I hq
 refine wpAny_List_spliced (thn (h pos pins s σ H _ I hq) fun us s1 ⟨xs,H1,I1,r,z,q⟩=>⟨by rw [← r.length]; exact z,?_⟩)
 have hf:H1 s1.heap.objs.size = none:=I1.hok.fresh (Nat.le_refl _)
 refine ⟨.ref s1.heap.objs.size,upd H1 s1.heap.objs.size (.lst xs),I1.laid (t':=s1.toks) (fun b u e=>Heap.get?_push_of_some _ e) (Nat.le_refl _) ?_,rfl,q _ hf (Nat.ne_of_gt (jq I1))⟩
 exact ⟨z,us,0,r,Heap.get?_push_size _ rfl⟩
theorem WQ {m:List Addr} {H:Hp} {p:Addr} (b:∀ b ∈ m,H b ≠ none) (h:H p = none):p ∉ m:=fun z=>b p z h
theorem Zb (h:PA X es (tOds K R Ds)) (hl:Ds.length <= 1000:=by decide):PE X (.List es pos) (tOd K R (.list Ds)):=fun pins s σ H Q I ⟨m,r,b,q⟩ =>
 Vv h pins s σ H Q I ⟨m,r,b,fun xs H' g o=>⟨by rw [o.length]; exact Nat.le_of_lt (zn hl),fun p hp hn =>
  have g2:=Grow.new (m:=[]) hp (.lst xs)
  q _ _ (g.trans g2) (.lst zd (WQ (z6 g b) hp) hn (o.grow (g2.mono (by simp))))⟩⟩
theorem ZQ (hK:X.K = K):xO X (.type "list") (fun xs H Q=>∃ p ys,xs = [.ref p] /\ (SqL K H p ys \/ SqT K H p ys) /\ ∀ l,H l = none -> l ≠ sysModules -> Q (.ref l) (upd H l (.lst ys))):=by
 subst hK
 intro pins s σ H xs us Q I r h
 obtain ⟨p,ys,rfl,hq,q⟩:=h
 obtain ⟨u,rfl,rx⟩:=wR r
 cases rx
 have fin:∀ (its:List Value),Vals ys its -> ys.length <= sizeLine -> ∀ (h':Heap) (c':Nat),(∀ b o',s.heap.get? b = some o' -> h'.get? b = some o') →
   h'.get? s.heap.objs.size = some { cls:=.type "list",dict:=none,data:=.seq its.toArray c',slots:=#[] } -> EP X pins σ Q (.ref s.heap.objs.size) { s with heap:=h' }:=fun its r' hz h' c' kp e =>
  ⟨.ref s.heap.objs.size,_,I.laid (t':=s.toks) kp (Nat.le_refl _) (show yh X.prog X.w _ h' _ (.lst ys) from ⟨hz,its,c',r',e⟩),rfl,q _ (I.hok.fresh (Nat.le_refl _)) (Nat.ne_of_gt (jq I))⟩
 rcases hq with hq | hq
 ·obtain ⟨its,r',pl,hz⟩:=I.list hq
  have hlen:=r'.length
  obtain ⟨o,ho,hc,n,hd⟩:=pl.isList
  exact call_list_seq p (.inl rfl) ho hc hd (fun h' c' kp e=>fin its r' hz h' c' kp e) (by simp only [List.size_toArray] <;> omega)
 ·obtain ⟨its,r',pl,hz⟩:=I.tuple hq
  have hlen:=r'.length
  obtain ⟨o,ho,hc,n,hd⟩:=pl
  exact call_list_seq p (.inr rfl) ho hc hd (fun h' c' kp e=>fin its r' hz h' c' kp e) (by simp only [List.size_toArray] <;> omega)
end
def KxR (p:OKey × V) (q:Value × Value):Prop:=RelV (okV p.1) q.1 /\ RelV p.2 q.2
structure PO2 (X:Cx) (ks:List (Option Expr)) (vs:List Expr) (R:DR) (kds:List (OKey × PyData)):Prop where
 run:∀ (pos:Pos) (pins:List (Addr × Obj)) (s:Shared) (σ:L2.St) (H:Hp) (m:List Addr) (Q:List (Value × Value) -> Shared -> Prop),Inv X pins σ H s -> R.p m σ H -> (∀ b ∈ m,H b ≠ none) →
  (∀ r s' H' (kxs:List (OKey × V)),Inv X pins σ H' s' -> Grow [] H H' -> Paired KxR kxs r -> kxs.map (·.1) = kds.map (·.1) -> Ods X.K m H' (kxs.map (·.2)) (kds.map (·.2)) -> Q r s') →
  wpAny (model X.prog X.w) X.A (evalPairs (pairTrees ks vs X.env pos)) Q X.xe s
section
variable {X:Cx} {K:FG7} {R R':DR} {D:PyData} {e k:Expr} {ks:List (Option Expr)} {vs:List Expr} {kds:List (OKey × PyData)} {pos:Pos}
theorem Vw:PE X (.Dict [] [] pos) (tOd K .t (.dict [])):=by
 intro pins s σ H Q I ⟨m,_,hb,q⟩
 have hf:H s.heap.objs.size = none:=I.hok.fresh (Nat.le_refl _)
 refine wpAny_Dict_empty ?_
 have I1:Inv X pins σ (upd H s.heap.objs.size (DcO s.heap.objs.size [])) { s with heap:=s.heap.push { cls:=.type "dict",data:=.dict #[] } } :=
  I.laid (t':=s.toks) (fun b u e=>Heap.get?_push_of_some _ e) (Nat.le_refl _) ⟨⟨_,_,_,Heap.get?_push_size _ rfl,rfl,rfl,.nil,.nil⟩,⟨_,Heap.get?_push_size _ rfl⟩,fun h1 h2 hφ hk=>by
   obtain ⟨o',es',n',a1,a2⟩:=hφ
   exact ⟨o',es',n',hk _ a1,a2⟩⟩
 exact ⟨.ref s.heap.objs.size,_,I1,rfl,q _ _ (Grow.new hf _) (.dct (kvs:=[]) (ds:=[]) zd (WQ hb hf) (Nat.ne_of_gt (jq I)) .nil .nil)⟩
end
def tyD:PyData -> String
 | .none=>"NoneType"
 | .bool _=>"bool"
 | .int _=>"int"
 | .str _=>"str"
 | .list _=>"list"
 | .tuple _=>"tuple"
 | .dict _=>"dict"
def Th (K:FG7):List V -> Hp -> VK -> Prop:=fun xs H Q=>∃ x d m T k,xs = [x,.ty T] /\ Od K m H x d /\ PySem.W.kitOne K (.type (tyD d)) (.type T) = some k /\ Q (.bl k) H
theorem zV {X:Cx} {K:FG7} (hK:X.K = K):xO X (.builtin "isinstance") (Th K):=by
 subst hK
 intro pins s σ H xs us Q I r h
 obtain ⟨x,d,m,T,k,rfl,hd,e,q⟩:=h
 cases hd with
 | non=>exact we pins s σ H _ us Q I r ⟨_,T,_,k,rfl,rfl,e,q⟩
 | bl b=>exact we pins s σ H _ us Q I r ⟨_,T,_,k,rfl,rfl,e,q⟩
 | int i=>exact we pins s σ H _ us Q I r ⟨_,T,_,k,rfl,rfl,e,q⟩
 | str y=>exact we pins s σ H _ us Q I r ⟨_,T,_,k,rfl,rfl,e,q⟩
 | tup hs _=>exact we pins s σ H _ us Q I r ⟨_,T,_,k,rfl,.inl ⟨rfl,_,hs⟩,e,q⟩
 | lst hs _ _ _=>exact we pins s σ H _ us Q I r ⟨_,T,_,k,rfl,.inr (.inl ⟨rfl,_,SqL.of hs⟩),e,q⟩
 | @dct a kvs ds hs _ _ _ _ =>
  obtain ⟨u,w',rfl,rx,rt⟩:=Ya r
  cases (show w' = Value.type T from rt)
  cases (show u = Value.ref a from rx)
  obtain ⟨o,es,n,e1,e2,_⟩:=DcO.at I hs
  exact PySem.W.kia_one PySem.W.kitx_dict I.kIn ⟨o,e1,e2⟩ e (fun z=>nomatch z) fun tk=>⟨.bl k,H,I.tok _,rfl,q⟩
def intD:PyData -> Bool
 | .int _=>true
 | .bool _=>true
 | _=>false
def Ti:PyData -> Bool
 | .bool _=>true
 | _=>false
def tupD:PyData -> Bool
 | .tuple _=>true
 | _=>false
def rX:PyData -> Bool
 | .int _=>true
 | _=>false
theorem Xd {K:FG7}:∀ {d:PyData},PySem.W.kitOne K (.type (tyD d)) (.type "int") = some (intD d)
 | .none=>rfl
 | .bool _=>rfl
 | .int _=>rfl
 | .str _=>rfl
 | .list _=>rfl
 | .tuple _=>rfl
 | .dict _=>rfl
theorem ui {K:FG7}:∀ {d:PyData},PySem.W.kitOne K (.type (tyD d)) (.type "bool") = some (Ti d)
 | .none=>rfl
 | .bool _=>rfl
 | .int _=>rfl
 | .str _=>rfl
 | .list _=>rfl
 | .tuple _=>rfl
 | .dict _=>rfl
theorem yQ {K:FG7}:∀ {d:PyData},PySem.W.kitOne K (.type (tyD d)) (.type "tuple") = some (tupD d)
 | .none=>rfl
 | .bool _=>rfl
 | .int _=>rfl
 | .str _=>rfl
 | .list _=>rfl
 | .tuple _=>rfl
 | .dict _=>rfl
def yK (K:FG7):Sp:=sp1 fun x H Q=>∃ d m,Od K m H x d /\ Q (.bl (rX d)) H
mutual
def leD (B:Int):PyData -> Bool
 | .int i=>decide (-B <= i) && decide (i <= B)
 | .list xs | .tuple xs=>leDs B xs
 | .dict kvs=>leDk B kvs
 | .none | .bool _ | .str _=>true
def leDs (B:Int):List PyData -> Bool
 | []=>true
 | x :: xs=>leD B x && leDs B xs
def leDk (B:Int):List (PyData × PyData) -> Bool
 | []=>true
 | (k,v) :: r=>leD B k && leD B v && leDk B r
end
mutual
def wtO:PyData -> Nat
 | .list xs | .tuple xs=>wtOs xs + 3
 | .dict kvs=>wtOk kvs + 3
 | .int _=>1921
 | .none | .bool _=>5
 | .str x=>(reprText x).length
def wtOs:List PyData -> Nat
 | []=>0
 | x :: xs=>wtO x + 2 + wtOs xs
def wtOk:List (PyData × PyData) -> Nat
 | []=>0
 | (k,v) :: r=>wtO k + wtO v + 4 + wtOk r
end
mutual
theorem leD_mono {B B':Int} (h:B <= B'):∀ {d:PyData},leD B d = true -> leD B' d = true
 | .int i,z=>by
  simp only [leD,Bool.and_eq_true,decide_eq_true_eq] at z ⊢
  omega
 | .list xs,z=>leDs_mono h (xs:=xs) z
 | .tuple xs,z=>leDs_mono h (xs:=xs) z
 | .dict kvs,z=>leDk_mono h (kvs:=kvs) z
 | .none,_=>rfl
 | .bool _,_=>rfl
 | .str _,_=>rfl
theorem leDs_mono {B B':Int} (h:B <= B'):∀ {xs:List PyData},leDs B xs = true -> leDs B' xs = true
 | [],_=>rfl
 | x :: xs,z=>by
  have z':=Bool.and_eq_true_iff.mp (show (leD B x && leDs B xs) = true from z)
  show (leD B' x && leDs B' xs) = true
  rw [leD_mono h z'.1,leDs_mono h z'.2]; rfl
theorem leDk_mono {B B':Int} (h:B <= B'):∀ {kvs:List (PyData × PyData)},leDk B kvs = true -> leDk B' kvs = true
 | [],_=>rfl
 | (k,v) :: r,z=>by
  have z':=Bool.and_eq_true_iff.mp (show (leD B k && leD B v && leDk B r) = true from z)
  have z'':=Bool.and_eq_true_iff.mp z'.1
  show (leD B' k && leD B' v && leDk B' r) = true
  rw [leD_mono h z''.1,leD_mono h z''.2,leDk_mono h z'.2]; rfl
end
theorem wp {B:Int}:∀ {xs:List PyData},leDs B xs = true ↔ ∀ x ∈ xs,leD B x = true
 | []=>by simp [leDs]
 | x :: xs=>by simp [leDs,wp (xs:=xs)]
theorem wG:∀ {xs ys:List PyData},wtOs (xs ++ ys) = wtOs xs + wtOs ys
 | [],ys=>by simp [wtOs]
 | x :: xs,ys=>by
  show wtO x + 2 + wtOs (xs ++ ys) = wtO x + 2 + wtOs xs + wtOs ys
  rw [wG]; omega
theorem uP:∀ {xs:List PyData} (n:Nat),wtOs (xs.take n) <= wtOs xs
 | _,0=>Nat.zero_le _
 | [],_ + 1=>Nat.le_refl _
 | x :: xs,n + 1=>by
  show wtO x + 2 + wtOs (xs.take n) <= wtO x + 2 + wtOs xs
  have:=uP (xs:=xs) n
  omega
theorem uQ:∀ {xs:List PyData} (n:Nat),wtOs (xs.drop n) <= wtOs xs
 | _,0=>Nat.le_refl _
 | [],_ + 1=>Nat.le_refl _
 | x :: xs,n + 1=>by
  show wtOs (xs.drop n) <= wtO x + 2 + wtOs xs
  have:=uQ (xs:=xs) n
  omega
def Bg:Int:=2 ^ 1000
mutual
theorem showable_le {B:Int} (hB:B <= Bg):∀ {d:PyData},leD B d = true -> d.showable = true
 | .int i,z=>by
  simp only [leD,Bool.and_eq_true,decide_eq_true_eq] at z
  have hb:Bg = 2 ^ 1000:=rfl
  show decide (i.natAbs.log2 < 1920) = true
  refine decide_eq_true ?_
  by_cases h0:i.natAbs = 0
  ·rw [h0]; decide
  ·rw [Nat.log2_lt h0]
   have h1:(i.natAbs:Int) <= Bg:=by omega
   have h2:i.natAbs <= 2 ^ 1000:=by rw [hb] at h1; exact_mod_cast h1
   exact Nat.lt_of_le_of_lt h2 (Nat.pow_lt_pow_right (by decide) (by decide))
 | .list xs,z=>showableAll_le hB (xs:=xs) z
 | .tuple xs,z=>showableAll_le hB (xs:=xs) z
 | .dict kvs,z=>showableKv_le hB (kvs:=kvs) z
 | .none,_=>rfl
 | .bool _,_=>rfl
 | .str _,_=>rfl
theorem showableAll_le {B:Int} (hB:B <= Bg):∀ {xs:List PyData},leDs B xs = true -> PyData.showableAll xs = true
 | [],_=>rfl
 | x :: xs,z=>by
  have z':=Bool.and_eq_true_iff.mp (show (leD B x && leDs B xs) = true from z)
  show (x.showable && PyData.showableAll xs) = true
  rw [showable_le hB z'.1,showableAll_le hB z'.2]; rfl
theorem showableKv_le {B:Int} (hB:B <= Bg):∀ {kvs:List (PyData × PyData)},leDk B kvs = true -> PyData.showableKv kvs = true
 | [],_=>rfl
 | (k,v) :: r,z=>by
  have z':=Bool.and_eq_true_iff.mp (show (leD B k && leD B v && leDk B r) = true from z)
  have z'':=Bool.and_eq_true_iff.mp z'.1
  show (k.showable && v.showable && PyData.showableKv r) = true
  rw [showable_le hB z''.1,showable_le hB z''.2,showableKv_le hB z'.2]; rfl
end
mutual
theorem shown_le:∀ {d:PyData},d.showable = true -> d.shown.length <= wtO d
 | .none,_=>by decide
 | .bool b,_=>by cases b <;> decide
 | .int i,h=>int_text_len_1921 (of_decide_eq_true h)
 | .str x,_=>Nat.le_refl _
 | .list xs,h=>by
  have q:=shown_les (xs:=xs) h
  have l:=listText_len_le (PyData.shownAll xs)
  show (listText (PyData.shownAll xs)).length <= wtOs xs + 3
  omega
 | .tuple xs,h=>by
  have q:=shown_les (xs:=xs) h
  have l:=tupleText_len_le (PyData.shownAll xs)
  show (tupleText (PyData.shownAll xs)).length <= wtOs xs + 3
  omega
 | .dict kvs,h=>by
  have q:=shown_lek (kvs:=kvs) h
  have l:=dictText_len_le (PyData.shownKv kvs)
  show (dictText (PyData.shownKv kvs)).length <= wtOk kvs + 3
  omega
theorem shown_les:∀ {xs:List PyData},PyData.showableAll xs = true -> ((PyData.shownAll xs).map (·.length)).sum + 2 * (PyData.shownAll xs).length <= wtOs xs
 | [],_=>by decide
 | x :: xs,h=>by
  have h':(x.showable && PyData.showableAll xs) = true:=h
  rw [Bool.and_eq_true] at h'
  have q1:=shown_le (d:=x) h'.1
  have q2:=shown_les (xs:=xs) h'.2
  show (((x.shown :: PyData.shownAll xs).map (·.length)).sum + 2 * (x.shown :: PyData.shownAll xs).length) <= wtO x + 2 + wtOs xs
  rw [List.map_cons,List.sum_cons,List.length_cons]
  omega
theorem shown_lek:∀ {kvs:List (PyData × PyData)},PyData.showableKv kvs = true -> ((PyData.shownKv kvs).map (·.length)).sum + 2 * (PyData.shownKv kvs).length <= wtOk kvs
 | [],_=>by decide
 | (k,v) :: r,h=>by
  have h':(k.showable && v.showable && PyData.showableKv r) = true:=h
  rw [Bool.and_eq_true,Bool.and_eq_true] at h'
  have q1:=shown_le (d:=k) h'.1.1
  have q2:=shown_le (d:=v) h'.1.2
  have q3:=shown_lek (kvs:=r) h'.2
  have e:(k.shown ++ ": " ++ v.shown).length = k.shown.length + 2 + v.shown.length:=by
   rw [strLen_append,strLen_append]; rfl
  show ((((k.shown ++ ": " ++ v.shown) :: PyData.shownKv r).map (·.length)).sum + 2 * ((k.shown ++ ": " ++ v.shown) :: PyData.shownKv r).length) <= wtO k + wtO v + 4 + wtOk r
  rw [List.map_cons,List.sum_cons,List.length_cons,e]
  omega
end
structure GdS (n k w:Nat) (ds:List PyData):Prop where
 le:leDs (10 ^ 30 + n) ds = true
 dp:PyData.depthAll ds <= k
 wt:wtOs ds <= w
structure GdD (n k w:Nat) (d:PyData):Prop where
 le:leD (10 ^ 30 + n) d = true
 dp:d.depth <= k
 wt:wtO d <= w
theorem jr {B:Int} {a b:List PyData} (ha:leDs B a = true) (hb:leDs B b = true):leDs B (a ++ b) = true:=wp.mpr fun x hx=>(List.mem_append.mp hx).elim (wp.mp ha x) (wp.mp hb x)
theorem yC {k:Nat}:∀ {xs:List PyData},PyData.depthAll xs <= k ↔ ∀ x ∈ xs,x.depth <= k
 | []=>by simp [PyData.depthAll]
 | x :: xs=>by
  show max x.depth (PyData.depthAll xs) <= k ↔ _
  rw [Nat.max_le,yC (xs:=xs)]
  simp
theorem GdS.append {n k w w':Nat} {a b:List PyData} (ha:GdS n k w a) (hb:GdS n k w' b):GdS n k (w + w') (a ++ b) :=
 ⟨jr ha.le hb.le,yC.mpr fun x hx=>(List.mem_append.mp hx).elim (yC.mp ha.dp x) (yC.mp hb.dp x),by rw [wG]; have:=ha.wt; have:=hb.wt; omega⟩
theorem GdS.sub {n k w:Nat} {a b:List PyData} (ha:GdS n k w a) (h:∀ x ∈ b,x ∈ a) (hw:wtOs b <= wtOs a):GdS n k w b :=
 ⟨wp.mpr fun x hx=>wp.mp ha.le x (h x hx),yC.mpr fun x hx=>yC.mp ha.dp x (h x hx),Nat.le_trans hw ha.wt⟩
theorem GdD.one {n k w:Nat} {d:PyData} (h:GdD n k w d):GdS n k (w + 2) [d]:=⟨by show (leD _ d && true) = true; rw [h.le]; rfl,by show max d.depth 0 <= k; have:=h.dp; omega,by show wtO d + 2 + 0 <= w + 2; have:=h.wt; omega⟩
theorem GdS.tup {n k w:Nat} {ds:List PyData} (h:GdS n k w ds):GdD n (k + 1) (w + 3) (.tuple ds):=⟨h.le,Nat.succ_le_succ h.dp,Nat.add_le_add_right h.wt 3⟩
theorem GdS.lst {n k w:Nat} {ds:List PyData} (h:GdS n k w ds):GdD n (k + 1) (w + 3) (.list ds):=⟨h.le,Nat.succ_le_succ h.dp,Nat.add_le_add_right h.wt 3⟩
theorem GdS.mono {n n' k k' w w':Nat} {ds:List PyData} (h:GdS n k w ds) (h1:n <= n') (h2:k <= k') (h3:w <= w'):GdS n' k' w' ds:=⟨leDs_mono (by omega) h.le,Nat.le_trans h.dp h2,Nat.le_trans h.wt h3⟩
theorem GdD.mono {n n' k k' w w':Nat} {d:PyData} (h:GdD n k w d) (h1:n <= n') (h2:k <= k') (h3:w <= w'):GdD n' k' w' d:=⟨leD_mono (by omega) h.le,Nat.le_trans h.dp h2,Nat.le_trans h.wt h3⟩
def cutD (xs:List PyData) (lo hi:Option Int):List PyData:=(xs.drop (HT.sIx xs.length 0 lo)).take (HT.sIx xs.length xs.length hi - HT.sIx xs.length 0 lo)
theorem Ods.cut {K:FG7} {m:List Addr} {H:Hp} {xs:List V} {ds:List PyData} {lo hi:Option Int} (h:Ods K m H xs ds):Ods K m H (cutV xs lo hi) (cutD ds lo hi):=by
 unfold cutV cutD
 rw [h.length]
 exact (h.drop _).take _
theorem GdS.cut {n k w:Nat} {ds:List PyData} {lo hi:Option Int} (h:GdS n k w ds):GdS n k w (cutD ds lo hi):=by
 unfold cutD
 exact h.sub (fun x hx=>List.mem_of_mem_drop (List.mem_of_mem_take hx)) (Nat.le_trans (uP _) (uQ _))
theorem Uw {i:Int} {n:Nat} (h1:-(10 ^ 30) - n <= i) (h2:i <= 10 ^ 30 + n):GdD n 0 1921 (.int i):=⟨by show (decide (-(10 ^ 30 + (n:Int)) <= i) && decide (i <= 10 ^ 30 + (n:Int))) = true; rw [decide_eq_true (by omega),decide_eq_true h2]; rfl,Nat.le_refl _,Nat.le_refl _⟩
section
variable {K:FG7} {m:List Addr} {H:Hp} {x:V}
theorem Od.inv_lst {ds:List PyData} (h:Od K m H x (.list ds)):∃ a xs,x = .ref a /\ H a = some (.lst xs) /\ a ∉ m /\ a ≠ sysModules /\ Ods K m H xs ds:=by
 cases h with
 | lst h1 h2 h3 h4=>exact ⟨_,_,rfl,h1,h2,h3,h4⟩
theorem Od.inv_tup {ds:List PyData} (h:Od K m H x (.tuple ds)):∃ a xs,x = .ref a /\ SqT K H a xs /\ Ods K m H xs ds:=by
 cases h with
 | tup h1 h2=>exact ⟨_,_,rfl,h1,h2⟩
theorem Od.inv_int {i:Int} (h:Od K m H x (.int i)):x = .int i:=by cases h; rfl
theorem Ods.inv1 {xs:List V} {d:PyData} (h:Ods K m H xs [d]):∃ x,xs = [x] /\ Od K m H x d:=by
 cases h with
 | cons h t=>cases t; exact ⟨_,rfl,h⟩
theorem yA {a:Addr} (pp:Pot H a):∀ b ∈ [a],H b ≠ none:=fun b hb z=>by
 obtain ⟨u0,u1,hu,_⟩:=pp
 rw [List.mem_singleton.mp hb,hu] at z; cases z
end
structure Call72 where
 hand:Int
 box:Int
 deed:Deed
 begun:Int
 ended:Int
 answer:Int
instance:Inhabited Call72:=⟨⟨0,0,⟨0,none,none⟩,0,0,0⟩⟩
def Call72.vs (c:Call72) (rd:Addr):List V:=[.int c.hand,.int c.box,.ref rd,.int c.begun,.int c.ended,.int c.answer]
structure CallOk72 (m:Nat) (c:Call72):Prop where
 h0:0 <= c.hand
 h1:c.hand <= 15
 b0:0 <= c.box
 b1:c.box < m
 d:c.deed.Ok
 t0:0 <= c.begun
 t1:c.begun <= c.ended
def ZR (b:Int) (cs:List Call72):Nat:=cs.countP fun c=>decide (c.box = b)
structure Calls72 (m:Nat) (cs:List Call72):Prop where
 len:cs.length <= 40
 ok:∀ c ∈ cs,CallOk72 m c
 few:∀ b:Int,ZR b cs <= 8
theorem ZS {α:Type} {l:List α} {j:Nat} {x d:α} (h:j < l.length):(l.set j x).getD j d = x:=by rw [List.getD_eq_getElem?_getD,List.getElem?_set_self h]; rfl
theorem rY {α:Type} {l:List α} {i j:Nat} {x d:α} (h:i ≠ j):(l.set i x).getD j d = l.getD j d:=by rw [List.getD_eq_getElem?_getD,List.getD_eq_getElem?_getD,List.getElem?_set_ne h]
def Vx (K:FG7) (H:Hp) (x:V) (ns:List Nat):Prop:=∃ r,x = .ref r /\ SqT K H r (XO ns)
theorem Vx.grow {K:FG7} {H H':Hp} {x:V} {ns:List Nat} {m:List Addr} (h:Vx K H x ns) (g:Grow m H H'):Vx K H' x ns:=by
 obtain ⟨r,e,s⟩:=h
 exact ⟨r,e,g.sqT s⟩
section
variable {K:FG7} {a:Addr} {xs:List V} {k:Nat} {te:TE} {Q:VK} {σ:L2.St} {H:Hp}
theorem ya (Pv:Nat -> List V -> Hp -> Prop) (h0:Pv 0 [] H) (hl:∀ i ys H',Pv i ys H' -> SqT K H' a xs)
  (hs:∀ i x ys H',xs[i]? = some x -> Pv i ys H' -> te (σ.set k (some x)) H' fun y H5=>ys.length < sizeLine /\ Pv (i + 1) (ys ++ [y]) H5)
  (hd:∀ ys H',Pv xs.length ys H' -> ∀ l,H' l = none -> Q (.ref l) (upd H' l (.lst ys))):vX (Itt K a) σ H (vW k) Zt te Q :=
 tS (fun _=>true) Pv h0 hl (fun _ _ _ _ h=>h) (fun i x ys H' hx p _=>hs i x ys H' hx p) (fun _ _ _ _ _ _ z=>nomatch z) hd
end
theorem We {b:Int} {cs:List Call72} {c:Call72}:ZR b (cs ++ [c]) = ZR b cs + (if c.box = b then 1 else 0):=by
 unfold ZR
 rw [List.countP_append,List.countP_cons,List.countP_nil]
 by_cases h:c.box = b
 ·rw [if_pos h,decide_eq_true h]; rfl
 ·rw [if_neg h,decide_eq_false h]; rfl
def Tj (H:Hp) (zs:List V) (nss:List (List Nat)):Prop:=AllR (fun z ns=>∃ a,z = .ref a /\ H a = some (.lst (XO ns))) zs nss
structure Bx72 (H:Hp) (as:List Addr) (nss:List (List Nat)):Prop where
 len:nss.length = as.length
 at_:∀ (j:Nat) (a:Addr),as[j]? = some a -> H a = some (.lst (XO (nss.getD j [])))
theorem Bx72.ls {H:Hp} {as:List Addr} {nss:List (List Nat)} (h:Bx72 H as nss):Tj H (as.map V.ref) nss:=by
 refine AllR.of_get (by rw [List.length_map,h.len]) fun i x hx=>?_
 rw [List.getElem?_map] at hx
 obtain ⟨a,ha,rfl⟩:=Option.map_eq_some_iff.mp hx
 have hi:i < nss.length:=by rw [h.len]; exact (List.getElem?_eq_some_iff.mp ha).1
 refine ⟨nss[i],List.getElem?_eq_getElem hi,a,rfl,?_⟩
 rw [h.at_ i a ha,List.getD_eq_getElem?_getD,List.getElem?_eq_getElem hi]; rfl
def N27 (n:Int):Prop:=-(10 ^ 27) <= n /\ n <= 10 ^ 27
def kc72:List Call72 -> Bool
 | []=>true
 | c :: r=>!(r.any fun e=>decide (e.ended < c.begun)) && kc72 r
def pl72:List Int -> List Call72 -> Option (List Int)
 | vs,[]=>some vs
 | vs,c :: r=>if vs.getD c.box.toNat 0 = c.answer then pl72 (vs.set c.box.toNat (c.deed.mk' c.answer)) r else none
theorem Xe {c:Call72}:∀ {cs:List Call72},kc72 cs = true -> (∀ e ∈ cs,e.begun <= c.ended) -> kc72 (cs ++ [c]) = true
 | [],_,_=>rfl
 | e :: r,h,hb=>by
  have h':(!(r.any fun x=>decide (x.ended < e.begun)) && kc72 r) = true:=h
  rw [Bool.and_eq_true,Bool.not_eq_true'] at h'
  show (!((r ++ [c]).any fun x=>decide (x.ended < e.begun)) && kc72 (r ++ [c])) = true
  rw [List.any_append,h'.1,Xe h'.2 fun x hx=>hb x (List.mem_cons_of_mem _ hx)]
  have:=hb e (List.mem_cons_self ..)
  rw [List.any_cons,decide_eq_false (by omega)]; rfl
theorem Xf {c:Call72}:∀ {cs:List Call72} {vs ws:List Int},pl72 vs cs = some ws -> ws.getD c.box.toNat 0 = c.answer -> pl72 vs (cs ++ [c]) = some (ws.set c.box.toNat (c.deed.mk' c.answer))
 | [],vs,ws,h,ha=>by
  cases h
  show (if vs.getD c.box.toNat 0 = c.answer then _ else none) = _
  rw [if_pos ha]; rfl
 | e :: r,vs,ws,h,ha=>by
  have h':(if vs.getD e.box.toNat 0 = e.answer then pl72 (vs.set e.box.toNat (e.deed.mk' e.answer)) r else none) = some ws:=h
  show (if vs.getD e.box.toNat 0 = e.answer then pl72 (vs.set e.box.toNat (e.deed.mk' e.answer)) (r ++ [c]) else none) = _
  by_cases hv:vs.getD e.box.toNat 0 = e.answer
  ·rw [if_pos hv] at h' ⊢
   exact Xf h' ha
  ·rw [if_neg hv] at h'; cases h'
structure Cb72 (B:Int) (c:Call72):Prop where
 hand:-B <= c.hand /\ c.hand <= B
 box:-B <= c.box /\ c.box <= B
 deed:c.deed.Bd B
 begun:-B <= c.begun /\ c.begun <= B
 ended:-B <= c.ended /\ c.ended <= B
 answer:-B <= c.answer /\ c.answer <= B
structure Hist72 (n:Nat) (b:List Int) (cs:List Call72):Prop where
 bl:b.length = n
 bb:∀ v ∈ b,N27 v
 ok:Calls72 n cs
 bd:∀ c ∈ cs,Cb72 (10 ^ 29) c
 kc:kc72 cs = true
 pl:(pl72 b cs).isSome = true
theorem Vy (n:Nat):(List.replicate n 8).sum = 8 * n:=by
 induction n with
 | zero=>rfl
 | succ n ih=>rw [List.replicate_succ,List.sum_cons,ih]; omega
theorem Xg:∀ {l:List Nat} {j x:Nat},l[j]? = some x -> 0 < x -> (l.set j (x - 1)).sum + 1 = l.sum
 | [],_,_,h,_=>by cases h
 | a :: l,0,x,h,h0=>by
  have e:a = x:=Option.some.inj h
  subst e
  show a - 1 + l.sum + 1 = a + l.sum
  omega
 | a :: l,j + 1,x,h,h0=>by
  have:=Xg (l:=l) (j:=j) h h0
  show a + (l.set j (x - 1)).sum + 1 = a + l.sum
  omega
structure HI72 (n i:Nat) (b vs:List Int) (rs:List Nat) (cs:List Call72) (mo sc:Int):Prop where
 vl:vs.length = n
 rl:rs.length = n
 cl:cs.length = i
 pl:pl72 b cs = some vs
 kc:kc72 cs = true
 ok:∀ c ∈ cs,CallOk72 n c
 rm:∀ j,j < n -> rs.getD j 0 + ZR j cs = 8
 sm:rs.sum + i = 8 * n
 vb:∀ v ∈ vs,-(10 ^ 27 + i * (10 ^ 27 + 6)) <= v /\ v <= 10 ^ 27 + i * (10 ^ 27 + 6)
 bd:∀ c ∈ cs,Cb72 (10 ^ 29) c
 m0:0 <= mo
 m1:mo <= 2 * i
 bg:∀ c ∈ cs,c.begun <= mo * sc
theorem HI72.start {n:Nat} {b:List Int} {sc:Int} (bl:b.length = n) (bb:∀ v ∈ b,N27 v):HI72 n 0 b b (List.replicate n 8) [] 0 sc:=by
 refine ⟨bl,List.length_replicate,rfl,rfl,rfl,(fun _ h=>nomatch h),fun j hj=>?_,(by rw [Vy]; rfl),fun v hv=>?_,(fun _ h=>nomatch h),(by decide),(by decide),(fun _ h=>nomatch h)⟩
 ·rw [List.getD_eq_getElem?_getD,List.getElem?_replicate,if_pos hj]; rfl
 ·have:=bb v hv
  unfold N27 at this
  omega
theorem HI72.next {n i:Nat} {b vs:List Int} {rs:List Nat} {cs:List Call72} {mo sc:Int} (h:HI72 n i b vs rs cs mo sc) {bx x:Nat} {t ha be en:Int} {d:Deed} (i40:i < 40) (n6:n <= 6)
  (hx:rs[bx]? = some x) (x0:0 < x) (t0:0 <= t) (t1:t <= 2) (s0:1 <= sc) (s1:sc <= 10 ^ 24 + 7) (h0:0 <= ha) (h1:ha <= 15) (od:d.Ok) (bd:d.Bd (10 ^ 27 + 6)) (e0:0 <= be) (e1:be <= (mo + t) * sc) (e2:(mo + t) * sc <= en) (e3:en <= (mo + t + 3) * sc) :
  HI72 n (i + 1) b (vs.set bx (d.mk' (vs.getD bx 0))) (rs.set bx (x - 1)) (cs ++ [⟨ha,bx,d,be,en,vs.getD bx 0⟩]) (mo + t) sc:=by
 have hbx:bx < n:=by rw [← h.rl]; exact (List.getElem?_eq_some_iff.mp hx).1
 have hv:vs.getD bx 0 ∈ vs:=by
  have hb:bx < vs.length:=by rw [h.vl]; exact hbx
  rw [List.getD_eq_getElem?_getD,List.getElem?_eq_getElem hb]; exact List.getElem_mem hb
 have vb:=h.vb _ hv
 have mm:mo * sc <= (mo + t) * sc:=Int.mul_le_mul_of_nonneg_right (by omega) (by omega)
 have m1:=h.m1
 have m0:=h.m0
 have big:(mo + t + 3) * sc <= 10 ^ 27:=by
  have:(mo + t + 3) * sc <= 90 * (10 ^ 24 + 7):=Int.mul_le_mul (by omega) s1 (by omega) (by decide)
  exact Int.le_trans this (by decide)
 have C0:(0:Int) <= 10 ^ 27 + i * (10 ^ 27 + 6):=by omega
 have mk:=UY bd (by decide) vb.1 vb.2 C0
 have nb:(⟨ha,bx,d,be,en,vs.getD bx 0⟩:Call72).box.toNat = bx:=Int.toNat_natCast bx
 refine ⟨by rw [List.length_set,h.vl],by rw [List.length_set,h.rl],by rw [List.length_append,List.length_singleton,h.cl],?_,?_,?_,?_,?_,?_,?_,by omega,by omega,?_⟩
 ·have:=Xf (c:=⟨ha,bx,d,be,en,vs.getD bx 0⟩) h.pl (by rw [nb])
  rw [this,nb]
 ·exact Xe h.kc fun e he=>by have:=h.bg e he; show e.begun <= en; omega
 ·intro c hc
  rcases List.mem_append.mp hc with hc | hc
  ·exact h.ok c hc
  ·rw [List.mem_singleton.mp hc]
   exact ⟨h0,h1,Int.natCast_nonneg bx,by show (bx:Int) < n; omega,od,e0,by show be <= en; omega⟩
 ·intro j hj
  rw [We]
  have r:=h.rm j hj
  by_cases e:j = bx
  ·subst e
   rw [ZS (by rw [h.rl]; exact hj),if_pos rfl]
   rw [List.getD_eq_getElem?_getD,hx] at r
   have:x + ZR j cs = 8:=r
   omega
  ·rw [rY (fun z=>e z.symm),if_neg (by show ¬ (bx:Int) = j; omega)]
   exact r
 ·have:=Xg hx x0
  have:=h.sm
  omega
 ·intro v hv'
  rcases List.mem_or_eq_of_mem_set hv' with hv' | rfl
  ·have:=h.vb v hv'
   push_cast at this ⊢
   omega
  ·push_cast
   omega
 ·intro c hc
  rcases List.mem_append.mp hc with hc | hc
  ·exact h.bd c hc
  ·rw [List.mem_singleton.mp hc]
   refine ⟨?_,?_,?_,?_,?_,?_⟩
   ·show -(10 ^ 29) <= ha /\ ha <= 10 ^ 29; omega
   ·show -(10 ^ 29) <= (bx:Int) /\ (bx:Int) <= 10 ^ 29; omega
   ·exact bd.mono (by decide)
   ·show -(10 ^ 29) <= be /\ be <= 10 ^ 29; omega
   ·show -(10 ^ 29) <= en /\ en <= 10 ^ 29; omega
   ·show -(10 ^ 29) <= vs.getD bx 0 /\ vs.getD bx 0 <= 10 ^ 29; omega
 ·intro c hc
  rcases List.mem_append.mp hc with hc | hc
  ·have:=h.bg c hc; omega
  ·rw [List.mem_singleton.mp hc]; exact e1
theorem Cb72.mono {B C:Int} {c:Call72} (h:Cb72 B c) (hB:B <= C):Cb72 C c:=⟨by have:=h.hand; omega,by have:=h.box; omega,h.deed.mono hB,by have:=h.begun; omega,by have:=h.ended; omega,by have:=h.answer; omega⟩
def spX1 (f:V -> Hp -> VK -> XK -> Prop):Sp:=fun vs H Q E=>∃ x,vs = [x] /\ f x H Q E
def spX2 (f:V -> V -> Hp -> VK -> XK -> Prop):Sp:=fun vs H Q E=>∃ x y,vs = [x,y] /\ f x y H Q E
def spX3 (f:V -> V -> V -> Hp -> VK -> XK -> Prop):Sp:=fun vs H Q E=>∃ x y z,vs = [x,y,z] /\ f x y z H Q E
theorem xD {f:V -> Hp -> VK -> XK -> Prop} {p:Str}:∀ vs H Q E,spX1 f vs H Q E -> vs.length = [p].length:=by rintro vs H Q E ⟨x,rfl,_⟩; rfl
theorem w6 {f:V -> V -> Hp -> VK -> XK -> Prop} {p q:Str}:∀ vs H Q E,spX2 f vs H Q E -> vs.length = [p,q].length:=by rintro vs H Q E ⟨x,y,rfl,_⟩; rfl
theorem Zc {f:V -> V -> V -> Hp -> VK -> XK -> Prop} {p q r:Str}:∀ vs H Q E,spX3 f vs H Q E -> vs.length = [p,q,r].length:=by rintro vs H Q E ⟨x,y,z,rfl,_⟩; rfl
def uR (P:Program) (w:World) (K:FG7) (mg:Str -> Option Value) (base:Heap) (C:Addr) (k:Nat) (ps:List Str) (sp:Sp):Prop :=
 ∃ (j:Nat) (f:Addr) (fd:FuncData),j + 1 = k /\ FnOk P w K mg base (CX1 P w) j f fd ps sp /\ vn K fd ps [] /\ Mk K C f
section
variable {P:Program} {w:World} {K:FG7} {mg:Str -> Option Value} {base:Heap} {C:Addr} {j k:Nat} {m:Str} {ps:List Str} {sp:Sp}
theorem uR.mono (c:uR P w K mg base C j ps sp) (h:j <= k):uR P w K mg base C k ps sp:=by
 obtain ⟨i,f,fd,e,F,b,mt⟩:=c
 exact ⟨k - 1,f,fd,by omega,F.mono (by omega),b,mt⟩
end
def zC (l u:Int):PyData -> Bool
 | .int i=>decide (l <= i) && decide (i <= u)
 | _=>false
theorem ZT {l u:Int} {d:PyData} (h:zC l u d = true):∃ i,d = .int i /\ l <= i /\ i <= u:=by
 cases d with
 | int i =>
  simp only [zC,Bool.and_eq_true,decide_eq_true_eq] at h
  exact ⟨i,rfl,h.1,h.2⟩
 | _=>cases h
def xk (K:FG7):Sp:=sp3 fun x y z H Q=>∃ (d:PyData) (m:List Addr) (l u:Int),Od K m H x d /\ y = .int l /\ z = .int u /\ Q (.bl (zC l u d)) H
def Ux:PyData -> Bool
 | .tuple ds=>decide (1 <= ds.length) && (decide (ds.length <= 16) && ds.all rX)
 | _=>false
def lenD:PyData -> Nat
 | .tuple ds=>ds.length
 | _=>0
def inD:PyData -> List Nat -> Option PyData
 | d,[]=>some d
 | .tuple ds,k :: ks=>match ds[k]? with
  | some e=>inD e ks
  | none=>none
 | _,_ :: _=>none
def ju (K:FG7) (H:Hp) (d:PyData) (zs:List V):Prop:=∀ z ∈ zs,∃ r ks,z = .ref r /\ SqT K H r (XO ks) /\ (inD d ks).isSome = true
theorem ju.grow {K:FG7} {m:List Addr} {H H':Hp} {d:PyData} {zs:List V} (h:ju K H d zs) (g:Grow m H H'):ju K H' d zs:=fun z hz=>by
 obtain ⟨r,ks,e,s,v⟩:=h z hz
 exact ⟨r,ks,e,g.sqT s,v⟩
def Vz (K:FG7) (m:List Addr) (H:Hp) (z:V):Prop:=∃ e,Od K m H z e /\ GdD 10 6 2000000 e /\ lenD e <= 500
theorem Vz.grow {K:FG7} {m:List Addr} {H H':Hp} {z:V} (h:Vz K m H z) (g:Grow m H H'):Vz K m H' z:=by
 obtain ⟨e,o,r⟩:=h
 exact ⟨e,o.grow g,r⟩
def VA (K:FG7) (m:List Addr) (H:Hp) (z:V):Prop:=∃ e,Od K m H z e /\ Ux e = false /\ lenD e <= 1000
theorem VA.grow {K:FG7} {m:List Addr} {H H':Hp} {z:V} (h:VA K m H z) (g:Grow m H H'):VA K m H' z:=by
 obtain ⟨e,o,r⟩:=h
 exact ⟨e,o.grow g,r⟩
mutual
def lvs:PyData -> List PyData
 | .tuple xs=>(match lvsAll xs with | [a,b]=>a ++ b | _=>[.none])
 | .none=>[.none]
 | .bool b=>[.bool b]
 | .int i=>[.int i]
 | .str x=>[.str x]
 | .list xs=>[.list xs]
 | .dict xs=>[.dict xs]
def lvsAll:List PyData -> List (List PyData)
 | []=>[]
 | x :: xs=>lvs x :: lvsAll xs
end
theorem uj {a b:PyData}:lvs (.tuple [a,b]) = lvs a ++ lvs b:=rfl
theorem WR {ds:List PyData} (h:ds.length ≠ 2):lvs (.tuple ds) = [.none]:=by
 match ds,h with
 | [],_=>rfl
 | [_],_=>rfl
 | [_,_],h=>exact absurd rfl h
 | _ :: _ :: _ :: _,_=>rfl
theorem WS {d:PyData} (h:tupD d = false):lvs d = [d]:=by
 cases d with
 | tuple _=>cases h
 | _=>rfl
def runL:List PyData -> Nat -> Option Nat
 | [],r=>some r
 | .int i :: ls,r=>if i = r then runL ls (r + 1) else none
 | _ :: _,_=>none
def xE (d:PyData) (n:Nat):Bool:=decide (runL (lvs d) 0 = some n)
def stk (ds:List PyData):List PyData:=(ds.reverse.map lvs).flatten
theorem sF {ds:List PyData} {d:PyData}:stk (ds ++ [d]) = lvs d ++ stk ds:=by
 unfold stk
 rw [List.reverse_append]; rfl
theorem Zd {d:PyData} {ls:List PyData} {r:Nat} (h:rX d = false):runL (d :: ls) r = none:=by
 cases d with
 | int _=>cases h
 | _=>rfl
theorem Ods.snocE {K:FG7} {m:List Addr} {H:Hp} {ys:List V} {y:V} {ds:List PyData} (h:Ods K m H (ys ++ [y]) ds):∃ es e,ds = es ++ [e] /\ Ods K m H ys es /\ Od K m H y e:=by
 induction ys generalizing ds with
 | nil =>
  cases h with
  | cons h t=>cases t; exact ⟨[],_,rfl,.nil,h⟩
 | cons a r ih =>
  cases h with
  | cons h t =>
   obtain ⟨es,e,rfl,h1,h2⟩:=ih t
   exact ⟨_ :: es,e,rfl,.cons h h1,h2⟩
theorem yR {ds:List PyData} {d:PyData}:wtOs (ds ++ [d]) = wtOs ds + (wtO d + 2):=by
 rw [wG]; rfl
theorem Ze:∀ {ds:List PyData},2 * ds.length <= wtOs ds
 | []=>Nat.zero_le _
 | d :: ds=>by
  have:=Ze (ds:=ds)
  show 2 * (ds.length + 1) <= wtO d + 2 + wtOs ds
  omega
theorem Xh {n:Nat} (h:n <= 1000000):n < sizeLine:=Nat.lt_of_le_of_lt h (by decide)
mutual
theorem lvs_len:∀ {d:PyData},(lvs d).length <= wtO d + 1
 | .tuple xs=>by
  have h:=lvsAll_len (xs:=xs)
  match xs,h with
  | [],_=>show 1 <= _; decide
  | [a],_=>show 1 <= _; exact Nat.le_add_left _ _
  | [a,b],h =>
   rw [uj,List.length_append]
   have h':(lvs a).length + ((lvs b).length + 0) <= wtOs [a,b]:=h
   show _ <= wtOs [a,b] + 3 + 1
   omega
  | _ :: _ :: _ :: _,_=>show 1 <= _; exact Nat.le_add_left _ _
 | .none=>by decide
 | .bool _=>by show 1 <= 5 + 1; decide
 | .int _=>by show 1 <= 1921 + 1; decide
 | .str x=>by show 1 <= _ + 1; omega
 | .list xs=>by show 1 <= _ + 1; omega
 | .dict xs=>by show 1 <= _ + 1; omega
theorem lvsAll_len:∀ {xs:List PyData},((lvsAll xs).map (·.length)).sum <= wtOs xs
 | []=>Nat.le_refl _
 | x :: xs=>by
  have h1:=lvs_len (d:=x)
  have h2:=lvsAll_len (xs:=xs)
  show (lvs x).length + ((lvsAll xs).map (·.length)).sum <= wtO x + 2 + wtOs xs
  omega
end
theorem sG:∀ {ls:List PyData} {r n:Nat},runL ls r = some n ↔ ls = (List.range' r ls.length).map (fun i:Nat=>PyData.int i) /\ r + ls.length = n
 | [],r,n=>by
  show some r = some n ↔ _
  simp
 | .int i :: ls,r,n=>by
  show (if i = (r:Int) then runL ls (r + 1) else none) = some n ↔ _
  by_cases h:i = r
  ·subst h
   rw [if_pos rfl,sG (ls:=ls)]
   show _ ↔ PyData.int r :: ls = (List.range' r (ls.length + 1)).map _ /\ r + (ls.length + 1) = n
   rw [List.range'_succ,List.map_cons]
   constructor
   ·rintro ⟨a,b⟩; exact ⟨by rw [← a],by omega⟩
   ·rintro ⟨a,b⟩; exact ⟨(List.cons.inj a).2,by omega⟩
  ·rw [if_neg h]
   constructor
   ·intro z; cases z
   ·rintro ⟨a,_⟩
    exfalso
    have a':PyData.int i :: ls = (List.range' r (ls.length + 1)).map _:=a
    rw [List.range'_succ,List.map_cons] at a'
    have:=(List.cons.inj a').1
    injection this with e
    exact h e
 | .none :: ls,r,n=>runL_no rfl
 | .bool _ :: ls,r,n=>runL_no rfl
 | .str _ :: ls,r,n=>runL_no rfl
 | .list _ :: ls,r,n=>runL_no rfl
 | .tuple _ :: ls,r,n=>runL_no rfl
 | .dict _ :: ls,r,n=>runL_no rfl
where
 runL_no {d:PyData} {ls:List PyData} {r n:Nat} (h:rX d = false):runL (d :: ls) r = some n ↔ d :: ls = (List.range' r (d :: ls).length).map (fun i:Nat=>PyData.int i) /\ r + (d :: ls).length = n:=by
  rw [Zd h]
  constructor
  ·intro z; cases z
  ·rintro ⟨a,_⟩
   exfalso
   have a':d :: ls = (List.range' r (ls.length + 1)).map _:=a
   rw [List.range'_succ,List.map_cons] at a'
   rw [(List.cons.inj a').1] at h
   cases h
theorem uS {K:FG7} {m:List Addr} {H:Hp}:∀ {t:Tr} {x:V},yX K H x t -> Od K m H x (trD t)
 | .leaf n,x,h=>by
  cases (show x = V.int n from h)
  exact .int n
 | .node l r,x,h=>by
  obtain ⟨a,xl,xr,e,hs,h1,h2⟩:=h
  subst e
  exact .tup hs (.cons (uS h1) (.cons (uS h2) .nil))
theorem GdS.of {n:Nat} {ds:List PyData} (h:leDs (10 ^ 30 + n) ds = true):GdS n (PyData.depthAll ds) (wtOs ds) ds:=⟨h,Nat.le_refl _,Nat.le_refl _⟩
theorem GdS.exact {n k w:Nat} {ds:List PyData} (h:GdS n k w ds):GdS n k (wtOs ds) ds:=⟨h.le,h.dp,Nat.le_refl _⟩
theorem GdS.take {n k w:Nat} {ds:List PyData} (h:GdS n k w ds) (t:Nat):GdS n k (wtOs (ds.take t)) (ds.take t):=(h.sub (fun x hx=>List.mem_of_mem_take hx) (uP t)).exact
theorem GdS.drop {n k w:Nat} {ds:List PyData} (h:GdS n k w ds) (t:Nat):GdS n k (wtOs (ds.drop t)) (ds.drop t):=(h.sub (fun x hx=>List.mem_of_mem_drop hx) (uQ t)).exact
def trB:Tr -> Prop
 | .leaf n=>0 <= n /\ n <= 1000
 | .node l r=>trB l /\ trB r
theorem jv:∀ {t:Tr} {f:Int},Ordd t f -> 0 <= f -> f + t.count <= 1000 -> trB t
 | .leaf n,f,h,h0,h1=>by
  cases (show n = f from h)
  have h2:n + 1 <= 1000:=h1
  exact ⟨h0,by omega⟩
 | .node l r,f,h,h0,h1=>by
  have h2:f + (l.count + r.count) <= 1000:=h1
  have c1:=ym l
  have c2:=ym r
  exact ⟨jv h.1 h0 (by omega),jv h.2 (by omega) (by omega)⟩
theorem VB:∀ {t:Tr},trB t -> GdD 0 t.ht (1928 * t.wt) (trD t)
 | .leaf n,h=>(Uw (n:=0) (by have:=h.1; omega) (by have:=h.2; omega)).mono (Nat.le_refl _) (Nat.le_refl _) (by show 1921 <= 1928 * 1; decide)
 | .node l r,h=>by
  have a:=(VB h.1).mono (Nat.le_refl _) (show l.ht <= max l.ht r.ht by omega) (Nat.le_refl _)
  have b:=(VB h.2).mono (Nat.le_refl _) (show r.ht <= max l.ht r.ht by omega) (Nat.le_refl _)
  exact ((a.one.append b.one).tup).mono (Nat.le_refl _) (Nat.le_refl _) (by show 1928 * l.wt + 2 + (1928 * r.wt + 2) + 3 <= 1928 * (l.wt + r.wt + 1); omega)
theorem vO {n:Nat} (h:n <= 16000000):n < sizeLine:=Nat.lt_of_le_of_lt h (by decide)
theorem jw {X:Cx} {K:FG7} (hK:X.K = K):MtR X "list.count" (fun x vs H Q=>∃ (l:Addr) (bs:List Bool),x = .ref l /\ vs = [.bl true] /\ SqL K H l (bs.map V.bl) /\ Q (.int ((bs.countP fun i=>i == true:Nat):Int)) H):=by
 subst hK
 intro pins s σ H x vs v us Q I rx rv h
 obtain ⟨l,bs,rfl,rfl,hq,q⟩:=h
 cases rx
 obtain ⟨u,rfl,ru⟩:=wR rv
 obtain rfl:u = .bool true:=ru
 obtain ⟨its,r,⟨o,n,ho,hc,hdi,hd⟩,hz⟩:=I.list hq
 obtain ⟨oc,od,oda,osl⟩:=o
 cases hc
 cases hd
 have key:∀ {ms:List Bool} {ws:List Value},Vals (ms.map V.bl) ws -> (ws.countP fun v=>match v with | .bool a=>a == true | _=>false) = ms.countP fun i=>i == true:=by
  intro ms
  induction ms with
  | nil=>intro ws r; cases r; rfl
  | cons a ms ih =>
   intro ws r
   cases r with
   | cons r1 r2 =>
    cases r1
    rw [List.countP_cons,List.countP_cons,ih r2]
 refine call_meets F.slot_list_count ⟨_,ho,rfl⟩ F.entry_list_count (F.args_list_count_2 _ _)
  (SeqAt.list_countAt l its.toArray n od osl (.bool true) (fun v=>match v with | .bool a=>a == true | _=>false)) ⟨ho,fun y hy=>?_,?_⟩
 ·obtain ⟨m,hm,rfl⟩:=List.getElem_of_mem (by simpa using hy:y ∈ its)
  have hm':m < bs.length:=by have:=r.length; rw [List.length_map] at this; omega
  have e1:(bs.map V.bl)[m]? = some (.bl bs[m]):=by rw [List.getElem?_map,List.getElem?_eq_getElem hm']; rfl
  obtain ⟨u,hu,ru⟩:=r.get e1
  obtain rfl:u = .bool bs[m]:=ru
  rw [List.getElem?_eq_getElem hm] at hu
  rw [Option.some.inj hu]
  exact SeqAt.EqAt.bool_bool _ _
 ·have:its.toArray.toList = its:=List.toList_toArray
  rw [this,key r]
  exact ⟨.int _,H,I.tok _,⟨_,rfl⟩,q⟩
theorem jx {X:Cx} {K:FG7} (hK:X.K = K):MtR X "list.index" (fun x vs H Q=>∃ (l:Addr) (bs:List Bool),x = .ref l /\ vs = [.bl true] /\ SqL K H l (bs.map V.bl) /\ true ∈ bs /\ bs.length <= 1000 /\ Q (.int (bs.idxOf true:Nat)) H):=by
 subst hK
 intro pins s σ H x vs v us Q I rx rv h
 obtain ⟨l,bs,rfl,rfl,hq,hj,hl,q⟩:=h
 cases rx
 obtain ⟨u,rfl,ru⟩:=wR rv
 obtain rfl:u = .bool true:=ru
 obtain ⟨its,r,⟨o,n,ho,hc,hdi,hd⟩,hz⟩:=I.list hq
 obtain ⟨oc,od,oda,osl⟩:=o
 cases hc
 cases hd
 have hlen:=r.length
 rw [List.length_map] at hlen
 have hp:=List.idxOf_lt_length_of_mem hj
 have hjj:∀ m (hm:m < its.toArray.size),its.toArray[m] = .bool (bs.getD m false):=fun m hm=>by
  have hm':m < its.length:=by simpa using hm
  have hb:m < bs.length:=by omega
  have e1:(bs.map V.bl)[m]? = some (.bl (bs.getD m false)):=by rw [List.getElem?_map,List.getD_eq_getElem?_getD,List.getElem?_eq_getElem hb]; rfl
  obtain ⟨u,hu,ru⟩:=r.get e1
  obtain rfl:u = .bool (bs.getD m false):=ru
  rw [List.getElem?_eq_getElem hm'] at hu
  simpa using Option.some.inj hu
 have key:∀ (p:Nat),p = bs.idxOf true -> wpAny (model X.prog X.w) X.A (call (.builtin "list.index") (.ref l :: [.bool true])) (EP X pins σ Q) X.xe s:=by
  intro p hpp
  have hp':p < its.toArray.size:=by simp; omega
  refine call_meets F.slot_list_index ⟨_,ho,rfl⟩ F.entry_list_index (F.args_list_index_2 _ _)
   (SeqAt.list_indexAt l its.toArray n od osl (.bool true) (fun v=>match v with | .bool a=>a == true | _=>false) p hp' (by have:=hp'; simp at this; omega) ?_ ?_) ⟨ho,?_,?_⟩
  ·rw [hjj p hp']
   show (bs.getD p false == true) = true
   have:bs.getD p false = true:=by
    rw [hpp,List.getD_eq_getElem?_getD,List.getElem?_eq_getElem hp]
    exact List.getElem_idxOf hp
   rw [this]; rfl
  ·intro m hm hlt
   rw [hjj m hm]
   show (bs.getD m false == true) = false
   have hm':m < bs.length:=by rw [hlen]; simpa using hm
   have:=List.not_of_lt_findIdx (p:=(· == true)) (xs:=bs) (i:=m) (by rw [hpp] at hlt; exact hlt)
   rw [List.getD_eq_getElem?_getD,List.getElem?_eq_getElem hm']
   simpa using this
  ·intro y hy
   obtain ⟨m,hm,rfl⟩:=List.getElem_of_mem (by simpa using hy:y ∈ its)
   have e:=hjj m (by simpa using hm)
   have e':its[m] = .bool (bs.getD m false):=by simpa using e
   rw [e']
   exact SeqAt.EqAt.bool_bool _ _
  ·exact ⟨.int (bs.idxOf true:Nat),H,I.tok _,⟨_,by rw [hpp]⟩,q⟩
 exact key _ rfl
inductive Cl24 where
 | number | deed | board | ask | tree
def Uy:PyData -> Nat
 | .int i=>i.toNat
 | _=>0
theorem rZ {k:Nat}:Uy (.int (k:Int)) = k:=Int.toNat_natCast k
theorem Uz {d:PyData} (h:zC 1 40 d = true):∃ n:Nat,d = .int n /\ 1 <= n /\ n <= 40:=by
 obtain ⟨i,rfl,h0,h1⟩:=ZT h
 exact ⟨i.toNat,by congr 1; omega,by omega,by omega⟩
def Bd24 (d:PyData):Prop:=wtO d <= 840000 /\ d.depth <= 45
def sH (A:Addr) (K:FG7):Sp:=spX1 fun x H Q E=>∃ (d:PyData) (m:List Addr),Od K m H x d /\ if zC 1 40 d = true then Q .non H else ∀ e,E (.ref e) (some A) H
def sI (A:Addr) (K:FG7):Sp:=spX2 fun x y H Q E=>∃ (dt dm:PyData) (m:List Addr),Od K m H x dt /\ Od K m H y dm /\ wtO dt <= 1000000 /\ (zC 1 40 dm = true -> ∀ H',Grow [] H H' -> Q (.bl (xE dt (Uy dm))) H') /\ (zC 1 40 dm = false -> ∀ e H',Grow [] H H' -> E (.ref e) (some A) H')
def Zf (A:Addr) (K:FG7):Sp:=spX2 fun x y H Q E=>∃ (dt:PyData) (n:Nat) (m:List Addr),Od K m H x dt /\ y = .int n /\ 1 <= n /\ n <= 40 /\ wtO dt <= 1000000 /\ (xE dt n = true -> ∀ H',Grow [] H H' -> Q .non H') /\ (xE dt n = false -> ∀ e H',Grow [] H H' -> E (.ref e) (some A) H')
section
variable {K:FG7} {m:List Addr} {H:Hp}
theorem wq:∀ t:Tr,(t.ht:Int) < t.count
 | .leaf _=>by show (0:Int) < 1; decide
 | .node l r=>by
  have h1:=wq l
  have h2:=wq r
  show ((max l.ht r.ht + 1:Nat):Int) < l.count + r.count
  omega
theorem jy:∀ (N:Nat) (d:PyData),sizeOf d < N -> ∀ (f n:Nat) (rest:List PyData) (x:V),Od K m H x d -> runL (lvs d ++ rest) f = some n -> ∃ (t:Tr) (c:Nat),yX K H x t /\ Ordd t f /\ t.count = c /\ runL rest (f + c) = some n
 | 0,_,h,_,_,_,_,_,_=>absurd h (Nat.not_lt_zero _)
 | N + 1,d,hN,f,n,rest,x,o,hr=>by
  cases d with
  | int i =>
   obtain rfl:=o.inv_int
   have hr':(if i = (f:Int) then runL rest (f + 1) else none) = some n:=hr
   by_cases c:i = (f:Int)
   ·rw [if_pos c] at hr'
    exact ⟨.leaf i,1,rfl,c,rfl,hr'⟩
   ·rw [if_neg c] at hr'; cases hr'
  | tuple ds =>
   match ds,o,hr,hN with
   | [a,b],o,hr,hN =>
    rw [uj,List.append_assoc] at hr
    obtain ⟨r,xs,rfl,hs,os⟩:=o.inv_tup
    cases os with
    | cons o1 os=>cases os with
     | cons o2 os =>
      cases os
      obtain ⟨t1,c1,h1,p1,e1,r1⟩:=jy N a (by simp at hN; omega) f n _ _ o1 hr
      obtain ⟨t2,c2,h2,p2,e2,r2⟩:=jy N b (by simp at hN; omega) (f + c1) n _ _ o2 r1
      exact ⟨.node t1 t2,c1 + c2,⟨r,_,_,rfl,hs,h1,h2⟩,⟨p1,by rw [e1]; exact_mod_cast p2⟩,by show t1.count + t2.count = _; rw [e1,e2]; omega,by rw [← Nat.add_assoc]; exact r2⟩
   | [],_,hr,_=>cases hr
   | [_],_,hr,_=>cases hr
   | _ :: _ :: _ :: _,_,hr,_=>cases hr
  | _=>cases hr
theorem WT {x:V} {d:PyData} {n:Nat} (o:Od K m H x d) (h:xE d n = true) (hn:n <= 40):∃ t:Tr,yX K H x t /\ Ordd t 0 /\ t.count = n /\ t.ht < 41:=by
 have hr:=of_decide_eq_true h
 obtain ⟨t,c,h1,h2,h3,h4⟩:=jy (sizeOf d + 1) d (Nat.lt_succ_self _) 0 n [] x o (by rw [List.append_nil]; exact hr)
 have e:0 + c = n:=Option.some.inj h4
 have h5:=wq t
 exact ⟨t,h1,h2,by omega,by omega⟩
end
structure Hd24 (K:FG7) (m:List Addr) (H:Hp) (l:Addr) (xs:List V) (ds:List PyData):Prop where
 sq:SqL K H l xs
 od:Ods K m H xs ds
 len:ds.length = 6
 bd:∀ d ∈ ds,Bd24 d
theorem Hd24.grow {K:FG7} {m:List Addr} {H H':Hp} {l:Addr} {xs:List V} {ds:List PyData} (h:Hd24 K m H l xs ds) (g:Grow [] H H'):Hd24 K m H' l xs ds:=⟨g.sqL h.sq,h.od.grow g.wk,h.len,h.bd⟩
theorem ZU {H H':Hp} {p:Addr} {m:List Addr} (g:Grow [p] H H') (pp:Pot H' p) (h:∀ b ∈ m,H b ≠ none):∀ b ∈ m,H' b ≠ none:=fun b hb z=>by
 by_cases e:b ∈ [p]
 ·exact yA pp b e z
 ·cases q:H b with
  | none=>exact h b hb q
  | some o=>rw [g.keep b o e q] at z; cases z
def Xi (K:FG7) (m:List Addr) (H:Hp) (v:V) (p:PyData × Nat):Prop:=∃ t x,v = .ref t /\ SqT K H t [x,.int p.2] /\ Od K m H x p.1
theorem vy:∀ t:Tr,(t.wt:Int) + 1 = 2 * t.count
 | .leaf _=>rfl
 | .node l r=>by
  have h1:=vy l
  have h2:=vy r
  show ((l.wt + r.wt + 1:Nat):Int) + 1 = 2 * (l.count + r.count)
  omega
theorem Wf {t:Tr} (h:trB t) (hc:t.count <= 40):GdD 0 40 400000 (trD t):=by
 have g:=VB h
 have w:=vy t
 have d:=wq t
 exact g.mono (Nat.le_refl _) (by omega) (by omega)
theorem Xi.grow {K:FG7} {m:List Addr} {H H':Hp} {v:V} {p:PyData × Nat} (h:Xi K m H v p) (g:Grow m H H'):Xi K m H' v p:=by
 obtain ⟨t,x,e,s,o⟩:=h
 exact ⟨t,x,e,g.sqT s,o.grow g⟩
structure RoomH (k:Nat) (A:Around):Prop where
 dp:A.depth + 3 * k + 5 < recursionLimit
 un:A.units + 16 * k + 200 < cLine
theorem RoomH.mono {j k:Nat} {A:Around} (r:RoomH k A) (h:j <= k):RoomH j A:=⟨by have:=r.dp; omega,by have:=r.un; omega⟩
theorem RoomH.of {k:Nat} {X:Cx} {e:Addr} (r:Room k X.A):RoomH k (handX X e).A:=⟨r.dp,r.un⟩
abbrev cxH (P:Program) (w:World) (K:FG7) (mg:Str -> Option Value) (base:Heap) (N:List Str) (qual:Str) (scope:Scope) (f:Addr) (cd:Value) (A:Around) (outer:List Env) (s:Shared) (H:Hp):Cx :=
 { cxOf CX0 P w K mg base N qual scope f cd A outer s H E0 with calm:=false,xe:=fun _ _=>False }
structure FnOkH (P:Program) (w:World) (K:FG7) (mg:Str -> Option Value) (base:Heap) (k:Nat) (f:Addr) (fd:FuncData) (ps:List Str) (sp:Addr -> Sp):Prop where
 len:∀ e vs H Q E,sp e vs H Q E -> vs.length = ps.length
 run:∀ (A:Around) (outer:List Env) (s:Shared) (H:Hp) (args:Args) (us:List Value) (vs:List V) (Q:VK) (e:Addr),A.handled = some (.ref e) -> RoomH k A -> Env0 P w K mg base A outer s H -> BindsTo s fd args (ps.zip us) -> Vals vs us -> sp e vs H Q E0 →
  codeAny (model P w) A (.call (.ref f) args) (CR CX0 outer P w H s Q E0) s
section
variable {P:Program} {w:World} {K:FG7} {mg:Str -> Option Value} {base:Heap}
theorem ZV {N ps:List Str} {qual:Str} {scope:Scope} {f:Addr} {cd:Value} {A:Around} {outer:List Env} {s s1:Shared} {H:Hp} {us:List Value} {vs:List V}
  (S:FnScope N ps scope) (e0:Env0 P w K mg base A outer s H) (hl:vs.length = ps.length) (r:Vals vs us)
  (x:InCallC s s.heap.objs.size (bindL (envOfC qual scope s.heap.objs.size f cd).kindOf (ps.zip us) fun _=>none) (cellsFrom (s.heap.objs.size + 1) scope.names []) (bindC (envOfC qual scope s.heap.objs.size f cd).kindOf (ps.zip us) fun _=>none) s1) :
  Inv (cxH P w K mg base N qual scope f cd A outer s H) [] (start N vs) H s1:=by
 have e1:Env0 P w K mg base { A with handled:=none } outer s H:=⟨e0.frames,e0.mod,e0.bs,e0.bsz,e0.funs,e0.frf,e0.hok,e0.bare⟩
 have I:=rf (CX:=CX0) (E:=E0) (A:={ A with handled:=none }) (f:=f) (cd:=cd) (qual:=qual) S rfl e1 hl r x
 exact ⟨⟨I.ok.mod,I.ok.kind,I.ok.glob,I.ok.blt,I.ok.above,I.ok.inj,I.ok.has,I.ok.cab,fun z=>(nomatch z),Around.frames_deeper e0.frames,I.ok.stk,I.ok.exf,I.ok.bs,I.ok.bsz,I.ok.noex,I.ok.exfs,I.ok.funs,I.ok.frf⟩,I.os,I.bare,I.base,I.loc,I.cell,I.free,I.freeC,I.pin,I.hok,I.len⟩
theorem UA {k:Nat} {x qual:Str} {st:Stmt} {f:Addr} {fd:FuncData} {N ps:List Str} {sp:Addr -> Sp} (F:Fun K x qual st f fd) (S:FnScope N ps (zg st))
  (len:∀ e vs H Q E,sp e vs H Q E -> vs.length = ps.length)
  (hbody:∀ (cdv:Value) (A:Around) (outer:List Env) (s:Shared) (H:Hp) (vs:List V) (Q:VK) (E:XK) (e:Addr),A.handled = some (.ref e) -> RoomH k A -> sp e vs H Q E0 →
   ∃ t,PSs (cxH P w K mg base N qual (zg st) f cdv A outer s H) (xR st) t /\ t { nx:=fun _ H'=>Q .non H',rt:=Q } (start N vs) H) :
  FnOkH P w K mg base (k + 1) f fd ps sp:=by
 obtain ⟨oc,od,kV,doc,pm,an,cdv,ct,osl,rfl,lk,hcd⟩:=F.ex
 refine ⟨len,fun A outer s H args us vs Q e hh hr e0 hb r hsp=>?_⟩
 have hl:=len _ _ _ _ _ hsp
 have KX:K.In s.heap:=e0.mod.kin.keeps fun b o e=>(e0.bs b o e).1
 have lim:s.heap.NoLimit:=e0.mod.nolimit.keeps fun b o e=>(e0.bs b o e).1
 have hkind:∀ y ∈ ps.zip us,(zg st).names.lookup y.1 = some .local \/ ((zg st).names.lookup y.1 = some .cell /\ ((cellsFrom (s.heap.objs.size + 1) (zg st).names []).lookup y.1).isSome = true):=fun ⟨n,v⟩ hy=>by
  rcases S.par n (List.of_mem_zip hy).1 with q | q
  ·exact .inl q
  ·exact .inr ⟨q,PySem.W.cellsFrom_some _ _ _ (.inl q)⟩
 refine codeAny_call_function (by have:=hr.dp; omega) (KX _ _ lk) rfl S.co S.gen rfl (PySem.W.codeRec_of KX hcd) (hb _ _ _ _ ?_)
 refine wpAny_newFunctionEnv_cells S.kind hkind fun env he s1 x=>?_
 subst he
 refine ⟨lim.keeps x.toInCall.keep,codeAny_func ?_⟩
 obtain ⟨t,ht,hq⟩:=hbody cdv A outer s H vs Q E0 e hh (hr.mono (Nat.le_succ _)) hsp
 have I:=ZV (f:=f) (cd:=cdv) (qual:=qual) S e0 hl r x
 refine wpAny_mono (ht [] s1 (start N vs) H _ I hq) (fun fl s' hs=>?_) fun e s' hs=>hs.elim
 have fin:∀ {σ':L2.St} {H':Hp} {v:V} {u:Value},Inv (cxH P w K mg base N qual (zg st) f cdv A outer s H) [] σ' H' s' -> RelV v u -> Q v H' -> CE outer P w H s Q u s' :=
  fun {σ' H' v u} J rv q=>⟨v,H',J.os,J.bare,J.base,J.hok,rv,q⟩
 cases fl with
 | ret u =>
  obtain ⟨v,σ',H',J,rv,q⟩:=hs
  exact fin J rv q
 | next =>
  obtain ⟨σ',H',J,q⟩:=hs
  exact fin (v:=V.non) (u:=Value.none) J rfl q
 | brk =>
  obtain ⟨_,_,_,q⟩:=hs
  exact False.elim q
 | cont =>
  obtain ⟨_,_,_,q⟩:=hs
  exact False.elim q
end
def vz (P:Program) (w:World) (K:FG7) (mg:Str -> Option Value) (base:Heap) (k:Nat) (x:Str) (ps:List Str) (sp:Addr -> Sp):Prop :=
 ∃ (f:Addr) (fd:FuncData),FnOkH P w K mg base k f fd ps sp /\ vn K fd ps [] /\ PySem.W.keepIn K (.ref f) = true /\ mg x = some (.ref f)
theorem vz.mono {P:Program} {w:World} {K:FG7} {mg:Str -> Option Value} {base:Heap} {j k:Nat} {x:Str} {ps:List Str} {sp:Addr -> Sp} (c:vz P w K mg base j x ps sp) (h:j <= k):vz P w K mg base k x ps sp:=by
 obtain ⟨f,fd,F,b,mt⟩:=c
 exact ⟨f,fd,⟨F.len,fun A outer s H args us vs Q e hh hr=>F.run A outer s H args us vs Q e hh (hr.mono h)⟩,b,mt⟩
section
variable {X:Cx} {k:Nat} {x:Str} {ps:List Str} {sp:Addr -> Sp} {e:Expr} {es:List Expr} {t:TA} {pos p:Pos} {e0:Addr}
theorem Wg (c:vz X.prog X.w X.K X.mg X.base k x ps sp) (hh:X.A.handled = some (.ref e0)) (hr:RoomH k X.A) (hg:Gl X x)
  (ha:PA X (e :: es) t) (hdb:(x == ("__debug__":Str)) = false:=by decide) (he:starEach (e :: es) X.env = (false,eval e X.env) :: starEach es X.env:=by rfl) (hpl:(backTo pos (starEach es X.env)).any (·.1) = false:=by rfl) :
  PE X (.Call (.Name x p) (e :: es) [] pos) (Yd (sp e0) [] E0 t):=by
 obtain ⟨f,fd,F,hb,hk,hm⟩:=c
 intro pins s σ H Q I h
 refine wpAny_Call_Name_kw (uo I hg hm ?_ hdb)
 refine PySem.W.callWith_K (h₀:=X.base) I.ok.mod.kin hk (thn (ha pos pins s σ H _ I h) fun us s1 ⟨vs,H1,I1,r,q⟩=>⟨I1.kIn,?_⟩) he hpl
 have q':sp e0 vs H1 Q E0:=by rw [← List.append_nil vs]; exact q
 have hl:(us ++ []).length = ps.length:=by rw [List.append_nil,← r.length]; exact F.len _ _ _ _ _ q'
 have hb':=hb s1 us I1.kIn hl
 rw [List.append_nil] at hb'
 refine wpAny_call (codeAny_mono (F.run X.A X.stack s1 H1 ⟨us,[]⟩ us vs Q e0 hh hr I1.env0 hb' r q') fun r s' hq=>?_)
 cases r with
 | error e=>exact hq.elim
 | ok fl =>
  cases fl with
  | ret u=>exact I1.after hq
  | next=>exact False.elim hq
  | brk=>exact False.elim hq
  | cont=>exact False.elim hq
end
def _root_.PySem.PyData.getD67:PyData -> PyData
 | .tuple ds=>ds.getD 0 .none
 | _=>.none
def yf (r:List Int):PyData:=.tuple (r.map PyData.int)
def zP (n:Int):PyData -> Bool
 | .tuple ds=>ds.all (zC 0 (n - 1))
 | _=>false
def yD:PyData -> Bool
 | .tuple ds=>decide (1 <= ds.length) && decide (ds.length <= 5) && ds.all (zC 0 ((ds.length:Int) - 1))
 | _=>false
def yi (lo hi:Int):PyData -> Bool
 | .tuple ds=>decide (lo <= ds.length) && decide ((ds.length:Int) <= hi) && ds.all yD && ds.all fun d=>decide (lenD d = lenD (ds.getD 0 .none))
 | _=>false
def yS:PyData -> Bool
 | .tuple ds=>decide (1 <= ds.length) && decide (ds.length <= 60) && ds.all fun r=>zP ds.length r && decide (lenD r = ds.length)
 | _=>false
def Zg (K:FG7):Sp:=sp1 fun x H Q=>∃ (d:PyData) (m:List Addr),Od K m H x d /\ lenD d <= 1000 /\ ∀ H',Grow [] H H' -> Q (.bl (yD d)) H'
def yT (K:FG7):Sp:=sp2 fun x y H Q=>∃ (d:PyData) (m:List Addr) (n:Int),Od K m H x d /\ y = .int n /\ lenD d <= 1000 /\ ∀ H',Grow [] H H' -> Q (.bl (zP n d)) H'
def sh67:PyData -> Bool
 | .tuple ds=>decide (ds.length <= 1000) && ds.all fun d=>decide (lenD d <= 1000)
 | _=>true
def uk (A:Addr) (K:FG7):Sp:=spX3 fun x y z H Q E=>∃ (d:PyData) (m:List Addr) (lo hi:Int),Od K m H x d /\ y = .int lo /\ z = .int hi /\ 1 <= lo /\ sh67 d = true /\ (yi lo hi d = true -> ∀ H',Grow [] H H' -> Q .non H') /\ (yi lo hi d = false -> ∀ e H',Grow [] H H' -> E (.ref e) (some A) H')
def xU (A:Addr) (K:FG7):Sp:=spX1 fun x H Q E=>∃ (d:PyData) (m:List Addr),Od K m H x d /\ sh67 d = true /\ (yS d = true -> ∀ H',Grow [] H H' -> Q .non H') /\ (yS d = false -> ∀ e H',Grow [] H H' -> E (.ref e) (some A) H')
theorem ul {ds:List PyData} (h:sh67 (.tuple ds) = true):ds.length <= 1000 /\ ∀ d ∈ ds,lenD d <= 1000:=by
 have h:(decide (ds.length <= 1000) && ds.all fun d=>decide (lenD d <= 1000)) = true:=h
 rw [Bool.and_eq_true,decide_eq_true_eq,List.all_eq_true] at h
 exact ⟨h.1,fun d hd=>of_decide_eq_true (h.2 d hd)⟩
theorem va {d:PyData} (h:yD d = true):∃ es,d = .tuple es:=by
 cases d with
 | tuple es=>exact ⟨es,rfl⟩
 | _=>cases h
theorem xn {n:Int} {d:PyData} (h:zP n d = true):∃ es,d = .tuple es:=by
 cases d with
 | tuple es=>exact ⟨es,rfl⟩
 | _=>cases h
def xi (dd dt:PyData):Bool:=yS dt && yi (lenD dt) (lenD dt) dd
def yo (n:Int) (d:PyData):Bool:=zP n d && decide (1 <= lenD d) && decide (lenD d <= 40)
def vc (A:Addr) (K:FG7):Sp:=spX2 fun x y H Q E=>∃ (dd dt:PyData) (m:List Addr),Od K m H x dd /\ Od K m H y dt /\ sh67 dd = true /\ sh67 dt = true /\ (xi dd dt = true -> ∀ H',Grow [] H H' -> Q .non H') /\ (xi dd dt = false -> ∀ e H',Grow [] H H' -> E (.ref e) (some A) H')
def sJ (A:Addr) (K:FG7):Sp:=spX2 fun x y H Q E=>∃ (ts:List PyData) (d:PyData) (m:List Addr),Od K m H x (.tuple ts) /\ Od K m H y d /\ lenD d <= 1000 /\ (yo ts.length d = true -> ∀ H',Grow [] H H' -> Q .non H') /\ (yo ts.length d = false -> ∀ e H',Grow [] H H' -> E (.ref e) (some A) H')
theorem xV {d:PyData} (h:yS d = true):∃ ts,d = .tuple ts /\ 1 <= ts.length /\ ts.length <= 60:=by
 cases d with
 | tuple es =>
  have h:(decide (1 <= es.length) && decide (es.length <= 60) && _) = true:=h
  rw [Bool.and_eq_true,Bool.and_eq_true,decide_eq_true_eq,decide_eq_true_eq] at h
  exact ⟨es,rfl,h.1.1,h.1.2⟩
 | _=>cases h
section
variable {K:FG7} {m:List Addr} {H:Hp}
theorem vP {l u:Int} {d:PyData} (h:zC l u d = true):∃ i,d = .int i /\ l <= i /\ i <= u:=by
 cases d with
 | int i =>
  have h:(decide (l <= i) && decide (i <= u)) = true:=h
  rw [Bool.and_eq_true,decide_eq_true_eq,decide_eq_true_eq] at h
  exact ⟨i,rfl,h.1,h.2⟩
 | _=>cases h
theorem Xj {n:Int}:∀ {xs:List V} {ds:List PyData},Ods K m H xs ds -> ds.all (zC 0 (n - 1)) = true -> ∃ b:List Int,xs = b.map V.int /\ Rng n b /\ ds = b.map PyData.int
 | _,_,.nil,_=>⟨[],rfl,(fun _ h=>by cases h),rfl⟩
 | _,_,.cons o t,h=>by
  rw [List.all_cons,Bool.and_eq_true] at h
  obtain ⟨i,rfl,i0,i1⟩:=vP h.1
  obtain ⟨b,rfl,hr,rfl⟩:=Xj t h.2
  obtain rfl:=o.inv_int
  exact ⟨i :: b,rfl,(fun v hv=>by rcases List.mem_cons.mp hv with rfl | hv; exact ⟨i0,by omega⟩; exact hr v hv),rfl⟩
theorem wH {n:Int} {x:V} {d:PyData} (o:Od K m H x d) (h:zP n d = true):∃ b:List Int,zE K H x b /\ Rng n b /\ d = .tuple (b.map PyData.int):=by
 obtain ⟨es,rfl⟩:=xn h
 obtain ⟨a,xs,rfl,hs,ha⟩:=o.inv_tup
 obtain ⟨b,rfl,hr,rfl⟩:=Xj ha h
 exact ⟨b,⟨a,rfl,hs⟩,hr,rfl⟩
theorem sK {M:Nat}:∀ {xs:List V} {ds:List PyData},Ods K m H xs ds -> (∀ d ∈ ds,zP M d = true /\ lenD d = M) -> ∃ rows:List (List Int),AllR (zE K H) xs rows /\ rows.length = ds.length /\ (∀ r ∈ rows,r.length = M /\ Rng M r) /\ ds = rows.map yf
 | _,_,.nil,_=>⟨[],trivial,rfl,(fun _ h=>by cases h),rfl⟩
 | _,_,.cons o t,h=>by
  obtain ⟨h1,h2⟩:=h _ (List.mem_cons_self ..)
  obtain ⟨b,hb,hr,rfl⟩:=wH o h1
  obtain ⟨rows,ha,hl,hm,er⟩:=sK t fun d hd=>h d (List.mem_cons_of_mem _ hd)
  have bl:b.length = M:=by rw [← h2]; exact (List.length_map ..).symm
  exact ⟨b :: rows,⟨hb,ha⟩,congrArg (· + 1) hl,(fun r hr'=>by rcases List.mem_cons.mp hr' with rfl | hr'; exact ⟨bl,hr⟩; exact hm r hr'),by rw [er]; rfl⟩
theorem vd {d:PyData} (h:yD d = true):zP (lenD d:Nat) d = true /\ 1 <= lenD d /\ lenD d <= 5:=by
 obtain ⟨es,rfl⟩:=va h
 have h:(decide (1 <= es.length) && decide (es.length <= 5) && es.all (zC 0 ((es.length:Int) - 1))) = true:=h
 rw [Bool.and_eq_true,Bool.and_eq_true,decide_eq_true_eq,decide_eq_true_eq] at h
 exact ⟨h.2,h.1.1,h.1.2⟩
theorem Zh {x:V} {d:PyData} {lo hi:Int} (o:Od K m H x d) (lo1:1 <= lo) (h:yi lo hi d = true):∃ (rows:List (List Int)) (S:Nat),yJ K H x rows /\ tf rows.length S rows /\ 1 <= S /\ S <= 5 /\ lo <= rows.length /\ (rows.length:Int) <= hi /\ rows.length = lenD d /\ S = lenD d.getD67 /\ d = .tuple (rows.map yf):=by
 cases d with
 | tuple ds =>
  have h:(decide (lo <= ds.length) && decide ((ds.length:Int) <= hi) && ds.all yD && ds.all fun d=>decide (lenD d = lenD (ds.getD 0 .none))) = true:=h
  rw [Bool.and_eq_true,Bool.and_eq_true,Bool.and_eq_true,decide_eq_true_eq,decide_eq_true_eq,List.all_eq_true,List.all_eq_true] at h
  obtain ⟨⟨⟨h1,h2⟩,h3⟩,h4⟩:=h
  obtain ⟨a,xs,rfl,hs,ha⟩:=o.inv_tup
  have c0:0 < ds.length:=by omega
  have z:=vd (h3 (ds.getD 0 .none) (by rw [List.getD_eq_getElem?_getD,List.getElem?_eq_getElem c0]; exact List.getElem_mem c0))
  obtain ⟨rows,hr,hl,hm,er⟩:=sK (M:=lenD (ds.getD 0 .none)) ha fun d hd=>by
   have e:lenD d = lenD (ds.getD 0 .none):=of_decide_eq_true (h4 d hd)
   exact ⟨by rw [← e]; exact (vd (h3 d hd)).1,e⟩
  exact ⟨rows,_,⟨a,xs,rfl,hs,hr⟩,⟨rfl,hm⟩,z.2.1,z.2.2,by rw [hl]; exact h1,by rw [hl]; exact h2,hl,rfl,congrArg PyData.tuple er⟩
 | _=>cases h
theorem Xk {x:V} {d:PyData} (o:Od K m H x d) (h:yS d = true):∃ rows:List (List Int),yJ K H x rows /\ tf rows.length rows.length rows /\ 1 <= rows.length /\ rows.length <= 60 /\ rows.length = lenD d:=by
 cases d with
 | tuple ds =>
  have h:(decide (1 <= ds.length) && decide (ds.length <= 60) && ds.all fun r=>zP ds.length r && decide (lenD r = ds.length)) = true:=h
  rw [Bool.and_eq_true,Bool.and_eq_true,decide_eq_true_eq,decide_eq_true_eq,List.all_eq_true] at h
  obtain ⟨⟨h1,h2⟩,h3⟩:=h
  obtain ⟨a,xs,rfl,hs,ha⟩:=o.inv_tup
  obtain ⟨rows,hr,hl,hm,_⟩:=sK (M:=ds.length) ha fun d hd=>by
   have:=h3 d hd
   rw [Bool.and_eq_true,decide_eq_true_eq] at this
   exact this
  refine ⟨rows,⟨a,xs,rfl,hs,hr⟩,⟨rfl,?_⟩,by rw [hl]; exact h1,by rw [hl]; exact h2,hl⟩
  rw [hl]; exact hm
 | _=>cases h
end
def wr (A B:Addr) (K:FG7):Sp:=spX1 fun x H Q E=>∃ (d:PyData) (m:List Addr),Od K m H x d /\ sh67 d = true /\ (yi 1 4 d = false -> ∀ e H',Grow [] H H' -> E (.ref e) (some A) H') ∧
 (yi 1 4 d = true -> (∀ (ms:List (List Int)) (S:Nat),d = .tuple (ms.map yf) -> Mks ms S -> ¬ Few ms S -> ∀ e H',Grow [] H H' -> E (.ref e) (some B) H') /\ ∀ (ms:List (List Int)) (S:Nat),yJ K H x ms -> d = .tuple (ms.map yf) -> Mks ms S -> 1 <= S -> S <= 5 -> 1 <= ms.length -> ms.length <= 4 -> ∀ y f H',Grow [] H H' -> FamW K H' y f -> FamL ms S f -> f.length <= 60 -> Q y H')
def ve (A B:Addr) (K:FG7):Sp:=spX1 fun x H Q E=>∃ (d:PyData) (m:List Addr),Od K m H x d /\ sh67 d = true /\ (yi 1 4 d = false -> ∀ e H',Grow [] H H' -> E (.ref e) (some A) H') ∧
 (yi 1 4 d = true -> (∀ (ms:List (List Int)) (S:Nat),d = .tuple (ms.map yf) -> Mks ms S -> ¬ Few ms S -> ∀ e H',Grow [] H H' -> E (.ref e) (some B) H') /\ ∀ (ms:List (List Int)) (S:Nat),yJ K H x ms -> d = .tuple (ms.map yf) -> Mks ms S -> 1 <= S -> S <= 5 -> 1 <= ms.length -> ms.length <= 4 -> ∀ y f H',Grow [] H H' -> ZN K H' y (zO f) -> FamL ms S f -> f.length <= 60 -> Q y H')
def wu (A B:Addr) (K:FG7):Sp:=spX1 fun x H Q E=>∃ (d:PyData) (m:List Addr),Od K m H x d /\ sh67 d = true /\ (yi 1 4 d = false -> ∀ e H',Grow [] H H' -> E (.ref e) (some A) H') ∧
 (yi 1 4 d = true -> (∀ e H',Grow [] H H' -> E (.ref e) (some B) H') /\ ∀ y H',Grow [] H H' -> Q y H')
def spX5 (f:V -> V -> V -> V -> V -> Hp -> VK -> XK -> Prop):Sp:=fun vs H Q E=>∃ x y z u w,vs = [x,y,z,u,w] /\ f x y z u w H Q E
theorem Wh {f:V -> V -> V -> V -> V -> Hp -> VK -> XK -> Prop} {p q r s t:Str}:∀ vs H Q E,spX5 f vs H Q E -> vs.length = [p,q,r,s,t].length:=by rintro vs H Q E ⟨x,y,z,u,w,rfl,_⟩; rfl
def uT (A:Addr) (K:FG7):Sp:=spX2 fun x y H Q E=>∃ (dd dt:PyData) (m:List Addr),Od K m H x dd /\ Od K m H y dt /\ sh67 dd = true /\ sh67 dt = true /\ (xi dd dt = true -> ∀ y H',Grow [] H H' -> Q y H') /\ (xi dd dt = false -> ∀ e H',Grow [] H H' -> E (.ref e) (some A) H')
def sL (A:Addr) (K:FG7):Sp:=spX1 fun x H Q E=>∃ (d:PyData) (m:List Addr),Od K m H x d /\ sh67 d = true /\ (yS d = true -> ∀ y H',Grow [] H H' -> Q y H') /\ (yS d = false -> ∀ e H',Grow [] H H' -> E (.ref e) (some A) H')
def xW (dt dn dr:PyData):Option Nat:=if yS dt = false then some 0 else if yo (lenD dt) dn = false then some 1 else if xE dr (lenD dn) = false then some 2 else none
def xo (dd dt dn dr ds:PyData):Option Nat:=if xi dd dt = false then some 0 else if yo (lenD dt) dn = false then some 1 else if zC 0 ((lenD (dd.getD67):Int) - 1) ds = false then some 1 else if xE dr (lenD dn) = false then some 2 else none
def cl67 (A0 A1 A2:Addr) (c:Nat):Addr:=if c = 0 then A0 else if c = 1 then A1 else A2
def UB (A0 A1 A2:Addr) (o:Option Nat) (H:Hp) (Q:V -> Hp -> Prop) (E:XK):Prop :=
 (o = none -> ∀ y H',Grow [] H H' -> Q y H') /\ ∀ c,o = some c -> ∀ e H',Grow [] H H' -> E (.ref e) (some (cl67 A0 A1 A2 c)) H'
def vf (A0 A1 A2:Addr) (K:FG7):Sp:=spX3 fun x y z H Q E=>∃ (dt dn dr:PyData) (m:List Addr),Od K m H x dt /\ Od K m H y dn /\ Od K m H z dr /\ sh67 dt = true /\ lenD dn <= 1000 /\ wtO dr <= 1000000 /\ (xW dt dn dr = none -> ∀ (v:Int) H',0 <= v -> v < lenD dt -> Grow [] H H' -> Q (.int v) H') /\ ∀ c,xW dt dn dr = some c -> ∀ e H',Grow [] H H' -> E (.ref e) (some (cl67 A0 A1 A2 c)) H'
def vA (A0 A1 A2:Addr) (K:FG7):Sp:=spX5 fun x0 x y z w H Q E=>∃ (dd dt dn dr ds:PyData) (m:List Addr),Od K m H x0 dd /\ Od K m H x dt /\ Od K m H y dn /\ Od K m H z dr /\ Od K m H w ds /\ sh67 dd = true /\ sh67 dt = true /\ lenD dn <= 1000 /\ wtO dr <= 1000000 /\ UB A0 A1 A2 (xo dd dt dn dr ds) H Q E
theorem UC {K:FG7} {m:List Addr} {H:Hp} {x y:V} {dd dt:PyData} (hd:Od K m H x dd) (ht:Od K m H y dt) (c:xi dd dt = true):∃ (R M:Nat) (ds tab:List (List Int)),DT K H R M ds tab x y /\ R = lenD dt /\ M = lenD dd.getD67:=by
 unfold xi at c
 rw [Bool.and_eq_true] at c
 obtain ⟨tab,hy,hT,r1,r60,rl⟩:=Xk ht c.1
 obtain ⟨ds,S,hx,hD,m1,m5,l1,l2,dl,em,_⟩:=Zh hd (by omega) c.2
 have e:ds.length = tab.length:=by omega
 refine ⟨tab.length,S,ds,tab,⟨hx,hy,r1,r60,m1,m5,e ▸ hD,hT⟩,rl,em⟩
def vg (K:FG7):Sp:=sp2 fun x y H Q=>∃ (d:PyData) (m:List Addr) (n:Int),Od K m H x d /\ y = .int n /\ Q (.bl (zC 0 (n - 1) d)) H
def uU (K:FG7):Sp:=sp2 fun x y H Q=>∃ (d:PyData) (m:List Addr) (hi:Int),Od K m H x d /\ y = .int hi /\ sh67 d = true /\ ∀ H',Grow [] H H' -> Q (.bl (yi 1 hi d)) H'
def qa (K:FG7):Sp:=sp1 fun x H Q=>∃ (d:PyData) (m:List Addr),Od K m H x d /\ sh67 d = true /\ ∀ H',Grow [] H H' -> Q (.bl (yS d)) H'
theorem Wi {M:Nat} {d:PyData} (h:zP M d = true) (e:lenD d = M) (m1:1 <= M) (m5:M <= 5):yD d = true:=by
 obtain ⟨es,rfl⟩:=xn h
 have e:es.length = M:=e
 subst e
 show (decide (1 <= es.length) && decide (es.length <= 5) && es.all (zC 0 ((es.length:Int) - 1))) = true
 rw [decide_eq_true m1,decide_eq_true m5]; exact h
theorem VC {ds es0:List PyData} {hi:Int} (c1:1 <= ds.length) (c2:(ds.length:Int) <= hi) (h0:ds.getD 0 .none = .tuple es0) (hm:.tuple es0 ∈ ds) :
  yi 1 hi (.tuple ds) = (decide (1 <= es0.length) && decide (es0.length <= 5) && ds.all (zP es0.length) && ds.all fun d=>decide (lenD d = es0.length)):=by
 show (decide ((1:Int) <= ds.length) && decide ((ds.length:Int) <= hi) && ds.all yD && ds.all fun d=>decide (lenD d = lenD (ds.getD 0 .none))) = _
 rw [h0,decide_eq_true (show (1:Int) <= ds.length by omega),decide_eq_true c2,Bool.true_and,Bool.true_and]
 show (ds.all yD && ds.all fun d=>decide (lenD d = es0.length)) = _
 rw [Bool.eq_iff_iff]
 simp only [Bool.and_eq_true,List.all_eq_true,decide_eq_true_eq]
 constructor
 ·rintro ⟨h3,h4⟩
  have z:=vd (h3 _ hm)
  exact ⟨⟨⟨z.2.1,z.2.2⟩,fun d hd=>by have e:=h4 d hd; have:=(vd (h3 d hd)).1; rw [e] at this; exact this⟩,h4⟩
 ·rintro ⟨⟨⟨m1,m5⟩,hr⟩,h4⟩
  exact ⟨fun d hd=>Wi (hr d hd) (h4 d hd) m1 m5,h4⟩
theorem qb (M:Nat):∀ ds:List PyData,decide ((ds.map fun d=>(lenD d:Int)) = List.replicate ds.length (M:Int)) = ds.all fun d=>decide (lenD d = M)
 | []=>rfl
 | d :: ds=>by
  rw [List.all_cons,← qb M ds,Bool.eq_iff_iff]
  simp only [List.map_cons,List.length_cons,List.replicate_succ,Bool.and_eq_true,decide_eq_true_eq,List.cons.injEq]
  constructor
  ·rintro ⟨a,b⟩; exact ⟨by omega,b⟩
  ·rintro ⟨a,b⟩; exact ⟨by omega,b⟩
theorem tV (v:Int):∀ n:Nat,(List.replicate n [V.int v]).flatten = (List.replicate n v).map V.int
 | 0=>rfl
 | n + 1=>by rw [List.replicate_succ,List.replicate_succ,List.flatten_cons,tV v n]; rfl
theorem wI:∀ ns:List Int,(ns.map V.int).all xy = true
 | []=>rfl
 | _ :: ns=>wI ns
def spX6 (f:V -> V -> V -> V -> V -> V -> Hp -> VK -> XK -> Prop):Sp:=fun vs H Q E=>∃ x y z u w v,vs = [x,y,z,u,w,v] /\ f x y z u w v H Q E
theorem Wj {f:V -> V -> V -> V -> V -> V -> Hp -> VK -> XK -> Prop} {p q r s t o:Str}:∀ vs H Q E,spX6 f vs H Q E -> vs.length = [p,q,r,s,t,o].length:=by rintro vs H Q E ⟨x,y,z,u,w,v,rfl,_⟩; rfl
def xp (c:Nat) (dd dt dn dr ds:PyData):Option Nat :=
 if c < 3 then (if yi 1 4 dd = false then some 0 else none)
 else if c = 3 then (if xi dd dt = false then some 0 else none)
 else if c = 4 then (if yS dt = false then some 0 else none)
 else if c = 5 then xW dt dn dr
 else xo dd dt dn dr ds
structure Bd67 (dd dt dn dr:PyData):Prop where
 d:sh67 dd = true
 t:sh67 dt = true
 n:lenD dn <= 1000
 r:wtO dr <= 1000000
def vB (A0 A1 A2 A3:Addr) (K:FG7):Sp:=spX6 fun x y z u w v H Q E=>∃ (c:Nat) (dd dt dn dr ds:PyData) (m:List Addr),x = .int c /\ c < 7 /\ Od K m H y dd /\ Od K m H z dt /\ Od K m H u dn /\ Od K m H w dr /\ Od K m H v ds /\ Bd67 dd dt dn dr ∧
 UB A0 A1 A2 (xp c dd dt dn dr ds) H Q E /\ (xp c dd dt dn dr ds = none -> ∀ e H',Grow [] H H' -> E (.ref e) (some A3) H')
theorem Wl {dd dt:PyData}:xi dd dt = (yS dt && (yi 1 60 dd && decide (lenD dd = lenD dt))):=by
 unfold xi
 cases ht:yS dt with
 | false=>rfl
 | true =>
  obtain ⟨ts,rfl,t1,t60⟩:=xV ht
  rw [Bool.true_and,Bool.true_and]
  cases dd with
  | tuple ds =>
   show (decide (((lenD (.tuple ts):Nat):Int) <= ds.length) && decide ((ds.length:Int) <= (lenD (.tuple ts):Nat)) && ds.all yD && _) = (decide ((1:Int) <= ds.length) && decide ((ds.length:Int) <= 60) && ds.all yD && _ && decide (ds.length = ts.length))
   have e:lenD (.tuple ts) = ts.length:=rfl
   rw [e]
   by_cases h:ds.length = ts.length
   ·rw [decide_eq_true (show ((ts.length:Nat):Int) <= ds.length by omega),decide_eq_true (show (ds.length:Int) <= (ts.length:Nat) by omega),decide_eq_true (show (1:Int) <= ds.length by omega),decide_eq_true (show (ds.length:Int) <= 60 by omega),decide_eq_true h]; simp only [Bool.and_true]
   ·rw [decide_eq_false h,Bool.and_false]
    by_cases h1:((ts.length:Nat):Int) <= ds.length
    ·rw [decide_eq_false (show ¬ (ds.length:Int) <= (ts.length:Nat) by omega),Bool.and_false,Bool.false_and,Bool.false_and]
    ·rw [decide_eq_false h1]; rfl
  | _=>rfl
def wd67:Option Nat -> Str
 | none=>Str.ofString "none"
 | some 0=>Str.ofString "table"
 | some 1=>Str.ofString "number"
 | some _=>Str.ofString "tree"
def Zi (K:FG7):Sp:=sp6 fun x y z u w v H Q=>∃ (c:Nat) (dd dt dn dr ds:PyData) (m:List Addr),x = .int c /\ c < 7 /\ Od K m H y dd /\ Od K m H z dt /\ Od K m H u dn /\ Od K m H w dr /\ Od K m H v ds /\ Bd67 dd dt dn dr /\ dr.depth <= 60 /\ ∀ H',Grow [] H H' -> Q (.str (wd67 (xp c dd dt dn dr ds))) H'
def vC (K:FG7):Sp:=sp2 fun x y H Q=>∃ (d:PyData) (m:List Addr) (n:Nat),Od K m H x d /\ y = .int n /\ 1 <= n /\ n <= 40 /\ d.depth <= 60 /\ wtO d <= 1000000 /\ ∀ H',Grow [] H H' -> Q (.bl (xE d n)) H'
section
variable {X:Cx} {K:FG7} {e:Expr} {pos p1:Pos} {j:Nat}
theorem VD {i:Nat} {c:Int} (n:Int) (h:PE X e (tVar i)):PE X (.BinOp e .Sub (.Constant (.int c) j p1) pos) (tOd K (.var K i (.int n)) (.int (n - c))):=fun pins s σ H Q I ⟨m,⟨x,ex,o⟩,_,q⟩=>by
 obtain rfl:=o.inv_int
 exact zK vM h ze pins s σ H Q I ⟨_,ex,_,_,rfl,rfl,q _ _ (Grow.refl _ _) (.int _)⟩
end
theorem VE {ms:List (List Int)} {S:Nat} {f:FW} (g:GoodF ms S f) (h:60 < f.length):¬ Few ms S:=fun ⟨l,hl,hw⟩=>by
 have:=ug g.nd fun d hd=>hw d (g.wd d hd)
 unfold zO at this
 rw [List.length_map] at this
 omega
theorem Wm {f:FW} (h:FamL [[1,0]] 2 f):f = [([0,1],[]),([1,0],[0])]:=by
 refine FamR.eq h (.step (by decide) (by decide) ?_)
 show FamR [[1,0]] [([0,1],[]),([1,0],[0])] [[1,0]] _
 refine .step (by decide) (by decide) ?_
 show FamR [[1,0]] [([0,1],[]),([1,0],[0])] [] _
 exact .done (.inl rfl)
structure KdN (K:FG7) (cs:List Addr) (A:Addr):Prop where
 kk:∀ C ∈ A :: cs,ExcK K C
 kq:∀ (i:Nat) (C:Addr),cs[i]? = some C -> ∀ (j:Nat) (D:Addr),cs[j]? = some D -> PySem.W.kitOne K (.ref C) (.ref D) = some (decide (i = j))
 kv:∀ C ∈ A :: cs,PySem.W.kitOne K (.ref C) (.type "ValueError") = some true
 kb:∀ C ∈ A :: cs,PySem.W.kitOne K (.ref C) (.ref A) = some true
 up:∀ C ∈ A :: cs,PySem.W.mroIn K C (.ref A) = some true
def kdBN (K:FG7) (cs:List Addr) (A:Addr):Bool :=
 ((List.range cs.length).all fun i=>(List.range cs.length).all fun j=>PySem.W.kitOne K (.ref (cs.getD i 0)) (.ref (cs.getD j 0)) == some (i == j)) &&
  (A :: cs).all fun C=>PySem.W.kitOne K (.ref C) (.ref A) == some true && PySem.W.kitOne K (.ref C) (.type "ValueError") == some true && PySem.W.mroIn K C (.ref A) == some true
theorem kdN_of {K:FG7} {cs:List Addr} {A:Addr} (h:kdBN K cs A = true) (k:∀ C ∈ A :: cs,ExcK K C):KdN K cs A:=by
 unfold kdBN at h
 simp only [Bool.and_eq_true,List.all_eq_true,beq_iff_eq,List.mem_range] at h
 obtain ⟨h2,h4⟩:=h
 refine ⟨k,fun i C hi j D hj=>?_,fun C hC=>(h4 C hC).1.2,fun C hC=>(h4 C hC).1.1,fun C hC=>(h4 C hC).2⟩
 have i16:=(List.getElem?_eq_some_iff.mp hi).1
 have j16:=(List.getElem?_eq_some_iff.mp hj).1
 have:=h2 i i16 j j16
 rw [List.getD_eq_getElem?_getD,List.getD_eq_getElem?_getD,hi,hj] at this
 rw [show PySem.W.kitOne K (.ref C) (.ref D) = some (i == j) from this]
 congr 1
theorem isiN {K:FG7} {cs:List Addr} {A C D a:Addr} {i j:Nat} {σ:L2.St} {H:Hp} {Q:VK} (k:KdN K cs A) (hc:cs[i]? = some C) (ha:H a = some (ExO a C)) (hσ:σ[0]? = some (some (.ref a))) (hj:cs[j]? = some D) (q:Q (.bl (decide (i = j))) H) :
  tCB (Ul K) (u8 (tVar 0) (u8 (tC (V.ref D)) tNil)) σ H Q:=⟨_,hσ,a,C,_,_,_,rfl,ha,(fun u r=>r),k.kk C (List.mem_cons_of_mem _ (List.mem_of_getElem? hc)),k.kq i C hc j D hj,q⟩
def nm67:Nat -> Str
 | 0=>Str.ofString "table"
 | 1=>Str.ofString "number"
 | 2=>Str.ofString "tree"
 | _=>Str.ofString "none"
def vF (cs:List Addr) (K:FG7) (e:Addr):Sp:=sp1 fun x H Q=>∃ (C:Addr) (i:Nat),x = .ref e /\ H e = some (ExO e C) /\ cs[i]? = some C /\ ∀ H',Grow [] H H' -> Q (.str (nm67 i)) H'
def UD (b:Int):List PyData:=[.int (-1),.int b,.bool true,.str "0",.none,.tuple [],.bool false,.tuple [.int 0],.int (10 ^ (29:Int).toNat),.list [.int 0]]
theorem Xl {b:Int} {d:PyData} (h:d ∈ UD b):lenD d <= 1:=by
 simp only [UD,List.mem_cons,List.not_mem_nil,or_false] at h
 rcases h with rfl | rfl | rfl | rfl | rfl | rfl | rfl | rfl | rfl | rfl <;> exact Nat.le_of_ble_eq_true rfl
def sM (K:FG7):Sp:=sp2 fun x y H Q=>∃ (a:Addr) (b:Int) (m:List Addr),x = .ref a /\ y = .int b /\ Pot H a /\ a ∈ m /\ (∀ c ∈ m,H c ≠ none) /\ ∀ z d H',Grow [a] H H' -> Pot H' a -> Od K m H' z d -> lenD d <= 1 -> Q z H'
def vG (K:FG7):Sp:=sp3 fun x y z H Q=>∃ (a:Addr) (ds:List PyData) (b:Int) (m:List Addr),x = .ref a /\ Od K m H y (.tuple ds) /\ z = .int b /\ Pot H a /\ a ∈ m /\ (∀ c ∈ m,H c ≠ none) /\ ds.length <= 100 /\ (∀ d ∈ ds,lenD d <= 300) ∧
 ∀ z d H',Grow [a] H H' -> Pot H' a -> Od K m H' z d -> sh67 d = true -> lenD d <= 201 -> Q z H'
def qc (K:FG7):Sp:=sp3 fun x y z H Q=>∃ (a:Addr) (ds:List PyData) (b:Int) (m:List Addr),x = .ref a /\ Od K m H y (.tuple ds) /\ z = .int b /\ Pot H a /\ a ∈ m /\ (∀ c ∈ m,H c ≠ none) /\ 1 <= ds.length /\ ds.length <= 100 /\ (∀ d ∈ ds,∃ es,d = .tuple es /\ es.length <= 100 /\ ∀ e ∈ es,lenD e <= 300) ∧
 ∀ z d H',Grow [a] H H' -> Pot H' a -> Od K m H' z d -> sh67 d = true -> Q z H'
theorem vH {ds:List PyData} (h1:ds.length <= 1000) (h2:∀ d ∈ ds,lenD d <= 1000):sh67 (.tuple ds) = true:=by
 show (decide (ds.length <= 1000) && ds.all fun d=>decide (lenD d <= 1000)) = true
 rw [decide_eq_true h1,Bool.true_and,List.all_eq_true]
 exact fun d hd=>decide_eq_true (h2 d hd)
theorem Xm {ds:List PyData} {t:Nat}:(cutD ds (some (t:Int)) (some ((t:Int) + 1))).length <= 1:=by
 unfold cutD
 rw [List.length_take]
 have e:HT.sIx ds.length ds.length (some ((t:Int) + 1)) - HT.sIx ds.length 0 (some (t:Int)) <= 1:=by
  rw [show ((t:Int) + 1) = ((t + 1:Nat):Int) from rfl,HT.sIx_nat,HT.sIx_nat]
  omega
 omega
def wv (N:Nat) (K:FG7):Sp:=sp3 fun x y z H Q=>∃ (a:Addr) (t:Tr) (n:Int) (m:List Addr),x = .ref a /\ Od K m H y (trD t) /\ z = .int n /\ Pot H a /\ a ∈ m /\ (∀ c ∈ m,H c ≠ none) /\ t.ht < N ∧
 ∀ z d H',Grow [a] H H' -> Pot H' a -> Od K m H' z d -> d.depth <= t.ht + 2 -> wtO d <= 2 * wtO (trD t) + 20000 -> Q z H'
theorem Xn {K:FG7}:∀ vs H Q E,¬ wv 0 K vs H Q E:=by
 rintro vs H Q E ⟨x,y,z,rfl,a,t,n,m,_,_,_,_,_,_,h,_⟩
 exact Nat.not_lt_zero _ h
theorem xq:∀ t:Tr,(trD t).depth = t.ht
 | .leaf _=>rfl
 | .node l r=>by
  show max (trD l).depth (max (trD r).depth 0) + 1 = max l.ht r.ht + 1
  rw [xq l,xq r]; omega
def nz67 (d:PyData):PyData:=if tupD d = true then .none else d
def yE (N:Nat) (K:FG7):Sp:=sp1 fun x H Q=>∃ (d:PyData) (m:List Addr),Od K m H x d /\ d.depth < N /\ wtO d <= 1000000 /\ ∀ l xs ls H',H l = none -> Grow [] H H' -> H' l = some (.lst xs) -> Ods K m H' xs ls -> lvs d = ls.map nz67 -> Q (.ref l) H'
theorem qd {K:FG7}:∀ vs H Q E,¬ yE 0 K vs H Q E:=by
 rintro vs H Q E ⟨x,rfl,d,m,_,h,_⟩
 exact Nat.not_lt_zero _ h
theorem VF {d:PyData} (h:tupD d = false):nz67 d = d:=if_neg (by rw [h]; decide)
theorem Wn {d:PyData} {i:Int} (h:nz67 d = .int i):d = .int i:=by
 cases d with
 | tuple _=>cases h
 | _=>exact h
theorem qf:∀ is:List Int,(is.map PyData.int).map nz67 = is.map PyData.int
 | []=>rfl
 | i :: is=>by rw [List.map_cons,List.map_cons,qf is]; rfl
theorem sN {d:PyData} {n:Nat} {ls:List PyData} (e:lvs d = ls.map nz67) (h:xE d n = true):ls.all (zC 0 ((n:Int) - 1)) = true:=by
 have h:=of_decide_eq_true h
 rw [e,sG,List.length_map] at h
 obtain ⟨h1,h2⟩:=h
 rw [List.all_eq_true]
 intro x hx
 have hm:nz67 x ∈ ls.map nz67:=List.mem_map_of_mem hx
 rw [h1] at hm
 obtain ⟨i,hi,he⟩:=List.mem_map.mp hm
 rw [Wn he.symm]
 have:=(List.mem_range'_1.mp hi)
 show (decide ((0:Int) <= (i:Int)) && decide ((i:Int) <= (n:Int) - 1)) = true
 rw [decide_eq_true (by omega),decide_eq_true (by omega)]; rfl
theorem jz {d:PyData} {n:Nat} {is:List Int} (e:lvs d = (is.map PyData.int).map nz67):decide (is = ((List.range n).map fun i:Nat=>(i:Int))) = xE d n:=by
 rw [qf] at e
 unfold xE
 rw [e]
 have key:is = ((List.range n).map fun i:Nat=>(i:Int)) ↔ runL (is.map PyData.int) 0 = some n:=by
  rw [sG,List.length_map]
  constructor
  ·intro z
   have zl:is.length = n:=by rw [z,List.length_map,List.length_range]
   refine ⟨?_,by omega⟩
   rw [zl,← List.range_eq_range',z,List.map_map]; rfl
  ·rintro ⟨a,c⟩
   have zl:is.length = n:=by omega
   rw [zl,← List.range_eq_range'] at a
   have a2:is.map PyData.int = ((List.range n).map fun i:Nat=>(i:Int)).map PyData.int:=by rw [a,List.map_map]; rfl
   exact List.map_inj_right (f:=PyData.int) (fun x y h=>by injection h) |>.mp a2
 by_cases z:is = ((List.range n).map fun i:Nat=>(i:Int))
 ·rw [decide_eq_true z,decide_eq_true (key.mp z)]
 ·rw [decide_eq_false z,decide_eq_false fun w=>z (key.mpr w)]
theorem Xo {c:Nat} {dd dt dn dr ds:PyData} {i:Nat} (h:xp c dd dt dn dr ds = some i):i < 3 /\ nm67 i = wd67 (some i):=by
 have key:i = 0 \/ i = 1 \/ i = 2:=by
  unfold xp xW xo at h
  repeat' split at h
  all_goals first | (have:=Option.some.inj h; omega) | cases h
 rcases key with rfl | rfl | rfl <;> exact ⟨by decide,rfl⟩
def qg (K:FG7):Sp:=sp6 fun x y z u w v H Q=>∃ (c:Nat) (dd dt dn dr ds:PyData) (m:List Addr),x = .int c /\ c < 7 /\ Od K m H y dd /\ Od K m H z dt /\ Od K m H u dn /\ Od K m H w dr /\ Od K m H v ds /\ Bd67 dd dt dn dr /\ ∀ H',Grow [] H H' -> Q (.str (wd67 (xp c dd dt dn dr ds))) H'
def uV (K:FG7):Sp:=sp2 fun x y H Q=>∃ (a b:Addr) (bs:List Int),x = .ref a /\ y = .ref b /\ Pot H a /\ b ∉ [a] /\ H b = some (.lst (bs.map V.int)) /\ bs.length = 5 /\ ∀ r y1 y2 y3 y4 y5 dd dt dn dr ds H',Grow [a] H H' -> Pot H' a -> SqT K H' r [y1,y2,y3,y4,y5] →
 Od K [a] H' y1 dd -> Od K [a] H' y2 dt -> Od K [a] H' y3 dn -> Od K [a] H' y4 dr -> Od K [a] H' y5 ds -> Bd67 dd dt dn dr -> dr.depth <= 60 -> Q (.ref r) H'
section
variable {K:FG7} {m:List Addr} {H:Hp}
theorem Zj:∀ ns:List Int,Ods K m H (ns.map V.int) (ns.map PyData.int)
 | []=>.nil
 | i :: ns=>.cons (.int i) (Zj ns)
theorem uW {x:V} {r:List Int} (h:zE K H x r):Od K m H x (yf r):=by
 obtain ⟨a,rfl,hs⟩:=h
 exact .tup hs (Zj r)
theorem um:∀ {xs:List V} {rws:List (List Int)},AllR (zE K H) xs rws -> Ods K m H xs (rws.map yf)
 | [],[],_=>.nil
 | _ :: _,_ :: _,⟨h,t⟩=>.cons (uW h) (um t)
 | [],_ :: _,h=>h.elim
 | _ :: _,[],h=>h.elim
theorem Ods.rep67 {xs:List V} {ds:List PyData} (h:Ods K m H xs ds):∀ n:Nat,Ods K m H (List.replicate n xs).flatten (List.replicate n ds).flatten
 | 0=>.nil
 | n + 1=>by
  rw [List.replicate_succ,List.replicate_succ,List.flatten_cons,List.flatten_cons]
  exact h.append (Ods.rep67 h n)
end
theorem xt {ds:List PyData}:∀ n:Nat,(List.replicate n ds).flatten.length = n * ds.length
 | 0=>by rw [Nat.zero_mul]; rfl
 | n + 1=>by rw [List.replicate_succ,List.flatten_cons,List.length_append,xt n,Nat.succ_mul]; omega
theorem qh {ds:List PyData} {d:PyData}:∀ n:Nat,d ∈ (List.replicate n ds).flatten -> d ∈ ds
 | 0,h=>by cases h
 | n + 1,h=>by
  rw [List.replicate_succ,List.flatten_cons] at h
  rcases List.mem_append.mp h with h | h
  ·exact h
  ·exact qh n h
theorem ww {ds:List PyData} (n:Nat) (h:n * ds.length <= 1000) (hd:∀ d ∈ ds,lenD d <= 1000):sh67 (.tuple (List.replicate n ds).flatten) = true :=
 vH (by rw [xt]; exact h) fun d h=>hd d (qh n h)
structure Rw67 (d:PyData):Prop where
 ex:∃ rws:List (List Int),d = .tuple (rws.map yf) /\ 1 <= rws.length /\ rws.length <= 6 /\ ∀ r ∈ rws,r.length <= 6
theorem Rw67.sh {d:PyData} (h:Rw67 d):sh67 d = true:=by
 obtain ⟨rws,rfl,h1,h2,h3⟩:=h.ex
 refine vH (by rw [List.length_map]; omega) fun d hd=>?_
 obtain ⟨r,hr,rfl⟩:=List.mem_map.mp hd
 show (r.map PyData.int).length <= 1000
 rw [List.length_map]
 exact Nat.le_trans (h3 r hr) (by decide)
theorem Rw67.sp {d:PyData} (h:Rw67 d):∃ ds,d = .tuple ds /\ 1 <= ds.length /\ ds.length <= 6 /\ ∀ d ∈ ds,∃ es,d = .tuple es /\ es.length <= 100 /\ ∀ e ∈ es,lenD e <= 300:=by
 obtain ⟨rws,rfl,h1,h2,h3⟩:=h.ex
 refine ⟨_,rfl,by rw [List.length_map]; omega,by rw [List.length_map]; omega,fun d hd=>?_⟩
 obtain ⟨r,hr,rfl⟩:=List.mem_map.mp hd
 refine ⟨_,rfl,by rw [List.length_map]; exact Nat.le_trans (h3 r hr) (by decide),fun e he=>?_⟩
 obtain ⟨i,_,rfl⟩:=List.mem_map.mp he
 exact Nat.zero_le _
theorem Xp {ms:List (List Int)} {S:Nat} (h:PyData.tuple [.tuple [.int 1,.int 0]] = .tuple (ms.map yf)) (hM:Mks ms S):ms = [[1,0]] /\ S = 2:=by
 have key:ms = [[1,0]]:=by
  match ms,h with
  | [r],h =>
   injection h with h
   have h:=(List.cons.inj h).1
   injection h with h
   have:[1,0].map PyData.int = r.map PyData.int:=h
   rw [(List.map_inj_right (f:=PyData.int) (fun x y h=>by injection h)).mp this]
  | [],h=>injection h with h; cases h
  | _ :: _ :: _,h=>injection h with h; have:=congrArg List.length h; simp at this
 subst key
 exact ⟨rfl,(hM [1,0] (by simp)).1.symm⟩
mutual
/-- data of numbers and tuples alone -/
def tupsD67:PyData -> Bool
 | .int _=>true
 | .tuple ds=>tupsDs67 ds
 | _=>false
def tupsDs67:List PyData -> Bool
 | []=>true
 | d :: ds=>tupsD67 d && tupsDs67 ds
end
mutual
theorem Od.dq67 {K:FG7} {m:List Addr} {H:Hp}:∀ {x:V} {d:PyData},Od K m H x d -> tupsD67 d = true -> Dq K H x d
 | _,_,.int i,_=>.int i
 | _,_,.tup h t,e=>.tup h (Ods.dq67 t e)
theorem Ods.dq67 {K:FG7} {m:List Addr} {H:Hp}:∀ {xs:List V} {ds:List PyData},Ods K m H xs ds -> tupsDs67 ds = true -> DqAll K H xs ds
 | _,_,.nil,_=>.nil
 | _,_,.cons (d:=d) (ds:=ds) h t,e=>by
  have e:(tupsD67 d && tupsDs67 ds) = true:=e
  rw [Bool.and_eq_true] at e
  exact .cons (Od.dq67 h e.1) (Ods.dq67 t e.2)
end
end L3
namespace My
open PySem PySem.Spec PyProof.Rows L2 L3
def top (i:Nat):Stmt:=PySem.Challenge.pw_joinedasks_k67_refused_by_tables.main.body.getD i (.Pass ⟨0,0,0,0⟩)
section
variable {P:Program} {w:World} {K:FG7} {mg:Str -> Option Value} {base:Heap} {n:Nat} {f:Addr} {fd:FuncData}
theorem v3:FnScope ["one","other"] ["one","other"] (zg (top 15)):=⟨rfl,rfl,rfl,by decide +kernel,rfl,by decide +kernel,by decide +kernel⟩
theorem v5 (F:Fun K "by_table_then" "by_table_then" (top 15) f fd) (B:Blt mg)      :
  FnOk P w K mg base CX0 (n + 1) f fd ["one","other"] (uh K):=by
 refine F.ok v3 xf (fun cdv A outer s H vs Q E hr h=>?_)
 obtain ⟨x,y,rfl,S,a,b,⟨ra,rfl,ha⟩,⟨rb,rfl,hb⟩,hS,hl,h5,q⟩:=h
 refine ⟨_,(zf (zq (z5 z9 rfl B.tuple zS (za (zY (CSc.of (N':=["state","other"]) (sub:=[none,some 1]) (zg (top 15)) ["one","other"] rfl rfl (by decide +kernel) rfl) rfl (xG (pv 0)) (fun _ _ _ _ _ _=>zz (i:=0) (show (["state","other"]:List Str).Nodup by decide +kernel) rfl (Or.inl rfl)) (fun _ _ _ _ _ _=>zQ) (fun _ _ _ _ _ _=>(zH (Yp (K:=K) rfl) (pv 1) (pv 0) (fun _ _=>rfl)))) zb)))),?_⟩
 refine ⟨_,rfl,ra,rfl,⟨_,ha⟩,Yq (vi fun i=>b.getD i.toNat 0) ha (by rw [List.length_map]; omega) ?_ ?_⟩
 ·intro v H2 R hv g k
  obtain ⟨i,hi,rfl⟩:=List.mem_map.mp hv
  have:=hS i hi
  exact ⟨_,rfl,_,rfl,rb,_,i,_,rfl,rfl,g.sqT hb,getI this.1 (by omega),k _ (Grow.refl _ _)⟩
 intro H2 l g hl
 have e:(a.map V.int).map (vi fun i=>b.getD i.toNat 0) = (zR a b).map V.int:=by
  unfold zR
  rw [List.map_map,List.map_map]; rfl
 rw [e]
 exact ⟨l,_,rfl,.inl ⟨SqL.of zd,fun t ht=>q _ _ (g.trans ((Grow.new hl _).trans (Grow.new ht _))) ⟨t,rfl,zd⟩⟩⟩
theorem jA:FnScope ["thing"] ["thing"] (zg (top 7)):=⟨rfl,rfl,rfl,by decide +kernel,rfl,by decide +kernel,by decide +kernel⟩
theorem jB (F:Fun K "is_whole" "is_whole" (top 7) f fd) (B:Blt mg)      :
  FnOk P w K mg base CX0 (n + 1) f fd ["thing"] (yK K):=by
 refine F.ok jA vo (fun cdv A outer s H vs Q E hr h=>?_)
 obtain ⟨x,rfl,d,m,hd,q⟩:=h
 refine ⟨_,(zf (zq (wP (zh (zV (K:=K) rfl) rfl B.isinstance zt (za (pv 0) (za (yM rfl B.int XD) zb))) (vL (Z1 (zh (zV (K:=K) rfl) rfl B.isinstance zt (za (pv 0) (za (yM rfl B.bool Wx) zb)))))))),?_⟩
 refine ⟨_,rfl,_,d,m,_,_,rfl,hd,Xd,_,rfl,?_⟩
 cases d with
 | int i=>exact iteT ⟨_,rfl,_,_,m,_,_,rfl,hd,ui,_,rfl,q⟩
 | bool b=>exact iteT ⟨_,rfl,_,_,m,_,_,rfl,hd,ui,_,rfl,q⟩
 | _=>exact iteF q
theorem qi:FnScope ["thing","least","greatest"] ["thing","least","greatest"] (zg (top 8)):=⟨rfl,rfl,rfl,by decide +kernel,rfl,by decide +kernel,by decide +kernel⟩
theorem qj (F:Fun K "is_within" "is_within" (top 8) f fd) (B:Blt mg) (qc0:zo P w K mg base n "is_whole" ["thing"] (yK K))     :
  FnOk P w K mg base CX0 (n + 1) f fd ["thing","least","greatest"] (xk K):=by
 refine F.ok qi vp (fun cdv A outer s H vs Q E hr h=>?_)
 obtain ⟨x,y,z,rfl,d,m,l,u,hd,rfl,rfl,q⟩:=h
 refine ⟨_,(zf (zq (wP (zj qc0 hr rfl (za (pv 0) zb)) (vL (jK xw xw (pv 1) (pv 0) (pv 2)))))),?_⟩
 refine ⟨_,rfl,_,rfl,d,m,hd,_,rfl,?_⟩
 cases d with
 | int i =>
  obtain rfl:=hd.inv_int
  refine iteT ⟨_,rfl,_,rfl,_,_,rfl,rfl,_,rfl,?_⟩
  have q':Q (.bl (decide (l <= i) && decide (i <= u))) H:=q
  by_cases c:l <= i
  ·refine zN (decide_eq_true c) ⟨_,rfl,_,_,rfl,rfl,?_⟩
   rw [decide_eq_true c] at q'; exact q'
  ·refine zD (decide_eq_false c) ?_
   rw [decide_eq_false c] at q'; exact q'
 | _=>exact iteF q
theorem tw:FnScope ["thing"] ["thing"] (zg (top 13)):=⟨rfl,rfl,rfl,by decide +kernel,rfl,by decide +kernel,by decide +kernel⟩
theorem tD (F:Fun K "is_by_table" "is_by_table" (top 13) f fd) (B:Blt mg) (qc0:zo P w K mg base n "is_within" ["thing","least","greatest"] (xk K))   {t_MOST_STATES:Tok} (g_MOST_STATES:mg "MOST_STATES" = some (.int 5 t_MOST_STATES))  :
  FnOk P w K mg base CX0 (n + 1) f fd ["thing"] (Zg K):=by
 refine F.ok tw vo (fun cdv A outer s H vs Q E hr h=>?_)
 obtain ⟨x,rfl,d,m,hd,hl,q⟩:=h
 refine ⟨_,(zc (zM (PW.pt (vU (z4 (yc (zh (zV (K:=K) rfl) rfl B.isinstance zt (za (pv 0) (za (yM rfl B.tuple zS) zb))))) (xL (z4 (yV xw xw ze (zh zk rfl B.len yd (za (pv 0) zb)) (y0 rfl g_MOST_STATES (show RelV (.int 5) (.int 5 t_MOST_STATES) from ⟨_,rfl⟩))))))) (zf (zq vT)) zp) (zf (zq (zh (yw rfl) rfl B.all tY (za (zY (CSc.of (N':=["state","thing"]) (sub:=[none,some 0]) (zg (top 13)) ["thing"] rfl rfl (by decide +kernel) rfl) rfl (xG (pv 0)) (fun _ _ _ _ _ _=>zz (i:=0) (show (["state","thing"]:List Str).Nodup by decide +kernel) rfl (Or.inl rfl)) (fun _ _ _ _ _ _=>zQ) (fun _ _ _ _ _ _=>(zj qc0 hr rfl (za (pv 0) (za ze (za (zK vM (zh (yI (K:=K) rfl) rfl B.len yd (za (pv 1) zb)) ze) zb)))))) zb))))),?_⟩
 refine ⟨_,rfl,_,d,m,_,_,rfl,hd,yQ,_,rfl,?_⟩
 cases d with
 | tuple ds =>
  obtain ⟨a,xs,rfl,hs,ha⟩:=hd.inv_tup
  have hxl:=ha.length
  have hl:ds.length <= 1000:=hl
  refine iteF ⟨_,rfl,a,_,rfl,.inr hs,_,_,rfl,rfl,_,rfl,?_⟩
  by_cases c1:1 <= ds.length
  ·refine zN (decide_eq_true (by omega)) ⟨_,_,rfl,rfl,?_⟩
   by_cases c2:ds.length <= 5
   ·refine ⟨_,rfl,zD (by rw [decide_eq_true (show (xs.length:Int) <= 5 by omega)]; rfl) ?_⟩
    refine zL ⟨_,rfl,a,rfl,⟨_,hs⟩,ya (xs:=xs) (fun i ys H'=>ys = ((ds.take i).map (zC 0 ((ds.length:Int) - 1))).map V.bl /\ H' = H) ⟨rfl,rfl⟩ (fun i ys H' p=>by rw [p.2]; exact hs) ?_ ?_⟩
    ·rintro i x ys H' hx ⟨rfl,rfl⟩
     obtain ⟨e,he,oe⟩:=ha.get hx
     have hi:i < xs.length:=(List.getElem?_eq_some_iff.mp hx).1
     refine ⟨_,rfl,_,rfl,a,_,rfl,.inr hs,_,_,rfl,rfl,_,_,_,rfl,e,m,0,_,oe,rfl,rfl,zn (by rw [List.length_map,List.length_map,List.length_take]; omega),?_,rfl⟩
     rw [List.take_succ,he,List.map_append,List.map_append,hxl]; rfl
    ·rintro ys H' ⟨rfl,rfl⟩ l hl'
     rw [hxl,List.take_length]
     refine ⟨l,ds.map (zC 0 ((ds.length:Int) - 1)),rfl,SqL.of zd,?_⟩
     have es:yD (.tuple ds) = (ds.map (zC 0 ((ds.length:Int) - 1))).all id:=by show (decide (1 <= ds.length) && decide (ds.length <= 5) && _) = _; rw [decide_eq_true c1,decide_eq_true c2,List.all_map]; rfl
     rw [← es]
     exact q _ (Grow.new hl' _)
   ·have es:yD (.tuple ds) = false:=by show (decide (1 <= ds.length) && decide (ds.length <= 5) && _) = _; rw [decide_eq_false c2,Bool.and_false,Bool.false_and]
    rw [es] at q
    exact ⟨_,rfl,zN (by rw [decide_eq_false (show ¬ (xs.length:Int) <= 5 by omega)]; rfl) (q _ (Grow.refl _ _))⟩
  ·have es:yD (.tuple ds) = false:=by show (decide (1 <= ds.length) && decide (ds.length <= 5) && _) = _; rw [decide_eq_false c1]; rfl
   rw [es] at q
   exact zD (decide_eq_false (by omega)) ⟨_,rfl,iteT (q _ (Grow.refl _ _))⟩
 | _=>exact iteT (iteT (q _ (Grow.refl _ _)))
theorem v6:FnScope ["thing","least","most"] ["thing","least","most"] (zg (top 14)):=⟨rfl,rfl,rfl,by decide +kernel,rfl,by decide +kernel,by decide +kernel⟩
theorem v8 (F:Fun K "need_by_table" "need_by_table" (top 14) f fd) (B:Blt mg) {A_NoTable:Addr} (x_NoTable:ExcC K mg "NoTable" A_NoTable) (qc0:zo P w K mg base n "is_by_table" ["thing"] (Zg K))     :
  FnOk P w K mg base (CX1 P w) (n + 1) f fd ["thing","least","most"] (uk A_NoTable K):=by
 refine Fun.okX F v6 Zc (fun cdv A outer s H vs Q E hr h=>?_)
 obtain ⟨x,y,z,rfl,d,m,lo,hi,hd,rfl,rfl,lo1,hsh,q,qe⟩:=h
 refine ⟨_,(zc (zM (PW.pt (vU (z4 (yc (zh (zV (K:=K) rfl) rfl B.isinstance zt (za (pv 0) (za (yM rfl B.tuple zS) zb))))) (xL (z4 (yV xw xw (pv 1) (zh zk rfl B.len yd (za (pv 0) zb)) (pv 2)))))) (zf (yG rfl x_NoTable rfl yn z3)) zp) (zc (zM (z4 (yc (zh (yw rfl) rfl B.all tY (za (zY (CSc.of (N':=["deed"]) (sub:=[none]) (zg (top 14)) ["thing","least","most"] rfl rfl (by decide +kernel) rfl) rfl (xG (pv 0)) (fun _ _ _ _ _ _=>zz (i:=0) (show (["deed"]:List Str).Nodup by decide +kernel) rfl (Or.inl rfl)) (fun _ _ _ _ _ _=>zQ) (fun _ _ _ _ _ _=>(zj qc0 hr rfl (za (pv 0) zb)))) zb)))) (zf (yG rfl x_NoTable rfl yn z3)) zp) (zf (zM (z4 (yc (zh (yw rfl) rfl B.all tY (za (zY (CSc.of (N':=["deed","thing"]) (sub:=[none,some 0]) (zg (top 14)) ["thing","least","most"] rfl rfl (by decide +kernel) rfl) rfl (xG (pv 0)) (fun _ _ _ _ _ _=>zz (i:=0) (show (["deed","thing"]:List Str).Nodup by decide +kernel) rfl (Or.inl rfl)) (fun _ _ _ _ _ _=>zQ) (fun _ _ _ _ _ _=>(vm yy (zh (yI (K:=K) rfl) rfl B.len yd (za (pv 0) zb)) (zh (yI (K:=K) rfl) rfl B.len yd (za (zH (Yp (K:=K) rfl) (pv 1) ze (fun _ _=>rfl)) zb)) (zG _)))) zb)))) (zf (yG rfl x_NoTable rfl yn z3)) zp)))),?_⟩
 refine ⟨_,rfl,_,d,m,_,_,rfl,hd,yQ,_,rfl,?_⟩
 cases d with
 | tuple ds =>
  obtain ⟨a,xs,rfl,hs,ha⟩:=hd.inv_tup
  have hxl:=ha.length
  obtain ⟨hl,hlm⟩:=ul hsh
  refine iteF ⟨_,rfl,_,rfl,a,_,rfl,.inr hs,_,_,rfl,rfl,_,rfl,?_⟩
  by_cases c1:lo <= ds.length
  ·refine zN (decide_eq_true (by omega)) ⟨_,rfl,_,_,rfl,rfl,?_⟩
   by_cases c2:(ds.length:Int) <= hi
   ·refine ⟨_,rfl,zD (by rw [decide_eq_true (show (xs.length:Int) <= hi by omega)]; rfl) (zL ?_)⟩
    refine WM (fun b H'=>b = !(ds.all yD) /\ Grow [] H H') (fun Kk hk=>⟨_,rfl,a,rfl,⟨_,hs⟩,ya (xs:=xs) (fun i ys H'=>ys = ((ds.take i).map yD).map V.bl /\ Grow [] H H') ⟨rfl,Grow.refl _ _⟩ (fun i ys H' p=>p.2.sqT hs) ?_ ?_⟩) ?_
    ·rintro i x ys H' hx ⟨rfl,g⟩
     obtain ⟨e,he,oe⟩:=ha.get hx
     have hi':i < xs.length:=(List.getElem?_eq_some_iff.mp hx).1
     refine ⟨_,rfl,_,rfl,e,m,oe.grow (g.mono (by simp)),hlm e (List.mem_of_getElem? he),fun H2 g2=>⟨zn (by rw [List.length_map,List.length_map,List.length_take]; omega),?_,g.trans g2⟩⟩
     rw [List.take_succ,he,List.map_append,List.map_append]; rfl
    ·rintro ys H' ⟨rfl,g⟩ l hl'
     rw [hxl,List.take_length]
     refine ⟨l,ds.map yD,rfl,SqL.of zd,_,rfl,hk _ _ ⟨?_,g.trans (Grow.new hl' _)⟩⟩
     rw [List.all_map]; rfl
    rintro _ H1 ⟨rfl,g1⟩
    cases hb:ds.all yD with
    | false =>
     have es:yi lo hi (.tuple ds) = false:=by show (decide _ && decide _ && ds.all yD && _) = _; rw [hb,Bool.and_false,Bool.false_and]
     exact iteT fun e=>qe es e _ g1
    | true =>
    refine iteF (zL ?_)
    have hbs:=List.all_eq_true.mp hb
    have c0:0 < ds.length:=by omega
    obtain ⟨x0,hx0⟩:∃ x,xs[0]? = some x:=⟨_,List.getElem?_eq_getElem (by omega)⟩
    obtain ⟨e0,he0,oe0⟩:=ha.get hx0
    obtain ⟨es0,rfl⟩:=va (hbs e0 (List.mem_of_getElem? he0))
    obtain ⟨a0,xs0,rfl,hs0,ha0⟩:=oe0.inv_tup
    have h0:ds.getD 0 .none = .tuple es0:=by rw [List.getD_eq_getElem?_getD,he0]; rfl
    refine ⟨_,rfl,a,rfl,⟨_,g1.sqT hs⟩,ya (xs:=xs) (fun i ys H'=>ys = ((ds.take i).map fun d=>decide (lenD d = lenD (ds.getD 0 .none))).map V.bl /\ H' = H1) ⟨rfl,rfl⟩ (fun i ys H' p=>by rw [p.2]; exact g1.sqT hs) ?_ ?_⟩
    ·rintro i x ys H' hx ⟨rfl,rfl⟩
     obtain ⟨e,he,oe⟩:=ha.get hx
     have hi':i < xs.length:=(List.getElem?_eq_some_iff.mp hx).1
     obtain ⟨es,rfl⟩:=va (hbs e (List.mem_of_getElem? he))
     obtain ⟨a1,xs1,rfl,hs1,ha1⟩:=oe.inv_tup
     refine ⟨_,rfl,a1,_,rfl,.inr (g1.sqT hs1),_,rfl,a,_,0,_,rfl,rfl,g1.sqT hs,zu (j:=0) hx0,a0,_,rfl,.inr (g1.sqT hs0),rfl,zn (by rw [List.length_map,List.length_map,List.length_take]; omega),?_,rfl⟩
     rw [List.take_succ,he,List.map_append,List.map_append]
     have l1:=ha1.length
     have l0:=ha0.length
     have ez:decide (V.int (xs1.length:Int) = V.int (xs0.length:Int)) = decide (lenD (.tuple es) = lenD (ds.getD 0 .none)):=by
      rw [h0]
      show _ = decide (es.length = es0.length)
      by_cases z:es.length = es0.length
      ·rw [decide_eq_true z,decide_eq_true (by rw [l1,l0,z])]
      ·rw [decide_eq_false z,decide_eq_false fun w=>z (by have:=V.int.inj w; omega)]
     rw [ez]; rfl
    ·rintro ys H' ⟨rfl,rfl⟩ l hl'
     rw [hxl,List.take_length]
     have g2:=g1.trans (Grow.new hl' (.lst ((ds.map fun d=>decide (lenD d = lenD (ds.getD 0 .none))).map V.bl)))
     refine ⟨l,ds.map fun d=>decide (lenD d = lenD (ds.getD 0 .none)),rfl,SqL.of zd,_,rfl,?_⟩
     have es:yi lo hi (.tuple ds) = (ds.map fun d=>decide (lenD d = lenD (ds.getD 0 .none))).all id:=by
      show (decide (lo <= ds.length) && decide ((ds.length:Int) <= hi) && ds.all yD && _) = _
      rw [decide_eq_true c1,decide_eq_true c2,hb,List.all_map]; rfl
     rw [← es]
     cases cs:yi lo hi (.tuple ds) with
     | true=>exact iteF (q cs _ g2)
     | false=>exact iteT fun e=>qe cs e _ g2
   ·have es:yi lo hi (.tuple ds) = false:=by show (decide _ && decide _ && ds.all yD && _) = _; rw [decide_eq_false c2,Bool.and_false,Bool.false_and,Bool.false_and]
    exact ⟨_,rfl,zN (by rw [decide_eq_false (show ¬ (xs.length:Int) <= hi by omega)]; rfl) fun e=>qe es e _ (Grow.refl _ _)⟩
  ·have es:yi lo hi (.tuple ds) = false:=by show (decide _ && decide _ && ds.all yD && _) = _; rw [decide_eq_false c1]; rfl
   exact zD (decide_eq_false (by omega)) ⟨_,rfl,iteT fun e=>qe es e _ (Grow.refl _ _)⟩
 | _=>exact iteT (iteT fun e=>qe rfl e _ (Grow.refl _ _))
theorem yH:FnScope ["deeds","leaving","found","newest","following","last","number","deed","another"] ["deeds"] (zg (top 16)):=⟨rfl,rfl,rfl,by decide +kernel,rfl,by decide +kernel,by decide +kernel⟩
theorem Wo (F:Fun K "grown" "grown" (top 16) f fd) (B:Blt mg) {A_TooMany:Addr} {A_NoTable:Addr} (x_TooMany:ExcC K mg "TooMany" A_TooMany) (x_NoTable:ExcC K mg "NoTable" A_NoTable) (qc0:zo P w K mg base n "by_table_then" ["one","other"] (uh K)) (qc1:zw P w K mg base n "need_by_table" ["thing","least","most"] (uk A_NoTable K))  (g_enumerate:mg "enumerate" = none) {t_MOST_IN_FAMILY:Tok} (g_MOST_IN_FAMILY:mg "MOST_IN_FAMILY" = some (.int 60 t_MOST_IN_FAMILY)) {t_MOST_GIVEN:Tok} (g_MOST_GIVEN:mg "MOST_GIVEN" = some (.int 4 t_MOST_GIVEN))  :
  FnOk P w K mg base (CX1 P w) (n + 1) f fd ["deeds"] (wr A_NoTable A_TooMany K):=by
 refine Fun.okX F yH xD (fun cdv A outer s H vs Q E hr h=>?_)
 obtain ⟨x,rfl,D,m0,hD,hsh,qe,qo⟩:=h
 refine ⟨_,(zc (yg (zF qc1 (zT fun _ _ _ z=>z) hr rfl (za (pv 0) (za ze (za (y0 rfl g_MOST_GIVEN (show RelV (.int 4) (.int 4 t_MOST_GIVEN) from ⟨_,rfl⟩)) zb))))) (zc (zA (i:=1) yH.nd rfl (Or.inl rfl) (uL rfl rfl B.tuple rfl B.range (za (zh zk rfl B.len yd (za (zH zJ (pv 0) ze (fun _ _=>rfl)) zb)) zb))) (zc (zA (i:=2) yH.nd rfl (Or.inl rfl) (YU (Room.u1F hr) (pv 1) (yz zb))) (zc (zA (i:=3) yH.nd rfl (Or.inl rfl) (xj (za (pv 1) zb))) (zc (jI PassesOwn.leaving (jL (pv 3) (fun _=>rfl)) (zc (zA (i:=4) yH.nd rfl (Or.inl rfl) (xj zb)) (zc (wQ PassesOwn.leaving rfl (Z4 (pv 3)) (zz (i:=5) yH.nd rfl (Or.inl rfl)) (zf (wQ PassesOwn.leaving rfl (ue true (K:=K) rfl rfl g_enumerate (za (pv 0) zb)) (sU rfl (yk (zz (i:=6) yH.nd rfl (Or.inl rfl)) (yk (zz (i:=7) yH.nd rfl (Or.inl rfl)) uq))) (zc (zA (i:=8) yH.nd rfl (Or.inl rfl) (zj qc0 hr rfl (za (pv 5) (za (pv 7) zb)))) (zf (zM (VP (YS (Room.u1F hr) (pv 8) (pv 2))) (zc (Vk (Room.u1F hr) (pv 2) (pv 8) (zK (xB (K:=K) rfl) (YR (Room.u1F hr) (pv 2) (pv 5) (fun _ _=>rfl)) (yz (za (pv 6) zb))) rfl) (zf (yg (Zr PySem.F.plainAttrs_list PySem.F.slot_list_append PySem.F.type_list_append wT (pv 4) (za (pv 8) zb))))) zp)))))) (zc (zM (zB WY (zh ZF rfl B.len yd (za (pv 2) zb)) (y0 rfl g_MOST_IN_FAMILY (show RelV (.int 60) (.int 60 t_MOST_IN_FAMILY) from ⟨_,rfl⟩)) (zG _)) (zf (yG rfl x_TooMany rfl yn z3)) zp) (zf (zA (i:=3) yH.nd rfl (Or.inl rfl) (pv 4))))))) (zf (zq (pv 2)))))))),?_⟩
 refine ⟨_,rfl,_,_,_,rfl,D,m0,1,4,hD,rfl,rfl,by decide,hsh,fun c H0 g00=>?_,fun c e H' g=>qe c e _ g⟩
 obtain ⟨qe2,q0⟩:=qo c
 obtain ⟨ms,S,hx00,hTab,s1,s5,m1',m4',_,_,er⟩:=Zh hD (by decide) c
 have hM:=hTab.2
 have m1:1 <= ms.length:=by omega
 have m4:ms.length <= 4:=by omega
 have q:=q0 ms S hx00 er hM s1 s5 m1 m4
 clear q0 qo qe hsh hD c hTab m1' m4'
 have hx:=g00.rows hx00
 have hx0:=hx
 obtain ⟨rt,xs,rfl,hs,hall⟩:=hx0
 have hlen:=hall.len
 obtain ⟨r0,g0,s0⟩:=wy hall (i:=0) (by decide) (by omega)
 have l0:(ms.getD 0 []).length = S:=(hM _ (yO (by omega))).1
 refine ⟨_,rfl,rt,_,_,_,rfl,rfl,hs,g0,r0,_,rfl,.inr s0,S,by rw [List.length_map]; exact congrArg (fun n:Nat=>[V.int n]) l0,by omega,fun t0 ht0=>?_⟩
 refine fun l hl=>⟨_,rfl,szl rfl,fun t1 ht1=>?_⟩
 have gA:=Grow.new (m:=[]) ht0 (.tup ((List.range S).map fun i:Nat=>V.int i))
 have hHl:H0 l = none:=gA.free (by simp) hl
 have gB:=Grow.new (m:=[]) hl (.dT [])
 have gC:=Grow.new (m:=[]) ht1 (.tup [])
 have eD:=gC.keep _ _ (by simp) (zd (H:=upd H0 t0 (.tup ((List.range S).map fun i:Nat=>V.int i))) (a:=l) (o:=.dT []))
 refine ⟨eD,t0,kI (idL S),rfl,?_,?_⟩
 ·rw [Y2,← Ur]; exact (gB.trans gC).tup _ _ zd
 have gD:=Grow.setDT (m:=[l]) eD (by simp) [(kI (idL S),V.ref t1)]
 have kt0:KeyB (upd H0 t0 (.tup ((List.range S).map fun i:Nat=>V.int i))) (.ref t0) (idL S):=⟨t0,rfl,by rw [← Ur]; exact zd⟩
 refine ⟨_,rfl,szl rfl,fun lv0 hlv0=>?_⟩
 have gE:=Grow.new (m:=[]) hlv0 (.lst [V.ref t0])
 have gAll:Grow [l] H0 _:=(gA.wk.trans (gB.wk.trans gC.wk)).trans (gD.trans gE.wk)
 refine ⟨fun m σ H0'=>∃ (lv:Addr) (e4 e5 e6 e7 e8:Option V) (f:FW) (last:List (List Int)) (kvs:List (List Key × V)) (zs:List V),σ = [some (.ref rt),some (.ref t0),some (.ref l),some (.ref lv),e4,e5,e6,e7,e8] /\ Grow [l] H0 H0' /\ H0' l = some (.dT kvs) /\ KvF K H0' kvs f /\ H0' lv = some (.lst zs) /\ AllR (KeyB H0') zs last /\ (∀ r,FamR ms f last r -> FamL ms S r) /\ LI ms S f last /\ WL f /\ f.length <= 60 /\ m = (if last = [] then 0 else 1) + 2 * (301 - f.length),?_,?_⟩
 ·refine ⟨_,lv0,_,_,_,_,_,[(idL S,[])],[idL S],_,_,rfl,gAll,gE.keep _ _ (by simp) zd,⟨⟨rfl,t1,rfl,?_⟩,trivial⟩,zd,.one (kt0.grow (((gB.trans gC).wk).trans (gD.trans gE.wk))),fun r h=>h,LI.init ms S,⟨by show 0 < 1; decide,fun q hq=>by rw [List.mem_singleton.mp hq]; show 0 < 1; decide⟩,by show 1 <= 60; decide,rfl⟩
  exact SqT.of ((gD.trans gE.wk).tup _ _ zd)
 rintro m σ H2 ⟨lv,e4,e5,e6,e7,e8,f,last,kvs,zs,rfl,g2,hl2,hk2,hv2,ha2,hR,hI,hW,h300,rfl⟩
 have zl:=ha2.len
 have kl:=hk2.len
 have c2:=h300
 refine ⟨_,rfl,_,.inl ⟨_,SqL.of hv2,rfl⟩,?_⟩
 by_cases c:last = []
 ·have z0:zs = []:=List.eq_nil_of_length_eq_zero (by rw [zl,c]; rfl)
  refine zD (by rw [z0]; rfl) ⟨_,rfl,q _ f _ (g00.trans (g2.less fun b hb=>.inr (by rw [List.mem_singleton.mp hb]; exact hHl))) ⟨l,kvs,rfl,hl2,hk2⟩ (hR f (.done (.inl c))) c2⟩
 have zne:zs ≠ []:=fun z=>c (List.eq_nil_of_length_eq_zero (by rw [← zl,z]; rfl))
 refine zN (by cases zs with | nil=>exact absurd rfl zne | cons _ _=>rfl) ⟨_,fun σ' H' z=>z,?_⟩
 have lastl:last.length <= 60:=Nat.le_trans hI.len c2
 refine ⟨szl rfl,fun p hp=>?_⟩
 have gp:=Grow.new (m:=[]) hp (.lst [])
 have nl:l ≠ p:=fun z=>by rw [← z,hl2] at hp; cases hp
 have nv:lv ≠ p:=fun z=>by rw [← z,hv2] at hp; cases hp
 have nlv:lv ≠ l:=fun z=>by rw [z,hl2] at hv2; cases hv2
 have hHp:H0 p = none:=g2.free (fun z=>nl (List.mem_singleton.mp z).symm) hp
 have nvm:lv ∉ [l,p]:=fun z=>by
  rcases List.mem_cons.mp z with w | w
  ·exact nlv w
  ·exact nv (List.mem_singleton.mp w)
 refine ⟨_,rfl,lv,rfl,⟨zs,SqL.of (gp.keep _ _ (by simp) hv2)⟩,Xw (xs:=zs) (fun j σ H0'=>∃ (e5 e6 e7 e8:Option V) (kvs':List (List Key × V)) (ps:List V),σ = [some (.ref rt),some (.ref t0),some (.ref l),some (.ref lv),some (.ref p),e5,e6,e7,e8] /\ Grow [l,p] H2 H0' /\ H0' l = some (.dT kvs') /\ KvF K H0' kvs' (yv ms last j (f,[])).1 /\ H0' p = some (.lst ps) /\ AllR (KeyB H0') ps (yv ms last j (f,[])).2) ⟨_,_,_,_,kvs,[],rfl,gp.wk,gp.keep _ _ (by simp) hl2,hk2.grow gp,zd,trivial⟩ (fun j σ H0' _ ⟨_,_,_,_,_,_,_,g,_⟩=>SqL.of (g.keep _ _ nvm hv2)) ?_ ?_⟩
 ·rintro j x σ H3 hx ⟨e5,e6,e7,e8,kvs3,ps3,rfl,g3,hl3,hk3,hp3,ha3⟩
  obtain ⟨d,hd,kd⟩:=ha2.get hx
  have hj:j < last.length:=(List.getElem?_eq_some_iff.mp hd).1
  have ed:last.getD j [] = d:=by rw [List.getD_eq_getElem?_getD,hd]; rfl
  have dm:d ∈ last:=by rw [← ed]; exact yO hj
  have dw:=hI.good.wd d (hI.sub d dm)
  have ddd:=dw.dd hM
  have dk:d ∈ zO (yv ms last j (f,[])).1:=(wo j).keys (hI.sub d dm)
  have fl:=sA (ms:=ms) (last:=last) (fm:=(f,[])) j
  have fl2:(yv ms last j (f,[])).1.length <= 296:=by
   have h1:j * ms.length <= 59 * 4:=Nat.mul_le_mul (by omega) m4
   have h2:(f,([]:List (List Int))).1.length = f.length:=rfl
   omega
  have wl:=sE (ms:=ms) (last:=last) (fm:=(f,[])) hW j
  have ml:(yv ms last j (f,[])).2.length <= (yv ms last j (f,[])).1.length:=WK (wo j) (Nat.zero_le _)
  show tFor _ _ _ _ _ _
  have eP:yv ms last (j + 1) (f,[]) = fRow ms d ms.length (yv ms last j (f,[])):=by rw [← ed]; rfl
  rw [eP]
  revert hk3 ha3 dk fl2 wl ml
  generalize yv ms last j (f,[]) = fm
  intro hk3 ha3 dk fl2 wl ml
  have hall2:=g2.boardsR hall
  refine ⟨_,rfl,rt,_,rfl,((g2.mono (m':=[l,p]) (by simp)).trans g3).sqT hs,XM (xs:=xs) (fun i σ H0'=>∃ (e6 e7 e8:Option V) (kvs':List (List Key × V)) (ps:List V),σ = [some (.ref rt),some (.ref t0),some (.ref l),some (.ref lv),some (.ref p),some x,e6,e7,e8] /\ Grow [l,p] H2 H0' /\ H0' l = some (.dT kvs') /\ KvF K H0' kvs' (fRow ms d i fm).1 /\ H0' p = some (.lst ps) /\ AllR (KeyB H0') ps (fRow ms d i fm).2) ⟨_,_,_,kvs3,ps3,rfl,g3,hl3,hk3,hp3,ha3⟩ (fun i σ H0' _ ⟨_,_,_,_,_,_,g,_⟩=>((g2.mono (m':=[l,p]) (by simp)).trans g).sqT hs) ?_ ?_⟩
  ·rintro i xm σ H4 T hxm ⟨e6,e7,e8,kvs4,ps4,rfl,g4,hl4,hk4,hp4,ha4⟩ hT
   obtain ⟨mk,hmk,bm⟩:=hall2.get hxm
   have hi:i < ms.length:=(List.getElem?_eq_some_iff.mp hmk).1
   have em:ms.getD i [] = mk:=by rw [List.getD_eq_getElem?_getD,hmk]; rfl
   have mm:mk ∈ ms:=by rw [← em]; exact yO hi
   have mdd:=hM mk mm
   have gT:=Grow.new (m:=[]) hT (.tup [.int i,xm])
   refine ⟨T,_,rfl,SqT.of zd,rfl,_,_,rfl,_,_,rfl,rfl,?_⟩
   refine ⟨_,rfl,_,rfl,_,_,rfl,S,d,mk,(g4.trans gT.wk).board kd.board,(g4.trans gT.wk).board bm,ddd.2,mdd.1,by rw [ddd.1]; exact s5,fun y H5 g5 ky=>?_⟩
   have g45:Grow [l,p] H4 H5:=(gT.trans g5).wk
   have g25:=g4.trans g45
   have hl5:=(gT.trans g5).keep _ _ (by simp) hl4
   have hp5:=(gT.trans g5).keep _ _ (by simp) hp4
   have hk5:=hk4.grow g45
   have ha5:=ha4.imp fun _ _ z=>z.grow g45
   have rl:=ji (ms:=ms) (d:=d) (fm:=fm) i
   have rw5:=jj (ms:=ms) (d:=d) wl i
   have dk5:d ∈ zO (fRow ms d i fm).1:=(uN i).keys dk
   have ml5:(fRow ms d i fm).2.length <= (fRow ms d i fm).1.length:=WK (uN i) ml
   have eS:fRow ms d (i + 1) fm = xh d (fRow ms d i fm) i mk:=by rw [← em]; rfl
   rw [eS]
   revert hk5 ha5 rl rw5 dk5 ml5
   generalize fRow ms d i fm = fr
   intro hk5 ha5 rl rw5 dk5 ml5
   have kl5:=hk5.len
   obtain ⟨yb,rfl,hyb⟩:=ky
   obtain ⟨xb,rfl,hxb⟩:=kd.grow g25
   rw [← Y2] at hyb hxb
   rcases hk5.val (zR d mk) with ⟨v,w,hv,hw,_⟩ | ⟨hv,hw⟩
   ·refine ⟨_,rfl,_,rfl,l,_,rfl,DGet.t hl5 hyb,_,rfl,zD (by rw [hv]; rfl) ?_⟩
    have e:xh d fr i mk = fr:=by unfold xh; rw [hw]; rfl
    rw [e]
    exact ⟨_,_,_,kvs4,ps4,rfl,g25,hl5,hk5,hp5,ha5⟩
   ·refine ⟨_,rfl,_,rfl,l,_,rfl,DGet.t hl5 hyb,_,rfl,zN (by rw [hv]; rfl) ?_⟩
    obtain ⟨wd,hwd⟩:=wF dk5
    rcases hk5.val d with ⟨v2,w2,hv2,hw2,bw2⟩ | ⟨_,hw2⟩
    rotate_left
    ·rw [hw2] at hwd; cases hwd
    have e:xh d fr i mk = (fr.1 ++ [(zR d mk,w2 ++ [(i:Int)])],fr.2 ++ [zR d mk]):=by unfold xh; rw [hw,hw2]; rfl
    rw [e]
    have w2l:=rw5.2 _ (w4 hw2)
    have w2l':w2.length < fr.1.length:=w2l
    obtain ⟨wb,rfl,hwb⟩:=bw2
    refine ⟨_,rfl,_,rfl,l,_,rfl,hv2 ▸ DGet.t hl5 hxb,_,rfl,szl rfl,fun t2 ht2=>?_⟩
    have gt2:=Grow.new (m:=[]) ht2 (.tup [.int i])
    refine ⟨wb,t2,_,_,rfl,rfl,gt2.sqT hwb,SqT.of zd,Nat.le_of_lt (zn (by rw [List.length_map]; show _ + 1 <= 1000; omega)),fun p2 H6 g6 h6=>?_⟩
    have g56:=gt2.trans g6
    have hl6:=g56.keep _ _ (by simp) hl5
    have hp6:=g56.keep _ _ (by simp) hp5
    have hyb6:=g56.tup _ _ hyb
    refine ⟨_,rfl,_,rfl,l,_,rfl,DPut.t hl6 hyb6 (zn (by omega)),?_⟩
    rw [jY _ hv]
    have g67:=Grow.setDT (m:=[l,p]) hl6 (by simp) (kvs4 ++ [(kI (zR d mk),V.ref p2)])
    have hp7:upd H6 l (.dT (kvs4 ++ [(kI (zR d mk),V.ref p2)])) p = some (.lst ps4):=by rw [zy (Ne.symm nl)]; exact hp6
    have pl5:=ha5.len
    refine ⟨_,rfl,.inl ⟨rfl,_,SqL.of hp7⟩,_,rfl,p,ps4,_,rfl,rfl,hp7,zn (by omega),?_⟩
    have g78:=Grow.set (m:=[l,p]) hp7 (by simp) (ps4 ++ [V.ref yb])
    have g58:=(g56.wk (m:=[l,p])).trans (g67.trans g78)
    have h6':zE K H6 (.ref p2) (w2 ++ [(i:Int)]):=⟨p2,rfl,by rw [List.map_append]; exact h6⟩
    refine ⟨_,_,_,_,_,rfl,g25.trans g58,?_,(hk5.grow g58).app (show KvF K _ [(kI (zR d mk),V.ref p2)] [(zR d mk,w2 ++ [(i:Int)])] from ⟨⟨rfl,(g67.trans g78).board h6'⟩,trivial⟩),zd,(ha5.imp fun _ _ z=>z.grow g58).app (.one ⟨yb,rfl,?_⟩)⟩
    ·rw [zy nl]; exact zd
    ·rw [Y2] at hyb; exact g58.tup _ _ hyb
  ·rintro σ H4 ⟨e6,e7,e8,kvs4,ps4,rfl,g4,hl4,hk4,hp4,ha4⟩
   rw [hlen] at hk4 ha4
   exact ⟨_,_,_,_,kvs4,ps4,rfl,g4,hl4,hk4,hp4,ha4⟩
 ·rintro σ H3 ⟨e5,e6,e7,e8,kvs3,ps3,rfl,g3,hl3,hk3,hp3,ha3⟩
  rw [zl] at hk3 ha3
  have hg:=jk (ms:=ms) (last:=last) (f:=f) (j:=last.length)
  have fl:=sA (ms:=ms) (last:=last) (fm:=(f,[])) last.length
  have fl2:(yv ms last last.length (f,[])).1.length <= 300:=by
   have h1:last.length * ms.length <= 60 * 4:=Nat.mul_le_mul lastl m4
   have h2:(f,([]:List (List Int))).1.length = f.length:=rfl
   omega
  have kl3:=hk3.len
  by_cases h60p:(yv ms last last.length (f,[])).1.length <= 60
  rotate_left
  ·refine ⟨_,rfl,l,kvs3,rfl,hl3,_,_,rfl,rfl,_,rfl,zN (decide_eq_true (by omega)) fun e=>qe2 ms S er hM (VE hI.pass.good (by omega)) e _ (g00.trans ?_)⟩
   refine ((g2.mono (m':=[l,p]) (by simp)).trans g3).less fun b hb=>?_
   rcases List.mem_cons.mp hb with rfl | hb
   ·exact .inr hHl
   ·rw [List.mem_singleton.mp hb]; exact .inr hHp
  refine ⟨_,rfl,l,kvs3,rfl,hl3,_,_,rfl,rfl,_,rfl,zD (decide_eq_false (by omega)) ?_⟩
  refine ⟨_,rfl,_,?_,p,_,_,_,_,_,_,_,kvs3,ps3,rfl,?_,hl3,hk3,hp3,ha3,fun r hr=>hR r (.step c c2 hr),hI.pass,sE hW _,h60p,rfl⟩
  ·rw [if_neg c]
   split
   ·have:=(wo (ms:=ms) (last:=last) (fm:=(f,[])) last.length)
    obtain ⟨g,e1,_⟩:=this
    have:f.length <= (yv ms last last.length (f,[])).1.length:=by rw [e1,List.length_append]; exact Nat.le_add_right _ _
    omega
   ·rename_i c3
    have:=hg c3
    omega
  ·refine ((g2.mono (m':=[l,p]) (by simp)).trans g3).less fun b hb=>?_
   rcases List.mem_cons.mp hb with rfl | hb
   ·exact .inl (by simp)
   ·rw [List.mem_singleton.mp hb]; exact .inr hHp
theorem Xq:FnScope ["deeds"] ["deeds"] (zg (top 17)):=⟨rfl,rfl,rfl,by decide +kernel,rfl,by decide +kernel,by decide +kernel⟩
theorem Xr (F:Fun K "family" "family" (top 17) f fd) (B:Blt mg) {A_NoTable:Addr} {A_TooMany:Addr} (x_NoTable:ExcC K mg "NoTable" A_NoTable) (x_TooMany:ExcC K mg "TooMany" A_TooMany) (qc0:zw P w K mg base n "grown" ["deeds"] (wr A_NoTable A_TooMany K))     :
  FnOk P w K mg base (CX1 P w) (n + 1) f fd ["deeds"] (ve A_NoTable A_TooMany K):=by
 refine Fun.okX F Xq xD (fun cdv A outer s H vs Q E hr h=>?_)
 obtain ⟨x,rfl,D,m0,hD,hsh,qe,qo⟩:=h
 refine ⟨_,(zf (zq (z5 (rP hr) rfl B.tuple zS (za (zF qc0 (zT fun _ _ _ z=>z) hr rfl (za (pv 0) zb)) zb)))),?_⟩
 refine ⟨_,rfl,_,rfl,D,m0,hD,hsh,fun c e H' g=>qe c e _ g,fun c=>⟨fun ms S h1 h2 h3 e H' g=>(qo c).1 ms S h1 h2 h3 e H' g,fun ms S hx er hM s1 s5 m1 m4 y f H1 g1 hW hL h60=>?_⟩⟩
 obtain ⟨l,kvs,rfl,hl,hk⟩:=hW
 refine ⟨l,kvs,rfl,hl,fun t zs ht zl hz=>?_⟩
 exact (qo c).2 ms S hx er hM s1 s5 m1 m4 _ f _ (g1.trans (Grow.new ht _)) ⟨t,zs,rfl,SqT.of zd,(rT hz hk.keys).imp fun _ _ z=>z.grow (Grow.new (m:=[]) ht _)⟩ hL h60
theorem qk:FnScope ["table","numbers","tree"] ["table","numbers","tree"] (zg (top 32)):=⟨rfl,rfl,rfl,by decide +kernel,rfl,by decide +kernel,by decide +kernel⟩
theorem ql (F:Fun K "number_of" "number_of" (top 32) f fd) (B:Blt mg) {N:Nat} (qc0:zo P w K mg base n "number_of" ["table","numbers","tree"] (yu N K)) (qc1:zo P w K mg base n "is_whole" ["thing"] (yK K))     :
  FnOk P w K mg base CX0 (n + 1) f fd ["table","numbers","tree"] (yu (N + 1) K):=by
 refine F.ok qk vp (fun cdv A outer s H vs Q E hr h=>?_)
 obtain ⟨x,y,z,rfl,R,tab,ns,t,f0,hx,hy,ht,F,ho,f1,f2,hN,q⟩:=h
 refine ⟨_,(zc (zM (yc (zj qc1 hr rfl (za (pv 2) zb))) (zf (zq (zH zJ (pv 1) (pv 2) (fun _ _=>rfl)))) zp) (zf (zq (zH zJ (zH zJ (pv 0) (zj qc0 hr rfl (za (pv 0) (za (pv 1) (za (zH zJ (pv 2) ze (fun _ _=>rfl)) zb)))) (fun _ _=>rfl)) (zj qc0 hr rfl (za (pv 0) (za (pv 1) (za (zH zJ (pv 2) ze (fun _ _=>rfl)) zb)))) (fun _ _=>rfl))))),?_⟩
 have hx0:=hx
 have hy0:=hy
 obtain ⟨rx,xs,rfl,hxs,hall⟩:=hx0
 obtain ⟨ry,rfl,hys⟩:=hy0
 have hR:=F.tab.1
 cases t with
 | leaf v =>
  cases (show z = V.int v from ht)
  cases (show v = f0 from ho)
  have f2':f0 + 1 <= ns.length:=f2
  exact ⟨_,rfl,_,rfl,.int _,[],.int _,_,rfl,iteT ⟨_,rfl,_,rfl,ry,_,_,_,rfl,rfl,hys,getI f1 (by omega),q⟩⟩
 | node tl tr =>
  have hh:max tl.ht tr.ht + 1 < N + 1:=hN
  have f2':f0 + (tl.count + tr.count) <= ns.length:=f2
  have c1:=ym tl
  have c2:=ym tr
  have kn:=uS (m:=[]) ht
  obtain ⟨a,xl,xr,rfl,hs2,h1,h2⟩:=ht
  have n1:=yY F ho.1 f1 (by omega)
  have n2:=yY F ho.2 (by omega) (by omega)
  have z1:=Yu F.tab n1.1 n1.2
  obtain ⟨ra,hra,hsa⟩:=wy hall n1.1 (by rw [hR]; exact n1.2)
  refine ⟨_,rfl,_,rfl,_,[],kn,_,rfl,iteF ?_⟩
  refine ⟨_,rfl,_,rfl,_,rfl,_,rfl,a,_,_,_,rfl,rfl,hs2,rfl,_,_,_,rfl,R,tab,ns,tl,f0,hx,hy,h1,F,ho.1,f1,by omega,by omega,?_⟩
  refine ⟨rx,_,_,_,rfl,rfl,hxs,hra,?_⟩
  refine ⟨_,rfl,_,rfl,_,rfl,a,_,_,_,rfl,rfl,hs2,rfl,_,_,_,rfl,R,tab,ns,tr,f0 + tl.count,hx,hy,h2,F,ho.2,by omega,by omega,by omega,?_⟩
  exact ⟨ra,_,_,_,rfl,rfl,hsa,getI n2.1 (by rw [z1.1]; exact n2.2),q⟩
theorem qp:FnScope ["thing"] ["thing"] (zg (top 21)):=⟨rfl,rfl,rfl,by decide +kernel,rfl,by decide +kernel,by decide +kernel⟩
theorem qr (F:Fun K "need_many" "need_many" (top 21) f fd) (B:Blt mg) {A_NoNumber:Addr} (x_NoNumber:ExcC K mg "NoNumber" A_NoNumber) (qc0:zo P w K mg base n "is_within" ["thing","least","greatest"] (xk K))   {t_MOST_DEEDS:Tok} (g_MOST_DEEDS:mg "MOST_DEEDS" = some (.int 40 t_MOST_DEEDS))  :
  FnOk P w K mg base (CX1 P w) (n + 1) f fd ["thing"] (sH A_NoNumber K):=by
 refine Fun.okX F qp xD (fun cdv A outer s H vs Q E hr h=>?_)
 obtain ⟨x,rfl,d,m,hd,q⟩:=h
 refine ⟨_,(zf (zM (z4 (yc (zj qc0 hr rfl (za (pv 0) (za ze (za (y0 rfl g_MOST_DEEDS (show RelV (.int 40) (.int 40 t_MOST_DEEDS) from ⟨_,rfl⟩)) zb)))))) (zf (yG rfl x_NoNumber rfl yn z3)) zp)),?_⟩
 refine ⟨_,rfl,_,_,_,rfl,d,m,1,40,hd,rfl,rfl,_,rfl,?_⟩
 cases hw:zC 1 40 d with
 | true=>rw [if_pos hw] at q; exact iteF q
 | false=>rw [hw,if_neg (by decide)] at q; exact iteT q
theorem xu:FnScope ["thing","many","todo","reached","part"] ["thing","many"] (zg (top 22)):=⟨rfl,rfl,rfl,by decide +kernel,rfl,by decide +kernel,by decide +kernel⟩
theorem ZW (F:Fun K "is_tree" "is_tree" (top 22) f fd) (B:Blt mg) {A_NoNumber:Addr} (x_NoNumber:ExcC K mg "NoNumber" A_NoNumber) (qc0:zo P w K mg base n "is_whole" ["thing"] (yK K)) (qc1:zw P w K mg base n "need_many" ["thing"] (sH A_NoNumber K))     :
  FnOk P w K mg base (CX1 P w) (n + 1) f fd ["thing","many"] (sI A_NoNumber K):=by
 refine Fun.okX F xu w6 (fun cdv A outer s H vs Q E hr h=>?_)
 obtain ⟨x,y,rfl,d,dm,m,hd,hm,hw,q0,qe⟩:=h
 refine ⟨_,(zc (yg (zF qc1 (zT fun _ _ _ z=>z) hr rfl (za (pv 1) zb))) (zc (zA (i:=2) xu.nd rfl (Or.inl rfl) (xj (za (pv 0) zb))) (zc (zA (i:=3) xu.nd rfl (Or.inl rfl) ze) (zc (jI PassesOwn.leaving (jL (pv 2) (fun _=>rfl)) (zc (zA (i:=4) xu.nd rfl (Or.inl rfl) (V1 PySem.F.plainAttrs_list PySem.F.slot_list_pop PySem.F.type_list_pop V2 (pv 2))) (zf (zM (PW.pt (tJ (yc (zh (zV (K:=K) rfl) rfl B.isinstance zt (za (pv 4) (za (yM rfl B.tuple zS) zb)))) (vk (zB yy (zh zk rfl B.len yd (za (pv 4) zb)) ze (zG _))))) (zc (yg (Zr PySem.F.plainAttrs_list PySem.F.slot_list_append PySem.F.type_list_append wT (pv 2) (za (zH zJ (pv 4) ze (fun _ _=>rfl)) zb))) (zf (yg (Zr PySem.F.plainAttrs_list PySem.F.slot_list_append PySem.F.type_list_append wT (pv 2) (za (zH zJ (pv 4) ze (fun _ _=>rfl)) zb))))) (zf (zM (PW.pt (tJ (yc (zj qc0 hr rfl (za (pv 4) zb))) (vk (zB yy (pv 4) (pv 3) (zG _))))) (zf (VR (i:=3) xu.nd rfl (Or.inl rfl) ze VS)) (zf (zq vT)))))))) (zf (zq (vm yy (pv 3) (pv 1) (zG _)))))))),?_⟩
 refine ⟨_,rfl,_,rfl,dm,m,hm,?_⟩
 cases hmw:zC 1 40 dm with
 | false =>
  rw [if_neg (by decide)]
  exact fun e=>qe hmw e _ (Grow.refl _ _)
 | true =>
 rw [if_pos rfl]
 have q:=q0 hmw
 obtain ⟨n,rfl,n1,n40⟩:=Uz hmw
 obtain rfl:=hm.inv_int
 rw [rZ] at q
 refine ⟨_,rfl,szl rfl,fun l hl=>?_⟩
 have gl:Grow (l :: m) H (upd H l (.lst [x])):=Grow.new hl _
 have gl1:Grow [l] H (upd H l (.lst [x])):=Grow.new hl _
 have hd1:=(hd.more hl).grow gl
 refine ⟨fun μ σ' H'=>∃ (xs:List V) (ds:List PyData) (k:Nat) (e:Option V),σ' = [some x,some (V.int n),some (V.ref l),some (V.int k),e] /\ Grow [l] H H' /\ H' l = some (.lst xs) /\ Ods K (l :: m) H' xs ds /\ runL (lvs d) 0 = runL (stk ds) k /\ wtOs ds = μ /\ μ <= 1000002,⟨_,[x],[d],0,_,rfl,gl1,zd,.cons hd1 .nil,by show _ = runL (lvs d ++ []) 0; rw [List.append_nil],rfl,by show wtO d + 2 + 0 <= _; omega⟩,?_⟩
 rintro μ σ' H1 ⟨xs,ds,k,e,rfl,g1,hl1,ha1,hO,rfl,hμ⟩
 refine ⟨_,rfl,!xs.isEmpty,.inl ⟨xs,SqL.of hl1,rfl⟩,?_⟩
 by_cases hx:xs = []
 ·subst hx
  cases ha1
  have hk:runL (lvs d) 0 = some k:=hO
  refine zD rfl ⟨_,rfl,_,rfl,rfl,?_⟩
  have e:decide (V.int (k:Int) = V.int (n:Int)) = xE d n:=by
   unfold xE
   rw [hk]
   by_cases z:k = n
   ·rw [z,decide_eq_true rfl,decide_eq_true rfl]
   ·rw [decide_eq_false fun w=>z (by have:=V.int.inj w; omega),decide_eq_false fun w=>z (Option.some.inj w)]
  rw [e]
  exact q _ (g1.shrink hl)
 obtain ⟨ys,y,rfl⟩:=Vb hx
 obtain ⟨js,j,rfl,hjs,hj⟩:=ha1.snocE
 rw [yR] at hμ
 rw [sF] at hO
 refine zN (by simp) ⟨fun σ' H'=>∃ μ,μ < wtOs (js ++ [j]) /\ ∃ (xs:List V) (ds:List PyData) (k:Nat) (e:Option V),σ' = [some x,some (V.int n),some (V.ref l),some (V.int k),e] /\ Grow [l] H H' /\ H' l = some (.lst xs) /\ Ods K (l :: m) H' xs ds /\ runL (lvs d) 0 = runL (stk ds) k /\ wtOs ds = μ /\ μ <= 1000002,fun _ _ z=>z,?_⟩
 refine ⟨_,rfl,.inl ⟨rfl,_,SqL.of hl1⟩,l,_,y,rfl,rfl,hl1,by simp,?_⟩
 rw [List.dropLast_concat]
 have g2:Grow [l] H1 (upd H1 l (.lst ys)):=Grow.set hl1 (by simp) _
 have g2m:Grow (l :: m) H1 (upd H1 l (.lst ys)):=g2.mono (by simp)
 have hjs2:=hjs.grow g2m
 have hj2:=hj.grow g2m
 have hlen:2 * ys.length <= wtOs js:=by rw [hjs.length]; exact Ze
 have bad:runL (lvs d) 0 = none -> Q (.bl false) (upd H1 l (.lst ys)):=fun z=>by
  have:=q _ ((g1.trans g2).shrink hl)
  unfold xE at this
  rw [z,decide_eq_false (fun w=>nomatch w)] at this
  exact this
 refine ⟨_,rfl,_,j,l :: m,_,_,rfl,hj2,yQ,_,rfl,?_⟩
 cases ht:tupD j with
 | false =>
  rw [WS ht] at hO
  refine iteF (iteF ?_)
  refine ⟨_,rfl,_,rfl,j,l :: m,hj2,_,rfl,?_⟩
  cases hwj:rX j with
  | false=>exact iteF (iteF (bad (hO.trans (Zd hwj))))
  | true =>
   cases j with
   | int v =>
    obtain rfl:=hj2.inv_int
    have hO2:runL (lvs d) 0 = if v = (k:Int) then runL (stk js) (k + 1) else none:=hO
    refine iteT ⟨_,rfl,_,rfl,rfl,_,rfl,?_⟩
    by_cases hv:v = (k:Int)
    ·rw [if_pos hv] at hO2
     refine zN (decide_eq_true (congrArg V.int hv)) ?_
     refine ⟨_,rfl,_,_,rfl,rfl,wtOs js,?_,ys,js,k + 1,_,rfl,g1.trans g2,zd,hjs2,hO2,rfl,by omega⟩
     rw [yR]; omega
    ·rw [if_neg hv] at hO2
     exact zD (decide_eq_false fun z=>hv (V.int.inj z)) (bad hO2)
   | _=>cases hwj
 | true =>
  refine iteT ?_
  cases j with
  | tuple es =>
   obtain ⟨a,zs,rfl,hs,hes⟩:=hj2.inv_tup
   refine ⟨_,rfl,a,zs,rfl,.inr hs,rfl,_,rfl,?_⟩
   by_cases h2:es.length = 2
   ·match es,h2,hes,hO,hμ,hs with
    | [da,db],_,hes,hO,hμ,hs =>
     cases hes with
     | @cons xa _ _ _ oa tb =>
      obtain ⟨xb,rfl,ob⟩:=tb.inv1
      refine zN rfl ?_
      rw [uj] at hO
      have hμ2:wtOs js + (wtO da + 2 + (wtO db + 2 + 0) + 3 + 2) <= 1000002:=hμ
      refine ⟨_,rfl,.inl ⟨rfl,_,SqL.of zd⟩,_,rfl,a,_,_,_,rfl,rfl,hs,rfl,l,ys,_,rfl,rfl,zd,Xh (by omega),?_⟩
      have g3:Grow [l] (upd H1 l (.lst ys)) (upd (upd H1 l (.lst ys)) l (.lst (ys ++ [xb]))):=Grow.set zd (by simp) _
      have hs3:=g3.sqT hs
      refine ⟨_,rfl,.inl ⟨rfl,_,SqL.of zd⟩,_,rfl,a,_,_,_,rfl,rfl,hs3,rfl,l,ys ++ [xb],_,rfl,rfl,zd,Xh (by rw [List.length_append]; show ys.length + 1 <= 1000000; omega),?_⟩
      have g4:Grow [l] (upd (upd H1 l (.lst ys)) l (.lst (ys ++ [xb]))) (upd (upd (upd H1 l (.lst ys)) l (.lst (ys ++ [xb]))) l (.lst (ys ++ [xb] ++ [xa]))):=Grow.set zd (by simp) _
      have g34:Grow (l :: m) _ _:=(g3.trans g4).mono (m':=l :: m) (by simp)
      refine ⟨wtOs (js ++ [db] ++ [da]),?_,_,js ++ [db] ++ [da],k,_,rfl,g1.trans (g2.trans (g3.trans g4)),zd,((hjs2.grow g34).append (.cons (ob.grow g34) .nil)).append (.cons (oa.grow g34) .nil),?_,rfl,?_⟩
      ·rw [yR,yR,yR]
       show _ < wtOs js + (wtO da + 2 + (wtO db + 2 + 0) + 3 + 2)
       omega
      ·rw [sF,sF,← List.append_assoc]; exact hO
      ·rw [yR,yR]; omega
   ·refine zD (decide_eq_false fun z=>h2 (by have:=V.int.inj z; have:=hes.length; omega)) ?_
    rw [WR h2] at hO
    exact ⟨_,rfl,_,rfl,.tuple es,l :: m,hj2,_,rfl,iteF (iteF (bad (hO.trans rfl)))⟩
  | _=>cases ht
theorem qu:FnScope ["thing","many"] ["thing","many"] (zg (top 23)):=⟨rfl,rfl,rfl,by decide +kernel,rfl,by decide +kernel,by decide +kernel⟩
theorem qv (F:Fun K "need_tree" "need_tree" (top 23) f fd) (B:Blt mg) {A_NoNumber:Addr} {A_NoTree:Addr} (x_NoNumber:ExcC K mg "NoNumber" A_NoNumber) (x_NoTree:ExcC K mg "NoTree" A_NoTree) (qc0:zw P w K mg base n "is_tree" ["thing","many"] (sI A_NoNumber K))     :
  FnOk P w K mg base (CX1 P w) (n + 1) f fd ["thing","many"] (Zf A_NoTree K):=by
 refine Fun.okX F qu w6 (fun cdv A outer s H vs Q E hr h=>?_)
 obtain ⟨x,y,rfl,d,n,m,hd,rfl,n1,n40,hw,q,qe⟩:=h
 refine ⟨_,(zf (zM (z4 (yc (zF qc0 (zT fun _ _ _ z=>z) hr rfl (za (pv 0) (za (pv 1) zb))))) (zf (yG rfl x_NoTree rfl yn z3)) zp)),?_⟩
 have hmw:zC 1 40 (.int (n:Int)) = true:=by show (decide ((1:Int) <= n) && decide ((n:Int) <= 40)) = true; rw [decide_eq_true (by omega),decide_eq_true (by omega)]; rfl
 refine ⟨_,rfl,_,rfl,_,_,rfl,d,.int n,m,hd,.int _,hw,fun _ H1 g1=>⟨_,rfl,?_⟩,fun hz=>absurd (hmw.symm.trans hz) (by decide)⟩
 rw [rZ]
 cases c:xE d n with
 | true=>exact iteF (q c _ g1)
 | false=>exact iteT fun e=>qe c e _ g1
theorem tE:FnScope ["thing","many"] ["thing","many"] (zg (top 25)):=⟨rfl,rfl,rfl,by decide +kernel,rfl,by decide +kernel,by decide +kernel⟩
theorem tF (F:Fun K "are_numbers" "are_numbers" (top 25) f fd) (B:Blt mg) (qc0:zo P w K mg base n "is_within" ["thing","least","greatest"] (xk K))     :
  FnOk P w K mg base CX0 (n + 1) f fd ["thing","many"] (yT K):=by
 refine F.ok tE xf (fun cdv A outer s H vs Q E hr h=>?_)
 obtain ⟨x,y,rfl,d,m,n,hd,rfl,hl,q⟩:=h
 refine ⟨_,(zf (zq (wP (zh (zV (K:=K) rfl) rfl B.isinstance zt (za (pv 0) (za (yM rfl B.tuple zS) zb))) (vL (zh (yw rfl) rfl B.all tY (za (zY (CSc.of (N':=["number","many"]) (sub:=[none,some 1]) (zg (top 25)) ["thing","many"] rfl rfl (by decide +kernel) rfl) rfl (xG (pv 0)) (fun _ _ _ _ _ _=>zz (i:=0) (show (["number","many"]:List Str).Nodup by decide +kernel) rfl (Or.inl rfl)) (fun _ _ _ _ _ _=>zQ) (fun _ _ _ _ _ _=>(zj qc0 hr rfl (za (pv 0) (za ze (za (zK vM (pv 1) ze) zb)))))) zb)))))),?_⟩
 refine ⟨_,rfl,_,d,m,_,_,rfl,hd,yQ,_,rfl,?_⟩
 cases d with
 | tuple ds =>
  obtain ⟨a,xs,rfl,hs,ha⟩:=hd.inv_tup
  have hxl:=ha.length
  have hl:ds.length <= 1000:=hl
  refine iteT ⟨_,rfl,a,rfl,⟨_,hs⟩,ya (xs:=xs) (fun i ys H'=>ys = ((ds.take i).map (zC 0 (n - 1))).map V.bl /\ H' = H) ⟨rfl,rfl⟩ (fun i ys H' p=>by rw [p.2]; exact hs) ?_ ?_⟩
  ·rintro i x ys H' hx ⟨rfl,rfl⟩
   obtain ⟨e,he,oe⟩:=ha.get hx
   have hi:i < xs.length:=(List.getElem?_eq_some_iff.mp hx).1
   refine ⟨_,rfl,_,rfl,_,_,rfl,rfl,_,_,_,rfl,e,m,0,_,oe,rfl,rfl,zn (by rw [List.length_map,List.length_map,List.length_take]; omega),?_,rfl⟩
   rw [List.take_succ,he,List.map_append,List.map_append]; rfl
  ·rintro ys H' ⟨rfl,rfl⟩ l hl'
   rw [hxl,List.take_length]
   refine ⟨l,ds.map (zC 0 (n - 1)),rfl,SqL.of zd,?_⟩
   have es:zP n (.tuple ds) = (ds.map (zC 0 (n - 1))).all id:=by rw [List.all_map]; rfl
   rw [← es]
   exact q _ (Grow.new hl' _)
 | _=>exact iteF (q _ (Grow.refl _ _))
theorem uX:FnScope ["table","thing"] ["table","thing"] (zg (top 28)):=⟨rfl,rfl,rfl,by decide +kernel,rfl,by decide +kernel,by decide +kernel⟩
theorem uY (F:Fun K "need_numbers" "need_numbers" (top 28) f fd) (B:Blt mg) {A_NoNumber:Addr} (x_NoNumber:ExcC K mg "NoNumber" A_NoNumber) (qc0:zo P w K mg base n "are_numbers" ["thing","many"] (yT K))   {t_MOST_DEEDS:Tok} (g_MOST_DEEDS:mg "MOST_DEEDS" = some (.int 40 t_MOST_DEEDS))  :
  FnOk P w K mg base (CX1 P w) (n + 1) f fd ["table","thing"] (sJ A_NoNumber K):=by
 refine Fun.okX F uX w6 (fun cdv A outer s H vs Q E hr h=>?_)
 obtain ⟨x,y,rfl,ts,d,m,ht,hd,hld,q,qe⟩:=h
 refine ⟨_,(zf (zM (PW.pt (vU (z4 (yc (zj qc0 hr rfl (za (pv 1) (za (zh zk rfl B.len yd (za (pv 0) zb)) zb))))) (xL (z4 (yV xw xw ze (zh zk rfl B.len yd (za (pv 1) zb)) (y0 rfl g_MOST_DEEDS (show RelV (.int 40) (.int 40 t_MOST_DEEDS) from ⟨_,rfl⟩))))))) (zf (yG rfl x_NoNumber rfl yn z3)) zp)),?_⟩
 obtain ⟨a,xs,rfl,hs,ha⟩:=ht.inv_tup
 have hl:=ha.length
 refine ⟨_,rfl,_,rfl,a,_,rfl,.inr hs,_,_,rfl,d,m,_,hd,rfl,hld,fun H1 g1=>⟨_,rfl,?_⟩⟩
 rw [hl]
 cases hr:zP (ts.length:Int) d with
 | false=>exact iteT (iteT fun e=>qe (by rw [yo,hr]; rfl) e _ g1)
 | true =>
  obtain ⟨es,rfl⟩:=xn hr
  obtain ⟨a1,xs1,rfl,hs1,ha1⟩:=hd.inv_tup
  have l1:=ha1.length
  refine iteF ⟨_,rfl,a1,_,rfl,.inr (g1.sqT hs1),_,_,rfl,rfl,_,rfl,?_⟩
  by_cases c1:1 <= es.length
  ·refine zN (decide_eq_true (by omega)) ⟨_,_,rfl,rfl,?_⟩
   by_cases c2:es.length <= 40
   ·exact ⟨_,rfl,zD (by rw [decide_eq_true (show (xs1.length:Int) <= 40 by omega)]; rfl) (q (by rw [yo,hr,show lenD (.tuple es) = es.length from rfl,decide_eq_true c1,decide_eq_true c2]; rfl) _ g1)⟩
   ·exact ⟨_,rfl,zN (by rw [decide_eq_false (show ¬ (xs1.length:Int) <= 40 by omega)]; rfl) fun e=>qe (by rw [yo,show lenD (.tuple es) = es.length from rfl,decide_eq_false c2,Bool.and_false]) e _ g1⟩
  ·exact zD (decide_eq_false (by omega)) ⟨_,rfl,iteT fun e=>qe (by rw [yo,hr,show lenD (.tuple es) = es.length from rfl,decide_eq_false c1]; rfl) e _ g1⟩
theorem vh:FnScope ["thing","many"] ["thing"] (zg (top 26)):=⟨rfl,rfl,rfl,by decide +kernel,rfl,by decide +kernel,by decide +kernel⟩
theorem sO (F:Fun K "need_table" "need_table" (top 26) f fd) (B:Blt mg) {A_NoTable:Addr} (x_NoTable:ExcC K mg "NoTable" A_NoTable) (qc0:zo P w K mg base n "are_numbers" ["thing","many"] (yT K))   {t_MOST_IN_FAMILY:Tok} (g_MOST_IN_FAMILY:mg "MOST_IN_FAMILY" = some (.int 60 t_MOST_IN_FAMILY))  :
  FnOk P w K mg base (CX1 P w) (n + 1) f fd ["thing"] (xU A_NoTable K):=by
 refine Fun.okX F vh xD (fun cdv A outer s H vs Q E hr h=>?_)
 obtain ⟨x,rfl,d,m,hd,hsh,q,qe⟩:=h
 refine ⟨_,(zc (zM (PW.pt (vU (z4 (yc (zh (zV (K:=K) rfl) rfl B.isinstance zt (za (pv 0) (za (yM rfl B.tuple zS) zb))))) (xL (z4 (yV xw xw ze (zh zk rfl B.len yd (za (pv 0) zb)) (y0 rfl g_MOST_IN_FAMILY (show RelV (.int 60) (.int 60 t_MOST_IN_FAMILY) from ⟨_,rfl⟩))))))) (zf (yG rfl x_NoTable rfl yn z3)) zp) (zc (zA (i:=1) vh.nd rfl (Or.inr rfl) (zh zk rfl B.len yd (za (pv 0) zb))) (zf (zM (z4 (yc (zh (yw rfl) rfl B.all tY (za (zY (CSc.of (N':=["row","many"]) (sub:=[none,some 1]) (zg (top 26)) ["thing","many"] rfl rfl (by decide +kernel) rfl) rfl (xG (pv 0)) (fun _ _ _ _ _ _=>zz (i:=0) (show (["row","many"]:List Str).Nodup by decide +kernel) rfl (Or.inl rfl)) (fun _ _ _ _ _ _=>zQ) (fun _ _ _ _ _ _=>(wP (zj qc0 hr rfl (za (pv 0) (za (pv 1) zb))) (vL (vm yy (zh (yI (K:=K) rfl) rfl B.len yd (za (pv 0) zb)) (pv 1) (zG _)))))) zb)))) (zf (yG rfl x_NoTable rfl yn z3)) zp)))),?_⟩
 refine ⟨_,rfl,_,d,m,_,_,rfl,hd,yQ,_,rfl,?_⟩
 cases d with
 | tuple ds =>
  obtain ⟨a,xs,rfl,hs,ha⟩:=hd.inv_tup
  have hxl:=ha.length
  obtain ⟨hl,hlm⟩:=ul hsh
  refine iteF ⟨_,rfl,a,_,rfl,.inr hs,_,_,rfl,rfl,_,rfl,?_⟩
  by_cases c1:1 <= ds.length
  ·refine zN (decide_eq_true (by omega)) ⟨_,_,rfl,rfl,?_⟩
   by_cases c2:ds.length <= 60
   ·refine ⟨_,rfl,zD (by rw [decide_eq_true (show (xs.length:Int) <= 60 by omega)]; rfl) (zL ?_)⟩
    refine ⟨_,rfl,a,_,rfl,.inr hs,?_⟩
    refine ⟨_,rfl,a,rfl,⟨_,hs⟩,ya (xs:=xs) (fun i ys H'=>ys = ((ds.take i).map fun r=>zP ds.length r && decide (lenD r = ds.length)).map V.bl /\ Grow [] H H') ⟨rfl,Grow.refl _ _⟩ (fun i ys H' p=>p.2.sqT hs) ?_ ?_⟩
    ·rintro i x ys H' hx ⟨rfl,g⟩
     obtain ⟨e,he,oe⟩:=ha.get hx
     have hi':i < xs.length:=(List.getElem?_eq_some_iff.mp hx).1
     have ll:((((ds.take i).map fun r=>zP ds.length r && decide (lenD r = ds.length)).map V.bl)).length < sizeLine:=zn (by rw [List.length_map,List.length_map,List.length_take]; omega)
     have el:List.take (i + 1) ds = List.take i ds ++ [e]:=by rw [List.take_succ,he]; rfl
     refine ⟨_,rfl,_,rfl,_,_,rfl,e,m,xs.length,oe.grow (g.mono (by simp)),rfl,hlm e (List.mem_of_getElem? he),fun H2 g2=>⟨_,rfl,?_⟩⟩
     rw [el,List.map_append,List.map_append]
     rw [hxl]
     cases hr:zP (ds.length:Int) e with
     | false =>
      refine iteF ⟨ll,?_,g.trans g2⟩
      show _ ++ [V.bl false] = _ ++ [V.bl (zP ds.length e && _)]
      rw [hr]; rfl
     | true =>
      obtain ⟨es,rfl⟩:=xn hr
      obtain ⟨a1,xs1,rfl,hs1,ha1⟩:=oe.inv_tup
      have l1:=ha1.length
      refine iteT ⟨_,rfl,a1,_,rfl,.inr ((g.trans g2).sqT hs1),_,rfl,rfl,ll,?_,g.trans g2⟩
      show _ ++ [V.bl _] = _ ++ [V.bl (zP ds.length (.tuple es) && decide (es.length = ds.length))]
      rw [hr,Bool.true_and]
      by_cases z:es.length = ds.length
      ·rw [decide_eq_true z,decide_eq_true (by rw [l1,z])]
      ·rw [decide_eq_false z,decide_eq_false fun w=>z (by have:=V.int.inj w; omega)]
    ·rintro ys H' ⟨rfl,g⟩ l hl'
     rw [hxl,List.take_length]
     have g2:=g.trans (Grow.new hl' (.lst ((ds.map fun r=>zP ds.length r && decide (lenD r = ds.length)).map V.bl)))
     refine ⟨l,ds.map fun r=>zP ds.length r && decide (lenD r = ds.length),rfl,SqL.of zd,_,rfl,?_⟩
     have es:yS (.tuple ds) = (ds.map fun r=>zP ds.length r && decide (lenD r = ds.length)).all id:=by
      show (decide (1 <= ds.length) && decide (ds.length <= 60) && _) = _
      rw [decide_eq_true c1,decide_eq_true c2,List.all_map]; rfl
     rw [← es]
     cases cs:yS (.tuple ds) with
     | true=>exact iteF (q cs _ g2)
     | false=>exact iteT fun e=>qe cs e _ g2
   ·have es:yS (.tuple ds) = false:=by show (decide (1 <= ds.length) && decide (ds.length <= 60) && _) = _; rw [decide_eq_false c2,Bool.and_false,Bool.false_and]
    exact ⟨_,rfl,zN (by rw [decide_eq_false (show ¬ (xs.length:Int) <= 60 by omega)]; rfl) fun e=>qe es e _ (Grow.refl _ _)⟩
  ·have es:yS (.tuple ds) = false:=by show (decide (1 <= ds.length) && decide (ds.length <= 60) && _) = _; rw [decide_eq_false c1]; rfl
   exact zD (decide_eq_false (by omega)) ⟨_,rfl,iteT fun e=>qe es e _ (Grow.refl _ _)⟩
 | _=>exact iteT (iteT fun e=>qe rfl e _ (Grow.refl _ _))
theorem qw:FnScope ["table","numbers","tree"] ["table","numbers","tree"] (zg (top 33)):=⟨rfl,rfl,rfl,by decide +kernel,rfl,by decide +kernel,by decide +kernel⟩
theorem qz (F:Fun K "folded_by" "folded_by" (top 33) f fd) (B:Blt mg) {A_NoTree:Addr} {A_NoNumber:Addr} {A_NoTable:Addr} (x_NoTree:ExcC K mg "NoTree" A_NoTree) (x_NoNumber:ExcC K mg "NoNumber" A_NoNumber) (x_NoTable:ExcC K mg "NoTable" A_NoTable) (qc0:zo P w K mg base n "number_of" ["table","numbers","tree"] (yu 41 K)) (qc1:zw P w K mg base n "need_tree" ["thing","many"] (Zf A_NoTree K)) (qc2:zw P w K mg base n "need_numbers" ["table","thing"] (sJ A_NoNumber K)) (qc3:zw P w K mg base n "need_table" ["thing"] (xU A_NoTable K))     :
  FnOk P w K mg base (CX1 P w) (n + 1) f fd ["table","numbers","tree"] (vf A_NoTable A_NoNumber A_NoTree K):=by
 refine Fun.okX F qw Zc (fun cdv A outer s H vs Q E hr h=>?_)
 obtain ⟨x,y,z,rfl,dt,dn,dr,m,ht,hn,hr',s1,ln,wt,q,qe⟩:=h
 refine ⟨_,(zc (yg (zF qc3 (zT fun _ _ _ z=>z) hr rfl (za (pv 0) zb))) (zc (yg (zF qc2 (zT fun _ _ _ z=>z) hr rfl (za (pv 0) (za (pv 1) zb)))) (zc (yg (zF qc1 (zT fun _ _ _ z=>z) hr rfl (za (pv 2) (za (zh zk rfl B.len yd (za (pv 1) zb)) zb)))) (zf (zq (zj qc0 hr rfl (za (pv 0) (za (pv 1) (za (pv 2) zb))))))))),?_⟩
 refine ⟨_,rfl,_,rfl,dt,m,ht,s1,fun c1 H1 g1=>?_,fun c1 e H' g=>qe 0 (by rw [xW,if_pos c1]) e _ g⟩
 obtain ⟨ts,rfl,t1,t60⟩:=xV c1
 obtain ⟨tab,hx,hT,r1,r60,rl⟩:=Xk ht c1
 refine ⟨_,rfl,_,rfl,_,_,rfl,ts,dn,m,ht.grow (g1.mono (by simp)),hn.grow (g1.mono (by simp)),ln,fun c2 H2 g2=>?_,fun c2 e H' g=>qe 1 (by rw [xW,if_neg (by rw [c1]; decide),if_pos (show yo (lenD (.tuple ts):Nat) dn = false from c2)]) e _ (g1.trans g)⟩
 have g12:=g1.trans g2
 have c2':=c2
 unfold yo at c2'
 rw [Bool.and_eq_true,Bool.and_eq_true,decide_eq_true_eq,decide_eq_true_eq] at c2'
 obtain ⟨ns,hb,hrg,rfl⟩:=wH hn c2'.1.1
 have nl:lenD (.tuple (ns.map PyData.int)) = ns.length:=List.length_map ..
 rw [nl] at c2'
 obtain ⟨ry,rfl,hys⟩:=g12.board hb
 have hl:(ns.map V.int).length = ns.length:=List.length_map ..
 refine ⟨_,rfl,_,rfl,ry,_,rfl,.inr hys,_,_,rfl,dr,ns.length,m,hr'.grow (g12.mono (by simp)),by rw [hl],by omega,by omega,wt,fun c3 H3 g3=>?_,fun c3 e H' g=>qe 2 (by rw [xW,if_neg (by rw [c1]; decide),if_neg (by rw [show yo (lenD (.tuple ts):Nat) _ = true from c2]; decide),nl,if_pos c3]) e _ (g12.trans g)⟩
 have g13:=g12.trans g3
 have q2:=q (by rw [xW,if_neg (by rw [c1]; decide),if_neg (by rw [show yo (lenD (.tuple ts):Nat) _ = true from c2]; decide),nl,if_neg (by rw [c3]; decide)])
 obtain ⟨t,hTr,ho,hc,hh⟩:=WT (hr'.grow (g13.wk (m:=m))) c3 (by omega)
 have F:Fd tab.length tab ns:=⟨hT,by rw [rl]; exact hrg⟩
 exact ⟨_,rfl,_,rfl,_,rfl,_,_,_,rfl,tab.length,tab,ns,t,0,g13.rows hx,g13.board hb,hTr,F,ho,by decide,by omega,hh,q2 _ _ (yY F ho (by decide) (by omega)).1 (by rw [← rl]; exact (yY F ho (by decide) (by omega)).2) g13⟩
theorem wJ:FnScope ["deeds","table","numbers","tree","state","states","left","right"] ["deeds","table","numbers","tree","state","states"] (zg (top 34)):=⟨rfl,rfl,rfl,by decide +kernel,rfl,by decide +kernel,by decide +kernel⟩
theorem jC (F:Fun K "share_by" "share_by" (top 34) f fd) (B:Blt mg) {N:Nat} (qc0:zo P w K mg base n "share_by" ["deeds","table","numbers","tree","state","states"] (yB N K)) (qc1:zo P w K mg base n "is_whole" ["thing"] (yK K))     :
  FnOk P w K mg base CX0 (n + 1) f fd ["deeds","table","numbers","tree","state","states"] (yB (N + 1) K):=by
 refine F.ok wJ qP (fun cdv A outer s H vs Q E hr h=>?_)
 obtain ⟨x,y,z,u,w,k,rfl,R,M,ds,tab,ns,t,f0,v0,l,zs,hd,hx,hy,ht,F,hD,ho,f1,f2,hN,rfl,v1,v2,rfl,hl,hz,q⟩:=h
 refine ⟨_,(zc (zM (yc (zj qc1 hr rfl (za (pv 3) zb))) (zc (yg (Zr PySem.F.plainAttrs_list PySem.F.slot_list_append PySem.F.type_list_append wT (pv 5) (za (pv 4) zb))) (zf (zq (zH zJ (pv 2) (pv 3) (fun _ _=>rfl))))) zp) (zc (zA (i:=6) wJ.nd rfl (Or.inl rfl) (zj qc0 hr rfl (za (pv 0) (za (pv 1) (za (pv 2) (za (zH zJ (pv 3) ze (fun _ _=>rfl)) (za (pv 4) (za (pv 5) zb)))))))) (zc (zA (i:=7) wJ.nd rfl (Or.inl rfl) (zj qc0 hr rfl (za (pv 0) (za (pv 1) (za (pv 2) (za (zH zJ (pv 3) ze (fun _ _=>rfl)) (za (zH zJ (zH zJ (pv 0) (pv 6) (fun _ _=>rfl)) (pv 4) (fun _ _=>rfl)) (za (pv 5) zb)))))))) (zf (zq (zH zJ (zH zJ (pv 1) (pv 6) (fun _ _=>rfl)) (pv 7) (fun _ _=>rfl))))))),?_⟩
 have hx0:=hx
 have hy0:=hy
 have hd0:=hd
 obtain ⟨rx,xs,rfl,hxs,hall⟩:=hx0
 obtain ⟨ry,rfl,hys⟩:=hy0
 obtain ⟨rd,xd,rfl,hds,hdall⟩:=hd0
 have hR:=F.tab.1
 cases t with
 | leaf v =>
  cases (show u = V.int v from ht)
  cases (show v = f0 from ho)
  have f2':f0 + 1 <= ns.length:=f2
  have hz':(zs.length:Int) + 1 <= 500:=hz
  refine ⟨_,rfl,_,rfl,.int _,[],.int _,_,rfl,iteT ⟨_,rfl,.inl ⟨rfl,_,SqL.of hl⟩,_,rfl,l,_,_,rfl,rfl,hl,?_,?_⟩⟩
  ·rw [List.length_map]; exact zn (by omega)
  have g1:Grow [l] H (upd H l (.lst (zs.map V.int ++ [V.int v0]))):=Grow.set hl (by simp) _
  refine ⟨_,rfl,_,rfl,ry,_,_,_,rfl,rfl,g1.sqT hys,getI f1 (by omega),q _ g1 ?_⟩
  rw [zd,List.map_append]; rfl
 | node tl tr =>
  have hh:max tl.ht tr.ht + 1 < N + 1:=hN
  have f2':f0 + (tl.count + tr.count) <= ns.length:=f2
  have hz':(zs.length:Int) + (tl.count + tr.count) <= 500:=hz
  have c1:=ym tl
  have c2:=ym tr
  have kn:=uS (m:=[]) ht
  obtain ⟨a,xl,xr,rfl,hs2,h1,h2⟩:=ht
  have n1:=yY F ho.1 f1 (by omega)
  have n2:=yY F ho.2 (by omega) (by omega)
  have z1:=Yu F.tab n1.1 n1.2
  have w1:=Yu hD n1.1 n1.2
  have w2:=qQ w1.2 v1 (by rw [w1.1]; exact v2)
  refine ⟨_,rfl,_,rfl,_,[],kn,_,rfl,iteF ?_⟩
  refine ⟨_,rfl,_,rfl,_,rfl,_,rfl,a,_,_,_,rfl,rfl,hs2,rfl,_,rfl,_,rfl,_,_,_,_,_,_,rfl,R,M,ds,tab,ns,tl,f0,v0,l,zs,hd,hx,hy,h1,F,hD,ho.1,f1,by omega,by omega,rfl,v1,v2,rfl,hl,by omega,fun H1 g1 hl1=>?_⟩
  have hln:=qR ds tab ns tl v0
  have hs3:=g1.sqT hs2
  obtain ⟨re,hre,hse⟩:=wy (g1.boardsR hdall) n1.1 (by rw [hD.1]; exact n1.2)
  refine ⟨_,rfl,_,rfl,_,rfl,_,rfl,a,_,_,_,rfl,rfl,hs3,rfl,_,rfl,_,rfl,rd,_,_,_,rfl,rfl,g1.sqT hds,hre,_,rfl,re,_,_,_,rfl,rfl,hse,getI v1 (by rw [w1.1]; exact v2),_,rfl,_,_,_,_,_,_,rfl,R,M,ds,tab,ns,tr,f0 + tl.count,_,l,zs ++ shT ds tab ns tl v0,g1.rows hd,g1.rows hx,g1.board hy,g1.tree h2,F,hD,ho.2,by omega,by omega,by omega,rfl,w2.1,w2.2,rfl,hl1,?_,fun H2 g2 hl2=>?_⟩
  ·rw [List.length_append]; omega
  have g12:=g1.trans g2
  obtain ⟨ra,hra,hsa⟩:=wy (g12.boardsR hall) n1.1 (by rw [hR]; exact n1.2)
  refine ⟨_,rfl,_,rfl,rx,_,_,_,rfl,rfl,g12.sqT hxs,hra,_,rfl,ra,_,_,_,rfl,rfl,hsa,getI n2.1 (by rw [z1.1]; exact n2.2),q _ g12 ?_⟩
  rw [hl2,List.append_assoc]; rfl
theorem v9:FnScope ["deeds","table"] ["deeds","table"] (zg (top 27)):=⟨rfl,rfl,rfl,by decide +kernel,rfl,by decide +kernel,by decide +kernel⟩
theorem ua (F:Fun K "need_table_of" "need_table_of" (top 27) f fd) (B:Blt mg) {A_NoTable:Addr} (x_NoTable:ExcC K mg "NoTable" A_NoTable) (qc0:zw P w K mg base n "need_by_table" ["thing","least","most"] (uk A_NoTable K)) (qc1:zw P w K mg base n "need_table" ["thing"] (xU A_NoTable K))     :
  FnOk P w K mg base (CX1 P w) (n + 1) f fd ["deeds","table"] (vc A_NoTable K):=by
 refine Fun.okX F v9 w6 (fun cdv A outer s H vs Q E hr h=>?_)
 obtain ⟨x,y,rfl,dd,dt,m,hd,ht,s1,s2,q,qe⟩:=h
 refine ⟨_,(zc (yg (zF qc1 (zT fun _ _ _ z=>z) hr rfl (za (pv 1) zb))) (zf (yg (zF qc0 (zT fun _ _ _ z=>z) hr rfl (za (pv 0) (za (zh zk rfl B.len yd (za (pv 1) zb)) (za (zh zk rfl B.len yd (za (pv 1) zb)) zb))))))),?_⟩
 refine ⟨_,rfl,_,rfl,dt,m,ht,s2,fun c H1 g1=>?_,fun c e H1 g1=>qe (by rw [xi,c]; rfl) e _ g1⟩
 obtain ⟨ts,rfl,t1,t60⟩:=xV c
 obtain ⟨a,xs,rfl,hs,ha⟩:=ht.inv_tup
 have hl:=ha.length
 have g1':Grow m H H1:=g1.mono (by simp)
 have ez:((xs.length:Nat):Int) = (lenD (.tuple ts):Nat):=by rw [hl]; rfl
 refine ⟨_,rfl,_,rfl,a,_,rfl,.inr (g1.sqT hs),_,rfl,a,_,rfl,.inr (g1.sqT hs),_,_,_,rfl,dd,m,_,_,hd.grow g1',congrArg V.int ez,congrArg V.int ez,?_,s1,fun c2 H2 g2=>q (by rw [xi,c,c2]; rfl) _ (g1.trans g2),fun c2 e H2 g2=>qe (by rw [xi,c,c2]; rfl) e _ (g1.trans g2)⟩
 show (1:Int) <= (ts.length:Nat)
 omega
theorem vQ:FnScope ["deeds","table","numbers","tree","state","states"] ["deeds","table","numbers","tree","state"] (zg (top 35)):=⟨rfl,rfl,rfl,by decide +kernel,rfl,by decide +kernel,by decide +kernel⟩
theorem qA (F:Fun K "shared_by" "shared_by" (top 35) f fd) (B:Blt mg) {A_NoTree:Addr} {A_NoNumber:Addr} {A_NoTable:Addr} (x_NoTree:ExcC K mg "NoTree" A_NoTree) (x_NoNumber:ExcC K mg "NoNumber" A_NoNumber) (x_NoTable:ExcC K mg "NoTable" A_NoTable) (qc0:zo P w K mg base n "share_by" ["deeds","table","numbers","tree","state","states"] (yB 41 K)) (qc1:zw P w K mg base n "need_tree" ["thing","many"] (Zf A_NoTree K)) (qc2:zo P w K mg base n "is_within" ["thing","least","greatest"] (xk K)) (qc3:zw P w K mg base n "need_numbers" ["table","thing"] (sJ A_NoNumber K)) (qc4:zw P w K mg base n "need_table_of" ["deeds","table"] (vc A_NoTable K))     :
  FnOk P w K mg base (CX1 P w) (n + 1) f fd ["deeds","table","numbers","tree","state"] (vA A_NoTable A_NoNumber A_NoTree K):=by
 refine Fun.okX F vQ Wh (fun cdv A outer s H vs Q E hr h=>?_)
 obtain ⟨x0,x,y,z,w,rfl,dd,dt,dn,dr,dv,m,hd,ht,hn,hr',hw,s0,s1,ln,wt,q,qe⟩:=h
 refine ⟨_,(zc (yg (zF qc4 (zT fun _ _ _ z=>z) hr rfl (za (pv 0) (za (pv 1) zb)))) (zc (yg (zF qc3 (zT fun _ _ _ z=>z) hr rfl (za (pv 1) (za (pv 2) zb)))) (zc (zM (z4 (yc (zj qc2 hr rfl (za (pv 4) (za ze (za (zK vM (zh zk rfl B.len yd (za (zH zJ (pv 0) ze (fun _ _=>rfl)) zb)) ze) zb)))))) (zf (yG rfl x_NoNumber rfl yn z3)) zp) (zc (yg (zF qc1 (zT fun _ _ _ z=>z) hr rfl (za (pv 3) (za (zh zk rfl B.len yd (za (pv 2) zb)) zb)))) (zc (zA (i:=5) vQ.nd rfl (Or.inl rfl) (xj zb)) (zc (yg (zj qc0 hr rfl (za (pv 0) (za (pv 1) (za (pv 2) (za (pv 3) (za (pv 4) (za (pv 5) zb)))))))) (zf (zq (z5 z9 rfl B.tuple zS (za (pv 5) zb)))))))))),?_⟩
 refine ⟨_,rfl,_,rfl,_,_,rfl,dd,dt,m,hd,ht,s0,s1,fun c1 H1 g1=>?_,fun c1 e H' g=>qe 0 (by rw [xo,if_pos c1]) e _ g⟩
 obtain ⟨R,M,ds,tab,hDT,rl,em⟩:=UC hd ht c1
 have ct:yS dt = true:=by
  have c1':=c1
  unfold xi at c1'
  rw [Bool.and_eq_true] at c1'
  exact c1'.1
 obtain ⟨ts,rfl,t1,t60⟩:=xV ct
 have n1:¬ xi dd (.tuple ts) = false:=by rw [c1]; decide
 refine ⟨_,rfl,_,rfl,_,_,rfl,ts,dn,m,ht.grow (g1.mono (by simp)),hn.grow (g1.mono (by simp)),ln,fun c2 H2 g2=>?_,fun c2 e H' g=>qe 1 (by rw [xo,if_neg n1,if_pos (show yo (lenD (.tuple ts):Nat) dn = false from c2)]) e _ (g1.trans g)⟩
 have g12:=g1.trans g2
 have n2:¬ yo (lenD (.tuple ts):Nat) dn = false:=by rw [show yo (lenD (.tuple ts):Nat) dn = true from c2]; decide
 have c2':=c2
 unfold yo at c2'
 rw [Bool.and_eq_true,Bool.and_eq_true,decide_eq_true_eq,decide_eq_true_eq] at c2'
 obtain ⟨ns,hb,hrg,rfl⟩:=wH hn c2'.1.1
 have nl:lenD (.tuple (ns.map PyData.int)) = ns.length:=List.length_map ..
 rw [nl] at c2'
 have hD:=hDT.hD
 have r1:=hDT.r1
 obtain ⟨rd,xd,rfl,hds,hdall⟩:=g12.rows hDT.hx
 obtain ⟨re,hre,hse⟩:=wy hdall (i:=0) (by decide) (by rw [hD.1]; omega)
 have w1:=Yu hD (i:=0) (by decide) (by omega)
 have hlr:((ds.getD (0:Int).toNat []).map V.int).length = M:=by rw [List.length_map]; exact w1.1
 refine ⟨_,rfl,_,rfl,rd,_,_,_,rfl,rfl,hds,hre,re,_,rfl,.inr hse,_,_,rfl,rfl,_,_,_,rfl,dv,m,0,_,hw.grow (g12.mono (by simp)),rfl,rfl,_,rfl,?_⟩
 rw [hlr]
 cases hv:zC 0 ((M:Int) - 1) dv with
 | false=>exact iteT fun e=>qe 1 (by rw [xo,if_neg n1,if_neg n2,← em,if_pos hv]) e _ g12
 | true =>
 refine iteF (zL ?_)
 have n3:¬ zC 0 ((lenD dd.getD67:Int) - 1) dv = false:=by rw [← em,hv]; decide
 obtain ⟨v0,rfl,v1,v2⟩:=vP hv
 obtain rfl:=hw.inv_int
 obtain ⟨ry,rfl,hys⟩:=g12.board hb
 have hl:(ns.map V.int).length = ns.length:=List.length_map ..
 refine ⟨_,rfl,_,rfl,ry,_,rfl,.inr hys,_,_,rfl,dr,ns.length,m,hr'.grow (g12.mono (by simp)),by rw [hl],by omega,by omega,wt,fun c3 H3 g3=>?_,fun c3 e H' g=>qe 2 (by rw [xo,if_neg n1,if_neg n2,if_neg n3,nl,if_pos c3]) e _ (g12.trans g)⟩
 have q2:=q (by rw [xo,if_neg n1,if_neg n2,if_neg n3,nl,if_neg (by rw [c3]; decide)])
 obtain ⟨t,hTr,ho,hc,hh⟩:=WT (hr'.grow ((g12.trans g3).wk (m:=m))) c3 (by omega)
 have F:Fd R tab ns:=⟨hDT.hT,by rw [rl]; exact hrg⟩
 refine ⟨szl rfl,fun l hlf=>?_⟩
 have g4:Grow [] H3 (upd H3 l (.lst [])):=Grow.new hlf _
 have g14:=g12.trans (g3.trans g4)
 refine ⟨_,rfl,_,rfl,_,rfl,_,rfl,_,rfl,_,rfl,_,_,_,_,_,_,rfl,R,M,ds,tab,ns,t,0,v0,l,[],g14.rows hDT.hx,g14.rows hDT.hy,g14.board hb,g4.tree hTr,F,hD,ho,by decide,by omega,hh,rfl,v1,by omega,rfl,zd,by show (0:Int) + t.count <= 500; omega,fun H5 g5 hl5=>?_⟩
 rw [List.nil_append] at hl5
 refine ⟨_,rfl,l,_,rfl,.inl ⟨SqL.of hl5,fun p hp=>q2 _ _ ?_⟩⟩
 exact g12.trans (g3.trans ((((g4.wk (m:=[l])).trans g5).shrink hlf).trans (Grow.new hp _)))
theorem xX:FnScope ["table","many","i","j","l"] ["table"] (zg (top 31)):=⟨rfl,rfl,rfl,by decide +kernel,rfl,by decide +kernel,by decide +kernel⟩
theorem Xs (F:Fun K "broken" "broken" (top 31) f fd) (B:Blt mg) {A_NoTable:Addr} (x_NoTable:ExcC K mg "NoTable" A_NoTable) (qc0:zw P w K mg base n "need_table" ["thing"] (xU A_NoTable K))     :
  FnOk P w K mg base (CX1 P w) (n + 1) f fd ["table"] (sL A_NoTable K):=by
 refine Fun.okX F xX xD (fun cdv A outer s H vs Q E hr h=>?_)
 obtain ⟨x,rfl,D,m,hD,hsh,qo,qe⟩:=h
 refine ⟨_,(zc (yg (zF qc0 (zT fun _ _ _ z=>z) hr rfl (za (pv 0) zb))) (zc (zA (i:=1) xX.nd rfl (Or.inl rfl) (zh zk rfl B.len yd (za (pv 0) zb))) (zc (wQ PassesOwn.leaving rfl (yj rfl B.range (za (pv 1) zb)) (zz (i:=2) xX.nd rfl (Or.inl rfl)) (zf (wQ PassesOwn.leaving rfl (yj rfl B.range (za (pv 1) zb)) (zz (i:=3) xX.nd rfl (Or.inl rfl)) (zf (wQ PassesOwn.leaving rfl (yj rfl B.range (za (pv 1) zb)) (zz (i:=4) xX.nd rfl (Or.inl rfl)) (zf (zM (zB Z9 (zH zJ (zH zJ (pv 0) (zH zJ (zH zJ (pv 0) (pv 2) (fun _ _=>rfl)) (pv 3) (fun _ _=>rfl)) (fun _ _=>rfl)) (pv 4) (fun _ _=>rfl)) (zH zJ (zH zJ (pv 0) (pv 2) (fun _ _=>rfl)) (zH zJ (zH zJ (pv 0) (pv 3) (fun _ _=>rfl)) (pv 4) (fun _ _=>rfl)) (fun _ _=>rfl)) (zG _)) (zf (zq (yz (za (pv 2) (za (pv 3) (za (pv 4) zb)))))) zp))))))) (zf (zq jH))))),?_⟩
 refine ⟨_,rfl,_,rfl,D,m,hD,hsh,fun c H1 g1=>?_,fun c e H' g=>qe c e _ g⟩
 obtain ⟨tab,hx,hT,r1,r60,_⟩:=Xk hD c
 have q:∀ y H',Grow [] H H' -> ja K H' tab y -> Q y H':=fun y H' g _=>qo c y H' g
 clear qo qe hD hsh c
 obtain ⟨rt,xs,rfl,hs,hall⟩:=g1.rows hx
 have hl:=hall.len
 refine ⟨_,rfl,rt,_,rfl,.inr hs,?_⟩
 refine ⟨_,rfl,_,rfl,by omega,by omega,xM (fun i σ H'=>∃ (e2 e3 e4:Option V),σ = [some (.ref rt),some (.int xs.length),e2,e3,e4] /\ Grow [] H1 H' /\ ∀ i' j' l':Nat,i' < i -> j' < tab.length -> l' < tab.length -> ¬ misT tab i' j' l') ⟨_,_,_,rfl,Grow.refl _ _,fun _ _ _ z=>absurd z (Nat.not_lt_zero _)⟩ ?_ ?_⟩
 ·rintro i σ H2 hi ⟨e2,e3,e4,rfl,g2,ni⟩
  have hi':i < tab.length:=by omega
  rw [Int.zero_add]
  refine ⟨_,rfl,_,rfl,by omega,by omega,xM (fun j σ H'=>∃ (e3 e4:Option V),σ = [some (.ref rt),some (.int xs.length),some (.int i),e3,e4] /\ Grow [] H1 H' /\ ∀ j' l':Nat,j' < j -> l' < tab.length -> ¬ misT tab i j' l') ⟨_,_,rfl,g2,fun _ _ z=>absurd z (Nat.not_lt_zero _)⟩ ?_ ?_⟩
  ·rintro j σ H3 hj ⟨e3,e4,rfl,g3,nj⟩
   have hj':j < tab.length:=by omega
   rw [Int.zero_add]
   refine ⟨_,rfl,_,rfl,by omega,by omega,xM (fun l σ H'=>∃ (e4:Option V),σ = [some (.ref rt),some (.int xs.length),some (.int i),some (.int j),e4] /\ Grow [] H1 H' /\ ∀ l':Nat,l' < l -> ¬ misT tab i j l') ⟨_,rfl,g3,fun _ z=>absurd z (Nat.not_lt_zero _)⟩ ?_ ?_⟩
   ·rintro l σ H4 hk ⟨e4,rfl,g4,nl⟩
    have hk':l < tab.length:=by omega
    rw [Int.zero_add]
    have hs4:=g4.sqT hs
    have ha4:=g4.boardsR hall
    obtain ⟨ri,gi,si⟩:=wy ha4 (i:=(i:Int)) (by omega) (by omega)
    obtain ⟨rj,gj,sj⟩:=wy ha4 (i:=(j:Int)) (by omega) (by omega)
    have c1:=sv hT (i:=i) (j:=j) (by omega) (by omega) (by omega) (by omega)
    have c2:=sv hT (i:=j) (j:=l) (by omega) (by omega) (by omega) (by omega)
    obtain ⟨rc,gc,sc⟩:=wy ha4 (i:=yU tab i j) c1.1 (by omega)
    have li:=jb hT (i:=i) (by omega) (by omega)
    have lj:=jb hT (i:=j) (by omega) (by omega)
    have lc:=jb hT (i:=yU tab i j) c1.1 c1.2
    refine ⟨_,rfl,_,rfl,_,rfl,rt,_,_,_,rfl,rfl,hs4,gi,_,rfl,ri,_,_,_,rfl,rfl,si,getI (by omega) (by omega),rt,_,_,_,rfl,rfl,hs4,gc,_,rfl,rc,_,_,_,rfl,rfl,sc,getI (by omega) (by omega),?_⟩
    refine ⟨_,rfl,_,rfl,rt,_,_,_,rfl,rfl,hs4,gi,_,rfl,_,rfl,rt,_,_,_,rfl,rfl,hs4,gj,_,rfl,rj,_,_,_,rfl,rfl,sj,getI (by omega) (by omega),ri,_,_,_,rfl,rfl,si,getI c2.1 (by rw [li]; exact c2.2),rfl,_,rfl,?_⟩
    by_cases c:misT tab i j l
    ·refine zN ?_ ⟨_,rfl,_,rfl,_,rfl,szl rfl,fun t ht=>?_⟩
     ·show (!decide (V.int (yU tab (yU tab i j) l) = V.int (yU tab i (yU tab j l)))) = true
      rw [decide_eq_false (fun z=>c (V.int.inj z))]; rfl
     ·refine q _ _ (g1.trans (g4.trans (Grow.new ht _))) (.inr ⟨i,j,l,⟨⟨hi',hj',hk'⟩,c,fun i' j' l' h1 h2 h3 z=>?_⟩,t,rfl,SqT.of zd⟩)
      rcases z with z | ⟨rfl,z | ⟨rfl,z⟩⟩
      ·exact ni i' j' l' z h2 h3
      ·exact nj j' l' z h3
      ·exact nl l' z
    ·refine zD ?_ ⟨_,rfl,g4,fun l' z=>?_⟩
     ·show (!decide (V.int (yU tab (yU tab i j) l) = V.int (yU tab i (yU tab j l)))) = false
      rw [decide_eq_true (congrArg V.int (Classical.not_not.mp c))]; rfl
     ·by_cases w:l' < l
      ·exact nl l' w
      ·rw [show l' = l by omega]; exact c
   ·rintro σ H4 ⟨e4,rfl,g4,nl⟩
    refine ⟨_,_,rfl,g4,fun j' l' z hl'=>?_⟩
    by_cases w:j' < j
    ·exact nj j' l' w hl'
    ·rw [show j' = j by omega]; exact nl l' (by omega)
  ·rintro σ H3 ⟨e3,e4,rfl,g3,nj⟩
   refine ⟨_,_,_,rfl,g3,fun i' j' l' z hj' hl'=>?_⟩
   by_cases w:i' < i
   ·exact ni i' j' l' w hj' hl'
   ·rw [show i' = i by omega]; exact nj j' l' (by omega) hl'
 ·rintro σ H2 ⟨e2,e3,e4,rfl,g2,ni⟩
  exact q _ _ (g1.trans g2) (.inl ⟨rfl,fun i j l h1 h2 h3=>ni i j l (by omega) h2 h3⟩)
theorem uZ:FnScope ["deeds","table","i","row","j","number"] ["deeds","table"] (zg (top 30)):=⟨rfl,rfl,rfl,by decide +kernel,rfl,by decide +kernel,by decide +kernel⟩
theorem VG (F:Fun K "held" "held" (top 30) f fd) (B:Blt mg) {A_NoTable:Addr} (x_NoTable:ExcC K mg "NoTable" A_NoTable) (qc0:zo P w K mg base n "by_table_then" ["one","other"] (uh K)) (qc1:zw P w K mg base n "need_table_of" ["deeds","table"] (vc A_NoTable K))  (g_enumerate:mg "enumerate" = none)   :
  FnOk P w K mg base (CX1 P w) (n + 1) f fd ["deeds","table"] (uT A_NoTable K):=by
 refine Fun.okX F uZ w6 (fun cdv A outer s H vs Q E hr h=>?_)
 obtain ⟨x,y,rfl,dd,dt,m,hd,ht,s1,s2,qo,qe⟩:=h
 refine ⟨_,(zc (yg (zF qc1 (zT fun _ _ _ z=>z) hr rfl (za (pv 0) (za (pv 1) zb)))) (zc (wQ PassesOwn.leaving rfl (ue true (K:=K) rfl rfl g_enumerate (za (pv 1) zb)) (sU rfl (yk (zz (i:=2) uZ.nd rfl (Or.inl rfl)) (yk (zz (i:=3) uZ.nd rfl (Or.inl rfl)) uq))) (zf (wQ PassesOwn.leaving rfl (ue true (K:=K) rfl rfl g_enumerate (za (pv 3) zb)) (sU rfl (yk (zz (i:=4) uZ.nd rfl (Or.inl rfl)) (yk (zz (i:=5) uZ.nd rfl (Or.inl rfl)) uq))) (zf (zM (zB (V7 hr) (zH zJ (pv 0) (pv 5) (fun _ _=>rfl)) (zj qc0 hr rfl (za (zH zJ (pv 0) (pv 2) (fun _ _=>rfl)) (za (zH zJ (pv 0) (pv 4) (fun _ _=>rfl)) zb))) (zG _)) (zf (zq (yz (za (pv 2) (za (pv 4) zb))))) zp))))) (zf (zq jH)))),?_⟩
 refine ⟨_,rfl,_,rfl,_,_,rfl,dd,dt,m,hd,ht,s1,s2,fun c H1 g1=>?_,fun c e H' g=>qe c e _ g⟩
 obtain ⟨R,M,ds,tab,hDT,_⟩:=UC hd ht c
 have q:∀ y H',Grow [] H H' -> jl K H' R ds tab y -> Q y H':=fun y H' g _=>qo c y H' g
 clear qo qe hd ht s1 s2 c
 obtain ⟨hx0,hy0,r1,r60,m1,m5,hD,hT⟩:=hDT.grow g1
 obtain ⟨rd,xs,rfl,hxs,hda⟩:=hx0
 obtain ⟨rt,ys,rfl,hys,hta⟩:=hy0
 have dl:=hda.len
 have tl:=hta.len
 have dR:=hD.1
 have tR:=hT.1
 refine ⟨_,rfl,rt,_,rfl,hys,rE (xs:=ys) (fun i σ H'=>∃ (e2 e3 e4 e5:Option V),σ = [some (.ref rd),some (.ref rt),e2,e3,e4,e5] /\ Grow [] H1 H' /\ ∀ i' j':Nat,i' < i -> j' < R -> ¬ misH ds tab i' j') ⟨_,_,_,_,rfl,Grow.refl _ _,fun _ _ z=>absurd z (Nat.not_lt_zero _)⟩ (fun i σ H' _ ⟨_,_,_,_,_,g,_⟩=>g.sqT hys) ?_ ?_⟩
 ·rintro i x σ H2 T hx2 ⟨e2,e3,e4,e5,rfl,g2,ni⟩ hTn
  obtain ⟨row,hrow,ri,rfl,si0⟩:=hta.get hx2
  have hi:i < R:=by rw [← tR]; exact (List.getElem?_eq_some_iff.mp hrow).1
  have erow:tab.getD i [] = row:=by rw [List.getD_eq_getElem?_getD,hrow]; rfl
  have rok:=hT.2 row (List.mem_of_getElem? hrow)
  have gT:=Grow.new (m:=[]) hTn (.tup [.int i,.ref ri])
  refine ⟨T,_,rfl,SqT.of zd,rfl,_,_,rfl,_,_,rfl,rfl,?_⟩
  have gA:=g2.trans gT
  refine ⟨_,rfl,ri,_,rfl,gA.sqT si0,rE (xs:=row.map V.int) (fun j σ H'=>∃ (e4 e5:Option V),σ = [some (.ref rd),some (.ref rt),some (.int i),some (.ref ri),e4,e5] /\ Grow [] H1 H' /\ ∀ j':Nat,j' < j -> ¬ misH ds tab i j') ⟨_,_,rfl,gA,fun _ z=>absurd z (Nat.not_lt_zero _)⟩ (fun j σ H' _ ⟨_,_,_,g,_⟩=>g.sqT si0) ?_ ?_⟩
  ·rintro j x σ H3 T2 hx3 ⟨e4,e5,rfl,g3,nj⟩ hT2
   have hj:j < R:=by
    have:=(List.getElem?_eq_some_iff.mp hx3).1
    rw [List.length_map,rok.1] at this; exact this
   have ex:x = V.int (yU tab i j):=by
    unfold yU
    rw [Int.toNat_natCast,Int.toNat_natCast,erow,List.getD_eq_getElem?_getD]
    rw [List.getElem?_map] at hx3
    cases e:row[j]? with
    | none=>rw [e] at hx3; cases hx3
    | some v=>rw [e] at hx3; cases hx3; rfl
   subst ex
   have c1:=sv hT (i:=i) (j:=j) (by omega) (by omega) (by omega) (by omega)
   refine ⟨T2,_,rfl,SqT.of zd,rfl,_,_,rfl,_,_,rfl,rfl,?_⟩
   have gB:=g3.trans (Grow.new (m:=[]) hT2 (.tup [.int j,.int (yU tab i j)]))
   have hxs4:=gB.sqT hxs
   have hda4:=gB.boardsR hda
   obtain ⟨rn,gn,sn⟩:=wy hda4 (i:=yU tab i j) c1.1 (by omega)
   obtain ⟨ra,ga,sa⟩:=Y4 hda4 (i:=i) (by omega)
   obtain ⟨rb,gb,sb⟩:=Y4 hda4 (i:=j) (by omega)
   have oka:=hD.2 _ (yO (ms:=ds) (i:=i) (by omega))
   have okb:=hD.2 _ (yO (ms:=ds) (i:=j) (by omega))
   refine ⟨_,rfl,_,rfl,rd,_,_,_,rfl,rfl,hxs4,gn,_,rfl,_,rfl,rd,_,_,_,rfl,rfl,hxs4,ga,_,rfl,_,rfl,rd,_,_,_,rfl,rfl,hxs4,gb,_,_,rfl,M,_,_,⟨ra,rfl,sa⟩,⟨rb,rfl,sb⟩,oka.2,okb.1,by rw [oka.1]; exact m5,fun y5 H5 g5 k5=>?_⟩
   obtain ⟨r5,rfl,h5⟩:=k5
   refine ⟨rn,r5,_,_,rfl,rfl,g5.sqT sn,SqT.of h5,vw _,vw _,_,rfl,?_⟩
   rw [Vq]
   by_cases c:misH ds tab i j
   ·refine zN (by rw [decide_eq_false c]; rfl) ⟨_,rfl,_,rfl,szl rfl,fun t ht=>?_⟩
    refine q _ _ (g1.trans (gB.trans (g5.trans (Grow.new ht _)))) (.inr ⟨i,j,⟨⟨hi,hj⟩,c,fun i' j' h1 h2 z=>?_⟩,t,rfl,SqT.of zd⟩)
    rcases z with z | ⟨rfl,z⟩
    ·exact ni i' j' z h2
    ·exact nj j' z
   ·refine zD (by rw [decide_eq_true (Classical.not_not.mp c)]; rfl) ⟨_,_,rfl,gB.trans g5,fun j' z=>?_⟩
    by_cases w:j' < j
    ·exact nj j' w
    ·rw [show j' = j by omega]; exact c
  ·rintro σ H3 ⟨e4,e5,rfl,g3,nj⟩
   rw [List.length_map,rok.1] at nj
   refine ⟨_,_,_,_,rfl,g3,fun i' j' z hj'=>?_⟩
   by_cases w:i' < i
   ·exact ni i' j' w hj'
   ·rw [show i' = i by omega]; exact nj j' hj'
 ·rintro σ H2 ⟨e2,e3,e4,e5,rfl,g2,ni⟩
  exact q _ _ (g1.trans g2) (.inl ⟨rfl,fun i j h1 h2=>ni i j (by omega) h2⟩)
theorem xY:FnScope ["deeds","members","numbers"] ["deeds"] (zg (top 29)):=⟨rfl,rfl,rfl,by decide +kernel,rfl,by decide +kernel,by decide +kernel⟩
theorem qB (F:Fun K "own_table" "own_table" (top 29) f fd) (B:Blt mg) {A_NoTable:Addr} {A_TooMany:Addr} (x_NoTable:ExcC K mg "NoTable" A_NoTable) (x_TooMany:ExcC K mg "TooMany" A_TooMany) (qc0:zo P w K mg base n "by_table_then" ["one","other"] (uh K)) (qc1:zw P w K mg base n "family" ["deeds"] (ve A_NoTable A_TooMany K))  (g_enumerate:mg "enumerate" = none)   :
  FnOk P w K mg base (CX1 P w) (n + 1) f fd ["deeds"] (wu A_NoTable A_TooMany K):=by
 refine Fun.okX F xY xD (fun cdv A outer s H vs Q E hr h=>?_)
 obtain ⟨x,rfl,D,m0,hD,hsh,qe,qo⟩:=h
 refine ⟨_,(zc (zA (i:=1) xY.nd rfl (Or.inr rfl) (zF qc1 (zT fun _ _ _ z=>z) hr rfl (za (pv 0) zb))) (zc (zA (i:=2) xY.nd rfl (Or.inr rfl) (X8 (Room.u1F hr) (CSc.of (N':=["number","member"]) (sub:=[none,none]) (zg (top 29)) ["deeds","members","numbers"] rfl rfl (by decide +kernel) rfl) rfl (ue true (K:=K) rfl rfl g_enumerate (za (pv 1) zb)) (fun _ _ _ _ _ _=>Vf (K:=K) 2 rfl rfl (yk (zz (i:=0) (show (["number","member"]:List Str).Nodup by decide +kernel) rfl (Or.inl rfl) (Or.inr rfl)) (yk (zz (i:=1) (show (["number","member"]:List Str).Nodup by decide +kernel) rfl (Or.inl rfl) (Or.inr rfl)) uq)) rfl rfl) (fun _ _ _ _ _ _=>zQ) (fun _ _ _ _ _ _=>(pv 1)) (fun _ _ _ _ _ _=>(pv 0)))) (zf (zq (z5 z9 rfl B.tuple zS (za (XQ (CScC.of (N':=["one","members","numbers"]) (sub:=[none,some 1,some 2]) (zg (top 29)) ["deeds","members","numbers"] rfl rfl (by decide +kernel) (by decide +kernel) rfl) rfl (xG (pv 1)) (fun _ _ _ _ _ _=>zz (i:=0) (show (["one","members","numbers"]:List Str).Nodup by decide +kernel) rfl (Or.inr rfl) (Or.inl rfl)) (fun _ _ _ _ _ _=>zQ) (fun _ _ _ _ _ _=>(z5 (wB (K:=K) rfl) rfl B.tuple zS (za (zY (CSc.nestO (N2:=["other","numbers","one"]) (sub2:=[none,some 2,some 0]) (CScC.of (N':=["one","members","numbers"]) (sub:=[none,some 1,some 2]) (zg (top 29)) ["deeds","members","numbers"] rfl rfl (by decide +kernel) (by decide +kernel) rfl) rfl (by decide +kernel) rfl) rfl (Ve (K:=K) rfl (pv 1)) (fun _ _ _ _ _ _=>zz (i:=0) (show (["other","numbers","one"]:List Str).Nodup by decide +kernel) rfl (Or.inl rfl)) (fun _ _ _ _ _ _=>zQ) (fun _ _ _ _ _ _=>(YR (Room.u1F hr) (pv 1) (zj qc0 hr rfl (za (pv 2) (za (pv 0) zb))) (fun _ _=>rfl)))) zb)))) zb)))))),?_⟩
 refine ⟨_,rfl,_,rfl,D,m0,hD,hsh,fun c e H' g=>qe c e _ g,fun c=>⟨fun _ _ _ _ _ e H' g=>(qo c).1 e H' g,fun ms S hx er hM s1 s5 m1 m4 y f H1 g1 hB hL h60=>?_⟩⟩
 have hMk:MksAt K H x ms S:=⟨hx,hM,s1,s5,m1,m4,hL.ok.few h60⟩
 have q:∀ y f H',Grow [] H H' -> FamL ms S f -> yJ K H' y (ownT (zO f)) -> Q y H':=fun y f H' g _ _=>(qo c).2 y H' g
 clear qo qe hD hsh
 have hF:=hL.fam hMk.ok hMk.few
 have s5:=hMk.s5
 refine xJ ?_
 revert hF
 generalize hfam:zO f = fam at hB
 intro hF
 obtain ⟨r,xs,rfl,hs,ha⟩:=hB
 have xl:=ha.len
 have f60:=hF.l60
 refine ⟨_,rfl,r,_,rfl,hs,ZO (xs:=xs) (fun i zs σ' H'=>(∃ e0 e1:Option V,σ' = [e0,e1]) /\ zs = xC 0 (fam.take i) /\ Grow [] H1 H') ⟨⟨_,_,rfl⟩,rfl,Grow.refl _ _⟩ (fun i zs σ H' p=>p.2.2.sqT hs) ?_ ?_⟩
 ·rintro i x zs σ H2 T hx ⟨⟨e0,e1,rfl⟩,rfl,g2⟩ hT
  obtain ⟨d,hd,b,rfl,hb⟩:=ha.get hx
  have hi:i < fam.length:=(List.getElem?_eq_some_iff.mp hd).1
  have ed:fam[i] = d:=(List.getElem?_eq_some_iff.mp hd).2
  have gT:=Grow.new (m:=[]) hT (.tup [.int i,.ref b])
  have tk:fam.take (i + 1) = fam.take i ++ [d]:=by rw [List.take_succ,hd]; rfl
  have nt:d ∉ fam.take i:=fun z=>by
   have:=hF.nd
   rw [← List.take_append_drop (i + 1) fam,tk] at this
   have:=(List.nodup_append.mp this).1
   exact (List.nodup_append.mp this).2.2 d z d (List.mem_singleton.mpr rfl) rfl
  have pk:putK (xC 0 (fam.take i)) (kI d) (V.int i) = xC 0 (fam.take (i + 1)):=by
   rw [jY _ (j9 0 nt),tk,rQ,Nat.zero_add,List.length_take,Nat.min_eq_left (Nat.le_of_lt hi)]; rfl
  refine ⟨T,_,rfl,SqT.of zd,rfl,_,_,rfl,_,_,rfl,rfl,?_⟩
  refine ⟨_,rfl,_,rfl,zn (by rw [rR,List.length_take]; omega),b,kI d,rfl,by rw [Y2]; exact hb,⟨_,_,rfl⟩,pk,g2.trans gT⟩
 rintro zs σ H2 ⟨_,rfl,g2⟩ l hl
 rw [xl,List.take_length]
 refine xJ ?_
 have gl:=Grow.new (m:=[]) hl (.dT (xC 0 fam))
 have hl3:upd H2 l (.dT (xC 0 fam)) l = some (.dT (xC 0 fam)):=zd
 have g3:=g2.trans gl
 revert hl3 g3
 generalize upd H2 l (.dT (xC 0 fam)) = H3
 intro hl3 g3
 have hs3:=g3.sqT hs
 have ha3:=ha.imp fun _ _ z=>z.grow g3
 refine ⟨_,rfl,r,rfl,⟨_,hs3⟩,rV (xs:=xs) (fun i ys H'=>AllR (zE K H') ys ((fam.take i).map fun a=>fam.map fun b=>(ixF fam (zR a b):Int)) /\ Grow [] H3 H') ⟨trivial,Grow.refl _ _⟩ (fun i ys H' p=>p.2.sqT hs3) ?_ ?_⟩
 ·rintro i x ys H4 hx ⟨hy,g4⟩
  obtain ⟨a,hka,ka⟩:=ha3.get hx
  have hma:a ∈ fam:=List.mem_of_getElem? hka
  have hi:i < fam.length:=(List.getElem?_eq_some_iff.mp hka).1
  have tk:fam.take (i + 1) = fam.take i ++ [a]:=by rw [List.take_succ,hka]; rfl
  refine ⟨_,rfl,r,rfl,⟨_,g4.sqT hs3⟩,rV (xs:=xs) (fun j zs H'=>zs = ((fam.take j).map fun b=>(ixF fam (zR a b):Int)).map V.int /\ Grow [] H4 H') ⟨rfl,Grow.refl _ _⟩ (fun j zs H' p=>(g4.trans p.2).sqT hs3) ?_ ?_⟩
  ·rintro j x2 zs H5 hx2 ⟨rfl,g5⟩
   obtain ⟨b,hkb,kb⟩:=ha3.get hx2
   have hmb:b ∈ fam:=List.mem_of_getElem? hkb
   have hj:j < fam.length:=(List.getElem?_eq_some_iff.mp hkb).1
   have tkb:fam.take (j + 1) = fam.take j ++ [b]:=by rw [List.take_succ,hkb]; rfl
   have g35:=g4.trans g5
   refine ⟨_,rfl,_,rfl,_,rfl,_,_,rfl,S,a,b,(ka.grow g35).board,(kb.grow g35).board,(hF.dd a hma).2,(hF.dd b hmb).1,by rw [(hF.dd a hma).1]; exact s5,fun y6 H6 g6 k6=>?_⟩
   obtain ⟨b6,rfl,hb6⟩:=k6
   rw [← Y2] at hb6
   have hv:=rS 0 (hF.cl a hma b hmb)
   rw [Nat.zero_add] at hv
   refine ⟨l,_,rfl,hv ▸ DGet.t ((g35.trans g6).keep _ _ (by simp) hl3) hb6,zn (by rw [List.length_map,List.length_map,List.length_take]; omega),?_,g5.trans g6⟩
   rw [tkb,List.map_append,List.map_append]; rfl
  ·rintro zs H5 ⟨rfl,g5⟩ lz hlz
   rw [xl,List.take_length]
   refine ⟨lz,_,rfl,.inl ⟨SqL.of zd,fun tz htz=>?_⟩⟩
   have gz:=g5.trans ((Grow.new (m:=[]) hlz (.lst ((fam.map fun b=>(ixF fam (zR a b):Int)).map V.int))).trans (Grow.new htz (.tup ((fam.map fun b=>(ixF fam (zR a b):Int)).map V.int))))
   refine ⟨zn (by rw [hy.len,List.length_map,List.length_take]; omega),?_,g4.trans gz⟩
   rw [tk,List.map_append]
   exact (gz.boardsR hy).app (.one ⟨tz,rfl,SqT.of zd⟩)
 rintro ys H4 ⟨hy,g4⟩ lz hlz
 rw [xl,List.take_length] at hy
 refine ⟨lz,_,rfl,.inl ⟨SqL.of zd,fun tz htz=>?_⟩⟩
 have gz:=(Grow.new (m:=[]) hlz (.lst ys)).trans (Grow.new htz (.tup ys))
 refine q _ f _ (g1.trans (g3.trans (g4.trans gz))) hL ?_
 rw [hfam]
 exact ⟨tz,ys,rfl,SqT.of zd,gz.boardsR hy⟩
theorem Wp:FnScope ["deeds"] ["deeds"] (zg (top 18)):=⟨rfl,rfl,rfl,by decide +kernel,rfl,by decide +kernel,by decide +kernel⟩
theorem Wq (F:Fun K "words" "words" (top 18) f fd) (B:Blt mg) {A_NoTable:Addr} {A_TooMany:Addr} (x_NoTable:ExcC K mg "NoTable" A_NoTable) (x_TooMany:ExcC K mg "TooMany" A_TooMany) (qc0:zw P w K mg base n "grown" ["deeds"] (wr A_NoTable A_TooMany K))     :
  FnOk P w K mg base (CX1 P w) (n + 1) f fd ["deeds"] (wu A_NoTable A_TooMany K):=by
 refine Fun.okX F Wp xD (fun cdv A outer s H vs Q E hr h=>?_)
 obtain ⟨x,rfl,D,m0,hD,hsh,qe,qo⟩:=h
 refine ⟨_,(zf (zq (ZP hr rfl B.tuple (zF qc0 (zT fun _ _ _ z=>z) hr rfl (za (pv 0) zb))))),?_⟩
 refine ⟨_,rfl,_,rfl,D,m0,hD,hsh,fun c e H' g=>qe c e _ g,fun c=>⟨fun _ _ _ _ _ e H' g=>(qo c).1 e H' g,fun ms S hx er hM s1 s5 m1 m4 y f H1 g1 hW hL h60=>?_⟩⟩
 obtain ⟨l,kvs,rfl,hl,hk⟩:=hW
 exact ⟨l,kvs,rfl,hl,fun t ht=>(qo c).2 _ _ (g1.trans (Grow.new ht _))⟩
theorem sP:FnScope ["_law_choice","_law_deeds","_law_table","_law_numbers","_law_tree_here","_law_state"] ["_law_choice","_law_deeds","_law_table","_law_numbers","_law_tree_here","_law_state"] (zg (top 51)):=⟨rfl,rfl,rfl,by decide +kernel,rfl,by decide +kernel,by decide +kernel⟩
theorem sQ (F:Fun K "_law_asked" "_law_asked" (top 51) f fd) (B:Blt mg) {A_NoTable:Addr} {A_NoNumber:Addr} {A_NoTree:Addr} {A_TooMany:Addr} (x_NoTable:ExcC K mg "NoTable" A_NoTable) (x_NoNumber:ExcC K mg "NoNumber" A_NoNumber) (x_NoTree:ExcC K mg "NoTree" A_NoTree) (x_TooMany:ExcC K mg "TooMany" A_TooMany) (qc0:zw P w K mg base n "shared_by" ["deeds","table","numbers","tree","state"] (vA A_NoTable A_NoNumber A_NoTree K)) (qc1:zw P w K mg base n "folded_by" ["table","numbers","tree"] (vf A_NoTable A_NoNumber A_NoTree K)) (qc2:zw P w K mg base n "broken" ["table"] (sL A_NoTable K)) (qc3:zw P w K mg base n "held" ["deeds","table"] (uT A_NoTable K)) (qc4:zw P w K mg base n "own_table" ["deeds"] (wu A_NoTable A_TooMany K)) (qc5:zw P w K mg base n "words" ["deeds"] (wu A_NoTable A_TooMany K)) (qc6:zw P w K mg base n "family" ["deeds"] (ve A_NoTable A_TooMany K))     :
  FnOk P w K mg base (CX1 P w) (n + 1) f fd ["_law_choice","_law_deeds","_law_table","_law_numbers","_law_tree_here","_law_state"] (vB A_NoTable A_NoNumber A_NoTree A_TooMany K):=by
 refine Fun.okX F sP Wj (fun cdv A outer s H vs Q E hr h=>?_)
 obtain ⟨x,y,z,u,w,v,rfl,c,dd,dt,dn,dr,ds,m,rfl,c7,hd,ht,hn,hr',hs,bd,⟨q,qe⟩,qm⟩:=h
 refine ⟨_,(zc (zM (zB yy (pv 0) ze (zG _)) (zf (zq (zF qc6 (zT fun _ _ _ z=>z) hr rfl (za (pv 1) zb)))) zp) (zc (zM (zB yy (pv 0) ze (zG _)) (zf (zq (zF qc5 (zT fun _ _ _ z=>z) hr rfl (za (pv 1) zb)))) zp) (zc (zM (zB yy (pv 0) ze (zG _)) (zf (zq (zF qc4 (zT fun _ _ _ z=>z) hr rfl (za (pv 1) zb)))) zp) (zc (zM (zB yy (pv 0) ze (zG _)) (zf (zq (zF qc3 (zT fun _ _ _ z=>z) hr rfl (za (pv 1) (za (pv 2) zb))))) zp) (zc (zM (zB yy (pv 0) ze (zG _)) (zf (zq (zF qc2 (zT fun _ _ _ z=>z) hr rfl (za (pv 2) zb)))) zp) (zc (zM (zB yy (pv 0) ze (zG _)) (zf (zq (zF qc1 (zT fun _ _ _ z=>z) hr rfl (za (pv 2) (za (pv 3) (za (pv 4) zb)))))) zp) (zf (zq (zF qc0 (zT fun _ _ _ z=>z) hr rfl (za (pv 1) (za (pv 2) (za (pv 3) (za (pv 4) (za (pv 5) zb)))))))))))))),?_⟩
 rcases (by omega:c = 0 \/ c = 1 \/ c = 2 \/ c = 3 \/ c = 4 \/ c = 5 \/ c = 6) with rfl | rfl | rfl | rfl | rfl | rfl | rfl
 ·exact ⟨_,rfl,rfl,_,rfl,zN (decide_eq_true rfl) ⟨_,rfl,_,rfl,dd,m,hd,bd.d,fun n e H' g=>qe 0 (by show (if yi 1 4 dd = false then some 0 else none) = _; rw [if_pos n]) e _ g,fun n=>⟨fun _ _ _ _ _ e H' g=>qm (by show (if yi 1 4 dd = false then some 0 else none) = _; rw [if_neg (by rw [n]; decide)]) e _ g,fun ms S hx er hM s1 s5 m1 m4 y f H' g hB hL h60=>q (by show (if yi 1 4 dd = false then some 0 else none) = _; rw [if_neg (by rw [n]; decide)]) _ _ g⟩⟩⟩
 ·exact ⟨_,rfl,rfl,_,rfl,zD (decide_eq_false fun z=>by have:=V.int.inj z; omega) (zL ⟨_,rfl,rfl,_,rfl,zN (decide_eq_true rfl) ⟨_,rfl,_,rfl,dd,m,hd,bd.d,fun n e H' g=>qe 0 (by show (if yi 1 4 dd = false then some 0 else none) = _; rw [if_pos n]) e _ g,fun n=>⟨fun e H' g=>qm (by show (if yi 1 4 dd = false then some 0 else none) = _; rw [if_neg (by rw [n]; decide)]) e _ g,fun y H' g=>q (by show (if yi 1 4 dd = false then some 0 else none) = _; rw [if_neg (by rw [n]; decide)]) _ _ g⟩⟩⟩)⟩
 ·exact ⟨_,rfl,rfl,_,rfl,zD (decide_eq_false fun z=>by have:=V.int.inj z; omega) (zL ⟨_,rfl,rfl,_,rfl,zD (decide_eq_false fun z=>by have:=V.int.inj z; omega) (zL ⟨_,rfl,rfl,_,rfl,zN (decide_eq_true rfl) ⟨_,rfl,_,rfl,dd,m,hd,bd.d,fun n e H' g=>qe 0 (by show (if yi 1 4 dd = false then some 0 else none) = _; rw [if_pos n]) e _ g,fun n=>⟨fun e H' g=>qm (by show (if yi 1 4 dd = false then some 0 else none) = _; rw [if_neg (by rw [n]; decide)]) e _ g,fun y H' g=>q (by show (if yi 1 4 dd = false then some 0 else none) = _; rw [if_neg (by rw [n]; decide)]) _ _ g⟩⟩⟩)⟩)⟩
 ·exact ⟨_,rfl,rfl,_,rfl,zD (decide_eq_false fun z=>by have:=V.int.inj z; omega) (zL ⟨_,rfl,rfl,_,rfl,zD (decide_eq_false fun z=>by have:=V.int.inj z; omega) (zL ⟨_,rfl,rfl,_,rfl,zD (decide_eq_false fun z=>by have:=V.int.inj z; omega) (zL ⟨_,rfl,rfl,_,rfl,zN (decide_eq_true rfl) ⟨_,rfl,_,rfl,_,_,rfl,dd,dt,m,hd,ht,bd.d,bd.t,fun n y H' g=>q (by show (if xi dd dt = false then some 0 else none) = _; rw [if_neg (by rw [n]; decide)]) _ _ g,fun n e H' g=>qe 0 (by show (if xi dd dt = false then some 0 else none) = _; rw [if_pos n]) e _ g⟩⟩)⟩)⟩)⟩
 ·exact ⟨_,rfl,rfl,_,rfl,zD (decide_eq_false fun z=>by have:=V.int.inj z; omega) (zL ⟨_,rfl,rfl,_,rfl,zD (decide_eq_false fun z=>by have:=V.int.inj z; omega) (zL ⟨_,rfl,rfl,_,rfl,zD (decide_eq_false fun z=>by have:=V.int.inj z; omega) (zL ⟨_,rfl,rfl,_,rfl,zD (decide_eq_false fun z=>by have:=V.int.inj z; omega) (zL ⟨_,rfl,rfl,_,rfl,zN (decide_eq_true rfl) ⟨_,rfl,_,rfl,dt,m,ht,bd.t,fun n y H' g=>q (by show (if yS dt = false then some 0 else none) = _; rw [if_neg (by rw [n]; decide)]) _ _ g,fun n e H' g=>qe 0 (by show (if yS dt = false then some 0 else none) = _; rw [if_pos n]) e _ g⟩⟩)⟩)⟩)⟩)⟩
 ·exact ⟨_,rfl,rfl,_,rfl,zD (decide_eq_false fun z=>by have:=V.int.inj z; omega) (zL ⟨_,rfl,rfl,_,rfl,zD (decide_eq_false fun z=>by have:=V.int.inj z; omega) (zL ⟨_,rfl,rfl,_,rfl,zD (decide_eq_false fun z=>by have:=V.int.inj z; omega) (zL ⟨_,rfl,rfl,_,rfl,zD (decide_eq_false fun z=>by have:=V.int.inj z; omega) (zL ⟨_,rfl,rfl,_,rfl,zD (decide_eq_false fun z=>by have:=V.int.inj z; omega) (zL ⟨_,rfl,rfl,_,rfl,zN (decide_eq_true rfl) ⟨_,rfl,_,rfl,_,rfl,_,_,_,rfl,dt,dn,dr,m,ht,hn,hr',bd.t,bd.n,bd.r,fun h v H' _ _ g=>q h _ _ g,qe⟩⟩)⟩)⟩)⟩)⟩)⟩
 ·exact ⟨_,rfl,rfl,_,rfl,zD (decide_eq_false fun z=>by have:=V.int.inj z; omega) (zL ⟨_,rfl,rfl,_,rfl,zD (decide_eq_false fun z=>by have:=V.int.inj z; omega) (zL ⟨_,rfl,rfl,_,rfl,zD (decide_eq_false fun z=>by have:=V.int.inj z; omega) (zL ⟨_,rfl,rfl,_,rfl,zD (decide_eq_false fun z=>by have:=V.int.inj z; omega) (zL ⟨_,rfl,rfl,_,rfl,zD (decide_eq_false fun z=>by have:=V.int.inj z; omega) (zL ⟨_,rfl,rfl,_,rfl,zD (decide_eq_false fun z=>by have:=V.int.inj z; omega) (zL ⟨_,rfl,_,rfl,_,rfl,_,rfl,_,rfl,_,_,_,_,_,rfl,dd,dt,dn,dr,ds,m,hd,ht,hn,hr',hs,bd.d,bd.t,bd.n,bd.r,q,qe⟩)⟩)⟩)⟩)⟩)⟩)⟩
theorem vR:FnScope ["_law_e","_law_some"] ["_law_e"] (zg (top 52)):=⟨rfl,rfl,rfl,by decide +kernel,rfl,by decide +kernel,by decide +kernel⟩
theorem sR (F:Fun K "_law_word" "_law_word" (top 52) f fd) (B:Blt mg) {A_TooMany:Addr} {A_NoTree:Addr} {A_NoNumber:Addr} {A_NoTable:Addr} {A_AskError:Addr} (v_TooMany:mg "TooMany" = some (.ref A_TooMany)) (v_NoTree:mg "NoTree" = some (.ref A_NoTree)) (v_NoNumber:mg "NoNumber" = some (.ref A_NoNumber)) (v_NoTable:mg "NoTable" = some (.ref A_NoTable)) (kd:KdN K [A_NoTable,A_NoNumber,A_NoTree,A_TooMany] A_AskError)  (g_ValueError:mg "ValueError" = none) :
  FnOkH P w K mg base (n + 1) f fd ["_law_e"] (vF [A_NoTable,A_NoNumber,A_NoTree,A_TooMany] K):=by
 refine UA F vR (fun _=>vo) (fun cdv A outer s H vs Q E e0 hh hr h=>?_)
 obtain ⟨x,rfl,C,i,rfl,ha,hc,q⟩:=h
 refine ⟨_,(zc (zA (i:=1) vR.nd rfl (Or.inl rfl) (xj (za (zh (xT (K:=K) rfl) rfl B.isinstance zt (za (pv 0) (za (y0 rfl v_NoTable (show RelV (.ref A_NoTable) (.ref A_NoTable) from rfl)) zb))) (za (zh (xT (K:=K) rfl) rfl B.isinstance zt (za (pv 0) (za (y0 rfl v_NoNumber (show RelV (.ref A_NoNumber) (.ref A_NoNumber) from rfl)) zb))) (za (zh (xT (K:=K) rfl) rfl B.isinstance zt (za (pv 0) (za (y0 rfl v_NoTree (show RelV (.ref A_NoTree) (.ref A_NoTree) from rfl)) zb))) (za (zh (xT (K:=K) rfl) rfl B.isinstance zt (za (pv 0) (za (y0 rfl v_TooMany (show RelV (.ref A_TooMany) (.ref A_TooMany) from rfl)) zb))) zb)))))) (zc (zM (PW.pt (vU (zB Z9 (Zr PySem.F.plainAttrs_list PySem.F.slot_list_count PySem.F.type_list_count (jw (K:=K) rfl) (pv 1) (za vT zb)) ze (zG _)) (xL (z4 (yc (zh (xT (K:=K) rfl) rfl B.isinstance zt (za (pv 0) (za (yM rfl g_ValueError rK) zb)))))))) (zf (zq z3)) zp) (zf (zq (zH (XF (K:=K) rfl) (xj (za z3 (za z3 (za z3 (za z3 zb))))) (Zr PySem.F.plainAttrs_list PySem.F.slot_list_index PySem.F.type_list_index (jx (K:=K) rfl) (pv 1) (za vT zb)) (fun _ _=>rfl)))))),?_⟩
 refine isiN kd hc ha rfl (j:=0) rfl (isiN kd hc ha rfl (j:=1) rfl (isiN kd hc ha rfl (j:=2) rfl (isiN kd hc ha rfl (j:=3) rfl ⟨szl rfl,fun p hp=>?_⟩)))
 have g:=Grow.new (m:=[]) hp (.lst [V.bl (decide (i = 0)),.bl (decide (i = 1)),.bl (decide (i = 2)),.bl (decide (i = 3))])
 have hpp:upd H p (.lst [V.bl (decide (i = 0)),.bl (decide (i = 1)),.bl (decide (i = 2)),.bl (decide (i = 3))]) p = some (.lst ([decide (i = 0),decide (i = 1),decide (i = 2),decide (i = 3)].map V.bl)):=zd
 have ha1:=g.keep _ _ (by simp) ha
 generalize upd H p _ = H1 at g hpp ha1 ⊢
 have i4:i < 4:=(List.getElem?_eq_some_iff.mp hc).1
 have hcm:C ∈ [A_NoTable,A_NoNumber,A_NoTree,A_TooMany]:=List.mem_of_getElem? hc
 have cnt:(List.countP (fun i=>i == true) [decide (i = 0),decide (i = 1),decide (i = 2),decide (i = 3)]) = 1:=by
  rcases (by omega:i = 0 \/ i = 1 \/ i = 2 \/ i = 3) with rfl | rfl | rfl | rfl <;> rfl
 have idx:List.idxOf true [decide (i = 0),decide (i = 1),decide (i = 2),decide (i = 3)] = i:=by
  rcases (by omega:i = 0 \/ i = 1 \/ i = 2 \/ i = 3) with rfl | rfl | rfl | rfl <;> rfl
 have tm:true ∈ [decide (i = 0),decide (i = 1),decide (i = 2),decide (i = 3)]:=by
  rcases (by omega:i = 0 \/ i = 1 \/ i = 2 \/ i = 3) with rfl | rfl | rfl | rfl <;> simp
 refine ⟨_,rfl,.inl ⟨rfl,_,SqL.of hpp⟩,p,_,rfl,rfl,SqL.of hpp,rfl,_,rfl,zD ?_ ⟨_,rfl,e0,C,_,_,_,rfl,ha1,(fun u r=>r),kd.kk C (List.mem_cons_of_mem _ hcm),kd.kv C (List.mem_cons_of_mem _ hcm),_,rfl,iteF ?_⟩⟩
 ·rw [cnt]; rfl
 refine zL ⟨szl rfl,fun l hl=>?_⟩
 have g2:=Grow.new (m:=[]) hl (.lst [V.str (Str.ofString "table"),.str (Str.ofString "number"),.str (Str.ofString "tree"),.str (Str.ofString "none")])
 have hp2:=g2.keep _ _ (by simp) hpp
 refine ⟨_,rfl,.inl ⟨rfl,_,SqL.of hp2⟩,p,_,rfl,rfl,SqL.of hp2,tm,Nat.le_of_ble_eq_true rfl,?_⟩
 rw [idx]
 refine ⟨l,_,i,.str (nm67 i),rfl,rfl,SqL.of zd,?_,q _ (g.trans g2)⟩
 refine zu ?_
 rcases (by omega:i = 0 \/ i = 1 \/ i = 2 \/ i = 3) with rfl | rfl | rfl | rfl <;> rfl
theorem yZ:FnScope ["_law_choice","_law_deeds","_law_table","_law_numbers","_law_tree_here","_law_state","_law_told_here","_law_e"] ["_law_choice","_law_deeds","_law_table","_law_numbers","_law_tree_here","_law_state"] (zg (top 53)):=⟨rfl,rfl,rfl,by decide +kernel,rfl,by decide +kernel,by decide +kernel⟩
theorem qC (F:Fun K "_law_told" "_law_told" (top 53) f fd) (B:Blt mg) {A_AskError:Addr} {A_NoTable:Addr} {A_NoNumber:Addr} {A_NoTree:Addr} {A_TooMany:Addr} (x_AskError:ExcC K mg "AskError" A_AskError) (x_NoTable:ExcC K mg "NoTable" A_NoTable) (x_NoNumber:ExcC K mg "NoNumber" A_NoNumber) (x_NoTree:ExcC K mg "NoTree" A_NoTree) (x_TooMany:ExcC K mg "TooMany" A_TooMany) (kd:KdN K [A_NoTable,A_NoNumber,A_NoTree,A_TooMany] A_AskError) (qc0:zw P w K mg base n "_law_asked" ["_law_choice","_law_deeds","_law_table","_law_numbers","_law_tree_here","_law_state"] (vB A_NoTable A_NoNumber A_NoTree A_TooMany K)) (d__law_word:vz P w K mg base n "_law_word" ["_law_e"] (vF [A_NoTable,A_NoNumber,A_NoTree,A_TooMany] K))    :
  FnOk P w K mg base CX0 (n + 1) f fd ["_law_choice","_law_deeds","_law_table","_law_numbers","_law_tree_here","_law_state"] (qg K):=by
 refine F.ok yZ qP (fun cdv A outer s H vs Q E hr h=>?_)
 obtain ⟨x,y,z,u,w,v,rfl,c,dd,dt,dn,dr,ds,m,rfl,c7,hd,ht,hn,hr',hs,bd,q⟩:=h
 refine ⟨_,(zc (zA (i:=6) yZ.nd rfl (Or.inl rfl) z3) (zc (XW (K:=K) (i:=7) (E:=(fun _ C H'=>(∃ i:Nat,[A_NoTable,A_NoNumber,A_NoTree,A_TooMany][i]? = C /\ nm67 i = wd67 (xp c dd dt dn dr ds)) /\ Grow [] H H')) rfl rfl rfl rfl x_AskError rfl yZ.nd rfl rfl rfl (fun ps=>(zf (yg (zF qc0 (XU rfl) hr rfl (za (pv 0) (za (pv 1) (za (pv 2) (za (pv 3) (za (pv 4) (za (pv 5) zb)))))))))) (fun e=>(zf (zA (i:=6) yZ.nd rfl (Or.inl rfl) (Wg d__law_word rfl (RoomH.of hr) rfl (za (pv 7) zb)))))) (zf (zq (pv 6))))),?_⟩
 refine ⟨⟨_,rfl,_,rfl,_,rfl,_,rfl,_,rfl,_,rfl,_,_,_,_,_,_,rfl,c,dd,dt,dn,dr,ds,m,rfl,c7,hd,ht,hn,hr',hs,bd,⟨fun h y H' g=>?_,fun i h e H' g=>?_⟩,fun h e H' g=>?_⟩,fun e C' σ' H' hl' hn' hE=>?_⟩
 ·have qq:=q _ g
  rw [h] at qq
  exact ⟨_,rfl,qq⟩
 ·refine ⟨⟨i,?_,?_⟩,g⟩
  ·obtain ⟨i3,_⟩:=Xo h
   rcases (by omega:i = 0 \/ i = 1 \/ i = 2) with rfl | rfl | rfl <;> rfl
  ·rw [h]; exact (Xo h).2
 ·exact ⟨⟨3,rfl,by rw [h]; rfl⟩,g⟩
 obtain ⟨⟨i,hi,hw⟩,g⟩:=hE
 obtain ⟨s0,s1,s2,s3,s4,s5,s6,s7,rfl⟩:∃ a b c d e f g h,σ' = [a,b,c,d,e,f,g,h]:=by
  match σ',hl' with
  | [a,b,c,d,e,f,g,h],_=>exact ⟨a,b,c,d,e,f,g,h,rfl⟩
 have hm:C' ∈ [A_NoTable,A_NoNumber,A_NoTree,A_TooMany]:=List.mem_of_getElem? hi
 refine ⟨kd.up _ (List.mem_cons_of_mem _ hm),_,rfl,_,rfl,C',i,rfl,zd,hi,fun H2 g2=>?_⟩
 have qq:=q H2 (g.trans ((Grow.new hn' _).trans g2))
 rw [← hw] at qq
 exact ⟨_,rfl,qq⟩
theorem vI:FnScope ["_law_thing","_law_many"] ["_law_thing","_law_many"] (zg (top 44)):=⟨rfl,rfl,rfl,by decide +kernel,rfl,by decide +kernel,by decide +kernel⟩
theorem vJ (F:Fun K "_law_is_number" "_law_is_number" (top 44) f fd) (B:Blt mg)      :
  FnOk P w K mg base CX0 (n + 1) f fd ["_law_thing","_law_many"] (vg K):=by
 refine F.ok vI xf (fun cdv A outer s H vs Q E hr h=>?_)
 obtain ⟨x,y,rfl,d,m,n,hd,rfl,q⟩:=h
 refine ⟨_,(zf (zq (wP (zh (zV (K:=K) rfl) rfl B.isinstance zt (za (pv 0) (za (yM rfl B.int XD) zb))) (wP (Z1 (zh (zV (K:=K) rfl) rfl B.isinstance zt (za (pv 0) (za (yM rfl B.bool Wx) zb)))) (vL (jK xw Xx ze (pv 0) (pv 1))))))),?_⟩
 refine ⟨_,rfl,_,d,m,_,_,rfl,hd,Xd,_,rfl,?_⟩
 cases d with
 | int i =>
  obtain rfl:=hd.inv_int
  refine iteT ⟨_,rfl,_,_,m,_,_,rfl,hd,ui,_,rfl,_,rfl,iteT ⟨_,rfl,_,_,rfl,rfl,_,rfl,?_⟩⟩
  have q':Q (.bl (decide (0 <= i) && decide (i <= n - 1))) H:=q
  by_cases c:0 <= i
  ·rw [decide_eq_true c,Bool.true_and] at q'
   refine zN (decide_eq_true c) ⟨_,rfl,_,_,rfl,rfl,?_⟩
   show Q (.bl (decide (i < n))) H
   rw [show decide (i < n) = decide (i <= n - 1) from decide_eq_decide.mpr (by omega)]
   exact q'
  ·rw [decide_eq_false c] at q'
   exact zD (decide_eq_false c) q'
 | bool b=>exact iteT ⟨_,rfl,_,_,m,_,_,rfl,hd,ui,_,rfl,_,rfl,iteF q⟩
 | _=>exact iteF q
theorem tG:FnScope ["_law_thing"] ["_law_thing"] (zg (top 48)):=⟨rfl,rfl,rfl,by decide +kernel,rfl,by decide +kernel,by decide +kernel⟩
theorem tH (F:Fun K "_law_leaves" "_law_leaves" (top 48) f fd) (B:Blt mg) {N:Nat} (qc0:zo P w K mg base n "_law_leaves" ["_law_thing"] (yE N K))     :
  FnOk P w K mg base CX0 (n + 1) f fd ["_law_thing"] (yE (N + 1) K):=by
 refine F.ok tG vo (fun cdv A outer s H vs Q E hr h=>?_)
 obtain ⟨x,rfl,d,m,hd,hN,hw,q⟩:=h
 refine ⟨_,(zc (zM (PW.pt (tJ (yc (zh (zV (K:=K) rfl) rfl B.isinstance zt (za (pv 0) (za (yM rfl B.tuple zS) zb)))) (vk (zB yy (zh zk rfl B.len yd (za (pv 0) zb)) ze (zG _))))) (zf (zq (zK V3 (zj qc0 hr rfl (za (zH zJ (pv 0) ze (fun _ _=>rfl)) zb)) (zj qc0 hr rfl (za (zH zJ (pv 0) ze (fun _ _=>rfl)) zb))))) zp) (zf (zq (xj (za (pv 0) zb))))),?_⟩
 refine ⟨_,rfl,_,d,m,_,_,rfl,hd,yQ,_,rfl,?_⟩
 have one:nz67 d = .none \/ tupD d = false -> lvs d = [d].map nz67 -> tRet (tLst (u8 (tVar 0) tNil)) { nx:=fun x H'=>Q V.non H',rt:=Q } (L2.start ["_law_thing"] [x]) H:=fun _ e=>by
  refine ⟨_,rfl,szl rfl,fun l hl=>?_⟩
  have g:=Grow.new (m:=[]) hl (.lst [x])
  exact q l [x] [d] _ hl g zd (.cons (hd.grow (g.mono (by simp))) .nil) e
 cases ht:tupD d with
 | false=>exact iteF (iteF (one (.inr ht) (by rw [WS ht,List.map_cons,VF ht]; rfl)))
 | true =>
  refine iteT ?_
  cases d with
  | tuple es =>
   obtain ⟨a,zs,rfl,hs,hes⟩:=hd.inv_tup
   refine ⟨_,rfl,a,zs,rfl,.inr hs,rfl,_,rfl,?_⟩
   by_cases h2:es.length = 2
   ·match es,h2,hes,hN,hw,hs,q with
    | [da,db],_,hes,hN,hw,hs,q =>
     cases hes with
     | cons oa tb =>
      obtain ⟨xb,rfl,ob⟩:=tb.inv1
      rename_i xa
      refine zN (decide_eq_true rfl) ?_
      have hN2:max da.depth (max db.depth 0) + 1 < N + 1:=hN
      have hw2:wtO da + 2 + (wtO db + 2 + 0) + 3 <= 1000000:=hw
      refine ⟨_,rfl,a,_,_,_,rfl,rfl,hs,rfl,_,rfl,da,m,oa,by omega,by omega,fun l1 xs1 ls1 H1 f1 g1 e1 t1 z1=>?_⟩
      refine ⟨_,rfl,a,_,_,_,rfl,rfl,g1.sqT hs,rfl,_,rfl,db,m,ob.grow (g1.mono (by simp)),by omega,by omega,fun l2 xs2 ls2 H2 f2 g2 e2 t2 z2=>?_⟩
      have k1:=lvs_len (d:=da)
      have k2:=lvs_len (d:=db)
      rw [z1,List.length_map] at k1
      rw [z2,List.length_map] at k2
      refine ⟨l1,l2,xs1,xs2,rfl,rfl,g2.keep _ _ (by simp) e1,e2,Nat.le_of_lt (Xh (by rw [t1.length,t2.length]; omega)),fun l3 hl3=>?_⟩
      have g3:=Grow.new (m:=[]) hl3 (.lst (xs1 ++ xs2))
      have G:=g1.trans (g2.trans g3)
      exact q l3 _ _ _ ((g1.trans g2).free (by simp) hl3) G zd (((t1.grow (g2.mono (by simp))).append t2).grow (g3.mono (by simp))) (by rw [uj,z1,z2,List.map_append])
   ·refine zD (decide_eq_false fun z=>h2 (by have:=V.int.inj z; have:=hes.length; omega)) (one (.inl rfl) ?_)
    rw [WR h2]; rfl
  | _=>cases ht
theorem xZ:FnScope ["_law_thing","_law_many","_law_found"] ["_law_thing","_law_many"] (zg (top 49)):=⟨rfl,rfl,rfl,by decide +kernel,rfl,by decide +kernel,by decide +kernel⟩
theorem u6 (F:Fun K "_law_is_tree" "_law_is_tree" (top 49) f fd) (B:Blt mg) (qc0:zo P w K mg base n "_law_is_number" ["_law_thing","_law_many"] (vg K)) (qc1:zo P w K mg base n "_law_leaves" ["_law_thing"] (yE 62 K))     :
  FnOk P w K mg base CX0 (n + 1) f fd ["_law_thing","_law_many"] (vC K):=by
 refine F.ok xZ xf (fun cdv A outer s H vs Q E hr h=>?_)
 obtain ⟨x,y,rfl,d,m,n,hd,rfl,n1,n40,dp,hw,q⟩:=h
 refine ⟨_,(zc (zA (i:=2) xZ.nd rfl (Or.inl rfl) (zj qc1 hr rfl (za (pv 0) zb))) (zf (zq (wP (zh (yw rfl) rfl B.all tY (za (zY (CSc.of (N':=["_law_one","_law_many"]) (sub:=[none,some 1]) (zg (top 49)) ["_law_thing","_law_many","_law_found"] rfl rfl (by decide +kernel) rfl) rfl (Z4 (pv 2)) (fun _ _ _ _ _ _=>zz (i:=0) (show (["_law_one","_law_many"]:List Str).Nodup by decide +kernel) rfl (Or.inl rfl)) (fun _ _ _ _ _ _=>zQ) (fun _ _ _ _ _ _=>(zj qc0 hr rfl (za (pv 0) (za (pv 1) zb))))) zb)) (vL (vm (WB hr) (pv 2) (rF rfl rfl B.list rfl B.range (za (pv 1) zb)) (zG _))))))),?_⟩
 refine ⟨_,rfl,_,rfl,d,m,hd,by omega,hw,fun l xs ls H1 f1 g1 e1 t1 z1=>?_⟩
 have hlen:=lvs_len (d:=d)
 rw [z1,List.length_map] at hlen
 have hxl:=t1.length
 have big:∀ i:Nat,i <= xs.length -> i < sizeLine:=fun i hi=>Nat.lt_of_le_of_lt (show i <= 1000001 by omega) (by decide)
 refine ⟨_,rfl,l,rfl,⟨_,SqL.of e1⟩,Zu (xs:=xs) (fun i ys σ' H'=>H' = H1 /\ (∃ e,σ' = [e,some (.int n)]) /\ ys = ((ls.take i).map (zC 0 ((n:Int) - 1))).map V.bl) ⟨rfl,⟨_,rfl⟩,rfl⟩ ?_ ?_ ?_⟩
 ·rintro i ys σ' H' _ ⟨rfl,_⟩
  exact SqL.of e1
 ·rintro i x ys σ' H' hx ⟨rfl,⟨e,rfl⟩,rfl⟩
  obtain ⟨dx,hdx,ox⟩:=t1.get hx
  have hi:i < xs.length:=(List.getElem?_eq_some_iff.mp hx).1
  refine ⟨_,rfl,_,rfl,_,_,rfl,dx,m,n,ox,rfl,?_,rfl,⟨_,rfl⟩,?_⟩
  ·rw [List.length_map,List.length_map,List.length_take]; exact big _ (by omega)
  ·obtain ⟨hi2,edx⟩:=List.getElem?_eq_some_iff.mp hdx
   rw [List.take_succ_eq_append_getElem hi2,edx,List.map_append,List.map_append]; rfl
 ·rintro ys σ' H' ⟨rfl,_,rfl⟩ l2 hl2
  have g2:=Grow.new (m:=[]) hl2 (.lst (((ls.take xs.length).map (zC 0 ((n:Int) - 1))).map V.bl))
  have e1':=g2.keep _ _ (by simp) e1
  have G2:=g1.trans g2
  refine ⟨l2,_,rfl,SqL.of zd,_,rfl,?_⟩
  have eall:(((ls.take xs.length).map (zC 0 ((n:Int) - 1))).all id) = ls.all (zC 0 ((n:Int) - 1)):=by
   rw [hxl,List.take_length,List.all_map]; rfl
  rw [eall]
  generalize upd H' l2 (.lst (((ls.take xs.length).map (zC 0 ((n:Int) - 1))).map V.bl)) = H2 at e1' G2 ⊢
  cases hall:ls.all (zC 0 ((n:Int) - 1)) with
  | false =>
   have:=q _ G2
   have e:xE d n = false:=by
    cases z:xE d n with
    | false=>rfl
    | true=>rw [sN z1 z] at hall; cases hall
   rw [e] at this
   exact iteF this
  | true =>
   obtain ⟨is,rfl,_,rfl⟩:=Xj t1 hall
   refine iteT ⟨_,rfl,_,rfl,n,rfl,by omega,fun l3 hl3=>?_⟩
   have g3:=Grow.new (m:=[]) hl3 (.lst ((List.range n).map fun i:Nat=>V.int i))
   have er:((List.range n).map fun i:Nat=>V.int i) = ((List.range n).map fun i:Nat=>(i:Int)).map V.int:=by rw [List.map_map]; rfl
   refine ⟨l,l3,_,_,rfl,rfl,SqL.of (g3.keep _ _ (by simp) e1'),SqL.of zd,rp,by rw [er]; exact rp,?_⟩
   have e:eqVs (is.map V.int) ((List.range n).map fun i:Nat=>V.int i) = xE d n:=by
    rw [er,wU,jz z1]
   show Q (.bl (eqVs (is.map V.int) ((List.range n).map fun i:Nat=>V.int i))) _
   rw [e]
   exact q _ (G2.trans g3)
theorem wK:FnScope ["_law_thing","_law_many"] ["_law_thing","_law_many"] (zg (top 45)):=⟨rfl,rfl,rfl,by decide +kernel,rfl,by decide +kernel,by decide +kernel⟩
theorem wL (F:Fun K "_law_are_numbers" "_law_are_numbers" (top 45) f fd) (B:Blt mg) (qc0:zo P w K mg base n "_law_is_number" ["_law_thing","_law_many"] (vg K))     :
  FnOk P w K mg base CX0 (n + 1) f fd ["_law_thing","_law_many"] (yT K):=by
 refine F.ok wK xf (fun cdv A outer s H vs Q E hr h=>?_)
 obtain ⟨x,y,rfl,d,m,n,hd,rfl,hl,q⟩:=h
 refine ⟨_,(zf (zq (wP (zh (zV (K:=K) rfl) rfl B.isinstance zt (za (pv 0) (za (yM rfl B.tuple zS) zb))) (vL (zh (yw rfl) rfl B.all tY (za (zY (CSc.of (N':=["_law_one","_law_many"]) (sub:=[none,some 1]) (zg (top 45)) ["_law_thing","_law_many"] rfl rfl (by decide +kernel) rfl) rfl (xG (pv 0)) (fun _ _ _ _ _ _=>zz (i:=0) (show (["_law_one","_law_many"]:List Str).Nodup by decide +kernel) rfl (Or.inl rfl)) (fun _ _ _ _ _ _=>zQ) (fun _ _ _ _ _ _=>(zj qc0 hr rfl (za (pv 0) (za (pv 1) zb))))) zb)))))),?_⟩
 refine ⟨_,rfl,_,d,m,_,_,rfl,hd,yQ,_,rfl,?_⟩
 cases d with
 | tuple ds =>
  obtain ⟨a,xs,rfl,hs,ha⟩:=hd.inv_tup
  have hxl:=ha.length
  have hl:ds.length <= 1000:=hl
  refine iteT ⟨_,rfl,a,rfl,⟨_,hs⟩,ya (xs:=xs) (fun i ys H'=>ys = ((ds.take i).map (zC 0 (n - 1))).map V.bl /\ H' = H) ⟨rfl,rfl⟩ (fun i ys H' p=>by rw [p.2]; exact hs) ?_ ?_⟩
  ·rintro i x ys H' hx ⟨rfl,rfl⟩
   obtain ⟨e,he,oe⟩:=ha.get hx
   have hi:i < xs.length:=(List.getElem?_eq_some_iff.mp hx).1
   refine ⟨_,rfl,_,rfl,_,_,rfl,e,m,n,oe,rfl,zn (by rw [List.length_map,List.length_map,List.length_take]; omega),?_,rfl⟩
   rw [List.take_succ,he,List.map_append,List.map_append]; rfl
  ·rintro ys H' ⟨rfl,rfl⟩ l hl'
   rw [hxl,List.take_length]
   refine ⟨l,ds.map (zC 0 (n - 1)),rfl,SqL.of zd,?_⟩
   have es:zP n (.tuple ds) = (ds.map (zC 0 (n - 1))).all id:=by rw [List.all_map]; rfl
   rw [← es]
   exact q _ (Grow.new hl' _)
 | _=>exact iteF (q _ (Grow.refl _ _))
theorem xv:FnScope ["_law_thing","_law_most","_law_many"] ["_law_thing","_law_most"] (zg (top 46)):=⟨rfl,rfl,rfl,by decide +kernel,rfl,by decide +kernel,by decide +kernel⟩
theorem vK (F:Fun K "_law_are_deeds" "_law_are_deeds" (top 46) f fd) (B:Blt mg) (qc0:zo P w K mg base n "_law_are_numbers" ["_law_thing","_law_many"] (yT K))     :
  FnOk P w K mg base CX0 (n + 1) f fd ["_law_thing","_law_most"] (uU K):=by
 refine F.ok xv xf (fun cdv A outer s H vs Q E hr h=>?_)
 obtain ⟨x,y,rfl,d,m,hi,hd,rfl,hsh,q⟩:=h
 refine ⟨_,(zc (zM (PW.pt (vU (z4 (yc (zh (zV (K:=K) rfl) rfl B.isinstance zt (za (pv 0) (za (yM rfl B.tuple zS) zb))))) (vU (z4 (yV xw xw ze (zh zk rfl B.len yd (za (pv 0) zb)) (pv 1))) (xL (z4 (yc (zh (zV (K:=K) rfl) rfl B.isinstance zt (za (zH zJ (pv 0) ze (fun _ _=>rfl)) (za (yM rfl B.tuple zS) zb))))))))) (zf (zq vT)) zp) (zc (zA (i:=2) xv.nd rfl (Or.inr rfl) (zh zk rfl B.len yd (za (zH zJ (pv 0) ze (fun _ _=>rfl)) zb))) (zc (zM (PW.pt (vU (z4 (yV xw xw ze (pv 2) ze)) (xL (z4 (yc (zh (yw rfl) rfl B.all tY (za (zY (CSc.of (N':=["_law_one","_law_many"]) (sub:=[none,some 2]) (zg (top 46)) ["_law_thing","_law_most","_law_many"] rfl rfl (by decide +kernel) rfl) rfl (xG (pv 0)) (fun _ _ _ _ _ _=>zz (i:=0) (show (["_law_one","_law_many"]:List Str).Nodup by decide +kernel) rfl (Or.inl rfl)) (fun _ _ _ _ _ _=>zQ) (fun _ _ _ _ _ _=>(zj qc0 hr rfl (za (pv 0) (za (pv 1) zb))))) zb))))))) (zf (zq vT)) zp) (zf (zq (vm (WB hr) (zY (CSc.of (N':=["_law_one"]) (sub:=[none]) (zg (top 46)) ["_law_thing","_law_most","_law_many"] rfl rfl (by decide +kernel) rfl) rfl (xG (pv 0)) (fun _ _ _ _ _ _=>zz (i:=0) (show (["_law_one"]:List Str).Nodup by decide +kernel) rfl (Or.inl rfl)) (fun _ _ _ _ _ _=>zQ) (fun _ _ _ _ _ _=>(zh (yI (K:=K) rfl) rfl B.len yd (za (pv 0) zb)))) (zK V4 (xj (za (pv 2) zb)) (zh zk rfl B.len yd (za (pv 0) zb))) (zG _))))))),?_⟩
 refine ⟨_,rfl,_,d,m,_,_,rfl,hd,yQ,_,rfl,?_⟩
 cases d with
 | tuple ds =>
  obtain ⟨a,xs,rfl,hs,ha⟩:=hd.inv_tup
  have hxl:=ha.length
  obtain ⟨hl,hlm⟩:=ul hsh
  refine iteF ⟨_,rfl,a,_,rfl,.inr hs,_,_,rfl,rfl,_,rfl,?_⟩
  by_cases c1:1 <= ds.length
  ·refine zN (decide_eq_true (by omega)) ⟨_,rfl,_,_,rfl,rfl,?_⟩
   by_cases c2:(ds.length:Int) <= hi
   ·refine ⟨_,rfl,zD (by rw [decide_eq_true (show (xs.length:Int) <= hi by omega)]; rfl) ?_⟩
    have c0:0 < ds.length:=by omega
    obtain ⟨x0,hx0⟩:∃ x,xs[0]? = some x:=⟨_,List.getElem?_eq_getElem (by omega)⟩
    obtain ⟨e0,he0,oe0⟩:=ha.get hx0
    have h0:ds.getD 0 .none = e0:=by rw [List.getD_eq_getElem?_getD,he0]; rfl
    refine ⟨_,rfl,a,_,0,_,rfl,rfl,hs,zu (j:=0) hx0,_,e0,m,_,_,rfl,oe0,yQ,_,rfl,?_⟩
    cases e0 with
    | tuple es0 =>
     refine iteF (zL ?_)
     obtain ⟨a0,xs0,rfl,hs0,ha0⟩:=oe0.inv_tup
     have hl0:=ha0.length
     refine ⟨_,rfl,a,_,0,_,rfl,rfl,hs,zu (j:=0) hx0,a0,_,rfl,.inr hs0,?_⟩
     have E:=VC c1 c2 h0 (List.mem_of_getElem? he0)
     refine xJ ?_
     refine WM (fun b H'=>b = !(decide (1 <= es0.length) && decide (es0.length <= 5) && ds.all (zP es0.length)) /\ Grow [] H H') (fun Kk hk=>⟨_,rfl,_,_,rfl,rfl,_,rfl,?_⟩) ?_
     ·by_cases m1:1 <= es0.length
      ·refine zN (decide_eq_true (by omega)) ⟨_,_,rfl,rfl,?_⟩
       by_cases m5:es0.length <= 5
       ·refine ⟨_,rfl,zD (by rw [decide_eq_true (show (xs0.length:Int) <= 5 by omega)]; rfl) ⟨_,rfl,a,rfl,⟨_,hs⟩,ya (xs:=xs) (fun i ys H'=>ys = ((ds.take i).map (zP es0.length)).map V.bl /\ Grow [] H H') ⟨rfl,Grow.refl _ _⟩ (fun i ys H' p=>p.2.sqT hs) ?_ ?_⟩⟩
        ·rintro i x ys H' hx ⟨rfl,g⟩
         obtain ⟨e,he,oe⟩:=ha.get hx
         have hi':i < xs.length:=(List.getElem?_eq_some_iff.mp hx).1
         refine ⟨_,rfl,_,rfl,_,_,rfl,e,m,es0.length,oe.grow (g.mono (by simp)),by rw [hl0],hlm e (List.mem_of_getElem? he),fun H2 g2=>⟨zn (by rw [List.length_map,List.length_map,List.length_take]; omega),?_,g.trans g2⟩⟩
         rw [List.take_succ,he,List.map_append,List.map_append]; rfl
        ·rintro ys H' ⟨rfl,g⟩ l hl'
         rw [hxl,List.take_length]
         refine ⟨l,ds.map (zP es0.length),rfl,SqL.of zd,_,rfl,hk _ _ ⟨?_,g.trans (Grow.new hl' _)⟩⟩
         rw [decide_eq_true m1,decide_eq_true m5,List.all_map]; rfl
       ·exact ⟨_,rfl,zN (by rw [decide_eq_false (show ¬ (xs0.length:Int) <= 5 by omega)]; rfl) (hk _ _ ⟨by rw [decide_eq_false m5,Bool.and_false,Bool.false_and]; rfl,Grow.refl _ _⟩)⟩
      ·exact zD (decide_eq_false (by omega)) ⟨_,rfl,iteT (hk _ _ ⟨by rw [decide_eq_false m1]; rfl,Grow.refl _ _⟩)⟩
     rintro _ H1 ⟨rfl,g1⟩
     cases hb:(decide (1 <= es0.length) && decide (es0.length <= 5) && ds.all (zP es0.length)) with
     | false =>
      rw [E,hb] at q
      exact iteT (q _ g1)
     | true =>
      rw [E,hb,Bool.true_and] at q
      refine iteF (zL ?_)
      have hrs:∀ d ∈ ds,zP es0.length d = true:=by
       rw [Bool.and_eq_true,List.all_eq_true] at hb
       exact hb.2
      have hs1:=g1.sqT hs
      refine ⟨_,rfl,a,rfl,⟨_,hs1⟩,ya (xs:=xs) (fun i ys H'=>ys = ((ds.take i).map fun d=>(lenD d:Int)).map V.int /\ H' = H1) ⟨rfl,rfl⟩ (fun i ys H' p=>by rw [p.2]; exact hs1) ?_ ?_⟩
      ·rintro i x ys H' hx ⟨rfl,rfl⟩
       obtain ⟨e,he,oe⟩:=ha.get hx
       have hi':i < xs.length:=(List.getElem?_eq_some_iff.mp hx).1
       obtain ⟨es,rfl⟩:=xn (hrs e (List.mem_of_getElem? he))
       obtain ⟨a1,xs1,rfl,hs2,ha1⟩:=oe.inv_tup
       have l1:=ha1.length
       refine ⟨_,rfl,a1,_,rfl,.inr (g1.sqT hs2),zn (by rw [List.length_map,List.length_map,List.length_take]; omega),?_,rfl⟩
       rw [List.take_succ,he,List.map_append,List.map_append,l1]; rfl
      ·rintro ys H' ⟨rfl,rfl⟩ l hl'
       rw [hxl,List.take_length]
       have gl:=Grow.new (m:=[]) hl' (.lst ((ds.map fun d=>(lenD d:Int)).map V.int))
       have hll:upd H' l (.lst ((ds.map fun d=>(lenD d:Int)).map V.int)) l = some (.lst ((ds.map fun d=>(lenD d:Int)).map V.int)):=zd
       generalize upd H' l _ = H2 at gl hll ⊢
       refine ⟨_,rfl,szl rfl,fun l2 hl2=>⟨_,rfl,a,_,rfl,.inr ((gl.trans (Grow.new hl2 _)).sqT hs1),l2,_,_,rfl,rfl,zd,by omega,by omega,?_,fun p hp=>?_⟩⟩
       ·exact Nat.le_of_lt (zn (by show 1 * _ <= 1000; omega))
       have g2:=Grow.new (m:=[]) hl2 (.lst [V.int xs0.length])
       have g3:=Grow.new (m:=[]) hp (.lst (List.replicate ((xs.length:Nat):Int).toNat [V.int xs0.length]).flatten)
       rw [tV] at g3 ⊢
       refine ⟨l,p,_,_,rfl,rfl,SqL.of ((g2.trans g3).keep _ _ (by simp) hll),SqL.of zd,wI _,wI _,?_⟩
       have ez:(if false = true then !eqVs ((ds.map fun d=>(lenD d:Int)).map V.int) ((List.replicate ((xs.length:Nat):Int).toNat ((xs0.length:Nat):Int)).map V.int) else eqVs ((ds.map fun d=>(lenD d:Int)).map V.int) ((List.replicate ((xs.length:Nat):Int).toNat ((xs0.length:Nat):Int)).map V.int)) = ds.all fun d=>decide (lenD d = es0.length):=by
        rw [if_neg (by decide),wU,Int.toNat_natCast,hxl,hl0,qb]
       rw [ez]
       exact q _ (g1.trans (gl.trans (g2.trans g3)))
    | _ =>
     have es:yi 1 hi (.tuple ds) = false:=by
      have z:ds.all yD = false:=by
       rw [List.all_eq_false]
       exact ⟨_,List.mem_of_getElem? he0,Bool.false_ne_true⟩
      show (decide _ && decide _ && ds.all yD && _) = _; rw [z,Bool.and_false,Bool.false_and]
     rw [es] at q
     exact iteT (q _ (Grow.refl _ _))
   ·have es:yi 1 hi (.tuple ds) = false:=by show (decide _ && decide _ && ds.all yD && _) = _; rw [decide_eq_false c2,Bool.and_false,Bool.false_and,Bool.false_and]
    rw [es] at q
    exact ⟨_,rfl,zN (by rw [decide_eq_false (show ¬ (xs.length:Int) <= hi by omega)]; rfl) (iteT (q _ (Grow.refl _ _)))⟩
  ·have es:yi 1 hi (.tuple ds) = false:=by show (decide _ && decide _ && ds.all yD && _) = _; rw [decide_eq_false (by omega)]; rfl
   rw [es] at q
   exact zD (decide_eq_false (by omega)) ⟨_,rfl,iteT (iteT (q _ (Grow.refl _ _)))⟩
 | _=>exact iteT (iteT (q _ (Grow.refl _ _)))
theorem ub:FnScope ["_law_thing"] ["_law_thing"] (zg (top 47)):=⟨rfl,rfl,rfl,by decide +kernel,rfl,by decide +kernel,by decide +kernel⟩
theorem uc (F:Fun K "_law_is_table" "_law_is_table" (top 47) f fd) (B:Blt mg) (qc0:zo P w K mg base n "_law_are_numbers" ["_law_thing","_law_many"] (yT K))     :
  FnOk P w K mg base CX0 (n + 1) f fd ["_law_thing"] (qa K):=by
 refine F.ok ub vo (fun cdv A outer s H vs Q E hr h=>?_)
 obtain ⟨x,rfl,d,m,hd,hsh,q⟩:=h
 refine ⟨_,(zc (zM (PW.pt (vU (z4 (yc (zh (zV (K:=K) rfl) rfl B.isinstance zt (za (pv 0) (za (yM rfl B.tuple zS) zb))))) (xL (z4 (yV xw xw ze (zh zk rfl B.len yd (za (pv 0) zb)) ze))))) (zf (zq vT)) zp) (zf (zq (zh (yw rfl) rfl B.all tY (za (zY (CSc.of (N':=["_law_row","_law_thing"]) (sub:=[none,some 0]) (zg (top 47)) ["_law_thing"] rfl rfl (by decide +kernel) rfl) rfl (xG (pv 0)) (fun _ _ _ _ _ _=>zz (i:=0) (show (["_law_row","_law_thing"]:List Str).Nodup by decide +kernel) rfl (Or.inl rfl)) (fun _ _ _ _ _ _=>zQ) (fun _ _ _ _ _ _=>(wP (zj qc0 hr rfl (za (pv 0) (za (zh (yI (K:=K) rfl) rfl B.len yd (za (pv 1) zb)) zb))) (vL (vm yy (zh (yI (K:=K) rfl) rfl B.len yd (za (pv 0) zb)) (zh (yI (K:=K) rfl) rfl B.len yd (za (pv 1) zb)) (zG _)))))) zb))))),?_⟩
 refine ⟨_,rfl,_,d,m,_,_,rfl,hd,yQ,_,rfl,?_⟩
 cases d with
 | tuple ds =>
  obtain ⟨a,xs,rfl,hs,ha⟩:=hd.inv_tup
  have hxl:=ha.length
  obtain ⟨hl,hlm⟩:=ul hsh
  refine iteF ⟨_,rfl,a,_,rfl,.inr hs,_,_,rfl,rfl,_,rfl,?_⟩
  by_cases c1:1 <= ds.length
  ·refine zN (decide_eq_true (by omega)) ⟨_,_,rfl,rfl,?_⟩
   by_cases c2:ds.length <= 60
   ·refine ⟨_,rfl,zD (by rw [decide_eq_true (show (xs.length:Int) <= 60 by omega)]; rfl) (zL ?_)⟩
    refine ⟨_,rfl,a,rfl,⟨_,hs⟩,ya (xs:=xs) (fun i ys H'=>ys = ((ds.take i).map fun r=>zP ds.length r && decide (lenD r = ds.length)).map V.bl /\ Grow [] H H') ⟨rfl,Grow.refl _ _⟩ (fun i ys H' p=>p.2.sqT hs) ?_ ?_⟩
    ·rintro i x ys H' hx ⟨rfl,g⟩
     obtain ⟨e,he,oe⟩:=ha.get hx
     have hi':i < xs.length:=(List.getElem?_eq_some_iff.mp hx).1
     have ll:((((ds.take i).map fun r=>zP ds.length r && decide (lenD r = ds.length)).map V.bl)).length < sizeLine:=zn (by rw [List.length_map,List.length_map,List.length_take]; omega)
     have el:List.take (i + 1) ds = List.take i ds ++ [e]:=by rw [List.take_succ,he]; rfl
     refine ⟨_,rfl,_,rfl,a,_,rfl,.inr (g.sqT hs),_,_,rfl,e,m,xs.length,oe.grow (g.mono (by simp)),rfl,hlm e (List.mem_of_getElem? he),fun H2 g2=>⟨_,rfl,?_⟩⟩
     rw [el,List.map_append,List.map_append]
     rw [hxl]
     cases hr:zP (ds.length:Int) e with
     | false =>
      refine iteF ⟨ll,?_,g.trans g2⟩
      show _ ++ [V.bl false] = _ ++ [V.bl (zP ds.length e && _)]
      rw [hr]; rfl
     | true =>
      obtain ⟨es,rfl⟩:=xn hr
      obtain ⟨a1,xs1,rfl,hs1,ha1⟩:=oe.inv_tup
      have l1:=ha1.length
      refine iteT ⟨_,rfl,a1,_,rfl,.inr ((g.trans g2).sqT hs1),_,rfl,a,_,rfl,.inr ((g.trans g2).sqT hs),rfl,ll,?_,g.trans g2⟩
      show _ ++ [V.bl _] = _ ++ [V.bl (zP ds.length (.tuple es) && decide (es.length = ds.length))]
      rw [hr,Bool.true_and]
      by_cases z:es.length = ds.length
      ·rw [decide_eq_true z,decide_eq_true (by rw [l1,z,hxl])]
      ·rw [decide_eq_false z,decide_eq_false fun w=>z (by have:=V.int.inj w; omega)]
    ·rintro ys H' ⟨rfl,g⟩ l hl'
     rw [hxl,List.take_length]
     have g2:=g.trans (Grow.new hl' (.lst ((ds.map fun r=>zP ds.length r && decide (lenD r = ds.length)).map V.bl)))
     refine ⟨l,ds.map fun r=>zP ds.length r && decide (lenD r = ds.length),rfl,SqL.of zd,?_⟩
     have es:yS (.tuple ds) = (ds.map fun r=>zP ds.length r && decide (lenD r = ds.length)).all id:=by
      show (decide (1 <= ds.length) && decide (ds.length <= 60) && _) = _
      rw [decide_eq_true c1,decide_eq_true c2,List.all_map]; rfl
     rw [← es]
     exact q _ g2
   ·have es:yS (.tuple ds) = false:=by show (decide (1 <= ds.length) && decide (ds.length <= 60) && _) = _; rw [decide_eq_false c2,Bool.and_false,Bool.false_and]
    rw [es] at q
    exact ⟨_,rfl,zN (by rw [decide_eq_false (show ¬ (xs.length:Int) <= 60 by omega)]; rfl) (q _ (Grow.refl _ _))⟩
  ·have es:yS (.tuple ds) = false:=by show (decide (1 <= ds.length) && decide (ds.length <= 60) && _) = _; rw [decide_eq_false c1]; rfl
   rw [es] at q
   exact zD (decide_eq_false (by omega)) ⟨_,rfl,iteT (q _ (Grow.refl _ _))⟩
 | _=>exact iteT (iteT (q _ (Grow.refl _ _)))
theorem jD:FnScope ["_law_choice","_law_deeds","_law_table","_law_numbers","_law_tree_here","_law_state"] ["_law_choice","_law_deeds","_law_table","_law_numbers","_law_tree_here","_law_state"] (zg (top 50)):=⟨rfl,rfl,rfl,by decide +kernel,rfl,by decide +kernel,by decide +kernel⟩
theorem jE (F:Fun K "_law_due" "_law_due" (top 50) f fd) (B:Blt mg) (qc0:zo P w K mg base n "_law_is_tree" ["_law_thing","_law_many"] (vC K)) (qc1:zo P w K mg base n "_law_is_number" ["_law_thing","_law_many"] (vg K)) (qc2:zo P w K mg base n "_law_are_numbers" ["_law_thing","_law_many"] (yT K)) (qc3:zo P w K mg base n "_law_are_deeds" ["_law_thing","_law_most"] (uU K)) (qc4:zo P w K mg base n "_law_is_table" ["_law_thing"] (qa K))     :
  FnOk P w K mg base CX0 (n + 1) f fd ["_law_choice","_law_deeds","_law_table","_law_numbers","_law_tree_here","_law_state"] (Zi K):=by
 refine F.ok jD qP (fun cdv A outer s H vs Q E hr h=>?_)
 obtain ⟨x,y,z,u,w,v,rfl,c,dd,dt,dn,dr,ds,m,rfl,c7,hd,ht,hn,hr',hs,bd,dp,q⟩:=h
 refine ⟨_,(zc (zM (zB Xx (pv 0) ze (zG _)) (zf (zq (zH zZ (xj (za z3 (za z3 zb))) (z5 sW rfl B.int XD (za (Z1 (zj qc3 hr rfl (za (pv 1) (za ze zb)))) zb)) (fun _ _=>rfl)))) zp) (zc (zM (z4 (yc (zj qc4 hr rfl (za (pv 2) zb)))) (zf (zq z3)) zp) (zc (zM (PW.pt (tJ (zB Yi (pv 0) (yz (za ze (za ze zb))) (by with_unfolding_all rfl)) (vk (PW.pt (vU (z4 (yc (zj qc3 hr rfl (za (pv 1) (za ze zb))))) (xL (zB Z9 (zh zk rfl B.len yd (za (pv 1) zb)) (zh zk rfl B.len yd (za (pv 2) zb)) (zG _)))))))) (zf (zq z3)) zp) (zc (zM (zB Xx (pv 0) ze (zG _)) (zf (zq z3)) zp) (zc (zM (PW.pt (vU (z4 (yc (zj qc2 hr rfl (za (pv 3) (za (zh zk rfl B.len yd (za (pv 2) zb)) zb))))) (xL (z4 (yV xw xw ze (zh zk rfl B.len yd (za (pv 3) zb)) ze))))) (zf (zq z3)) zp) (zc (zM (PW.pt (tJ (zB yy (pv 0) ze (zG _)) (vk (z4 (yc (zj qc1 hr rfl (za (pv 5) (za (zh zk rfl B.len yd (za (zH zJ (pv 1) ze (fun _ _=>rfl)) zb)) zb)))))))) (zf (zq z3)) zp) (zf (zq (zH zZ (xj (za z3 (za z3 zb))) (z5 sW rfl B.int XD (za (zj qc0 hr rfl (za (pv 4) (za (zh zk rfl B.len yd (za (pv 3) zb)) zb))) zb)) (fun _ _=>rfl)))))))))),?_⟩
 refine ⟨_,rfl,_,_,rfl,rfl,_,rfl,?_⟩
 by_cases c3:c < 3
 ·refine zN (decide_eq_true (by omega)) ⟨szl rfl,fun l hl=>?_⟩
  have g:=Grow.new (m:=[]) hl (.lst [.str (Str.ofString "none"),.str (Str.ofString "table")])
  refine ⟨_,rfl,_,_,rfl,dd,m,4,hd.grow (g.wk (m:=m)),rfl,bd.d,fun H1 g1=>⟨_,rfl,.inr ⟨_,rfl,?_⟩⟩⟩
  have e:xp c dd dt dn dr ds = (if yi 1 4 dd = false then some 0 else none):=if_pos c3
  have hl1:=g1.keep _ _ (by simp) (zd (H:=H) (a:=l) (o:=.lst [.str (Str.ofString "none"),.str (Str.ofString "table")]))
  have qq:=q _ (g.trans g1)
  rw [e] at qq
  cases hb:yi 1 4 dd with
  | true=>rw [hb] at qq; exact ⟨l,_,0,_,rfl,rfl,SqL.of hl1,zu (j:=0) rfl,qq⟩
  | false=>rw [hb] at qq; exact ⟨l,_,1,_,rfl,rfl,SqL.of hl1,zu (j:=1) rfl,qq⟩
 refine zD (decide_eq_false (by omega)) ?_
 refine zL ⟨_,rfl,_,rfl,dt,m,ht,bd.t,fun H1 g1=>⟨_,rfl,?_⟩⟩
 cases htab:yS dt with
 | false =>
  have e:xp c dd dt dn dr ds = some 0:=by
   unfold xp xW xo xi
   rw [htab,if_neg c3]
   split
   ·rfl
   ·split
    ·rfl
    ·split <;> rfl
  have qq:=q _ g1
  rw [e] at qq
  exact iteT qq
 | true =>
 refine iteF ?_
 obtain ⟨ts,rfl,t1,t60⟩:=xV htab
 obtain ⟨rt,xts,rfl,sqt,odt⟩:=ht.inv_tup
 have tl:=odt.length
 have tofd:xi dd (.tuple ts) = (yi 1 60 dd && decide (lenD dd = ts.length)):=by rw [Wl,htab]; rfl
 refine zL (c_if (fun σ' H3=>σ' = [some (.int c),some y,some (.ref rt),some u,some w,some v] /\ Grow [] H H3 /\ (c = 3 \/ c = 6 -> xi dd (.tuple ts) = true)) ?_ (fun key=>?_))
 ·rintro σ' H3 ⟨rfl,g3,hc⟩
  refine ⟨_,rfl,_,_,rfl,rfl,_,rfl,?_⟩
  by_cases c5:c < 5
  ·refine zN (decide_eq_true (by omega)) ?_
   have e:xp c dd (.tuple ts) dn dr ds = none:=by
    unfold xp
    rw [if_neg c3]
    by_cases c3':c = 3
    ·rw [if_pos c3',hc (.inl c3')]; rfl
    ·rw [if_neg c3',if_pos (by omega),htab]; rfl
   have qq:=q _ g3
   rw [e] at qq
   exact qq
  refine zD (decide_eq_false (by omega)) ?_
  have lT:lenD (.tuple ts) = ts.length:=rfl
  have hn3:=hn.grow (g3.wk (m:=m))
  refine zL ⟨_,rfl,_,rfl,rt,xts,rfl,.inr (g3.sqT sqt),_,_,rfl,dn,m,_,hn3,rfl,bd.n,fun H4 g4=>⟨_,rfl,?_⟩⟩
  rw [tl]
  have G4:=g3.trans g4
  have e1:yo ((lenD (.tuple ts):Nat):Int) dn = false -> xp c dd (.tuple ts) dn dr ds = some 1:=fun z=>by
   unfold xp
   rw [if_neg c3,if_neg (by omega),if_neg (by omega)]
   by_cases c5':c = 5
   ·rw [if_pos c5']; unfold xW; rw [htab,if_neg (by decide),if_pos z]
   ·rw [if_neg c5']; unfold xo; rw [hc (.inr (by omega)),if_neg (by decide),if_pos z]
  cases hrow:zP ts.length dn with
  | false =>
   refine iteT ?_
   have qq:=q _ G4
   rw [e1 (by unfold yo; rw [lT,hrow]; rfl)] at qq
   exact qq
  | true =>
  obtain ⟨ns,hb,hrg,rfl⟩:=wH (hn.grow (G4.wk (m:=m))) hrow
  obtain ⟨ry,rfl,hys⟩:=hb
  have nl:lenD (.tuple (ns.map PyData.int)) = ns.length:=List.length_map ..
  refine iteF ⟨_,rfl,ry,_,rfl,.inr hys,_,_,rfl,rfl,_,rfl,?_⟩
  rw [List.length_map]
  have bad:¬ (1 <= ns.length /\ ns.length <= 40) -> Q (.str (Str.ofString "number")) H4:=fun z=>by
   have qq:=q _ G4
   rw [e1 (by
    unfold yo
    rw [nl]
    by_cases z1:1 <= ns.length
    ·rw [decide_eq_false (show ¬ ns.length <= 40 from fun z2=>z ⟨z1,z2⟩),Bool.and_false]
    ·rw [decide_eq_false z1,Bool.and_false,Bool.false_and])] at qq
   exact qq
  by_cases n1:1 <= ns.length
  rotate_left
  ·exact zD (decide_eq_false (by omega)) ⟨_,rfl,iteT (bad fun z=>n1 z.1)⟩
  refine zN (decide_eq_true (by omega)) ⟨_,_,rfl,rfl,_,rfl,?_⟩
  by_cases n40:ns.length <= 40
  rotate_left
  ·refine zN ?_ (bad fun z=>n40 z.2)
   rw [decide_eq_false (by omega)]; rfl
  refine zD (by rw [decide_eq_true (by omega)]; rfl) ?_
  have hnum:yo ((lenD (.tuple ts):Nat):Int) (.tuple (ns.map PyData.int)) = true:=by
   unfold yo
   rw [nl,lT,hrow,decide_eq_true n1,decide_eq_true n40]; rfl
  have fin:(c = 6 -> zC 0 ((lenD (dd.getD67):Int) - 1) ds = true) -> ∀ H5,Grow [] H H5 -> tRet (tOp (rIxL K) (tLst (u8 (tC (V.str (Str.ofString "tree"))) (u8 (tC (V.str (Str.ofString "none"))) tNil))) (tCB (fun xs H Q=>(∃ i,xs = [V.int i] /\ Q (V.int i) H) \/ ∃ k,xs = [V.bl k] /\ Q (V.int (if k = true then 1 else 0)) H) (u8 (Yd (vC K) [] E0 (u8 (tVar 4) (u8 (tCB (fun xs H_1 Q=>∃ p ys,xs = [V.ref p] /\ (SqL K H_1 p ys \/ SqT K H_1 p ys) /\ Q (V.int ↑ys.length) H_1) (u8 (tVar 3) tNil)) tNil))) tNil))) { nx:=fun x H'=>Q V.non H',rt:=Q } [some (.int c),some y,some (.ref rt),some (.ref ry),some w,some v] H5:=fun hst H5 g5=>by
   refine ⟨szl rfl,fun l hl=>?_⟩
   have g:=Grow.new (m:=[]) hl (.lst [.str (Str.ofString "tree"),.str (Str.ofString "none")])
   obtain ⟨ry',e',hys'⟩:=(wH (hn.grow (g5.wk (m:=m))) (by rw [← hrow])).choose_spec.1
   cases e'
   have bl:(wH (hn.grow (g5.wk (m:=m))) (by rw [← hrow])).choose = ns:=by
    have:=(wH (hn.grow (g5.wk (m:=m))) (by rw [← hrow])).choose_spec.2.2
    injection this with this
    exact (List.map_inj_right (f:=PyData.int) (fun x y h=>by injection h) |>.mp this).symm
   rw [bl] at hys'
   refine ⟨_,rfl,_,rfl,ry,_,rfl,.inr (g.sqT hys'),_,_,rfl,dr,m,ns.length,hr'.grow ((g5.trans g).wk (m:=m)),by rw [List.length_map],n1,n40,dp,bd.r,fun H6 g6=>.inr ⟨_,rfl,?_⟩⟩
   have hl6:=g6.keep _ _ (by simp) (zd (H:=H5) (a:=l) (o:=.lst [.str (Str.ofString "tree"),.str (Str.ofString "none")]))
   have qq:=q _ (g5.trans (g.trans g6))
   have e:xp c dd (.tuple ts) (.tuple (ns.map PyData.int)) dr ds = if xE dr ns.length = false then some 2 else none:=by
    unfold xp
    rw [if_neg c3,if_neg (by omega),if_neg (by omega)]
    by_cases c5':c = 5
    ·rw [if_pos c5']; unfold xW; rw [htab,if_neg (by decide),hnum,if_neg (by decide),nl]
    ·rw [if_neg c5']; unfold xo; rw [hc (.inr (by omega)),if_neg (by decide),hnum,if_neg (by decide),hst (by omega),if_neg (by decide),nl]
   rw [e] at qq
   cases htr:xE dr ns.length with
   | true=>rw [htr] at qq; exact ⟨l,_,1,_,rfl,rfl,SqL.of hl6,zu (j:=1) rfl,qq⟩
   | false=>rw [htr] at qq; exact ⟨l,_,0,_,rfl,rfl,SqL.of hl6,zu (j:=0) rfl,qq⟩
  refine zL ⟨_,rfl,rfl,_,rfl,?_⟩
  by_cases c6:c = 6
  rotate_left
  ·exact zD (decide_eq_false fun z=>c6 (by have:=V.int.inj z; omega)) (fin (fun z=>absurd z c6) _ G4)
  have htof:=hc (.inr c6)
  have h60:yi 1 60 dd = true:=by
   rw [tofd,Bool.and_eq_true] at htof; exact htof.1
  obtain ⟨ds0,rfl⟩:∃ ds0,dd = .tuple ds0:=by
   cases dd with
   | tuple d=>exact ⟨d,rfl⟩
   | _=>cases h60
  obtain ⟨ra,xa,rfl,sqa,oda⟩:=hd.inv_tup
  have h60':=h60
  have h60'':(decide ((1:Int) <= ds0.length) && decide ((ds0.length:Int) <= 60) && ds0.all yD && ds0.all fun d=>decide (lenD d = lenD (ds0.getD 0 .none))) = true:=h60
  rw [Bool.and_eq_true,Bool.and_eq_true,Bool.and_eq_true,decide_eq_true_eq] at h60''
  have l0:0 < ds0.length:=by have:=h60''.1.1.1; omega
  have al:=oda.length
  obtain ⟨x0,hx0⟩:∃ x,xa[0]? = some x:=⟨_,List.getElem?_eq_getElem (by omega)⟩
  obtain ⟨d0,hd0,o0⟩:=oda.get hx0
  have eg:ds0.getD 0 .none = d0:=by rw [List.getD_eq_getElem?_getD,hd0]; rfl
  have hb0:yD d0 = true:=List.all_eq_true.mp h60''.1.2 d0 (List.mem_of_getElem? hd0)
  obtain ⟨es0,rfl⟩:=va hb0
  obtain ⟨rz,xz,rfl,sqz,odz⟩:=o0.inv_tup
  refine zN (decide_eq_true (congrArg V.int (by omega))) ⟨_,rfl,_,rfl,ra,xa,0,_,rfl,rfl,G4.sqT sqa,zu (j:=0) hx0,rz,_,rfl,.inr (G4.sqT sqz),_,_,rfl,ds,m,xz.length,hs.grow (G4.wk (m:=m)),rfl,_,rfl,?_⟩
  have e0:((xz.length:Nat):Int) = (lenD (PyData.getD67 (.tuple ds0)):Nat):=by
   show _ = ((lenD (ds0.getD 0 .none):Nat):Int)
   rw [eg,odz.length]; rfl
  rw [e0]
  cases hst:zC 0 ((lenD (PyData.getD67 (.tuple ds0)):Int) - 1) ds with
  | true=>exact iteF (fin (fun _=>hst) _ G4)
  | false =>
   refine iteT ?_
   have qq:=q _ G4
   have e:xp c (.tuple ds0) (.tuple ts) (.tuple (ns.map PyData.int)) dr ds = some 1:=by
    unfold xp
    rw [if_neg c3,if_neg (by omega),if_neg (by omega),if_neg (by omega)]; unfold xo; rw [htof,if_neg (by decide),hnum,if_neg (by decide),hst]; rfl
   rw [e] at qq
   exact qq
 refine ⟨_,rfl,szl rfl,fun r2 hr2=>?_⟩
 have gr:=Grow.new (m:=[]) hr2 (.tup [.int 3,.int 6])
 have G1:=g1.trans gr
 refine ⟨r2,_,rfl,.inr (SqT.of zd),rfl,rfl,_,rfl,?_⟩
 have eR:(if false = true then !inV (.int c) [.int 3,.int 6] else inV (.int c) [V.int 3,.int 6]) = decide (c = 3 \/ c = 6):=by
  rw [if_neg (by decide)]
  rcases (by omega:c = 3 \/ c = 4 \/ c = 5 \/ c = 6) with rfl | rfl | rfl | rfl <;> rfl
 rw [eR]
 generalize upd H1 r2 _ = H2 at gr G1 ⊢
 have hd2:=hd.grow (G1.wk (m:=m))
 have sqt2:=G1.sqT sqt
 by_cases c36:c = 3 \/ c = 6
 rotate_left
 ·exact zD (decide_eq_false c36) (key _ _ ⟨rfl,G1,fun z=>absurd z c36⟩)
 refine zN (decide_eq_true c36) ⟨_,rfl,_,_,rfl,dd,m,60,hd2,rfl,bd.d,fun H3 g3=>⟨_,rfl,?_⟩⟩
 have G3:=G1.trans g3
 have bad:xi dd (.tuple ts) = false -> Q (.str (Str.ofString "table")) H3:=fun z=>by
  have qq:=q _ G3
  have e:xp c dd (.tuple ts) dn dr ds = some 0:=by
   unfold xp
   rw [if_neg c3]
   rcases c36 with rfl | rfl
   ·rw [if_pos rfl,z]; rfl
   ·rw [if_neg (by decide),if_neg (by decide),if_neg (by decide)]; unfold xo; rw [z]; rfl
  rw [e] at qq
  exact qq
 cases h60:yi 1 60 dd with
 | false=>exact iteT (iteT (bad (by rw [tofd,h60]; rfl)))
 | true =>
 obtain ⟨ds0,rfl⟩:∃ ds0,dd = .tuple ds0:=by
  cases dd with
  | tuple d=>exact ⟨d,rfl⟩
  | _=>cases h60
 obtain ⟨ra,xa,rfl,sqa,oda⟩:=hd.inv_tup
 have al:=oda.length
 refine iteF ⟨_,rfl,ra,xa,rfl,.inr (G3.sqT sqa),_,rfl,rt,xts,rfl,.inr (G3.sqT sqt),rfl,_,rfl,?_⟩
 have el:lenD (.tuple ds0) = ds0.length:=rfl
 by_cases hl:ds0.length = ts.length
 ·refine zD ?_ (key _ _ ⟨rfl,G3,fun _=>by rw [tofd,h60,el,decide_eq_true hl]; rfl⟩)
  rw [decide_eq_true (congrArg V.int (by omega))]; rfl
 ·refine zN ?_ (bad (by rw [tofd,h60,el,decide_eq_false hl]; rfl))
  rw [decide_eq_false fun z=>hl (by have:=V.int.inj z; omega)]; rfl
theorem vS:FnScope ["_law_store_here","_law_many","_law_digit"] ["_law_store_here","_law_many"] (zg (top 38)):=⟨rfl,rfl,rfl,by decide +kernel,rfl,by decide +kernel,by decide +kernel⟩
theorem qD (F:Fun K "_law_draw" "_law_draw" (top 38) f fd) (B:Blt mg)      :
  FnOk P w K mg base CX0 (n + 1) f fd ["_law_store_here","_law_many"] (xS K):=by
 refine F.ok vS xf (fun cdv A outer s H vs Q E hr h=>?_)
 obtain ⟨x,y,rfl,a,m,rfl,rfl,⟨p0,p1,hp,h0⟩,hm,hm2,q⟩:=h
 refine ⟨_,(zc (zM (zB WY (zH zZ (pv 0) ze (fun _ _=>rfl)) ze (zG _)) (zc (zA (i:=2) vS.nd rfl (Or.inl rfl) (zK tK (zH zZ (pv 0) ze (fun _ _=>rfl)) (pv 1))) (zc (Z2 (zK jO (zH zZ (pv 0) ze (fun _ _=>rfl)) (pv 1)) (Wr (pv 0) ze jN)) (zf (zq (pv 2))))) zp) (zc (Z2 (zK tK (zK xH (zK Yl (zH zZ (pv 0) ze (fun _ _=>rfl)) ze) ze) ze) (Wr (pv 0) ze jN)) (zf (zq (zK tK (zK jO (zK tK (zK jJ (zH zZ (pv 0) ze (fun _ _=>rfl)) ze) ze) ze) (pv 1)))))),?_⟩
 refine ⟨_,rfl,a,_,_,_,rfl,rfl,SqL.of hp,rfl,_,_,rfl,rfl,_,rfl,?_⟩
 refine ite2 (fun c=>?_) (fun c=>?_)
 ·refine ⟨_,rfl,a,_,_,_,rfl,rfl,SqL.of hp,rfl,_,rfl,p0,m,rfl,rfl,hm,?_⟩
  refine ⟨_,rfl,a,_,_,_,rfl,rfl,SqL.of hp,rfl,_,rfl,p0,m,rfl,rfl,⟨hm,hm2⟩,_,rfl,a,_,0,0,rfl,rfl,hp,rfl,?_⟩
  exact ⟨_,rfl,q _ _ (Int.emod_nonneg _ (by omega)) (Int.emod_lt_of_pos _ hm) (Grow.set hp (by simp) _) ⟨p0 / m,p1,zd,Int.ediv_nonneg h0 (by omega)⟩⟩
 ·refine ⟨_,rfl,a,_,_,_,rfl,rfl,SqL.of hp,rfl,p1,48271,rfl,rfl,V6 ⟨by decide,by decide⟩,_,_,rfl,rfl,_,_,rfl,rfl,(by show (0:Int) < 2147483647; decide),_,rfl,a,_,1,1,rfl,rfl,hp,rfl,?_⟩
  have b0:0 <= (p1 * 48271 + 12289) % 2147483647:=Int.emod_nonneg _ (by decide)
  have b1:(p1 * 48271 + 12289) % 2147483647 < 2147483647:=Int.emod_lt_of_pos _ (by decide)
  refine ⟨_,rfl,a,_,_,_,rfl,rfl,SqL.of zd,rfl,_,_,rfl,rfl,⟨by decide,by decide,by omega⟩,_,_,rfl,rfl,(by show (0:Int) < 2147483563; decide),_,_,rfl,rfl,⟨by decide,by decide⟩,_,rfl,_,_,rfl,rfl,hm,?_⟩
  exact q _ _ (Int.emod_nonneg _ (by omega)) (Int.emod_lt_of_pos _ hm) (Grow.set hp (by simp) _) ⟨p0,(p1 * 48271 + 12289) % 2147483647,zd,h0⟩
theorem jF:FnScope ["_law_store_here","_law_beyond"] ["_law_store_here","_law_beyond"] (zg (top 40)):=⟨rfl,rfl,rfl,by decide +kernel,rfl,by decide +kernel,by decide +kernel⟩
theorem jG (F:Fun K "_law_odd" "_law_odd" (top 40) f fd) (B:Blt mg) (qc0:zo P w K mg base n "_law_draw" ["_law_store_here","_law_many"] (xS K))     :
  FnOk P w K mg base CX0 (n + 1) f fd ["_law_store_here","_law_beyond"] (sM K):=by
 refine F.ok jF xf (fun cdv A outer s H vs Q E hr h=>?_)
 obtain ⟨x,y,rfl,a,b,m,rfl,rfl,pp,am,om,q⟩:=h
 refine ⟨_,(@zf _ _ _ (@zq _ _ _ _ (@zH _ _ _ _ _ _ _ zZ (@Zb _ K _ _ _ _ (@zm _ _ _ _ _ _ _ WO (@yp _ _ _ _ _ _ _ _ (@wA _ _ _ _ (.int b) (pv 1)) (@zm _ _ _ _ _ _ _ Vu (@zm _ _ _ _ _ _ _ WP (@zm _ _ _ _ _ _ _ WN (@zm _ _ _ _ _ _ _ (@zU _ _ _ _ _ _ _ zI (by first | rfl | decide | exact Or.inl rfl | exact Or.inr rfl | exact Or.inr (Or.inl rfl) | exact Or.inr (Or.inr rfl) | exact fun _=>rfl | exact Nat.le_of_ble_eq_true rfl)) (@zm _ _ _ _ _ _ _ Vu (@zm _ _ _ _ _ _ _ (@zU _ _ _ _ _ _ _ (@zm _ _ _ _ _ _ _ yl zI (by first | rfl | decide | exact Or.inl rfl | exact Or.inr rfl | exact Or.inr (Or.inl rfl) | exact Or.inr (Or.inr rfl) | exact fun _=>rfl | exact Nat.le_of_ble_eq_true rfl)) (by first | rfl | decide | exact Or.inl rfl | exact Or.inr rfl | exact Or.inr (Or.inl rfl) | exact Or.inr (Or.inr rfl) | exact fun _=>rfl | exact Nat.le_of_ble_eq_true rfl)) (@zm _ _ _ _ _ _ _ (Uv ⟨by decide,by decide,by decide⟩) (@zm _ _ _ _ _ _ _ (@Zb _ _ _ _ _ _ (@zm _ _ _ _ _ _ _ yl zI (by first | rfl | decide | exact Or.inl rfl | exact Or.inr rfl | exact Or.inr (Or.inl rfl) | exact Or.inr (Or.inr rfl) | exact fun _=>rfl | exact Nat.le_of_ble_eq_true rfl)) (by first | rfl | decide | exact Or.inl rfl | exact Or.inr rfl | exact Or.inr (Or.inl rfl) | exact Or.inr (Or.inr rfl) | exact fun _=>rfl | exact Nat.le_of_ble_eq_true rfl)) zI (by first | rfl | decide | exact Or.inl rfl | exact Or.inr rfl | exact Or.inr (Or.inl rfl) | exact Or.inr (Or.inr rfl) | exact fun _=>rfl | exact Nat.le_of_ble_eq_true rfl)) (by first | rfl | decide | exact Or.inl rfl | exact Or.inr rfl | exact Or.inr (Or.inl rfl) | exact Or.inr (Or.inr rfl) | exact fun _=>rfl | exact Nat.le_of_ble_eq_true rfl)) (by first | rfl | decide | exact Or.inl rfl | exact Or.inr rfl | exact Or.inr (Or.inl rfl) | exact Or.inr (Or.inr rfl) | exact fun _=>rfl | exact Nat.le_of_ble_eq_true rfl)) (by first | rfl | decide | exact Or.inl rfl | exact Or.inr rfl | exact Or.inr (Or.inl rfl) | exact Or.inr (Or.inr rfl) | exact fun _=>rfl | exact Nat.le_of_ble_eq_true rfl)) (by first | rfl | decide | exact Or.inl rfl | exact Or.inr rfl | exact Or.inr (Or.inl rfl) | exact Or.inr (Or.inr rfl) | exact fun _=>rfl | exact Nat.le_of_ble_eq_true rfl)) (by first | rfl | decide | exact Or.inl rfl | exact Or.inr rfl | exact Or.inr (Or.inl rfl) | exact Or.inr (Or.inr rfl) | exact fun _=>rfl | exact Nat.le_of_ble_eq_true rfl)) (by first | rfl | decide | exact Or.inl rfl | exact Or.inr rfl | exact Or.inr (Or.inl rfl) | exact Or.inr (Or.inr rfl) | exact fun _=>rfl | exact Nat.le_of_ble_eq_true rfl)) (by first | rfl | decide | exact Or.inl rfl | exact Or.inr rfl | exact Or.inr (Or.inl rfl) | exact Or.inr (Or.inr rfl) | exact fun _=>rfl | exact Nat.le_of_ble_eq_true rfl)) (by first | rfl | decide | exact Or.inl rfl | exact Or.inr rfl | exact Or.inr (Or.inl rfl) | exact Or.inr (Or.inr rfl) | exact fun _=>rfl | exact Nat.le_of_ble_eq_true rfl)) (by first | rfl | decide | exact Or.inl rfl | exact Or.inr rfl | exact Or.inr (Or.inl rfl) | exact Or.inr (Or.inr rfl) | exact fun _=>rfl | exact Nat.le_of_ble_eq_true rfl)) (by first | rfl | decide | exact Or.inl rfl | exact Or.inr rfl | exact Or.inr (Or.inl rfl) | exact Or.inr (Or.inr rfl) | exact fun _=>rfl | exact Nat.le_of_ble_eq_true rfl)) (@zj _ _ _ _ _ _ _ _ _ _ qc0 hr rfl (@za _ _ _ _ _ (pv 0) (@za _ _ _ _ _ ze zb (by first | rfl | decide | exact Or.inl rfl | exact Or.inr rfl | exact Or.inr (Or.inl rfl) | exact Or.inr (Or.inr rfl) | exact fun _=>rfl | exact Nat.le_of_ble_eq_true rfl)) (by first | rfl | decide | exact Or.inl rfl | exact Or.inr rfl | exact Or.inr (Or.inl rfl) | exact Or.inr (Or.inr rfl) | exact fun _=>rfl | exact Nat.le_of_ble_eq_true rfl)) (by first | rfl | decide | exact Or.inl rfl | exact Or.inr rfl | exact Or.inr (Or.inl rfl) | exact Or.inr (Or.inr rfl) | exact fun _=>rfl | exact Nat.le_of_ble_eq_true rfl) (by first | rfl | decide | exact Or.inl rfl | exact Or.inr rfl | exact Or.inr (Or.inl rfl) | exact Or.inr (Or.inr rfl) | exact fun _=>rfl | exact Nat.le_of_ble_eq_true rfl) (by first | rfl | decide | exact Or.inl rfl | exact Or.inr rfl | exact Or.inr (Or.inl rfl) | exact Or.inr (Or.inr rfl) | exact fun _=>rfl | exact Nat.le_of_ble_eq_true rfl)) (fun _ _=>rfl)))),?_⟩
 have am':∀ c ∈ [a],c ∈ m:=fun c hc=>by rw [List.mem_singleton.mp hc]; exact am
 refine ⟨m,⟨⟨_,rfl,.int b⟩,trivial⟩,om,fun x1 H1 g1 o1=>?_⟩
 obtain ⟨l1,xs1,rfl,hl1,n1,s1,t1⟩:=o1.inv_lst
 have pp1:=pp.grow g1
 have e1:xs1.length = 10:=t1.length
 refine ⟨_,rfl,_,_,rfl,a,10,rfl,rfl,pp1,by decide,by decide,fun n4 H4 u4 v4 g4 pp4=>?_⟩
 obtain ⟨j,rfl⟩:∃ j:Nat,n4 = j:=⟨n4.toNat,by omega⟩
 obtain ⟨x4,hx4⟩:∃ x,xs1[j]? = some x:=⟨_,List.getElem?_eq_getElem (by omega)⟩
 obtain ⟨d4,hd4,o4⟩:=t1.get hx4
 exact ⟨l1,_,j,x4,rfl,rfl,SqL.of (g4.keep _ _ (fun z=>n1 (am' _ z)) hl1),zu hx4,q _ d4 H4 ((g1.mono (by simp)).trans g4) pp4 (o4.grow (g4.mono am')) (Xl (b:=b) (List.mem_of_getElem? hd4))⟩
theorem zW:FnScope ["_law_store_here","_law_tree_here","_law_many","_law_choice","_law_k","_law_inner","_law_odd_here"] ["_law_store_here","_law_tree_here","_law_many"] (zg (top 43)):=⟨rfl,rfl,rfl,by decide +kernel,rfl,by decide +kernel,by decide +kernel⟩
theorem wM (F:Fun K "_law_tree_spoilt" "_law_tree_spoilt" (top 43) f fd) (B:Blt mg) {N:Nat} (qc0:zo P w K mg base n "_law_draw" ["_law_store_here","_law_many"] (xS K)) (qc1:zo P w K mg base n "_law_tree_spoilt" ["_law_store_here","_law_tree_here","_law_many"] (wv N K))     :
  FnOk P w K mg base CX0 (n + 1) f fd ["_law_store_here","_law_tree_here","_law_many"] (wv (N + 1) K):=by
 refine F.ok zW vp (fun cdv A outer s H vs Q E hr h=>?_)
 obtain ⟨x,y,z,rfl,a,t,n,m,rfl,hd,rfl,pp,am,om,hN,q⟩:=h
 refine ⟨_,(@zc _ _ _ _ _ (@zA _ _ 3 _ _ _ _ zW.nd rfl (Or.inl rfl) (@zj _ _ _ _ _ _ _ _ _ _ qc0 hr rfl (@za _ _ _ _ _ (pv 0) (@za _ _ _ _ _ ze zb (by first | rfl | decide | exact Or.inl rfl | exact Or.inr rfl | exact Or.inr (Or.inl rfl) | exact Or.inr (Or.inr rfl) | exact fun _=>rfl | exact Nat.le_of_ble_eq_true rfl)) (by first | rfl | decide | exact Or.inl rfl | exact Or.inr rfl | exact Or.inr (Or.inl rfl) | exact Or.inr (Or.inr rfl) | exact fun _=>rfl | exact Nat.le_of_ble_eq_true rfl)) (by first | rfl | decide | exact Or.inl rfl | exact Or.inr rfl | exact Or.inr (Or.inl rfl) | exact Or.inr (Or.inr rfl) | exact fun _=>rfl | exact Nat.le_of_ble_eq_true rfl) (by first | rfl | decide | exact Or.inl rfl | exact Or.inr rfl | exact Or.inr (Or.inl rfl) | exact Or.inr (Or.inr rfl) | exact fun _=>rfl | exact Nat.le_of_ble_eq_true rfl) (by first | rfl | decide | exact Or.inl rfl | exact Or.inr rfl | exact Or.inr (Or.inl rfl) | exact Or.inr (Or.inr rfl) | exact fun _=>rfl | exact Nat.le_of_ble_eq_true rfl)) (by first | rfl | decide | exact Or.inl rfl | exact Or.inr rfl | exact Or.inr (Or.inl rfl) | exact Or.inr (Or.inr rfl) | exact fun _=>rfl | exact Nat.le_of_ble_eq_true rfl) (by first | rfl | decide | exact Or.inl rfl | exact Or.inr rfl | exact Or.inr (Or.inl rfl) | exact Or.inr (Or.inr rfl) | exact fun _=>rfl | exact Nat.le_of_ble_eq_true rfl)) (@zc _ _ _ _ _ (@zM _ _ _ _ _ _ _ _ (@PW.pt _ _ _ (@tJ _ _ _ _ _ _ _ (@yc _ _ _ (@zh _ _ _ _ _ _ _ _ _ (zV (K:=K) rfl) rfl B.isinstance zt (@za _ _ _ _ _ (pv 1) (@za _ _ _ _ _ (yM rfl B.tuple zS) zb (by first | rfl | decide | exact Or.inl rfl | exact Or.inr rfl | exact Or.inr (Or.inl rfl) | exact Or.inr (Or.inr rfl) | exact fun _=>rfl | exact Nat.le_of_ble_eq_true rfl)) (by first | rfl | decide | exact Or.inl rfl | exact Or.inr rfl | exact Or.inr (Or.inl rfl) | exact Or.inr (Or.inr rfl) | exact fun _=>rfl | exact Nat.le_of_ble_eq_true rfl)) (by first | rfl | decide | exact Or.inl rfl | exact Or.inr rfl | exact Or.inr (Or.inl rfl) | exact Or.inr (Or.inr rfl) | exact fun _=>rfl | exact Nat.le_of_ble_eq_true rfl) (by first | rfl | decide | exact Or.inl rfl | exact Or.inr rfl | exact Or.inr (Or.inl rfl) | exact Or.inr (Or.inr rfl) | exact fun _=>rfl | exact Nat.le_of_ble_eq_true rfl) (by first | rfl | decide | exact Or.inl rfl | exact Or.inr rfl | exact Or.inr (Or.inl rfl) | exact Or.inr (Or.inr rfl) | exact fun _=>rfl | exact Nat.le_of_ble_eq_true rfl) (by first | rfl | decide | exact Or.inl rfl | exact Or.inr rfl | exact Or.inr (Or.inl rfl) | exact Or.inr (Or.inr rfl) | exact fun _=>rfl | exact Nat.le_of_ble_eq_true rfl)) (by first | rfl | decide | exact Or.inl rfl | exact Or.inr rfl | exact Or.inr (Or.inl rfl) | exact Or.inr (Or.inr rfl) | exact fun _=>rfl | exact Nat.le_of_ble_eq_true rfl)) (@vk _ _ _ _ (@zB _ _ _ _ _ _ _ _ WY (pv 3) ze (zG _))))) (@zc _ _ _ _ _ (@zA _ _ 4 _ _ _ _ zW.nd rfl (Or.inl rfl) (@zj _ _ _ _ _ _ _ _ _ _ qc0 hr rfl (@za _ _ _ _ _ (pv 0) (@za _ _ _ _ _ ze zb (by first | rfl | decide | exact Or.inl rfl | exact Or.inr rfl | exact Or.inr (Or.inl rfl) | exact Or.inr (Or.inr rfl) | exact fun _=>rfl | exact Nat.le_of_ble_eq_true rfl)) (by first | rfl | decide | exact Or.inl rfl | exact Or.inr rfl | exact Or.inr (Or.inl rfl) | exact Or.inr (Or.inr rfl) | exact fun _=>rfl | exact Nat.le_of_ble_eq_true rfl)) (by first | rfl | decide | exact Or.inl rfl | exact Or.inr rfl | exact Or.inr (Or.inl rfl) | exact Or.inr (Or.inr rfl) | exact fun _=>rfl | exact Nat.le_of_ble_eq_true rfl) (by first | rfl | decide | exact Or.inl rfl | exact Or.inr rfl | exact Or.inr (Or.inl rfl) | exact Or.inr (Or.inr rfl) | exact fun _=>rfl | exact Nat.le_of_ble_eq_true rfl) (by first | rfl | decide | exact Or.inl rfl | exact Or.inr rfl | exact Or.inr (Or.inl rfl) | exact Or.inr (Or.inr rfl) | exact fun _=>rfl | exact Nat.le_of_ble_eq_true rfl)) (by first | rfl | decide | exact Or.inl rfl | exact Or.inr rfl | exact Or.inr (Or.inl rfl) | exact Or.inr (Or.inr rfl) | exact fun _=>rfl | exact Nat.le_of_ble_eq_true rfl) (by first | rfl | decide | exact Or.inl rfl | exact Or.inr rfl | exact Or.inr (Or.inl rfl) | exact Or.inr (Or.inr rfl) | exact fun _=>rfl | exact Nat.le_of_ble_eq_true rfl)) (@zc _ _ _ _ _ (@zA _ _ 5 _ _ _ _ zW.nd rfl (Or.inl rfl) (@zj _ _ _ _ _ _ _ _ _ _ qc1 hr rfl (@za _ _ _ _ _ (pv 0) (@za _ _ _ _ _ (@zH _ _ _ _ _ _ _ zJ (pv 1) (pv 4) (fun _ _=>rfl)) (@za _ _ _ _ _ (pv 2) zb (by first | rfl | decide | exact Or.inl rfl | exact Or.inr rfl | exact Or.inr (Or.inl rfl) | exact Or.inr (Or.inr rfl) | exact fun _=>rfl | exact Nat.le_of_ble_eq_true rfl)) (by first | rfl | decide | exact Or.inl rfl | exact Or.inr rfl | exact Or.inr (Or.inl rfl) | exact Or.inr (Or.inr rfl) | exact fun _=>rfl | exact Nat.le_of_ble_eq_true rfl)) (by first | rfl | decide | exact Or.inl rfl | exact Or.inr rfl | exact Or.inr (Or.inl rfl) | exact Or.inr (Or.inr rfl) | exact fun _=>rfl | exact Nat.le_of_ble_eq_true rfl)) (by first | rfl | decide | exact Or.inl rfl | exact Or.inr rfl | exact Or.inr (Or.inl rfl) | exact Or.inr (Or.inr rfl) | exact fun _=>rfl | exact Nat.le_of_ble_eq_true rfl) (by first | rfl | decide | exact Or.inl rfl | exact Or.inr rfl | exact Or.inr (Or.inl rfl) | exact Or.inr (Or.inr rfl) | exact fun _=>rfl | exact Nat.le_of_ble_eq_true rfl) (by first | rfl | decide | exact Or.inl rfl | exact Or.inr rfl | exact Or.inr (Or.inl rfl) | exact Or.inr (Or.inr rfl) | exact fun _=>rfl | exact Nat.le_of_ble_eq_true rfl)) (by first | rfl | decide | exact Or.inl rfl | exact Or.inr rfl | exact Or.inr (Or.inl rfl) | exact Or.inr (Or.inr rfl) | exact fun _=>rfl | exact Nat.le_of_ble_eq_true rfl) (by first | rfl | decide | exact Or.inl rfl | exact Or.inr rfl | exact Or.inr (Or.inl rfl) | exact Or.inr (Or.inr rfl) | exact fun _=>rfl | exact Nat.le_of_ble_eq_true rfl)) (@zf _ _ _ (@zq _ _ _ _ (@zH _ _ _ _ _ _ _ zZ (@xj _ _ _ _ (@za _ _ _ _ _ (@yz _ _ _ _ _ (@za _ _ _ _ _ (pv 5) (@za _ _ _ _ _ (@zH _ _ _ _ _ _ _ zJ (pv 1) ze (fun _ _=>rfl)) zb (by first | rfl | decide | exact Or.inl rfl | exact Or.inr rfl | exact Or.inr (Or.inl rfl) | exact Or.inr (Or.inr rfl) | exact fun _=>rfl | exact Nat.le_of_ble_eq_true rfl)) (by first | rfl | decide | exact Or.inl rfl | exact Or.inr rfl | exact Or.inr (Or.inl rfl) | exact Or.inr (Or.inr rfl) | exact fun _=>rfl | exact Nat.le_of_ble_eq_true rfl))) (@za _ _ _ _ _ (@yz _ _ _ _ _ (@za _ _ _ _ _ (@zH _ _ _ _ _ _ _ zJ (pv 1) ze (fun _ _=>rfl)) (@za _ _ _ _ _ (pv 5) zb (by first | rfl | decide | exact Or.inl rfl | exact Or.inr rfl | exact Or.inr (Or.inl rfl) | exact Or.inr (Or.inr rfl) | exact fun _=>rfl | exact Nat.le_of_ble_eq_true rfl)) (by first | rfl | decide | exact Or.inl rfl | exact Or.inr rfl | exact Or.inr (Or.inl rfl) | exact Or.inr (Or.inr rfl) | exact fun _=>rfl | exact Nat.le_of_ble_eq_true rfl))) zb (by first | rfl | decide | exact Or.inl rfl | exact Or.inr rfl | exact Or.inr (Or.inl rfl) | exact Or.inr (Or.inr rfl) | exact fun _=>rfl | exact Nat.le_of_ble_eq_true rfl)) (by first | rfl | decide | exact Or.inl rfl | exact Or.inr rfl | exact Or.inr (Or.inl rfl) | exact Or.inr (Or.inr rfl) | exact fun _=>rfl | exact Nat.le_of_ble_eq_true rfl))) (pv 4) (fun _ _=>rfl)))))) zp) (@zc _ _ _ _ _ (@zA _ _ 6 _ _ _ _ zW.nd rfl (Or.inl rfl) (@Zb _ K _ _ _ _ (@yp _ _ _ _ _ _ _ _ (@wA _ _ _ _ (.int n) (pv 2)) (@zm _ _ _ _ _ _ _ WO (@zm _ _ _ _ _ _ _ WN (@zm _ _ _ _ _ _ _ WP (@zm _ _ _ _ _ _ _ Vu (@zm _ _ _ _ _ _ _ (@zU _ _ _ _ _ _ _ zI (by first | rfl | decide | exact Or.inl rfl | exact Or.inr rfl | exact Or.inr (Or.inl rfl) | exact Or.inr (Or.inr rfl) | exact fun _=>rfl | exact Nat.le_of_ble_eq_true rfl)) (@yp _ _ _ _ _ _ _ _ (@zU _ _ _ _ _ _ _ (@w5 _ _ _ _ _ (@wA _ _ _ _ (trD t) (pv 1)) (by first | rfl | decide | exact Or.inl rfl | exact Or.inr rfl | exact Or.inr (Or.inl rfl) | exact Or.inr (Or.inr rfl) | exact fun _=>rfl | exact Nat.le_of_ble_eq_true rfl)) (by first | rfl | decide | exact Or.inl rfl | exact Or.inr rfl | exact Or.inr (Or.inl rfl) | exact Or.inr (Or.inr rfl) | exact fun _=>rfl | exact Nat.le_of_ble_eq_true rfl)) (@yp _ _ _ _ _ _ _ _ (@zU _ _ _ _ _ _ _ (@yp _ _ _ _ _ _ _ _ (@wA _ _ _ _ (trD t) (pv 1)) (@w5 _ _ _ _ _ (@wA _ _ _ _ (trD t) (pv 1)) (by first | rfl | decide | exact Or.inl rfl | exact Or.inr rfl | exact Or.inr (Or.inl rfl) | exact Or.inr (Or.inr rfl) | exact fun _=>rfl | exact Nat.le_of_ble_eq_true rfl)) (by first | rfl | decide | exact Or.inl rfl | exact Or.inr rfl | exact Or.inr (Or.inl rfl) | exact Or.inr (Or.inr rfl) | exact fun _=>rfl | exact Nat.le_of_ble_eq_true rfl)) (by first | rfl | decide | exact Or.inl rfl | exact Or.inr rfl | exact Or.inr (Or.inl rfl) | exact Or.inr (Or.inr rfl) | exact fun _=>rfl | exact Nat.le_of_ble_eq_true rfl)) (@yp _ _ _ _ _ _ _ _ (@Zb _ _ _ _ _ _ (@yp _ _ _ _ _ _ _ _ (@wA _ _ _ _ (trD t) (pv 1)) (@w5 _ _ _ _ _ (@wA _ _ _ _ (trD t) (pv 1)) (by first | rfl | decide | exact Or.inl rfl | exact Or.inr rfl | exact Or.inr (Or.inl rfl) | exact Or.inr (Or.inr rfl) | exact fun _=>rfl | exact Nat.le_of_ble_eq_true rfl)) (by first | rfl | decide | exact Or.inl rfl | exact Or.inr rfl | exact Or.inr (Or.inl rfl) | exact Or.inr (Or.inr rfl) | exact fun _=>rfl | exact Nat.le_of_ble_eq_true rfl)) (by first | rfl | decide | exact Or.inl rfl | exact Or.inr rfl | exact Or.inr (Or.inl rfl) | exact Or.inr (Or.inr rfl) | exact fun _=>rfl | exact Nat.le_of_ble_eq_true rfl)) (@yp _ _ _ _ _ _ _ _ (@zU _ _ _ _ _ _ _ (@yp _ _ _ _ _ _ _ _ (@wA _ _ _ _ (trD t) (pv 1)) (@w5 _ _ _ _ _ (@wA _ _ _ _ (.int n) (pv 2)) (by first | rfl | decide | exact Or.inl rfl | exact Or.inr rfl | exact Or.inr (Or.inl rfl) | exact Or.inr (Or.inr rfl) | exact fun _=>rfl | exact Nat.le_of_ble_eq_true rfl)) (by first | rfl | decide | exact Or.inl rfl | exact Or.inr rfl | exact Or.inr (Or.inl rfl) | exact Or.inr (Or.inr rfl) | exact fun _=>rfl | exact Nat.le_of_ble_eq_true rfl)) (by first | rfl | decide | exact Or.inl rfl | exact Or.inr rfl | exact Or.inr (Or.inl rfl) | exact Or.inr (Or.inr rfl) | exact fun _=>rfl | exact Nat.le_of_ble_eq_true rfl)) (@zm _ _ _ _ _ _ _ yl (@yp _ _ _ _ _ _ _ _ (@zU _ _ _ _ _ _ _ (@zm _ _ _ _ _ _ _ yl (@yp _ _ _ _ _ _ _ _ (@wA _ _ _ _ (trD t) (pv 1)) (@zm _ _ _ _ _ _ _ yl zI (by first | rfl | decide | exact Or.inl rfl | exact Or.inr rfl | exact Or.inr (Or.inl rfl) | exact Or.inr (Or.inr rfl) | exact fun _=>rfl | exact Nat.le_of_ble_eq_true rfl)) (by first | rfl | decide | exact Or.inl rfl | exact Or.inr rfl | exact Or.inr (Or.inl rfl) | exact Or.inr (Or.inr rfl) | exact fun _=>rfl | exact Nat.le_of_ble_eq_true rfl)) (by first | rfl | decide | exact Or.inl rfl | exact Or.inr rfl | exact Or.inr (Or.inl rfl) | exact Or.inr (Or.inr rfl) | exact fun _=>rfl | exact Nat.le_of_ble_eq_true rfl)) (by first | rfl | decide | exact Or.inl rfl | exact Or.inr rfl | exact Or.inr (Or.inl rfl) | exact Or.inr (Or.inr rfl) | exact fun _=>rfl | exact Nat.le_of_ble_eq_true rfl)) (@w5 _ _ _ _ _ (VD n (pv 2)) (by first | rfl | decide | exact Or.inl rfl | exact Or.inr rfl | exact Or.inr (Or.inl rfl) | exact Or.inr (Or.inr rfl) | exact fun _=>rfl | exact Nat.le_of_ble_eq_true rfl)) (by first | rfl | decide | exact Or.inl rfl | exact Or.inr rfl | exact Or.inr (Or.inl rfl) | exact Or.inr (Or.inr rfl) | exact fun _=>rfl | exact Nat.le_of_ble_eq_true rfl)) (by first | rfl | decide | exact Or.inl rfl | exact Or.inr rfl | exact Or.inr (Or.inl rfl) | exact Or.inr (Or.inr rfl) | exact fun _=>rfl | exact Nat.le_of_ble_eq_true rfl)) (by first | rfl | decide | exact Or.inl rfl | exact Or.inr rfl | exact Or.inr (Or.inl rfl) | exact Or.inr (Or.inr rfl) | exact fun _=>rfl | exact Nat.le_of_ble_eq_true rfl)) (by first | rfl | decide | exact Or.inl rfl | exact Or.inr rfl | exact Or.inr (Or.inl rfl) | exact Or.inr (Or.inr rfl) | exact fun _=>rfl | exact Nat.le_of_ble_eq_true rfl)) (by first | rfl | decide | exact Or.inl rfl | exact Or.inr rfl | exact Or.inr (Or.inl rfl) | exact Or.inr (Or.inr rfl) | exact fun _=>rfl | exact Nat.le_of_ble_eq_true rfl)) (by first | rfl | decide | exact Or.inl rfl | exact Or.inr rfl | exact Or.inr (Or.inl rfl) | exact Or.inr (Or.inr rfl) | exact fun _=>rfl | exact Nat.le_of_ble_eq_true rfl)) (by first | rfl | decide | exact Or.inl rfl | exact Or.inr rfl | exact Or.inr (Or.inl rfl) | exact Or.inr (Or.inr rfl) | exact fun _=>rfl | exact Nat.le_of_ble_eq_true rfl)) (by first | rfl | decide | exact Or.inl rfl | exact Or.inr rfl | exact Or.inr (Or.inl rfl) | exact Or.inr (Or.inr rfl) | exact fun _=>rfl | exact Nat.le_of_ble_eq_true rfl)) (by first | rfl | decide | exact Or.inl rfl | exact Or.inr rfl | exact Or.inr (Or.inl rfl) | exact Or.inr (Or.inr rfl) | exact fun _=>rfl | exact Nat.le_of_ble_eq_true rfl)) (by first | rfl | decide | exact Or.inl rfl | exact Or.inr rfl | exact Or.inr (Or.inl rfl) | exact Or.inr (Or.inr rfl) | exact fun _=>rfl | exact Nat.le_of_ble_eq_true rfl)) (by first | rfl | decide | exact Or.inl rfl | exact Or.inr rfl | exact Or.inr (Or.inl rfl) | exact Or.inr (Or.inr rfl) | exact fun _=>rfl | exact Nat.le_of_ble_eq_true rfl)) (by first | rfl | decide | exact Or.inl rfl | exact Or.inr rfl | exact Or.inr (Or.inl rfl) | exact Or.inr (Or.inr rfl) | exact fun _=>rfl | exact Nat.le_of_ble_eq_true rfl)) (by first | rfl | decide | exact Or.inl rfl | exact Or.inr rfl | exact Or.inr (Or.inl rfl) | exact Or.inr (Or.inr rfl) | exact fun _=>rfl | exact Nat.le_of_ble_eq_true rfl)) (by first | rfl | decide | exact Or.inl rfl | exact Or.inr rfl | exact Or.inr (Or.inl rfl) | exact Or.inr (Or.inr rfl) | exact fun _=>rfl | exact Nat.le_of_ble_eq_true rfl) (by first | rfl | decide | exact Or.inl rfl | exact Or.inr rfl | exact Or.inr (Or.inl rfl) | exact Or.inr (Or.inr rfl) | exact fun _=>rfl | exact Nat.le_of_ble_eq_true rfl)) (@zf _ _ _ (@zq _ _ _ _ (@zH _ _ _ _ _ _ _ zZ (pv 6) (@zj _ _ _ _ _ _ _ _ _ _ qc0 hr rfl (@za _ _ _ _ _ (pv 0) (@za _ _ _ _ _ ze zb (by first | rfl | decide | exact Or.inl rfl | exact Or.inr rfl | exact Or.inr (Or.inl rfl) | exact Or.inr (Or.inr rfl) | exact fun _=>rfl | exact Nat.le_of_ble_eq_true rfl)) (by first | rfl | decide | exact Or.inl rfl | exact Or.inr rfl | exact Or.inr (Or.inl rfl) | exact Or.inr (Or.inr rfl) | exact fun _=>rfl | exact Nat.le_of_ble_eq_true rfl)) (by first | rfl | decide | exact Or.inl rfl | exact Or.inr rfl | exact Or.inr (Or.inl rfl) | exact Or.inr (Or.inr rfl) | exact fun _=>rfl | exact Nat.le_of_ble_eq_true rfl) (by first | rfl | decide | exact Or.inl rfl | exact Or.inr rfl | exact Or.inr (Or.inl rfl) | exact Or.inr (Or.inr rfl) | exact fun _=>rfl | exact Nat.le_of_ble_eq_true rfl) (by first | rfl | decide | exact Or.inl rfl | exact Or.inr rfl | exact Or.inr (Or.inl rfl) | exact Or.inr (Or.inr rfl) | exact fun _=>rfl | exact Nat.le_of_ble_eq_true rfl)) (fun _ _=>rfl))))))),?_⟩
 have am':∀ c ∈ [a],c ∈ m:=fun c hc=>by rw [List.mem_singleton.mp hc]; exact am
 refine ⟨_,rfl,_,_,rfl,a,4,rfl,rfl,pp,by decide,by decide,fun ch H1 u1 v1 g1 pp1=>?_⟩
 have om1:=ZU g1 pp1 om
 have hd1:=hd.grow (g1.mono am')
 have dep:=xq t
 refine xJ (c_if (fun σ' H'=>∃ e4 e5,σ' = [some (.ref a),some y,some (.int n),some (.int ch),e4,e5,none] /\ H' = H1) ?_ (fun key=>?_))
 ·rintro σ' H' ⟨e4,e5,rfl,rfl⟩
  refine ⟨m,⟨⟨_,rfl,.int n⟩,⟨_,rfl,hd1⟩,⟨⟨_,rfl,hd1⟩,⟨_,rfl,hd1⟩⟩,⟨⟨_,rfl,hd1⟩,⟨_,rfl,hd1⟩⟩,⟨⟨_,rfl,hd1⟩,⟨_,rfl,.int n⟩⟩,⟨⟨_,rfl,hd1⟩,trivial⟩,⟨_,rfl,.int n⟩⟩,om1,fun x2 H2 g2 o2=>?_⟩
  obtain ⟨l2,xs2,rfl,hl2,n2,s2,t2⟩:=o2.inv_lst
  have e2:xs2.length = 13:=t2.length
  have pp2:=pp1.grow g2
  refine ⟨_,rfl,_,rfl,_,_,rfl,a,13,rfl,rfl,pp2,by decide,by decide,fun n4 H4 u4 v4 g4 pp4=>?_⟩
  obtain ⟨j,rfl⟩:∃ j:Nat,n4 = j:=⟨n4.toNat,by omega⟩
  obtain ⟨x4,hx4⟩:∃ x,xs2[j]? = some x:=⟨_,List.getElem?_eq_getElem (by omega)⟩
  obtain ⟨d4,hd4,o4⟩:=t2.get hx4
  refine ⟨l2,_,j,x4,rfl,rfl,SqL.of (g4.keep _ _ (fun z=>n2 (am' _ z)) hl2),zu hx4,?_⟩
  have bdd:d4.depth <= t.ht + 2 /\ wtO d4 <= 2 * wtO (trD t) + 20000:=by
   have hm:=List.mem_of_getElem? hd4
   simp only [List.mem_cons,List.not_mem_nil,or_false] at hm
   rcases hm with rfl | rfl | rfl | rfl | rfl | rfl | rfl | rfl | rfl | rfl | rfl | rfl | rfl
   ·exact ⟨Nat.zero_le _,by show 1921 <= _; omega⟩
   ·exact ⟨Nat.zero_le _,by show 1921 <= _; omega⟩
   ·exact ⟨Nat.zero_le _,by show 5 <= _; omega⟩
   ·exact ⟨Nat.zero_le _,Nat.le_trans (show wtO (.str (Str.ofString "0")) <= 20000 by decide +kernel) (Nat.le_add_left _ _)⟩
   ·exact ⟨Nat.zero_le _,by show 5 <= _; omega⟩
   ·exact ⟨by show 0 + 1 <= _; omega,by show 0 + 3 <= _; omega⟩
   ·exact ⟨by show max (trD t).depth 0 + 1 <= _; omega,by show wtO (trD t) + 2 + 0 + 3 <= _; omega⟩
   ·exact ⟨by show max (trD t).depth (max (trD t).depth 0) + 1 <= _; omega,by show wtO (trD t) + 2 + (wtO (trD t) + 2 + 0) + 3 <= _; omega⟩
   ·exact ⟨by show max (trD t).depth (max (trD t).depth 0) + 1 <= _; omega,by show wtO (trD t) + 2 + (wtO (trD t) + 2 + 0) + 3 <= _; omega⟩
   ·exact ⟨by show max (trD t).depth (max 0 0) + 1 <= _; omega,by show wtO (trD t) + 2 + (1921 + 2 + 0) + 3 <= _; omega⟩
   ·exact ⟨Nat.zero_le _,by show 1921 <= _; omega⟩
   ·exact ⟨by show max 0 (max (trD t).depth (max 0 0)) + 1 <= _; omega,by show 1921 + 2 + (wtO (trD t) + 2 + (1921 + 2 + 0)) + 3 <= _; omega⟩
   ·exact ⟨Nat.zero_le _,by show 1921 <= _; omega⟩
  exact q _ d4 H4 (g1.trans ((g2.wk (m:=[a])).trans g4)) pp4 (o4.grow (g4.mono am')) bdd.1 bdd.2
 refine ⟨_,rfl,_,trD t,m,_,_,rfl,hd1,yQ,_,rfl,?_⟩
 cases t with
 | leaf v=>exact iteF (iteF (key _ _ ⟨_,_,rfl,rfl⟩))
 | node l r =>
  refine iteT ⟨_,rfl,_,_,rfl,rfl,_,rfl,?_⟩
  by_cases c1:1 < ch
  rotate_left
  ·exact zD (decide_eq_false c1) (key _ _ ⟨_,_,rfl,rfl⟩)
  refine zN (decide_eq_true c1) ⟨_,rfl,_,_,rfl,a,2,rfl,rfl,pp1,by decide,by decide,fun k0 H2 u2 v2 g2 pp2=>?_⟩
  obtain ⟨rt,xs,rfl,hs,os⟩:=(show Od K m H1 y (.tuple [trD l,trD r]) from hd1).inv_tup
  have hN2:max l.ht r.ht + 1 < N + 1:=hN
  have om2:=ZU g2 pp2 om1
  have hw:wtO (trD (.node l r)) = wtO (trD l) + 2 + (wtO (trD r) + 2 + 0) + 3:=rfl
  have hh:(Tr.node l r).ht = max l.ht r.ht + 1:=rfl
  have dl:=xq l
  have dr:=xq r
  cases os with
  | cons ol os =>
   obtain ⟨xr,rfl,or_⟩:=os.inv1
   rename_i xl
   have ol2:=ol.grow (g2.mono am')
   have or2:=or_.grow (g2.mono am')
   have hs2:=g2.sqT hs
   clear key
   rcases (by omega:k0 = 0 \/ k0 = 1) with rfl | rfl
   ·refine ⟨_,rfl,_,rfl,_,rfl,rt,_,0,_,rfl,rfl,hs2,zu (j:=0) rfl,_,rfl,_,_,_,rfl,a,l,n,m,rfl,ol2,rfl,pp2,am,om2,by omega,fun zi di H3 g3 pp3 oi di1 di2=>?_⟩
    have hs3:=g3.sqT hs2
    refine ⟨_,rfl,_,rfl,rt,_,1,_,rfl,rfl,hs3,zu (j:=1) rfl,szl rfl,fun p1 hp1=>⟨_,rfl,rt,_,0,_,rfl,rfl,(Grow.new (m:=[]) hp1 _).sqT hs3,zu (j:=0) rfl,_,rfl,szl rfl,fun p2 hp2=>⟨szl rfl,fun p3 hp3=>?_⟩⟩⟩
    have ga:=Grow.new (m:=[]) hp1 (.tup [zi,xr])
    have gb:=Grow.new (m:=[]) hp2 (.tup [xl,zi])
    have gc:=Grow.new (m:=[]) hp3 (.lst [.ref p1,.ref p2])
    have G3:=ga.trans (gb.trans gc)
    refine ⟨_,rfl,p3,_,0,_,rfl,rfl,SqL.of zd,zu (j:=0) rfl,q _ (.tuple [di,trD r]) _ (g1.trans (g2.trans (g3.trans G3.wk))) (pp3.grow G3) (.tup ((gb.trans gc).sqT (SqT.of zd)) (.cons (oi.grow (G3.wk (m:=m))) (.cons (or2.grow ((g3.mono am').trans (G3.wk (m:=m)))) .nil))) ?_ ?_⟩
    ·show max di.depth (max (trD r).depth 0) + 1 <= _; omega
    ·show wtO di + 2 + (wtO (trD r) + 2 + 0) + 3 <= _; omega
   ·refine ⟨_,rfl,_,rfl,_,rfl,rt,_,1,_,rfl,rfl,hs2,zu (j:=1) rfl,_,rfl,_,_,_,rfl,a,r,n,m,rfl,or2,rfl,pp2,am,om2,by omega,fun zi di H3 g3 pp3 oi di1 di2=>?_⟩
    have hs3:=g3.sqT hs2
    refine ⟨_,rfl,_,rfl,rt,_,1,_,rfl,rfl,hs3,zu (j:=1) rfl,szl rfl,fun p1 hp1=>⟨_,rfl,rt,_,0,_,rfl,rfl,(Grow.new (m:=[]) hp1 _).sqT hs3,zu (j:=0) rfl,_,rfl,szl rfl,fun p2 hp2=>⟨szl rfl,fun p3 hp3=>?_⟩⟩⟩
    have ga:=Grow.new (m:=[]) hp1 (.tup [zi,xr])
    have gb:=Grow.new (m:=[]) hp2 (.tup [xl,zi])
    have gc:=Grow.new (m:=[]) hp3 (.lst [.ref p1,.ref p2])
    have G3:=ga.trans (gb.trans gc)
    refine ⟨_,rfl,p3,_,1,_,rfl,rfl,SqL.of zd,zu (j:=1) rfl,q _ (.tuple [trD l,di]) _ (g1.trans (g2.trans (g3.trans G3.wk))) (pp3.grow G3) (.tup (gc.sqT (SqT.of zd)) (.cons (ol2.grow ((g3.mono am').trans (G3.wk (m:=m)))) (.cons (oi.grow (G3.wk (m:=m))) .nil))) ?_ ?_⟩
    ·show max (trD l).depth (max di.depth 0) + 1 <= _; omega
    ·show wtO (trD l) + 2 + (wtO di + 2 + 0) + 3 <= _; omega
theorem yx:FnScope ["_law_store_here","_law_row","_law_beyond","_law_choice","_law_at"] ["_law_store_here","_law_row","_law_beyond"] (zg (top 41)):=⟨rfl,rfl,rfl,by decide +kernel,rfl,by decide +kernel,by decide +kernel⟩
theorem vj (F:Fun K "_law_row_spoilt" "_law_row_spoilt" (top 41) f fd) (B:Blt mg) (qc0:zo P w K mg base n "_law_odd" ["_law_store_here","_law_beyond"] (sM K)) (qc1:zo P w K mg base n "_law_draw" ["_law_store_here","_law_many"] (xS K))     :
  FnOk P w K mg base CX0 (n + 1) f fd ["_law_store_here","_law_row","_law_beyond"] (vG K):=by
 refine F.ok yx vp (fun cdv A outer s H vs Q E hr h=>?_)
 obtain ⟨x,y,z,rfl,a,ds,b,m,rfl,hd,rfl,pp,am,om,l100,lq,q⟩:=h
 refine ⟨_,(@zc _ _ _ _ _ (@zA _ _ 3 _ _ _ _ yx.nd rfl (Or.inl rfl) (@zj _ _ _ _ _ _ _ _ _ _ qc1 hr rfl (@za _ _ _ _ _ (pv 0) (@za _ _ _ _ _ ze zb (by first | rfl | decide | exact Or.inl rfl | exact Or.inr rfl | exact Or.inr (Or.inl rfl) | exact Or.inr (Or.inr rfl) | exact fun _=>rfl | exact Nat.le_of_ble_eq_true rfl)) (by first | rfl | decide | exact Or.inl rfl | exact Or.inr rfl | exact Or.inr (Or.inl rfl) | exact Or.inr (Or.inr rfl) | exact fun _=>rfl | exact Nat.le_of_ble_eq_true rfl)) (by first | rfl | decide | exact Or.inl rfl | exact Or.inr rfl | exact Or.inr (Or.inl rfl) | exact Or.inr (Or.inr rfl) | exact fun _=>rfl | exact Nat.le_of_ble_eq_true rfl) (by first | rfl | decide | exact Or.inl rfl | exact Or.inr rfl | exact Or.inr (Or.inl rfl) | exact Or.inr (Or.inr rfl) | exact fun _=>rfl | exact Nat.le_of_ble_eq_true rfl) (by first | rfl | decide | exact Or.inl rfl | exact Or.inr rfl | exact Or.inr (Or.inl rfl) | exact Or.inr (Or.inr rfl) | exact fun _=>rfl | exact Nat.le_of_ble_eq_true rfl)) (by first | rfl | decide | exact Or.inl rfl | exact Or.inr rfl | exact Or.inr (Or.inl rfl) | exact Or.inr (Or.inr rfl) | exact fun _=>rfl | exact Nat.le_of_ble_eq_true rfl) (by first | rfl | decide | exact Or.inl rfl | exact Or.inr rfl | exact Or.inr (Or.inl rfl) | exact Or.inr (Or.inr rfl) | exact fun _=>rfl | exact Nat.le_of_ble_eq_true rfl)) (@zc _ _ _ _ _ (@zA _ _ 4 _ _ _ _ yx.nd rfl (Or.inl rfl) (@zj _ _ _ _ _ _ _ _ _ _ qc1 hr rfl (@za _ _ _ _ _ (pv 0) (@za _ _ _ _ _ (@zh _ _ _ _ _ _ _ _ _ (wS rfl) rfl B.max XC (@za _ _ _ _ _ ze (@za _ _ _ _ _ (@zh _ _ _ _ _ _ _ _ _ zk rfl B.len yd (@za _ _ _ _ _ (pv 1) zb (by first | rfl | decide | exact Or.inl rfl | exact Or.inr rfl | exact Or.inr (Or.inl rfl) | exact Or.inr (Or.inr rfl) | exact fun _=>rfl | exact Nat.le_of_ble_eq_true rfl)) (by first | rfl | decide | exact Or.inl rfl | exact Or.inr rfl | exact Or.inr (Or.inl rfl) | exact Or.inr (Or.inr rfl) | exact fun _=>rfl | exact Nat.le_of_ble_eq_true rfl) (by first | rfl | decide | exact Or.inl rfl | exact Or.inr rfl | exact Or.inr (Or.inl rfl) | exact Or.inr (Or.inr rfl) | exact fun _=>rfl | exact Nat.le_of_ble_eq_true rfl) (by first | rfl | decide | exact Or.inl rfl | exact Or.inr rfl | exact Or.inr (Or.inl rfl) | exact Or.inr (Or.inr rfl) | exact fun _=>rfl | exact Nat.le_of_ble_eq_true rfl) (by first | rfl | decide | exact Or.inl rfl | exact Or.inr rfl | exact Or.inr (Or.inl rfl) | exact Or.inr (Or.inr rfl) | exact fun _=>rfl | exact Nat.le_of_ble_eq_true rfl)) zb (by first | rfl | decide | exact Or.inl rfl | exact Or.inr rfl | exact Or.inr (Or.inl rfl) | exact Or.inr (Or.inr rfl) | exact fun _=>rfl | exact Nat.le_of_ble_eq_true rfl)) (by first | rfl | decide | exact Or.inl rfl | exact Or.inr rfl | exact Or.inr (Or.inl rfl) | exact Or.inr (Or.inr rfl) | exact fun _=>rfl | exact Nat.le_of_ble_eq_true rfl)) (by first | rfl | decide | exact Or.inl rfl | exact Or.inr rfl | exact Or.inr (Or.inl rfl) | exact Or.inr (Or.inr rfl) | exact fun _=>rfl | exact Nat.le_of_ble_eq_true rfl) (by first | rfl | decide | exact Or.inl rfl | exact Or.inr rfl | exact Or.inr (Or.inl rfl) | exact Or.inr (Or.inr rfl) | exact fun _=>rfl | exact Nat.le_of_ble_eq_true rfl) (by first | rfl | decide | exact Or.inl rfl | exact Or.inr rfl | exact Or.inr (Or.inl rfl) | exact Or.inr (Or.inr rfl) | exact fun _=>rfl | exact Nat.le_of_ble_eq_true rfl) (by first | rfl | decide | exact Or.inl rfl | exact Or.inr rfl | exact Or.inr (Or.inl rfl) | exact Or.inr (Or.inr rfl) | exact fun _=>rfl | exact Nat.le_of_ble_eq_true rfl)) zb (by first | rfl | decide | exact Or.inl rfl | exact Or.inr rfl | exact Or.inr (Or.inl rfl) | exact Or.inr (Or.inr rfl) | exact fun _=>rfl | exact Nat.le_of_ble_eq_true rfl)) (by first | rfl | decide | exact Or.inl rfl | exact Or.inr rfl | exact Or.inr (Or.inl rfl) | exact Or.inr (Or.inr rfl) | exact fun _=>rfl | exact Nat.le_of_ble_eq_true rfl)) (by first | rfl | decide | exact Or.inl rfl | exact Or.inr rfl | exact Or.inr (Or.inl rfl) | exact Or.inr (Or.inr rfl) | exact fun _=>rfl | exact Nat.le_of_ble_eq_true rfl) (by first | rfl | decide | exact Or.inl rfl | exact Or.inr rfl | exact Or.inr (Or.inl rfl) | exact Or.inr (Or.inr rfl) | exact fun _=>rfl | exact Nat.le_of_ble_eq_true rfl) (by first | rfl | decide | exact Or.inl rfl | exact Or.inr rfl | exact Or.inr (Or.inl rfl) | exact Or.inr (Or.inr rfl) | exact fun _=>rfl | exact Nat.le_of_ble_eq_true rfl)) (by first | rfl | decide | exact Or.inl rfl | exact Or.inr rfl | exact Or.inr (Or.inl rfl) | exact Or.inr (Or.inr rfl) | exact fun _=>rfl | exact Nat.le_of_ble_eq_true rfl) (by first | rfl | decide | exact Or.inl rfl | exact Or.inr rfl | exact Or.inr (Or.inl rfl) | exact Or.inr (Or.inr rfl) | exact fun _=>rfl | exact Nat.le_of_ble_eq_true rfl)) (@zc _ _ _ _ _ (@zM _ _ _ _ _ _ _ _ (@zB _ _ _ _ _ _ _ _ yy (pv 3) ze (zG _)) (@zf _ _ _ (@zq _ _ _ _ (@z5 _ _ _ _ _ _ _ _ _ (ZQ (K:=K) rfl) rfl B.list Wy (@za _ _ _ _ _ (pv 1) zb (by first | rfl | decide | exact Or.inl rfl | exact Or.inr rfl | exact Or.inr (Or.inl rfl) | exact Or.inr (Or.inr rfl) | exact fun _=>rfl | exact Nat.le_of_ble_eq_true rfl)) (by first | rfl | decide | exact Or.inl rfl | exact Or.inr rfl | exact Or.inr (Or.inl rfl) | exact Or.inr (Or.inr rfl) | exact fun _=>rfl | exact Nat.le_of_ble_eq_true rfl) (by first | rfl | decide | exact Or.inl rfl | exact Or.inr rfl | exact Or.inr (Or.inl rfl) | exact Or.inr (Or.inr rfl) | exact fun _=>rfl | exact Nat.le_of_ble_eq_true rfl) (by first | rfl | decide | exact Or.inl rfl | exact Or.inr rfl | exact Or.inr (Or.inl rfl) | exact Or.inr (Or.inr rfl) | exact fun _=>rfl | exact Nat.le_of_ble_eq_true rfl) (by first | rfl | decide | exact Or.inl rfl | exact Or.inr rfl | exact Or.inr (Or.inl rfl) | exact Or.inr (Or.inr rfl) | exact fun _=>rfl | exact Nat.le_of_ble_eq_true rfl)))) zp) (@zc _ _ _ _ _ (@zM _ _ _ _ _ _ _ _ (@zB _ _ _ _ _ _ _ _ yy (pv 3) ze (zG _)) (@zf _ _ _ (@zq _ _ _ _ (@zK _ _ _ _ _ _ _ _ (xB (K:=K) rfl) (@yN _ _ _ _ _ _ _ _ _ _ (xA (K:=K) rfl) (pv 1) xQ (@xc _ _ _ (pv 4))) (@yN _ _ _ _ _ _ _ _ _ _ (xA (K:=K) rfl) (pv 1) (@xc _ _ _ (@zK _ _ _ _ _ _ _ _ xH (pv 4) ze)) xQ)))) zp) (@zc _ _ _ _ _ (@zM _ _ _ _ _ _ _ _ (@zB _ _ _ _ _ _ _ _ yy (pv 3) ze (zG _)) (@zf _ _ _ (@zq _ _ _ _ (@zK _ _ _ _ _ _ _ _ (xB (K:=K) rfl) (@zK _ _ _ _ _ _ _ _ (xB (K:=K) rfl) (@yN _ _ _ _ _ _ _ _ _ _ (xA (K:=K) rfl) (pv 1) xQ (@xc _ _ _ (pv 4))) (@yN _ _ _ _ _ _ _ _ _ _ (xA (K:=K) rfl) (pv 1) (@xc _ _ _ (pv 4)) (@xc _ _ _ (@zK _ _ _ _ _ _ _ _ xH (pv 4) ze)))) (@yN _ _ _ _ _ _ _ _ _ _ (xA (K:=K) rfl) (pv 1) (@xc _ _ _ (pv 4)) xQ)))) zp) (@zc _ _ _ _ _ (@zM _ _ _ _ _ _ _ _ (@zB _ _ _ _ _ _ _ _ yy (pv 3) ze (zG _)) (@zf _ _ _ (@zq _ _ _ _ (@zH _ _ _ _ _ _ _ zZ (@xj _ _ _ _ (@za _ _ _ _ _ jH (@za _ _ _ _ _ z3 (@za _ _ _ _ _ ze (@za _ _ _ _ _ (Vw (K:=K)) (@za _ _ _ _ _ (@zK _ _ _ _ _ _ _ _ (xB (K:=K) rfl) (pv 1) (@zU _ K _ _ _ _ _ (@zm _ _ _ _ _ _ _ (@zU _ _ _ _ _ _ _ zI (by first | rfl | decide | exact Or.inl rfl | exact Or.inr rfl | exact Or.inr (Or.inl rfl) | exact Or.inr (Or.inr rfl) | exact fun _=>rfl | exact Nat.le_of_ble_eq_true rfl)) zI (by first | rfl | decide | exact Or.inl rfl | exact Or.inr rfl | exact Or.inr (Or.inl rfl) | exact Or.inr (Or.inr rfl) | exact fun _=>rfl | exact Nat.le_of_ble_eq_true rfl)) (by first | rfl | decide | exact Or.inl rfl | exact Or.inr rfl | exact Or.inr (Or.inl rfl) | exact Or.inr (Or.inr rfl) | exact fun _=>rfl | exact Nat.le_of_ble_eq_true rfl))) (@za _ _ _ _ _ vT zb (by first | rfl | decide | exact Or.inl rfl | exact Or.inr rfl | exact Or.inr (Or.inl rfl) | exact Or.inr (Or.inr rfl) | exact fun _=>rfl | exact Nat.le_of_ble_eq_true rfl)) (by first | rfl | decide | exact Or.inl rfl | exact Or.inr rfl | exact Or.inr (Or.inl rfl) | exact Or.inr (Or.inr rfl) | exact fun _=>rfl | exact Nat.le_of_ble_eq_true rfl)) (by first | rfl | decide | exact Or.inl rfl | exact Or.inr rfl | exact Or.inr (Or.inl rfl) | exact Or.inr (Or.inr rfl) | exact fun _=>rfl | exact Nat.le_of_ble_eq_true rfl)) (by first | rfl | decide | exact Or.inl rfl | exact Or.inr rfl | exact Or.inr (Or.inl rfl) | exact Or.inr (Or.inr rfl) | exact fun _=>rfl | exact Nat.le_of_ble_eq_true rfl)) (by first | rfl | decide | exact Or.inl rfl | exact Or.inr rfl | exact Or.inr (Or.inl rfl) | exact Or.inr (Or.inr rfl) | exact fun _=>rfl | exact Nat.le_of_ble_eq_true rfl)) (by first | rfl | decide | exact Or.inl rfl | exact Or.inr rfl | exact Or.inr (Or.inl rfl) | exact Or.inr (Or.inr rfl) | exact fun _=>rfl | exact Nat.le_of_ble_eq_true rfl))) (@zj _ _ _ _ _ _ _ _ _ _ qc1 hr rfl (@za _ _ _ _ _ (pv 0) (@za _ _ _ _ _ ze zb (by first | rfl | decide | exact Or.inl rfl | exact Or.inr rfl | exact Or.inr (Or.inl rfl) | exact Or.inr (Or.inr rfl) | exact fun _=>rfl | exact Nat.le_of_ble_eq_true rfl)) (by first | rfl | decide | exact Or.inl rfl | exact Or.inr rfl | exact Or.inr (Or.inl rfl) | exact Or.inr (Or.inr rfl) | exact fun _=>rfl | exact Nat.le_of_ble_eq_true rfl)) (by first | rfl | decide | exact Or.inl rfl | exact Or.inr rfl | exact Or.inr (Or.inl rfl) | exact Or.inr (Or.inr rfl) | exact fun _=>rfl | exact Nat.le_of_ble_eq_true rfl) (by first | rfl | decide | exact Or.inl rfl | exact Or.inr rfl | exact Or.inr (Or.inl rfl) | exact Or.inr (Or.inr rfl) | exact fun _=>rfl | exact Nat.le_of_ble_eq_true rfl) (by first | rfl | decide | exact Or.inl rfl | exact Or.inr rfl | exact Or.inr (Or.inl rfl) | exact Or.inr (Or.inr rfl) | exact fun _=>rfl | exact Nat.le_of_ble_eq_true rfl)) (fun _ _=>rfl)))) zp) (@zf _ _ _ (@zq _ _ _ _ (@zK _ _ _ _ _ _ _ _ (xB (K:=K) rfl) (@zK _ _ _ _ _ _ _ _ (xB (K:=K) rfl) (@yN _ _ _ _ _ _ _ _ _ _ (xA (K:=K) rfl) (pv 1) xQ (@xc _ _ _ (pv 4))) (@yz _ _ _ _ _ (@za _ _ _ _ _ (@zj _ _ _ _ _ _ _ _ _ _ qc0 hr rfl (@za _ _ _ _ _ (pv 0) (@za _ _ _ _ _ (pv 2) zb (by first | rfl | decide | exact Or.inl rfl | exact Or.inr rfl | exact Or.inr (Or.inl rfl) | exact Or.inr (Or.inr rfl) | exact fun _=>rfl | exact Nat.le_of_ble_eq_true rfl)) (by first | rfl | decide | exact Or.inl rfl | exact Or.inr rfl | exact Or.inr (Or.inl rfl) | exact Or.inr (Or.inr rfl) | exact fun _=>rfl | exact Nat.le_of_ble_eq_true rfl)) (by first | rfl | decide | exact Or.inl rfl | exact Or.inr rfl | exact Or.inr (Or.inl rfl) | exact Or.inr (Or.inr rfl) | exact fun _=>rfl | exact Nat.le_of_ble_eq_true rfl) (by first | rfl | decide | exact Or.inl rfl | exact Or.inr rfl | exact Or.inr (Or.inl rfl) | exact Or.inr (Or.inr rfl) | exact fun _=>rfl | exact Nat.le_of_ble_eq_true rfl) (by first | rfl | decide | exact Or.inl rfl | exact Or.inr rfl | exact Or.inr (Or.inl rfl) | exact Or.inr (Or.inr rfl) | exact fun _=>rfl | exact Nat.le_of_ble_eq_true rfl)) zb (by first | rfl | decide | exact Or.inl rfl | exact Or.inr rfl | exact Or.inr (Or.inl rfl) | exact Or.inr (Or.inr rfl) | exact fun _=>rfl | exact Nat.le_of_ble_eq_true rfl)))) (@yN _ _ _ _ _ _ _ _ _ _ (xA (K:=K) rfl) (pv 1) (@xc _ _ _ (@zK _ _ _ _ _ _ _ _ xH (pv 4) ze)) xQ)))))))))),?_⟩
 have am':∀ c ∈ [a],c ∈ m:=fun c hc=>by rw [List.mem_singleton.mp hc]; exact am
 refine ⟨_,rfl,_,_,rfl,a,6,rfl,rfl,pp,by decide,by decide,fun ch H1 l1 u1 g1 pp1=>?_⟩
 obtain ⟨rb,xs,rfl,hs0,t0⟩:=hd.inv_tup
 have xl:=t0.length
 have om1:=ZU g1 pp1 om
 refine ⟨_,rfl,_,rfl,rb,xs,rfl,.inr (g1.sqT hs0),_,_,rfl,_,_,rfl,a,_,rfl,rfl,pp1,?_,?_,fun at0 H2 l2 u2 g2 pp2=>?_⟩
 ·split <;> omega
 ·split <;> omega
 have hat:at0 <= 100:=by
  split at u2 <;> omega
 clear u2
 obtain ⟨t,rfl⟩:∃ t:Nat,at0 = t:=⟨at0.toNat,by omega⟩
 have G2:=g1.trans g2
 have hs2:=G2.sqT hs0
 have t2:=t0.grow (G2.mono am')
 have om2:=ZU g2 pp2 om1
 have ep:∀ u:Nat,cutV xs none (some (u:Int)) = xs.take u:=fun u=>YC
 have es:∀ u:Nat,cutV xs (some (u:Int)) none = xs.drop u:=fun u=>YD
 have es1:cutV xs (some ((t:Int) + 1)) none = xs.drop (t + 1):=es (t + 1)
 have lt:(xs.take t).length <= xs.length:=by rw [List.length_take]; omega
 have ld:∀ i,(xs.drop i).length <= xs.length:=fun i=>by rw [List.length_drop]; omega
 have dt:(ds.take t).length <= 100:=by rw [List.length_take]; omega
 have dd:∀ i,(ds.drop i).length <= 100:=fun i=>by rw [List.length_drop]; omega
 have qt:∀ p H8 (es:List PyData),Grow [] H2 H8 -> Od K m H8 (.ref p) (.tuple es) -> es.length <= 201 -> (∀ d ∈ es,lenD d <= 1000) -> Q (.ref p) H8:=fun p H8 es g o h1 h2=>q _ _ _ (G2.trans (g.mono (by simp))) (pp2.grow g) o (vH (by omega) h2) h1
 have mt:∀ d ∈ ds,lenD d <= 1000:=fun d hd=>Nat.le_trans (lq d hd) (by decide)
 clear g1 g2 hd hs0 t0 pp pp1
 refine ⟨_,rfl,rfl,_,rfl,?_⟩
 by_cases c0:ch = 0
 ·refine zN (decide_eq_true (congrArg V.int c0)) ⟨_,rfl,rb,_,rfl,.inr hs2,fun l3 h3 s3=>?_⟩
  have d3:=Grow.new (m:=[]) h3 (.lst xs)
  exact q _ _ _ (G2.trans (d3.mono (by simp))) (pp2.grow d3) (.lst zd (fun z=>om2 l3 z h3) s3 (t2.grow (d3.mono (by simp)))) rfl (Nat.zero_le _)
 refine zD (decide_eq_false fun z=>c0 (V.int.inj z)) ⟨_,rfl,rfl,_,rfl,?_⟩
 by_cases c1:ch = 1
 ·refine zN (decide_eq_true (congrArg V.int c1)) ⟨_,rfl,_,rfl,_,rfl,rb,xs,rfl,hs2,fun p3 H3 g3 s3=>?_⟩
  rw [ep] at s3
  refine ⟨_,rfl,_,rfl,_,_,rfl,rfl,_,rfl,rb,xs,rfl,g3.sqT hs2,fun p7 H7 g7 s7=>?_⟩
  rw [es1] at s7
  refine ⟨p3,p7,_,_,rfl,rfl,g7.sqT s3,s7,Nat.le_of_lt (vO (by have:=ld (t + 1); omega)),fun p8 H8 g8 s8=>?_⟩
  have G8:=g3.trans (g7.trans g8)
  refine qt p8 H8 _ G8 (.tup s8 (((t2.grow (G8.wk (m:=m))).take t).append ((t2.grow (G8.wk (m:=m))).drop (t + 1)))) (by rw [List.length_append]; have:=dd (t + 1); omega) fun d hd=>?_
  rcases List.mem_append.mp hd with h | h
  ·exact mt d (List.mem_of_mem_take h)
  ·exact mt d (List.mem_of_mem_drop h)
 refine zD (decide_eq_false fun z=>c1 (V.int.inj z)) ⟨_,rfl,rfl,_,rfl,?_⟩
 by_cases c2:ch = 2
 ·refine zN (decide_eq_true (congrArg V.int c2)) ⟨_,rfl,_,rfl,_,rfl,rb,xs,rfl,hs2,fun p3 H3 g3 s3=>?_⟩
  rw [ep] at s3
  refine ⟨_,rfl,_,rfl,_,rfl,_,rfl,_,_,rfl,rfl,_,rfl,rb,xs,rfl,g3.sqT hs2,fun p4 H4 g4 s4=>?_⟩
  have lc:=uv xs (some (t:Int)) (some ((t:Int) + 1))
  refine ⟨p3,p4,_,_,rfl,rfl,g4.sqT s3,s4,Nat.le_of_lt (vO (by omega)),fun p6 H6 g6 s6=>?_⟩
  have G6:=g3.trans (g4.trans g6)
  refine ⟨_,rfl,_,rfl,_,rfl,rb,xs,rfl,G6.sqT hs2,fun p7 H7 g7 s7=>?_⟩
  rw [es] at s7
  refine ⟨p6,p7,_,_,rfl,rfl,g7.sqT s6,s7,Nat.le_of_lt (vO (by have:=ld t; rw [List.length_append]; omega)),fun p8 H8 g8 s8=>?_⟩
  have G8:=G6.trans (g7.trans g8)
  have c1l:(cutD ds (some (t:Int)) (some ((t:Int) + 1))).length <= 1:=Xm
  refine qt p8 H8 _ G8 (.tup s8 ((((t2.grow (G8.wk (m:=m))).take t).append (t2.grow (G8.wk (m:=m))).cut).append ((t2.grow (G8.wk (m:=m))).drop t))) (by rw [List.length_append,List.length_append]; have:=dd t; omega) fun d hd=>?_
  rcases List.mem_append.mp hd with h | h
  ·rcases List.mem_append.mp h with h | h
   ·exact mt d (List.mem_of_mem_take h)
   ·exact mt d (List.mem_of_mem_drop (List.mem_of_mem_take h))
  ·exact mt d (List.mem_of_mem_drop h)
 refine zD (decide_eq_false fun z=>c2 (V.int.inj z)) ⟨_,rfl,rfl,_,rfl,?_⟩
 by_cases c3:ch = 3
 ·refine zN (decide_eq_true (congrArg V.int c3)) ⟨m,trivial,om2,fun x3 H3 g3 o3=>⟨_,rfl,m,trivial,z6 g3 om2,fun x4 H4 g4 o4=>?_⟩⟩
  obtain ⟨r4,xs4,rfl,hs4,t4⟩:=o4.inv_tup
  refine ⟨rb,r4,xs,xs4,rfl,rfl,(g3.trans g4).sqT hs2,hs4,Nat.le_of_lt (vO (by have:=t4.length; have e:xs4.length = 1:=this; omega)),fun p5 H5 g5 s5=>⟨szl rfl,fun l6 hl6=>?_⟩⟩
  have g6:=Grow.new (m:=[]) hl6 (.lst [.non,.str "",.int 0,x3,.ref p5,.bl false])
  have G36:=g3.trans (g4.trans (g5.trans g6))
  refine ⟨_,rfl,_,_,rfl,a,6,rfl,rfl,pp2.grow G36,by decide,by decide,fun n7 H7 u7 v7 g7 pp7=>?_⟩
  have o5:Od K m H7 (.ref p5) (.tuple (ds ++ [.tuple []])):=.tup (g7.sqT (g6.sqT s5)) ((t2.grow ((G36.wk (m:=m)).trans (g7.mono am'))).append (t4.grow ((g5.trans g6).wk.trans (g7.mono am'))))
  have o3':Od K m H7 x3 (.dict []):=o3.grow ((g4.trans (g5.trans g6)).wk.trans (g7.mono am'))
  have hl7:=g7.keep _ _ (fun z=>yA (pp2.grow (g3.trans (g4.trans g5))) l6 z hl6) (zd (H:=H5) (a:=l6) (o:=.lst [.non,.str "",.int 0,x3,.ref p5,.bl false]))
  have G7:=G2.trans ((G36.wk (m:=[a])).trans g7)
  rcases (by omega:n7 = 0 \/ n7 = 1 \/ n7 = 2 \/ n7 = 3 \/ n7 = 4 \/ n7 = 5) with rfl | rfl | rfl | rfl | rfl | rfl
  ·exact ⟨l6,_,0,_,rfl,rfl,SqL.of hl7,zu (j:=0) rfl,q _ _ _ G7 pp7 .non rfl (Nat.zero_le _)⟩
  ·exact ⟨l6,_,1,_,rfl,rfl,SqL.of hl7,zu (j:=1) rfl,q _ _ _ G7 pp7 (.str _) rfl (Nat.zero_le _)⟩
  ·exact ⟨l6,_,2,_,rfl,rfl,SqL.of hl7,zu (j:=2) rfl,q _ _ _ G7 pp7 (.int _) rfl (Nat.zero_le _)⟩
  ·exact ⟨l6,_,3,_,rfl,rfl,SqL.of hl7,zu (j:=3) rfl,q _ _ _ G7 pp7 o3' rfl (Nat.zero_le _)⟩
  ·refine ⟨l6,_,4,_,rfl,rfl,SqL.of hl7,zu (j:=4) rfl,q _ _ _ G7 pp7 o5 (vH ?_ fun d hd=>?_) ?_⟩
   ·rw [List.length_append]; show ds.length + 1 <= 1000; omega
   ·rcases List.mem_append.mp hd with h | h
    ·exact mt d h
    ·rw [List.mem_singleton.mp h]; exact Nat.zero_le _
   ·show (ds ++ [PyData.tuple []]).length <= 201
    rw [List.length_append]; show ds.length + 1 <= 201; omega
  ·exact ⟨l6,_,5,_,rfl,rfl,SqL.of hl7,zu (j:=5) rfl,q _ _ _ G7 pp7 (.bl _) rfl (Nat.zero_le _)⟩
 refine zD (decide_eq_false fun z=>c3 (V.int.inj z)) (zL ⟨_,rfl,_,rfl,_,rfl,rb,xs,rfl,hs2,fun p3 H3 g3 s3=>?_⟩)
 rw [ep] at s3
 refine ⟨_,rfl,_,rfl,_,_,rfl,a,b,m,rfl,rfl,pp2.grow g3,am,z6 g3 om2,fun z d' H4 g4 pp4 o4 dl=>⟨szl rfl,fun t5 h5=>?_⟩⟩
 have d5:=Grow.new (m:=[]) h5 (.tup [z])
 refine ⟨p3,t5,_,_,rfl,rfl,d5.sqT (g4.sqT s3),SqT.of zd,Nat.le_of_lt (vO (by show _ + 1 <= 16000000; omega)),fun p6 H6 g6 s6=>?_⟩
 have G6:Grow [a] H2 H6:=(g3.mono (by simp)).trans (g4.trans ((d5.trans g6).mono (by simp)))
 refine ⟨_,rfl,_,rfl,_,_,rfl,rfl,_,rfl,rb,xs,rfl,G6.sqT hs2,fun p7 H7 g7 s7=>?_⟩
 rw [es1] at s7
 refine ⟨p6,p7,_,_,rfl,rfl,g7.sqT s6,s7,Nat.le_of_lt (vO (by have:=ld (t + 1); rw [List.length_append]; show _ + 1 + _ <= 16000000; omega)),fun p8 H8 g8 s8=>?_⟩
 have G8:Grow [a] H2 H8:=G6.trans ((g7.trans g8).mono (by simp))
 have o8:=o4.grow ((d5.trans (g6.trans (g7.trans g8))).mono (m':=m) (by simp))
 refine q _ _ H8 (G2.trans G8) (pp4.grow (d5.trans (g6.trans (g7.trans g8)))) (.tup s8 ((((t2.grow (G8.mono am')).take t).append (.cons o8 .nil)).append ((t2.grow (G8.mono am')).drop (t + 1)))) (vH ?_ fun d hd=>?_) ?_
 ·rw [List.length_append,List.length_append]; have:=dd (t + 1); show _ + 1 + _ <= _; omega
 ·rcases List.mem_append.mp hd with h | h
  ·rcases List.mem_append.mp h with h | h
   ·exact mt d (List.mem_of_mem_take h)
   ·rw [List.mem_singleton.mp h]; omega
  ·exact mt d (List.mem_of_mem_drop h)
 ·show List.length (α:=PyData) (_ ++ _) <= 201
  rw [List.length_append,List.length_append]; have:=dd (t + 1); show _ + 1 + _ <= _; omega
theorem yq:FnScope ["_law_store_here","_law_rows","_law_beyond","_law_choice","_law_at"] ["_law_store_here","_law_rows","_law_beyond"] (zg (top 42)):=⟨rfl,rfl,rfl,by decide +kernel,rfl,by decide +kernel,by decide +kernel⟩
theorem wN (F:Fun K "_law_rows_spoilt" "_law_rows_spoilt" (top 42) f fd) (B:Blt mg) (qc0:zo P w K mg base n "_law_row_spoilt" ["_law_store_here","_law_row","_law_beyond"] (vG K)) (qc1:zo P w K mg base n "_law_draw" ["_law_store_here","_law_many"] (xS K))     :
  FnOk P w K mg base CX0 (n + 1) f fd ["_law_store_here","_law_rows","_law_beyond"] (qc K):=by
 refine F.ok yq vp (fun cdv A outer s H vs Q E hr h=>?_)
 obtain ⟨x,y,z,rfl,a,ds,b,m,rfl,hd,rfl,pp,am,om,l1,l100,lq,q⟩:=h
 refine ⟨_,(@zc _ _ _ _ _ (@zA _ _ 3 _ _ _ _ yq.nd rfl (Or.inl rfl) (@zj _ _ _ _ _ _ _ _ _ _ qc1 hr rfl (@za _ _ _ _ _ (pv 0) (@za _ _ _ _ _ ze zb (by first | rfl | decide | exact Or.inl rfl | exact Or.inr rfl | exact Or.inr (Or.inl rfl) | exact Or.inr (Or.inr rfl) | exact fun _=>rfl | exact Nat.le_of_ble_eq_true rfl)) (by first | rfl | decide | exact Or.inl rfl | exact Or.inr rfl | exact Or.inr (Or.inl rfl) | exact Or.inr (Or.inr rfl) | exact fun _=>rfl | exact Nat.le_of_ble_eq_true rfl)) (by first | rfl | decide | exact Or.inl rfl | exact Or.inr rfl | exact Or.inr (Or.inl rfl) | exact Or.inr (Or.inr rfl) | exact fun _=>rfl | exact Nat.le_of_ble_eq_true rfl) (by first | rfl | decide | exact Or.inl rfl | exact Or.inr rfl | exact Or.inr (Or.inl rfl) | exact Or.inr (Or.inr rfl) | exact fun _=>rfl | exact Nat.le_of_ble_eq_true rfl) (by first | rfl | decide | exact Or.inl rfl | exact Or.inr rfl | exact Or.inr (Or.inl rfl) | exact Or.inr (Or.inr rfl) | exact fun _=>rfl | exact Nat.le_of_ble_eq_true rfl)) (by first | rfl | decide | exact Or.inl rfl | exact Or.inr rfl | exact Or.inr (Or.inl rfl) | exact Or.inr (Or.inr rfl) | exact fun _=>rfl | exact Nat.le_of_ble_eq_true rfl) (by first | rfl | decide | exact Or.inl rfl | exact Or.inr rfl | exact Or.inr (Or.inl rfl) | exact Or.inr (Or.inr rfl) | exact fun _=>rfl | exact Nat.le_of_ble_eq_true rfl)) (@zc _ _ _ _ _ (@zM _ _ _ _ _ _ _ _ (@zB _ _ _ _ _ _ _ _ yy (pv 3) ze (zG _)) (@zf _ _ _ (@zq _ _ _ _ (@zj _ _ _ _ _ _ _ _ _ _ qc0 hr rfl (@za _ _ _ _ _ (pv 0) (@za _ _ _ _ _ (pv 1) (@za _ _ _ _ _ (pv 2) zb (by first | rfl | decide | exact Or.inl rfl | exact Or.inr rfl | exact Or.inr (Or.inl rfl) | exact Or.inr (Or.inr rfl) | exact fun _=>rfl | exact Nat.le_of_ble_eq_true rfl)) (by first | rfl | decide | exact Or.inl rfl | exact Or.inr rfl | exact Or.inr (Or.inl rfl) | exact Or.inr (Or.inr rfl) | exact fun _=>rfl | exact Nat.le_of_ble_eq_true rfl)) (by first | rfl | decide | exact Or.inl rfl | exact Or.inr rfl | exact Or.inr (Or.inl rfl) | exact Or.inr (Or.inr rfl) | exact fun _=>rfl | exact Nat.le_of_ble_eq_true rfl)) (by first | rfl | decide | exact Or.inl rfl | exact Or.inr rfl | exact Or.inr (Or.inl rfl) | exact Or.inr (Or.inr rfl) | exact fun _=>rfl | exact Nat.le_of_ble_eq_true rfl) (by first | rfl | decide | exact Or.inl rfl | exact Or.inr rfl | exact Or.inr (Or.inl rfl) | exact Or.inr (Or.inr rfl) | exact fun _=>rfl | exact Nat.le_of_ble_eq_true rfl) (by first | rfl | decide | exact Or.inl rfl | exact Or.inr rfl | exact Or.inr (Or.inl rfl) | exact Or.inr (Or.inr rfl) | exact fun _=>rfl | exact Nat.le_of_ble_eq_true rfl)))) zp) (@zc _ _ _ _ _ (@zA _ _ 4 _ _ _ _ yq.nd rfl (Or.inl rfl) (@zj _ _ _ _ _ _ _ _ _ _ qc1 hr rfl (@za _ _ _ _ _ (pv 0) (@za _ _ _ _ _ (@zh _ _ _ _ _ _ _ _ _ zk rfl B.len yd (@za _ _ _ _ _ (pv 1) zb (by first | rfl | decide | exact Or.inl rfl | exact Or.inr rfl | exact Or.inr (Or.inl rfl) | exact Or.inr (Or.inr rfl) | exact fun _=>rfl | exact Nat.le_of_ble_eq_true rfl)) (by first | rfl | decide | exact Or.inl rfl | exact Or.inr rfl | exact Or.inr (Or.inl rfl) | exact Or.inr (Or.inr rfl) | exact fun _=>rfl | exact Nat.le_of_ble_eq_true rfl) (by first | rfl | decide | exact Or.inl rfl | exact Or.inr rfl | exact Or.inr (Or.inl rfl) | exact Or.inr (Or.inr rfl) | exact fun _=>rfl | exact Nat.le_of_ble_eq_true rfl) (by first | rfl | decide | exact Or.inl rfl | exact Or.inr rfl | exact Or.inr (Or.inl rfl) | exact Or.inr (Or.inr rfl) | exact fun _=>rfl | exact Nat.le_of_ble_eq_true rfl) (by first | rfl | decide | exact Or.inl rfl | exact Or.inr rfl | exact Or.inr (Or.inl rfl) | exact Or.inr (Or.inr rfl) | exact fun _=>rfl | exact Nat.le_of_ble_eq_true rfl)) zb (by first | rfl | decide | exact Or.inl rfl | exact Or.inr rfl | exact Or.inr (Or.inl rfl) | exact Or.inr (Or.inr rfl) | exact fun _=>rfl | exact Nat.le_of_ble_eq_true rfl)) (by first | rfl | decide | exact Or.inl rfl | exact Or.inr rfl | exact Or.inr (Or.inl rfl) | exact Or.inr (Or.inr rfl) | exact fun _=>rfl | exact Nat.le_of_ble_eq_true rfl)) (by first | rfl | decide | exact Or.inl rfl | exact Or.inr rfl | exact Or.inr (Or.inl rfl) | exact Or.inr (Or.inr rfl) | exact fun _=>rfl | exact Nat.le_of_ble_eq_true rfl) (by first | rfl | decide | exact Or.inl rfl | exact Or.inr rfl | exact Or.inr (Or.inl rfl) | exact Or.inr (Or.inr rfl) | exact fun _=>rfl | exact Nat.le_of_ble_eq_true rfl) (by first | rfl | decide | exact Or.inl rfl | exact Or.inr rfl | exact Or.inr (Or.inl rfl) | exact Or.inr (Or.inr rfl) | exact fun _=>rfl | exact Nat.le_of_ble_eq_true rfl)) (by first | rfl | decide | exact Or.inl rfl | exact Or.inr rfl | exact Or.inr (Or.inl rfl) | exact Or.inr (Or.inr rfl) | exact fun _=>rfl | exact Nat.le_of_ble_eq_true rfl) (by first | rfl | decide | exact Or.inl rfl | exact Or.inr rfl | exact Or.inr (Or.inl rfl) | exact Or.inr (Or.inr rfl) | exact fun _=>rfl | exact Nat.le_of_ble_eq_true rfl)) (@zf _ _ _ (@zq _ _ _ _ (@zK _ _ _ _ _ _ _ _ (xB (K:=K) rfl) (@zK _ _ _ _ _ _ _ _ (xB (K:=K) rfl) (@yN _ _ _ _ _ _ _ _ _ _ (xA (K:=K) rfl) (pv 1) xQ (@xc _ _ _ (pv 4))) (@yz _ _ _ _ _ (@za _ _ _ _ _ (@zj _ _ _ _ _ _ _ _ _ _ qc0 hr rfl (@za _ _ _ _ _ (pv 0) (@za _ _ _ _ _ (@zH _ _ _ _ _ _ _ zJ (pv 1) (pv 4) (fun _ _=>rfl)) (@za _ _ _ _ _ (pv 2) zb (by first | rfl | decide | exact Or.inl rfl | exact Or.inr rfl | exact Or.inr (Or.inl rfl) | exact Or.inr (Or.inr rfl) | exact fun _=>rfl | exact Nat.le_of_ble_eq_true rfl)) (by first | rfl | decide | exact Or.inl rfl | exact Or.inr rfl | exact Or.inr (Or.inl rfl) | exact Or.inr (Or.inr rfl) | exact fun _=>rfl | exact Nat.le_of_ble_eq_true rfl)) (by first | rfl | decide | exact Or.inl rfl | exact Or.inr rfl | exact Or.inr (Or.inl rfl) | exact Or.inr (Or.inr rfl) | exact fun _=>rfl | exact Nat.le_of_ble_eq_true rfl)) (by first | rfl | decide | exact Or.inl rfl | exact Or.inr rfl | exact Or.inr (Or.inl rfl) | exact Or.inr (Or.inr rfl) | exact fun _=>rfl | exact Nat.le_of_ble_eq_true rfl) (by first | rfl | decide | exact Or.inl rfl | exact Or.inr rfl | exact Or.inr (Or.inl rfl) | exact Or.inr (Or.inr rfl) | exact fun _=>rfl | exact Nat.le_of_ble_eq_true rfl) (by first | rfl | decide | exact Or.inl rfl | exact Or.inr rfl | exact Or.inr (Or.inl rfl) | exact Or.inr (Or.inr rfl) | exact fun _=>rfl | exact Nat.le_of_ble_eq_true rfl)) zb (by first | rfl | decide | exact Or.inl rfl | exact Or.inr rfl | exact Or.inr (Or.inl rfl) | exact Or.inr (Or.inr rfl) | exact fun _=>rfl | exact Nat.le_of_ble_eq_true rfl)))) (@yN _ _ _ _ _ _ _ _ _ _ (xA (K:=K) rfl) (pv 1) (@xc _ _ _ (@zK _ _ _ _ _ _ _ _ xH (pv 4) ze)) xQ))))))),?_⟩
 have am':∀ c ∈ [a],c ∈ m:=fun c hc=>by rw [List.mem_singleton.mp hc]; exact am
 refine ⟨_,rfl,_,_,rfl,a,3,rfl,rfl,pp,by decide,by decide,fun ch H1 u1 v1 g1 pp1=>?_⟩
 have om1:=ZU g1 pp1 om
 have hd1:=hd.grow (g1.mono am')
 refine ⟨_,rfl,rfl,_,rfl,?_⟩
 by_cases c0:ch = 0
 ·refine zN (decide_eq_true (congrArg V.int c0)) ⟨_,rfl,_,rfl,_,rfl,_,_,_,rfl,a,ds,b,m,rfl,hd1,rfl,pp1,am,om1,l100,fun d hd=>?_,fun z d H' g pp' o sh _=>q _ _ _ (g1.trans g) pp' o sh⟩
  obtain ⟨es,rfl,e1,_⟩:=lq d hd
  exact Nat.le_trans e1 (by decide)
 refine zD (decide_eq_false fun z=>c0 (V.int.inj z)) ?_
 obtain ⟨rb,xs,rfl,hs0,t0⟩:=hd1.inv_tup
 have xl:=t0.length
 refine ⟨_,rfl,_,rfl,rb,xs,rfl,.inr hs0,_,_,rfl,a,_,rfl,rfl,pp1,by omega,by omega,fun at0 H2 l2 u2 g2 pp2=>?_⟩
 obtain ⟨t,rfl⟩:∃ t:Nat,at0 = t:=⟨at0.toNat,by omega⟩
 have G2:=g1.trans g2
 have hs2:=g2.sqT hs0
 have t2:=t0.grow (g2.mono am')
 have om2:=ZU g2 pp2 om1
 have ep:∀ u:Nat,cutV xs none (some (u:Int)) = xs.take u:=fun u=>YC
 have es1:cutV xs (some ((t:Int) + 1)) none = xs.drop (t + 1):=YD (c:=t + 1)
 have lt:(xs.take t).length <= xs.length:=by rw [List.length_take]; omega
 have ld:∀ i,(xs.drop i).length <= xs.length:=fun i=>by rw [List.length_drop]; omega
 have dt:(ds.take t).length <= 100:=by rw [List.length_take]; omega
 have dd:∀ i,(ds.drop i).length <= 100:=fun i=>by rw [List.length_drop]; omega
 have mt:∀ d ∈ ds,lenD d <= 1000:=fun d hd=>by
  obtain ⟨es,rfl,e1,_⟩:=lq d hd
  exact Nat.le_trans e1 (by decide)
 refine zL ⟨_,rfl,_,rfl,_,rfl,rb,xs,rfl,hs2,fun p3 H3 g3 s3=>?_⟩
 rw [ep] at s3
 obtain ⟨xe,hxe⟩:∃ x,xs[t]? = some x:=⟨_,List.getElem?_eq_getElem (by omega)⟩
 obtain ⟨e,hde,oe⟩:=t2.get hxe
 obtain ⟨es,rfl,el,em⟩:=lq e (List.mem_of_getElem? hde)
 refine ⟨_,rfl,_,rfl,_,rfl,rb,_,t,_,rfl,rfl,g3.sqT hs2,zu hxe,_,rfl,_,_,_,rfl,a,es,b,m,rfl,oe.grow (g3.wk (m:=m)),rfl,pp2.grow g3,am,z6 g3 om2,el,em,fun z d' H4 g4 pp4 o4 _ dl=>⟨szl rfl,fun t5 h5=>?_⟩⟩
 have d5:=Grow.new (m:=[]) h5 (.tup [z])
 refine ⟨p3,t5,_,_,rfl,rfl,d5.sqT (g4.sqT s3),SqT.of zd,Nat.le_of_lt (vO (by show _ + 1 <= 16000000; omega)),fun p6 H6 g6 s6=>?_⟩
 have G6:Grow [a] H2 H6:=(g3.mono (by simp)).trans (g4.trans ((d5.trans g6).mono (by simp)))
 refine ⟨_,rfl,_,rfl,_,_,rfl,rfl,_,rfl,rb,xs,rfl,G6.sqT hs2,fun p7 H7 g7 s7=>?_⟩
 rw [es1] at s7
 refine ⟨p6,p7,_,_,rfl,rfl,g7.sqT s6,s7,Nat.le_of_lt (vO (by have:=ld (t + 1); rw [List.length_append]; show _ + 1 + _ <= 16000000; omega)),fun p8 H8 g8 s8=>?_⟩
 have G8:Grow [a] H2 H8:=G6.trans ((g7.trans g8).mono (by simp))
 have o8:=o4.grow ((d5.trans (g6.trans (g7.trans g8))).mono (m':=m) (by simp))
 refine q _ _ H8 (G2.trans G8) (pp4.grow (d5.trans (g6.trans (g7.trans g8)))) (.tup s8 ((((t2.grow (G8.mono am')).take t).append (.cons o8 .nil)).append ((t2.grow (G8.mono am')).drop (t + 1)))) (vH ?_ fun d hd=>?_)
 ·rw [List.length_append,List.length_append]; have:=dd (t + 1); show _ + 1 + _ <= _; omega
 ·rcases List.mem_append.mp hd with h | h
  ·rcases List.mem_append.mp h with h | h
   ·exact mt d (List.mem_of_mem_take h)
   ·rw [List.mem_singleton.mp h]; omega
  ·exact mt d (List.mem_of_mem_drop h)
theorem x9:FnScope ["_law_store_here","_law_first","_law_many","_law_left","_law_one"] ["_law_store_here","_law_first","_law_many"] (zg (top 39)):=⟨rfl,rfl,rfl,by decide +kernel,rfl,by decide +kernel,by decide +kernel⟩
theorem qE (F:Fun K "_law_tree" "_law_tree" (top 39) f fd) (B:Blt mg) {N:Nat} (qc0:zo P w K mg base n "_law_tree" ["_law_store_here","_law_first","_law_many"] (wj N K)) (qc1:zo P w K mg base n "_law_draw" ["_law_store_here","_law_many"] (xS K))     :
  FnOk P w K mg base CX0 (n + 1) f fd ["_law_store_here","_law_first","_law_many"] (wj (N + 1) K):=by
 refine F.ok x9 vp (fun cdv A outer s H vs Q E hr h=>?_)
 obtain ⟨x,y,z,rfl,a,f0,m,rfl,rfl,rfl,pp,f1,m0,m1,fm,q⟩:=h
 refine ⟨_,(zc (zM (zB yy (pv 2) ze (zG _)) (zf (zq (pv 1))) zp) (zc (zA (i:=3) x9.nd rfl (Or.inl rfl) (zK xH ze (zj qc1 hr rfl (za (pv 0) (za (zK vM (pv 2) ze) zb))))) (zc (zA (i:=4) x9.nd rfl (Or.inl rfl) (zj qc0 hr rfl (za (pv 0) (za (pv 1) (za (pv 3) zb))))) (zf (zq (yz (za (pv 4) (za (zj qc0 hr rfl (za (pv 0) (za (zK xH (pv 1) (pv 3)) (za (zK vM (pv 2) (pv 3)) zb)))) zb)))))))),?_⟩
 refine ⟨_,rfl,rfl,_,rfl,?_⟩
 by_cases cm:m = 1
 ·subst cm
  exact zN (decide_eq_true rfl) ⟨_,rfl,q _ (.leaf f0) _ (Grow.refl _ _) pp rfl rfl rfl Nat.zero_lt_one ⟨by omega,by omega⟩⟩
 refine zD (decide_eq_false fun z=>cm (V.int.inj z)) ?_
 refine ⟨_,rfl,_,rfl,_,_,rfl,rfl,_,_,rfl,a,_,rfl,rfl,pp,by omega,by omega,fun n1 H1 l1 u1 g1 pp1=>⟨_,_,rfl,rfl,?_⟩⟩
 refine ⟨_,rfl,_,rfl,_,rfl,_,_,_,rfl,a,f0,1 + n1,rfl,rfl,rfl,pp1,f1,by omega,by omega,by omega,fun y2 T2 H2 g2 pp2 h2 o2 k2 d2 n2=>?_⟩
 refine ⟨_,rfl,_,rfl,_,rfl,_,rfl,_,_,rfl,rfl,_,rfl,_,rfl,_,_,rfl,rfl,_,_,_,rfl,a,f0 + (1 + n1),m - (1 + n1),rfl,rfl,rfl,pp2,by omega,by omega,by omega,by omega,fun y3 T3 H3 g3 pp3 h3 o3 k3 d3 n3=>⟨szl rfl,fun t4 ht4=>?_⟩⟩
 have g4:Grow [a] H3 (upd H3 t4 (.tup [y2,y3])):=Grow.new ht4 _
 refine q _ (.node T2 T3) _ (g1.trans (g2.trans (g3.trans g4))) (pp3.new ht4 _) ⟨t4,y2,y3,rfl,SqT.of zd,g4.tree (g3.tree h2),g4.tree h3⟩ ⟨o2,by rw [k2]; exact o3⟩ ?_ ?_ ⟨n2,n3⟩
 ·show T2.count + T3.count = m; omega
 ·show max T2.ht T3.ht + 1 < m.toNat; omega
theorem zr:FnScope ["_law_store_here","_law_bad","_law_states","_law_rows","_law_many","_law_deeds","_law_table","_law_numbers","_law_tree_here","_law_state"] ["_law_store_here","_law_bad"] (zg (top 54)):=⟨rfl,rfl,rfl,by decide +kernel,rfl,by decide +kernel,by decide +kernel⟩
theorem tI (F:Fun K "_law_things" "_law_things" (top 54) f fd) (B:Blt mg) (qc0:zo P w K mg base n "_law_odd" ["_law_store_here","_law_beyond"] (sM K)) (qc1:zo P w K mg base n "_law_tree_spoilt" ["_law_store_here","_law_tree_here","_law_many"] (wv 41 K)) (qc2:zo P w K mg base n "_law_draw" ["_law_store_here","_law_many"] (xS K)) (qc3:zo P w K mg base n "_law_row_spoilt" ["_law_store_here","_law_row","_law_beyond"] (vG K)) (qc4:zo P w K mg base n "_law_rows_spoilt" ["_law_store_here","_law_rows","_law_beyond"] (qc K)) (qc5:zo P w K mg base n "_law_tree" ["_law_store_here","_law_first","_law_many"] (wj 40 K))     :
  FnOk P w K mg base CX0 (n + 1) f fd ["_law_store_here","_law_bad"] (uV K):=by
 refine F.ok zr xf (fun cdv A outer s H vs Q E hr h=>?_)
 obtain ⟨x,y,rfl,a,b,bs,rfl,rfl,pp,nb,hb,bl,q⟩:=h
 refine ⟨_,(zc (zA (i:=2) zr.nd rfl (Or.inr rfl) (zK xH ze (zj qc2 hr rfl (za (pv 0) (za ze zb))))) (zc (zA (i:=3) zr.nd rfl (Or.inr rfl) (zK xH ze (zj qc2 hr rfl (za (pv 0) (za ze zb))))) (zc (zA (i:=4) zr.nd rfl (Or.inl rfl) (zK xH ze (zj qc2 hr rfl (za (pv 0) (za ze zb))))) (zc (zA (i:=5) zr.nd rfl (Or.inl rfl) (z5 z9 rfl B.tuple zS (za (zY (CSc.of (N':=["_law_k","_law_states","_law_store_here"]) (sub:=[none,some 2,some 0]) (zg (top 54)) ["_law_store_here","_law_bad","_law_states","_law_rows","_law_many","_law_deeds","_law_table","_law_numbers","_law_tree_here","_law_state"] rfl rfl (by decide +kernel) rfl) rfl (yj rfl B.range (za (pv 3) zb)) (fun _ _ _ _ _ _=>zz (i:=0) (show (["_law_k","_law_states","_law_store_here"]:List Str).Nodup by decide +kernel) rfl (Or.inl rfl)) (fun _ _ _ _ _ _=>zQ) (fun _ _ _ _ _ _=>(z5 (wB (K:=K) rfl) rfl B.tuple zS (za (zY (CSc.nest (N2:=["_law_state","_law_store_here","_law_states"]) (sub2:=[none,some 2,some 1]) (CSc.of (N':=["_law_k","_law_states","_law_store_here"]) (sub:=[none,some 2,some 0]) (zg (top 54)) ["_law_store_here","_law_bad","_law_states","_law_rows","_law_many","_law_deeds","_law_table","_law_numbers","_law_tree_here","_law_state"] rfl rfl (by decide +kernel) rfl) rfl (by decide +kernel) rfl) rfl (yj rfl B.range (za (pv 1) zb)) (fun _ _ _ _ _ _=>zz (i:=0) (show (["_law_state","_law_store_here","_law_states"]:List Str).Nodup by decide +kernel) rfl (Or.inl rfl)) (fun _ _ _ _ _ _=>zQ) (fun _ _ _ _ _ _=>(zj qc2 hr rfl (za (pv 1) (za (pv 2) zb))))) zb)))) zb))) (zc (zA (i:=6) zr.nd rfl (Or.inl rfl) (z5 z9 rfl B.tuple zS (za (zY (CSc.of (N':=["_law_i","_law_rows","_law_store_here"]) (sub:=[none,some 3,some 0]) (zg (top 54)) ["_law_store_here","_law_bad","_law_states","_law_rows","_law_many","_law_deeds","_law_table","_law_numbers","_law_tree_here","_law_state"] rfl rfl (by decide +kernel) rfl) rfl (yj rfl B.range (za (pv 3) zb)) (fun _ _ _ _ _ _=>zz (i:=0) (show (["_law_i","_law_rows","_law_store_here"]:List Str).Nodup by decide +kernel) rfl (Or.inl rfl)) (fun _ _ _ _ _ _=>zQ) (fun _ _ _ _ _ _=>(z5 (wB (K:=K) rfl) rfl B.tuple zS (za (zY (CSc.nest (N2:=["_law_j","_law_store_here","_law_rows"]) (sub2:=[none,some 2,some 1]) (CSc.of (N':=["_law_i","_law_rows","_law_store_here"]) (sub:=[none,some 3,some 0]) (zg (top 54)) ["_law_store_here","_law_bad","_law_states","_law_rows","_law_many","_law_deeds","_law_table","_law_numbers","_law_tree_here","_law_state"] rfl rfl (by decide +kernel) rfl) rfl (by decide +kernel) rfl) rfl (yj rfl B.range (za (pv 1) zb)) (fun _ _ _ _ _ _=>zz (i:=0) (show (["_law_j","_law_store_here","_law_rows"]:List Str).Nodup by decide +kernel) rfl (Or.inl rfl)) (fun _ _ _ _ _ _=>zQ) (fun _ _ _ _ _ _=>(zj qc2 hr rfl (za (pv 1) (za (pv 2) zb))))) zb)))) zb))) (zc (zA (i:=7) zr.nd rfl (Or.inl rfl) (z5 z9 rfl B.tuple zS (za (zY (CSc.of (N':=["_law_k","_law_store_here","_law_rows"]) (sub:=[none,some 0,some 3]) (zg (top 54)) ["_law_store_here","_law_bad","_law_states","_law_rows","_law_many","_law_deeds","_law_table","_law_numbers","_law_tree_here","_law_state"] rfl rfl (by decide +kernel) rfl) rfl (yj rfl B.range (za (pv 4) zb)) (fun _ _ _ _ _ _=>zz (i:=0) (show (["_law_k","_law_store_here","_law_rows"]:List Str).Nodup by decide +kernel) rfl (Or.inl rfl)) (fun _ _ _ _ _ _=>zQ) (fun _ _ _ _ _ _=>(zj qc2 hr rfl (za (pv 1) (za (pv 2) zb))))) zb))) (zc (zA (i:=8) zr.nd rfl (Or.inl rfl) (zj qc5 hr rfl (za (pv 0) (za ze (za (pv 4) zb))))) (zc (zA (i:=9) zr.nd rfl (Or.inl rfl) (zj qc2 hr rfl (za (pv 0) (za (pv 2) zb)))) (zc (zM (zB yy (zH zZ (pv 1) ze (fun _ _=>rfl)) ze (zG _)) (zf (zA (i:=5) zr.nd rfl (Or.inl rfl) (zj qc4 hr rfl (za (pv 0) (za (pv 5) (za (pv 2) zb)))))) zp) (zc (zM (zB yy (zH zZ (pv 1) ze (fun _ _=>rfl)) ze (zG _)) (zf (zA (i:=5) zr.nd rfl (Or.inl rfl) (zH zJ (yz (za (zK (xg (K:=K) rfl) (yz (za (uL rfl rfl B.tuple rfl B.range (za ze zb)) zb)) (pv 3)) (za (zK (xg (K:=K) rfl) (zU (K:=K) (zm (zU (zm yl zI)) zI)) ze) (za (zU (K:=K) zI) (za (zK (xg (K:=K) rfl) (pv 5) ze) (za (zK (xg (K:=K) rfl) (zU (K:=K) (zm (zU (zm yl zI)) zI)) ze) zb)))))) (zj qc2 hr rfl (za (pv 0) (za ze zb))) (fun _ _=>rfl)))) zp) (zc (zM (zB yy (zH zZ (pv 1) ze (fun _ _=>rfl)) ze (zG _)) (zf (zA (i:=6) zr.nd rfl (Or.inl rfl) (zj qc4 hr rfl (za (pv 0) (za (pv 6) (za (pv 3) zb)))))) zp) (zc (zM (zB yy (zH zZ (pv 1) ze (fun _ _=>rfl)) ze (zG _)) (zf (zA (i:=6) zr.nd rfl (Or.inl rfl) (zH zJ (yz (za (zU (K:=K) zI) (za (zK (xg (K:=K) rfl) (yz (za (zK (xg (K:=K) rfl) (zU (K:=K) (zm yl zI)) ze) zb)) ze) (za (zU (K:=K) (zm (zU zI) zI)) (za (zK (xg (K:=K) rfl) (yz (za (zK (xg (K:=K) rfl) (zU (K:=K) (zm yl zI)) ze) zb)) ze) zb))))) (zj qc2 hr rfl (za (pv 0) (za ze zb))) (fun _ _=>rfl)))) zp) (zc (zM (zB yy (zH zZ (pv 1) ze (fun _ _=>rfl)) ze (zG _)) (zf (zA (i:=7) zr.nd rfl (Or.inl rfl) (zj qc3 hr rfl (za (pv 0) (za (pv 7) (za (pv 3) zb)))))) zp) (zc (zM (zB yy (zH zZ (pv 1) ze (fun _ _=>rfl)) ze (zG _)) (zf (zA (i:=7) zr.nd rfl (Or.inl rfl) (zH zJ (yz (za (zU (K:=K) zI) (za (zK (xg (K:=K) rfl) (zU (K:=K) (zm yl zI)) ze) (za (zK (xg (K:=K) rfl) (zU (K:=K) (zm yl zI)) ze) zb)))) (zj qc2 hr rfl (za (pv 0) (za ze zb))) (fun _ _=>rfl)))) zp) (zc (zM (zB yy (zH zZ (pv 1) ze (fun _ _=>rfl)) ze (zG _)) (zf (zA (i:=8) zr.nd rfl (Or.inl rfl) (zj qc1 hr rfl (za (pv 0) (za (pv 8) (za (pv 4) zb)))))) zp) (zc (zM (zB yy (zH zZ (pv 1) ze (fun _ _=>rfl)) ze (zG _)) (zf (zA (i:=9) zr.nd rfl (Or.inl rfl) (zj qc0 hr rfl (za (pv 0) (za (pv 2) zb))))) zp) (zf (zq (yz (za (pv 5) (za (pv 6) (za (pv 7) (za (pv 8) (za (pv 9) zb)))))))))))))))))))))))),?_⟩
 obtain ⟨b0,b1,b2,b3,b4,rfl⟩:∃ b0 b1 b2 b3 b4,bs = [b0,b1,b2,b3,b4]:=by
  match bs,bl with
  | [b0,b1,b2,b3,b4],_=>exact ⟨b0,b1,b2,b3,b4,rfl⟩
 clear bl
 refine ⟨_,rfl,_,_,rfl,a,5,rfl,rfl,pp,by decide,by decide,fun n1 H1 l1 u1 g1 pp1=>qO fun S hS=>?_⟩
 refine ⟨_,rfl,_,_,rfl,a,6,rfl,rfl,pp1,by decide,by decide,fun n2 H2 l2 u2 g2 pp2=>qO fun R hR=>?_⟩
 refine ⟨_,rfl,_,_,rfl,a,40,rfl,rfl,pp2,by decide,by decide,fun n3 H3 l3 u3 g3 pp3=>qO fun M hM=>?_⟩
 have S1:1 <= S /\ S <= 5:=by omega
 have R1:1 <= R /\ R <= 6:=by omega
 have M1:1 <= M /\ M <= 40:=by omega
 have G3:=g1.trans (g2.trans g3)
 clear hS hR hM l1 u1 l2 u2 l3 u3 g1 g2 g3 pp1 pp2
 refine xJ ?_
 refine ⟨_,rfl,_,rfl,by omega,by omega,wf (fun i zs H'=>∃ rws:List (List Int),AllR (zE K H') zs rws /\ rws.length = i /\ (∀ r ∈ rws,r.length <= 6) /\ Grow [a] H3 H' /\ Pot H' a) ⟨[],trivial,rfl,(fun _ h=>by cases h),Grow.refl _ _,pp3⟩ ?_ ?_⟩
 ·rintro i zs Hi hi ⟨rws,hz,rl,rq,gi,ppi⟩
  refine ⟨_,rfl,_,rfl,by omega,by omega,wf (fun j ws H'=>∃ r:List Int,ws = r.map V.int /\ r.length = j /\ Grow [a] Hi H' /\ Pot H' a) ⟨[],rfl,rfl,Grow.refl _ _,ppi⟩ ?_ ?_⟩
  ·rintro j ws Hj hj ⟨r,rfl,rl2,gj,ppj⟩
   refine ⟨_,rfl,_,rfl,_,_,rfl,a,_,rfl,rfl,ppj,by omega,by omega,fun n5 H5 l5 u5 g5 pp5=>⟨by rw [List.length_map]; exact zn (by omega),r ++ [n5],by rw [List.map_append]; rfl,by rw [List.length_append]; show r.length + 1 = _; omega,gj.trans g5,pp5⟩⟩
  rintro ws Hj ⟨r,rfl,rl2,gj,ppj⟩ lz hlz
  refine ⟨lz,_,rfl,.inl ⟨SqL.of zd,fun rn hrn=>?_⟩⟩
  have gz:=(Grow.new (m:=[]) hlz (.lst (r.map V.int))).trans (Grow.new hrn (.tup (r.map V.int)))
  have gA:=gj.trans (gz.wk (m:=[a]))
  have hB:zE K (upd (upd Hj lz (.lst (r.map V.int))) rn (.tup (r.map V.int))) (.ref rn) r:=⟨rn,rfl,SqT.of zd⟩
  refine ⟨?_,rws ++ [r],(gA.boardsR hz).app (.one hB),by rw [List.length_append]; show rws.length + 1 = _; omega,fun r' hr'=>?_,gi.trans gA,ppj.grow gz⟩
  ·exact zn (by have:=hz.len; omega)
  ·rcases List.mem_append.mp hr' with w | w
   ·exact rq r' w
   ·rw [List.mem_singleton.mp w]; omega
 rintro zs Hi ⟨rws,hz,rl,rq,gi,ppi⟩ lz hlz
 refine ⟨lz,_,rfl,.inl ⟨SqL.of zd,fun r5 hr5=>?_⟩⟩
 have gz:=(Grow.new (m:=[]) hlz (.lst zs)).trans (Grow.new hr5 (.tup zs))
 have o5:Od K [a] (upd (upd Hi lz (.lst zs)) r5 (.tup zs)) (.ref r5) (.tuple (rws.map yf)):=.tup (SqT.of zd) ((um hz).grow (gz.wk (m:=[a])))
 have rw5:Rw67 (.tuple (rws.map yf)):=⟨rws,rfl,by omega,by omega,rq⟩
 have g5:Grow [a] H3 (upd (upd Hi lz (.lst zs)) r5 (.tup zs)):=gi.trans gz.wk
 have pp5:=ppi.grow gz
 clear hz rl rq gz gi ppi hlz hr5
 generalize (.tuple (rws.map yf):PyData) = d5 at o5 rw5
 generalize upd (upd Hi lz (.lst zs)) r5 (.tup zs) = H5 at o5 g5 pp5 ⊢
 clear rws Hi
 refine xJ ?_
 refine ⟨_,rfl,_,rfl,by omega,by omega,wf (fun i zs H'=>∃ rws:List (List Int),AllR (zE K H') zs rws /\ rws.length = i /\ (∀ r ∈ rws,r.length <= 6) /\ Grow [a] H5 H' /\ Pot H' a) ⟨[],trivial,rfl,(fun _ h=>by cases h),Grow.refl _ _,pp5⟩ ?_ ?_⟩
 ·rintro i zs Hi hi ⟨rws,hz,rl,rq,gi,ppi⟩
  refine ⟨_,rfl,_,rfl,by omega,by omega,wf (fun j ws H'=>∃ r:List Int,ws = r.map V.int /\ r.length = j /\ Grow [a] Hi H' /\ Pot H' a) ⟨[],rfl,rfl,Grow.refl _ _,ppi⟩ ?_ ?_⟩
  ·rintro j ws Hj hj ⟨r,rfl,rl2,gj,ppj⟩
   refine ⟨_,rfl,_,rfl,_,_,rfl,a,_,rfl,rfl,ppj,by omega,by omega,fun n5 H5 l5 u5 g5 pp5=>⟨by rw [List.length_map]; exact zn (by omega),r ++ [n5],by rw [List.map_append]; rfl,by rw [List.length_append]; show r.length + 1 = _; omega,gj.trans g5,pp5⟩⟩
  rintro ws Hj ⟨r,rfl,rl2,gj,ppj⟩ lz hlz
  refine ⟨lz,_,rfl,.inl ⟨SqL.of zd,fun rn hrn=>?_⟩⟩
  have gz:=(Grow.new (m:=[]) hlz (.lst (r.map V.int))).trans (Grow.new hrn (.tup (r.map V.int)))
  have gA:=gj.trans (gz.wk (m:=[a]))
  have hB:zE K (upd (upd Hj lz (.lst (r.map V.int))) rn (.tup (r.map V.int))) (.ref rn) r:=⟨rn,rfl,SqT.of zd⟩
  refine ⟨?_,rws ++ [r],(gA.boardsR hz).app (.one hB),by rw [List.length_append]; show rws.length + 1 = _; omega,fun r' hr'=>?_,gi.trans gA,ppj.grow gz⟩
  ·exact zn (by have:=hz.len; omega)
  ·rcases List.mem_append.mp hr' with w | w
   ·exact rq r' w
   ·rw [List.mem_singleton.mp w]; omega
 rintro zs Hi ⟨rws,hz,rl,rq,gi,ppi⟩ lz hlz
 refine ⟨lz,_,rfl,.inl ⟨SqL.of zd,fun r6 hr6=>?_⟩⟩
 have gz:=(Grow.new (m:=[]) hlz (.lst zs)).trans (Grow.new hr6 (.tup zs))
 have o6:Od K [a] (upd (upd Hi lz (.lst zs)) r6 (.tup zs)) (.ref r6) (.tuple (rws.map yf)):=.tup (SqT.of zd) ((um hz).grow (gz.wk (m:=[a])))
 have rw6:Rw67 (.tuple (rws.map yf)):=⟨rws,rfl,by omega,by omega,rq⟩
 have g6:Grow [a] H5 (upd (upd Hi lz (.lst zs)) r6 (.tup zs)):=gi.trans gz.wk
 have pp6:=ppi.grow gz
 clear hz rl rq gz gi ppi hlz hr6
 generalize (.tuple (rws.map yf):PyData) = d6 at o6 rw6
 generalize upd (upd Hi lz (.lst zs)) r6 (.tup zs) = H6 at o6 g6 pp6 ⊢
 clear rws Hi
 refine xJ ?_
 refine ⟨_,rfl,_,rfl,by omega,by omega,wf (fun j ws H'=>∃ r:List Int,ws = r.map V.int /\ r.length = j /\ Grow [a] H6 H' /\ Pot H' a) ⟨[],rfl,rfl,Grow.refl _ _,pp6⟩ ?_ ?_⟩
 ·rintro j ws Hj hj ⟨r,rfl,rl2,gj,ppj⟩
  refine ⟨_,rfl,_,rfl,_,_,rfl,a,_,rfl,rfl,ppj,by omega,by omega,fun n5 H5 l5 u5 g5 pp5=>⟨by rw [List.length_map]; exact zn (by omega),r ++ [n5],by rw [List.map_append]; rfl,by rw [List.length_append]; show r.length + 1 = _; omega,gj.trans g5,pp5⟩⟩
 rintro ws Hj ⟨r,rfl,rl2,gj,ppj⟩ lz hlz
 refine ⟨lz,_,rfl,.inl ⟨SqL.of zd,fun r7 hr7=>?_⟩⟩
 have gz:=(Grow.new (m:=[]) hlz (.lst (r.map V.int))).trans (Grow.new hr7 (.tup (r.map V.int)))
 have o7:Od K [a] (upd (upd Hj lz (.lst (r.map V.int))) r7 (.tup (r.map V.int))) (.ref r7) (yf r):=uW ⟨r7,rfl,SqT.of zd⟩
 have g7:Grow [a] H6 (upd (upd Hj lz (.lst (r.map V.int))) r7 (.tup (r.map V.int))):=gj.trans gz.wk
 have pp7:=ppj.grow gz
 have rl7:r.length <= 40:=by omega
 clear gz gj ppj hlz hr7 rl2
 generalize upd (upd Hj lz (.lst (r.map V.int))) r7 (.tup (r.map V.int)) = H7 at o7 g7 pp7 ⊢
 clear Hj
 refine xJ ⟨_,rfl,_,rfl,_,_,_,rfl,a,0,M,rfl,rfl,rfl,pp7,by decide,by omega,by omega,by omega,fun y8 t H8 g8 pp8 hT ho hc hh hnum=>?_⟩
 have tb:trB t:=jv ho (by decide) (by omega)
 have gd8:=Wf tb (by omega)
 have o8:Od K [a] H8 y8 (trD t):=uS hT
 refine xJ ⟨_,rfl,_,rfl,_,_,rfl,a,S,rfl,rfl,pp8,by omega,by omega,fun n9 H9 l9 u9 g9 pp9=>?_⟩
 have G9:Grow [a] H H9:=G3.trans (g5.trans (g6.trans (g7.trans (g8.trans g9))))
 have hb9:=G9.keep _ _ nb hb
 have o5:=o5.grow (g6.trans (g7.trans (g8.trans g9)))
 have o6:=o6.grow (g7.trans (g8.trans g9))
 have o7:=o7.grow (g8.trans g9)
 have o8:=o8.grow g9
 have am:a ∈ [a]:=by simp
 clear G3 g5 g6 g7 g8 g9 pp3 pp5 pp6 pp7 pp8 hT pp hb l9 u9
 refine xJ (c_if (fun σ' H'=>∃ y5 d5',σ' = [some (.ref a),some (.ref b),some (.int S),some (.int R),some (.int M),some y5,some (.ref r6),some (.ref r7),some y8,some (.int n9)] /\ Grow [a] H9 H' /\ Pot H' a /\ Od K [a] H' y5 d5' /\ sh67 d5' = true /\ (b0 ≠ 1 -> Rw67 d5')) ?_ (fun key=>?_))
 rotate_left
 ·refine ⟨_,rfl,b,_,0,_,rfl,rfl,SqL.of hb9,zu (j:=0) rfl,rfl,_,rfl,?_⟩
  by_cases c:b0 = 1
  ·obtain ⟨ds,rfl,w1,w2,w3⟩:=rw5.sp
   refine zN (decide_eq_true (congrArg V.int c)) ⟨_,rfl,_,rfl,_,rfl,_,_,_,rfl,a,ds,S,[a],rfl,o5,rfl,pp9,am,yA pp9,w1,by omega,w3,fun z d H' g pp' o sh=>key _ _ ⟨z,d,rfl,g,pp',o,sh,fun w=>absurd c w⟩⟩
  ·exact zD (decide_eq_false fun z=>c (V.int.inj z)) (key _ _ ⟨_,_,rfl,Grow.refl _ _,pp9,o5,rw5.sh,fun _=>rw5⟩)
 rintro σ' HA ⟨y5,d5',rfl,gA,ppA,oA,shA,rwA⟩
 have hbA:=gA.keep _ _ nb hb9
 refine c_if (fun σ' H'=>∃ y5 d5',σ' = [some (.ref a),some (.ref b),some (.int S),some (.int R),some (.int M),some y5,some (.ref r6),some (.ref r7),some y8,some (.int n9)] /\ Grow [a] H9 H' /\ Pot H' a /\ Od K [a] H' y5 d5' /\ sh67 d5' = true) ?_ (fun key=>?_)
 rotate_left
 ·refine ⟨_,rfl,b,_,0,_,rfl,rfl,SqL.of hbA,zu (j:=0) rfl,rfl,_,rfl,?_⟩
  by_cases c:b0 = 2
  rotate_left
  ·exact zD (decide_eq_false fun z=>c (V.int.inj z)) (key _ _ ⟨_,_,rfl,gA,ppA,oA,shA⟩)
  obtain ⟨rws,rfl,w1,w2,w3⟩:=(rwA (by omega)).ex
  have w3':∀ d ∈ rws.map yf,lenD d <= 1000:=fun d hd=>by
   obtain ⟨r,hr,rfl⟩:=List.mem_map.mp hd
   show (r.map PyData.int).length <= 1000
   rw [List.length_map]; exact Nat.le_trans (w3 r hr) (by decide)
  obtain ⟨ra,xa,rfl,sa,oda⟩:=oA.inv_tup
  have al:=oda.length
  rw [List.length_map] at al
  refine zN (decide_eq_true (congrArg V.int c)) ⟨6,rfl,by decide,fun p1 hp1=>⟨szl rfl,fun p2 hp2=>⟨_,rfl,p2,R.toNat,_,rfl,congrArg V.int (by omega),SqT.of zd,(fun z=>nomatch z),?_,fun p3 H3 g3 s3=>?_⟩⟩⟩
  ·exact Nat.le_of_lt (zn (by show 1 * R.toNat <= 1000; omega))
  have ga:=(Grow.new (m:=[]) hp1 (.tup ((List.range 6).map fun i:Nat=>V.int i))).trans ((Grow.new (m:=[]) hp2 (.tup [.ref p1])).trans g3)
  have oR:Od K [a] H3 (.ref p3) (.tuple (List.replicate R.toNat [yf ((List.range 6).map fun i:Nat=>(i:Int))]).flatten):=.tup s3 (Ods.rep67 (.cons (uW ⟨p1,rfl,((Grow.new (m:=[]) hp2 (.tup [.ref p1])).trans g3).sqT (SqT.of (by rw [zd,List.map_map]; rfl))⟩) .nil) _)
  have shR:sh67 (.tuple (List.replicate R.toNat [yf ((List.range 6).map fun i:Nat=>(i:Int))]).flatten) = true:=ww _ (by show R.toNat * 1 <= 1000; omega) fun d hd=>by rw [List.mem_singleton.mp hd]; exact Nat.le_of_ble_eq_true rfl
  generalize (.tuple (List.replicate R.toNat [yf ((List.range 6).map fun i:Nat=>(i:Int))]).flatten:PyData) = dR at oR shR
  refine ⟨[a],trivial,z6 ga (yA ppA),fun x4 H4 g4 o4=>?_⟩
  obtain ⟨r4,xs4,rfl,s4,t4⟩:=o4.inv_tup
  have l4:xs4.length = 1:=t4.length
  refine ⟨r4,61,xs4,rfl,rfl,s4,(fun z=>by rw [z] at l4; cases l4),Nat.le_of_lt (zn (by rw [l4]; decide)),fun p5 H5 g5 s5=>?_⟩
  have o61:Od K [a] H5 (.ref p5) (.tuple (List.replicate 61 [PyData.tuple [.int 0]]).flatten):=.tup s5 ((t4.grow (g5.wk (m:=[a]))).rep67 61)
  have sh61:sh67 (.tuple (List.replicate 61 [PyData.tuple [.int 0]]).flatten) = true:=ww 61 (by decide) fun d hd=>by rw [List.mem_singleton.mp hd]; exact Nat.le_of_ble_eq_true rfl
  generalize (.tuple (List.replicate 61 [PyData.tuple [.int 0]]).flatten:PyData) = d61 at o61 sh61
  have g35:=g4.trans g5
  refine ⟨[a],trivial,z6 (ga.trans g35) (yA ppA),fun x6 H6 g6 o6e=>?_⟩
  have g36:=g35.trans g6
  refine ⟨_,rfl,ra,2,xa,rfl,rfl,(ga.trans g36).sqT sa,(fun z=>by rw [z] at al; have:(0:Nat) = rws.length:=al; omega),Nat.le_of_lt (zn (by omega)),fun p7 H7 g7 s7=>?_⟩
  have o2:Od K [a] H7 (.ref p7) (.tuple (List.replicate 2 (rws.map yf)).flatten):=.tup s7 ((oda.grow ((ga.trans (g36.trans g7)).wk (m:=[a]))).rep67 2)
  have sh2:sh67 (.tuple (List.replicate 2 (rws.map yf)).flatten) = true:=ww 2 (by rw [List.length_map]; omega) w3'
  generalize (.tuple (List.replicate 2 (rws.map yf)).flatten:PyData) = d2 at o2 sh2
  have g37:=g36.trans g7
  refine ⟨[a],trivial,z6 (ga.trans g37) (yA ppA),fun x8 H8 g8 o8e=>?_⟩
  obtain ⟨r8,xs8,rfl,s8,t8⟩:=o8e.inv_tup
  have l8:xs8.length = 1:=t8.length
  refine ⟨r8,60,xs8,rfl,rfl,s8,(fun z=>by rw [z] at l8; cases l8),Nat.le_of_lt (zn (by rw [l8]; decide)),fun pB HB gB sB=>⟨szl rfl,fun pC hpC=>?_⟩⟩
  have o60:Od K [a] HB (.ref pB) (.tuple (List.replicate 60 [PyData.tuple [.int 0]]).flatten):=.tup sB ((t8.grow (gB.wk (m:=[a]))).rep67 60)
  have sh60:sh67 (.tuple (List.replicate 60 [PyData.tuple [.int 0]]).flatten) = true:=ww 60 (by decide) fun d hd=>by rw [List.mem_singleton.mp hd]; exact Nat.le_of_ble_eq_true rfl
  generalize (.tuple (List.replicate 60 [PyData.tuple [.int 0]]).flatten:PyData) = d60 at o60 sh60
  have gC:=Grow.new (m:=[]) hpC (.tup [.ref p3,.ref p5,x6,.ref p7,.ref pB])
  have gBC:=gB.trans gC
  have gAll:=ga.trans (g37.trans (g8.trans gBC))
  refine ⟨_,rfl,_,_,rfl,a,5,rfl,rfl,ppA.grow gAll,by decide,by decide,fun nD HD uD vD gD ppD=>?_⟩
  have sC:SqT K HD pC [.ref p3,.ref p5,x6,.ref p7,.ref pB]:=gD.sqT (SqT.of zd)
  have gT:=gA.trans ((gAll.wk (m:=[a])).trans gD)
  rcases (by omega:nD = 0 \/ nD = 1 \/ nD = 2 \/ nD = 3 \/ nD = 4) with rfl | rfl | rfl | rfl | rfl
  ·exact ⟨pC,_,0,_,rfl,rfl,sC,zu (j:=0) rfl,key _ _ ⟨_,_,rfl,gT,ppD,(oR.grow (((g37.trans (g8.trans gBC)).wk (m:=[a])).trans gD)),shR⟩⟩
  ·exact ⟨pC,_,1,_,rfl,rfl,sC,zu (j:=1) rfl,key _ _ ⟨_,_,rfl,gT,ppD,(o61.grow (((g6.trans (g7.trans (g8.trans gBC))).wk (m:=[a])).trans gD)),sh61⟩⟩
  ·exact ⟨pC,_,2,_,rfl,rfl,sC,zu (j:=2) rfl,key _ _ ⟨_,_,rfl,gT,ppD,(o6e.grow (((g7.trans (g8.trans gBC)).wk (m:=[a])).trans gD)),rfl⟩⟩
  ·exact ⟨pC,_,3,_,rfl,rfl,sC,zu (j:=3) rfl,key _ _ ⟨_,_,rfl,gT,ppD,(o2.grow (((g8.trans gBC).wk (m:=[a])).trans gD)),sh2⟩⟩
  ·exact ⟨pC,_,4,_,rfl,rfl,sC,zu (j:=4) rfl,key _ _ ⟨_,_,rfl,gT,ppD,(o60.grow ((gC.wk (m:=[a])).trans gD)),sh60⟩⟩
 clear oA shA rwA hbA ppA gA
 rintro σ' HB ⟨y5,d5',rfl,gB,ppB,oB,shB⟩
 have hbB:=gB.keep _ _ nb hb9
 have o6:=o6.grow gB
 have o7:=o7.grow gB
 have o8:=o8.grow gB
 refine c_if (fun σ' H'=>∃ y6 d6',σ' = [some (.ref a),some (.ref b),some (.int S),some (.int R),some (.int M),some y5,some y6,some (.ref r7),some y8,some (.int n9)] /\ Grow [a] HB H' /\ Pot H' a /\ Od K [a] H' y6 d6' /\ sh67 d6' = true) ?_ (fun key=>?_)
 rotate_left
 ·refine ⟨_,rfl,b,_,1,_,rfl,rfl,SqL.of hbB,zu (j:=1) rfl,rfl,_,rfl,?_⟩
  by_cases c:b1 = 1
  ·obtain ⟨ds,rfl,w1,w2,w3⟩:=rw6.sp
   refine zN (decide_eq_true (congrArg V.int c)) ⟨_,rfl,_,rfl,_,rfl,_,_,_,rfl,a,ds,R,[a],rfl,o6,rfl,ppB,am,yA ppB,w1,by omega,w3,fun z d H' g pp' o sh=>key _ _ ⟨z,d,rfl,g,pp',o,sh⟩⟩
  ·exact zD (decide_eq_false fun z=>c (V.int.inj z)) (key _ _ ⟨_,_,rfl,Grow.refl _ _,ppB,o6,rw6.sh⟩)
 rintro σ' HA ⟨y6,d6',rfl,gA,ppA,oA,shA⟩
 have hbA:=gA.keep _ _ nb hbB
 refine c_if (fun σ' H'=>∃ y6 d6',σ' = [some (.ref a),some (.ref b),some (.int S),some (.int R),some (.int M),some y5,some y6,some (.ref r7),some y8,some (.int n9)] /\ Grow [a] HB H' /\ Pot H' a /\ Od K [a] H' y6 d6' /\ sh67 d6' = true) ?_ (fun key=>?_)
 rotate_left
 ·refine ⟨_,rfl,b,_,1,_,rfl,rfl,SqL.of hbA,zu (j:=1) rfl,rfl,_,rfl,?_⟩
  by_cases c:b1 = 2
  rotate_left
  ·exact zD (decide_eq_false fun z=>c (V.int.inj z)) (key _ _ ⟨_,_,rfl,gA,ppA,oA,shA⟩)
  refine zN (decide_eq_true (congrArg V.int c)) ⟨[a],trivial,yA ppA,fun x1 H1 g1 o1=>⟨[a],trivial,z6 g1 (yA ppA),fun x2 H2 g2 o2=>?_⟩⟩
  obtain ⟨r2,xs2,rfl,s2,t2⟩:=o2.inv_tup
  have l2:xs2.length = 1:=t2.length
  refine ⟨r2,61,xs2,rfl,rfl,s2,(fun z=>by rw [z] at l2; cases l2),Nat.le_of_lt (zn (by rw [l2]; decide)),fun p3 H3 g3 s3=>⟨szl rfl,fun p4 hp4=>?_⟩⟩
  have oz:Od K [a] H3 (.ref p3) (.tuple (List.replicate 61 [PyData.int 0]).flatten):=.tup s3 ((t2.grow (g3.wk (m:=[a]))).rep67 61)
  have lz:lenD (.tuple (List.replicate 61 [PyData.int 0]).flatten) <= 1000:=by show (List.replicate 61 [PyData.int 0]).flatten.length <= 1000; rw [xt]; decide
  generalize (.tuple (List.replicate 61 [PyData.int 0]).flatten:PyData) = dz at oz lz
  have g4:=Grow.new (m:=[]) hp4 (.tup [.ref p3])
  refine ⟨p4,61,_,rfl,rfl,SqT.of zd,(fun z=>nomatch z),Nat.le_of_lt (zn (Nat.le_of_ble_eq_true rfl)),fun p5 H5 g5 s5=>?_⟩
  have o61:Od K [a] H5 (.ref p5) (.tuple (List.replicate 61 [dz]).flatten):=.tup s5 (Ods.rep67 (.cons (oz.grow ((g4.trans g5).wk (m:=[a]))) .nil) 61)
  have sh61:sh67 (.tuple (List.replicate 61 [dz]).flatten) = true:=ww 61 (Nat.le_of_ble_eq_true rfl) fun d hd=>by rw [List.mem_singleton.mp hd]; exact lz
  generalize (.tuple (List.replicate 61 [dz]).flatten:PyData) = d61 at o61 sh61
  have g15:=g1.trans (g2.trans (g3.trans (g4.trans g5)))
  refine ⟨[a],trivial,z6 g15 (yA ppA),fun x6 H6 g6 o6e=>⟨[a],trivial,z6 (g15.trans g6) (yA ppA),fun x7 H7 g7 o7e=>?_⟩⟩
  obtain ⟨r7',xs7,rfl,s7,t7⟩:=o7e.inv_tup
  have l7:xs7.length = 1:=t7.length
  refine ⟨r7',60,xs7,rfl,rfl,s7,(fun z=>by rw [z] at l7; cases l7),Nat.le_of_lt (zn (by rw [l7]; decide)),fun p8 H8 g8 s8=>⟨szl rfl,fun pB hpB=>?_⟩⟩
  have oy:Od K [a] H8 (.ref p8) (.tuple (List.replicate 60 [PyData.int 0]).flatten):=.tup s8 ((t7.grow (g8.wk (m:=[a]))).rep67 60)
  have ly:lenD (.tuple (List.replicate 60 [PyData.int 0]).flatten) <= 1000:=by show (List.replicate 60 [PyData.int 0]).flatten.length <= 1000; rw [xt]; decide
  generalize (.tuple (List.replicate 60 [PyData.int 0]).flatten:PyData) = dy at oy ly
  have gB':=Grow.new (m:=[]) hpB (.tup [.ref p8])
  refine ⟨pB,60,_,rfl,rfl,SqT.of zd,(fun z=>nomatch z),Nat.le_of_lt (zn (Nat.le_of_ble_eq_true rfl)),fun pC HC gC sC=>⟨szl rfl,fun pD hpD=>?_⟩⟩
  have o60:Od K [a] HC (.ref pC) (.tuple (List.replicate 60 [dy]).flatten):=.tup sC (Ods.rep67 (.cons (oy.grow ((gB'.trans gC).wk (m:=[a]))) .nil) 60)
  have sh60:sh67 (.tuple (List.replicate 60 [dy]).flatten) = true:=ww 60 (Nat.le_of_ble_eq_true rfl) fun d hd=>by rw [List.mem_singleton.mp hd]; exact ly
  generalize (.tuple (List.replicate 60 [dy]).flatten:PyData) = d60 at o60 sh60
  have gD:=Grow.new (m:=[]) hpD (.tup [x1,.ref p5,x6,.ref pC])
  have g7D:=g7.trans (g8.trans (gB'.trans (gC.trans gD)))
  have gAll:=g15.trans (g6.trans g7D)
  refine ⟨_,rfl,_,_,rfl,a,4,rfl,rfl,ppA.grow gAll,by decide,by decide,fun nE HE uE vE gE ppE=>?_⟩
  have sD:SqT K HE pD [x1,.ref p5,x6,.ref pC]:=gE.sqT (SqT.of zd)
  have gT:=gA.trans ((gAll.wk (m:=[a])).trans gE)
  rcases (by omega:nE = 0 \/ nE = 1 \/ nE = 2 \/ nE = 3) with rfl | rfl | rfl | rfl
  ·exact ⟨pD,_,0,_,rfl,rfl,sD,zu (j:=0) rfl,key _ _ ⟨_,_,rfl,gT,ppE,(o1.grow ((((g2.trans (g3.trans (g4.trans g5))).trans (g6.trans g7D)).wk (m:=[a])).trans gE)),rfl⟩⟩
  ·exact ⟨pD,_,1,_,rfl,rfl,sD,zu (j:=1) rfl,key _ _ ⟨_,_,rfl,gT,ppE,(o61.grow (((g6.trans g7D).wk (m:=[a])).trans gE)),sh61⟩⟩
  ·exact ⟨pD,_,2,_,rfl,rfl,sD,zu (j:=2) rfl,key _ _ ⟨_,_,rfl,gT,ppE,(o6e.grow ((g7D.wk (m:=[a])).trans gE)),rfl⟩⟩
  ·exact ⟨pD,_,3,_,rfl,rfl,sD,zu (j:=3) rfl,key _ _ ⟨_,_,rfl,gT,ppE,(o60.grow ((gD.wk (m:=[a])).trans gE)),sh60⟩⟩
 clear oA shA hbA ppA gA
 rintro σ' HC ⟨y6,d6',rfl,gC,ppC,oC,shC⟩
 have hbC:=gC.keep _ _ nb hbB
 have oB:=oB.grow gC
 have o7:=o7.grow gC
 have o8:=o8.grow gC
 have l7:(r.map PyData.int).length <= 40:=by rw [List.length_map]; exact rl7
 refine c_if (fun σ' H'=>∃ y7 d7',σ' = [some (.ref a),some (.ref b),some (.int S),some (.int R),some (.int M),some y5,some y6,some y7,some y8,some (.int n9)] /\ Grow [a] HC H' /\ Pot H' a /\ Od K [a] H' y7 d7' /\ lenD d7' <= 1000) ?_ (fun key=>?_)
 rotate_left
 ·refine ⟨_,rfl,b,_,2,_,rfl,rfl,SqL.of hbC,zu (j:=2) rfl,rfl,_,rfl,?_⟩
  by_cases c:b2 = 1
  ·exact zN (decide_eq_true (congrArg V.int c)) ⟨_,rfl,_,rfl,_,rfl,_,_,_,rfl,a,_,R,[a],rfl,o7,rfl,ppC,am,yA ppC,Nat.le_trans l7 (by decide),(fun d hd=>by obtain ⟨i,_,rfl⟩:=List.mem_map.mp hd; exact Nat.zero_le _),fun z d H' g pp' o sh ll=>key _ _ ⟨z,d,rfl,g,pp',o,Nat.le_trans ll (by decide)⟩⟩
  ·exact zD (decide_eq_false fun z=>c (V.int.inj z)) (key _ _ ⟨_,_,rfl,Grow.refl _ _,ppC,o7,Nat.le_trans l7 (by decide)⟩)
 rintro σ' HA ⟨y7,d7',rfl,gA,ppA,oA,shA⟩
 have hbA:=gA.keep _ _ nb hbC
 refine c_if (fun σ' H'=>∃ y7 d7',σ' = [some (.ref a),some (.ref b),some (.int S),some (.int R),some (.int M),some y5,some y6,some y7,some y8,some (.int n9)] /\ Grow [a] HC H' /\ Pot H' a /\ Od K [a] H' y7 d7' /\ lenD d7' <= 1000) ?_ (fun key=>?_)
 rotate_left
 ·refine ⟨_,rfl,b,_,2,_,rfl,rfl,SqL.of hbA,zu (j:=2) rfl,rfl,_,rfl,?_⟩
  by_cases c:b2 = 2
  rotate_left
  ·exact zD (decide_eq_false fun z=>c (V.int.inj z)) (key _ _ ⟨_,_,rfl,gA,ppA,oA,shA⟩)
  refine zN (decide_eq_true (congrArg V.int c)) ⟨[a],trivial,yA ppA,fun x1 H1 g1 o1=>⟨[a],trivial,z6 g1 (yA ppA),fun x2 H2 g2 o2=>?_⟩⟩
  obtain ⟨r2,xs2,rfl,s2,t2⟩:=o2.inv_tup
  have l2:xs2.length = 1:=t2.length
  refine ⟨r2,41,xs2,rfl,rfl,s2,(fun z=>by rw [z] at l2; cases l2),Nat.le_of_lt (zn (by rw [l2]; decide)),fun p3 H3 g3 s3=>?_⟩
  have oz:Od K [a] H3 (.ref p3) (.tuple (List.replicate 41 [PyData.int 0]).flatten):=.tup s3 ((t2.grow (g3.wk (m:=[a]))).rep67 41)
  have lz:lenD (.tuple (List.replicate 41 [PyData.int 0]).flatten) <= 1000:=by show (List.replicate 41 [PyData.int 0]).flatten.length <= 1000; rw [xt]; decide
  generalize (.tuple (List.replicate 41 [PyData.int 0]).flatten:PyData) = dz at oz lz
  have g13:=g1.trans (g2.trans g3)
  refine ⟨[a],trivial,z6 g13 (yA ppA),fun x7 H7 g7 o7e=>?_⟩
  obtain ⟨r7',xs7,rfl,s7,t7⟩:=o7e.inv_tup
  have l7:xs7.length = 1:=t7.length
  refine ⟨r7',40,xs7,rfl,rfl,s7,(fun z=>by rw [z] at l7; cases l7),Nat.le_of_lt (zn (by rw [l7]; decide)),fun p8 H8 g8 s8=>⟨szl rfl,fun pB hpB=>?_⟩⟩
  have oy:Od K [a] H8 (.ref p8) (.tuple (List.replicate 40 [PyData.int 0]).flatten):=.tup s8 ((t7.grow (g8.wk (m:=[a]))).rep67 40)
  have ly:lenD (.tuple (List.replicate 40 [PyData.int 0]).flatten) <= 1000:=by show (List.replicate 40 [PyData.int 0]).flatten.length <= 1000; rw [xt]; decide
  generalize (.tuple (List.replicate 40 [PyData.int 0]).flatten:PyData) = dy at oy ly
  have gD:=Grow.new (m:=[]) hpB (.tup [x1,.ref p3,.ref p8])
  have g7D:=g7.trans (g8.trans gD)
  have gAll:=g13.trans g7D
  refine ⟨_,rfl,_,_,rfl,a,3,rfl,rfl,ppA.grow gAll,by decide,by decide,fun nE HE uE vE gE ppE=>?_⟩
  have sD:SqT K HE pB [x1,.ref p3,.ref p8]:=gE.sqT (SqT.of zd)
  have gT:=gA.trans ((gAll.wk (m:=[a])).trans gE)
  rcases (by omega:nE = 0 \/ nE = 1 \/ nE = 2) with rfl | rfl | rfl
  ·exact ⟨pB,_,0,_,rfl,rfl,sD,zu (j:=0) rfl,key _ _ ⟨_,_,rfl,gT,ppE,(o1.grow ((((g2.trans g3).trans g7D).wk (m:=[a])).trans gE)),Nat.zero_le _⟩⟩
  ·exact ⟨pB,_,1,_,rfl,rfl,sD,zu (j:=1) rfl,key _ _ ⟨_,_,rfl,gT,ppE,(oz.grow ((g7D.wk (m:=[a])).trans gE)),lz⟩⟩
  ·exact ⟨pB,_,2,_,rfl,rfl,sD,zu (j:=2) rfl,key _ _ ⟨_,_,rfl,gT,ppE,(oy.grow ((gD.wk (m:=[a])).trans gE)),ly⟩⟩
 clear oA shA hbA ppA gA
 rintro σ' HD ⟨y7,d7',rfl,gD,ppD,oD',lD⟩
 have hbD:=gD.keep _ _ nb hbC
 have oB:=oB.grow gD
 have oC:=oC.grow gD
 have o8:=o8.grow gD
 have dp8:=gd8.dp
 have wt8:=gd8.wt
 have ht8:=xq t
 refine c_if (fun σ' H'=>∃ y8 d8',σ' = [some (.ref a),some (.ref b),some (.int S),some (.int R),some (.int M),some y5,some y6,some y7,some y8,some (.int n9)] /\ Grow [a] HD H' /\ Pot H' a /\ Od K [a] H' y8 d8' /\ d8'.depth <= 60 /\ wtO d8' <= 1000000) ?_ (fun key=>?_)
 rotate_left
 ·refine ⟨_,rfl,b,_,3,_,rfl,rfl,SqL.of hbD,zu (j:=3) rfl,rfl,_,rfl,?_⟩
  by_cases c:b3 = 1
  ·exact zN (decide_eq_true (congrArg V.int c)) ⟨_,rfl,_,rfl,_,rfl,_,_,_,rfl,a,t,M,[a],rfl,o8,rfl,ppD,am,yA ppD,by omega,fun z d H' g pp' o d1 d2=>key _ _ ⟨z,d,rfl,g,pp',o,by omega,by omega⟩⟩
  ·exact zD (decide_eq_false fun z=>c (V.int.inj z)) (key _ _ ⟨_,_,rfl,Grow.refl _ _,ppD,o8,by omega,by omega⟩)
 rintro σ' HE ⟨y8',d8',rfl,gE,ppE,oE,dE,wE⟩
 have hbE:=gE.keep _ _ nb hbD
 have oB:=oB.grow gE
 have oC:=oC.grow gE
 have oD':=oD'.grow gE
 refine c_if (fun σ' H'=>∃ y9 d9',σ' = [some (.ref a),some (.ref b),some (.int S),some (.int R),some (.int M),some y5,some y6,some y7,some y8',some y9] /\ Grow [a] HE H' /\ Pot H' a /\ Od K [a] H' y9 d9') ?_ (fun key=>?_)
 rotate_left
 ·refine ⟨_,rfl,b,_,4,_,rfl,rfl,SqL.of hbE,zu (j:=4) rfl,rfl,_,rfl,?_⟩
  by_cases c:b4 = 1
  ·exact zN (decide_eq_true (congrArg V.int c)) ⟨_,rfl,_,rfl,_,_,rfl,a,S,[a],rfl,rfl,ppE,am,yA ppE,fun z d H' g pp' o _=>key _ _ ⟨z,d,rfl,g,pp',o⟩⟩
  ·exact zD (decide_eq_false fun z=>c (V.int.inj z)) (key _ _ ⟨_,_,rfl,Grow.refl _ _,ppE,.int n9⟩)
 rintro σ' HF ⟨y9,d9',rfl,gF,ppF,oF⟩
 refine ⟨_,rfl,_,rfl,_,rfl,_,rfl,_,rfl,szl rfl,fun p hp=>?_⟩
 have gp:=Grow.new (m:=[]) hp (.tup [y5,y6,y7,y8',y9])
 have gp':=gp.wk (m:=[a])
 exact q p y5 y6 y7 y8' y9 _ _ _ _ _ _ (G9.trans (gB.trans (gC.trans (gD.trans (gE.trans (gF.trans gp')))))) (ppF.grow gp) (SqT.of zd) (oB.grow (gF.trans gp')) (oC.grow (gF.trans gp')) (oD'.grow (gF.trans gp')) (oE.grow (gF.trans gp')) (oF.grow gp') ⟨shB,shC,lD,wE⟩ dE
theorem xF:FnScope ["_law_script","_law_k","_law_cell"] ["_law_script","_law_k"] (zg (top 37)):=⟨rfl,rfl,rfl,by decide +kernel,rfl,by decide +kernel,by decide +kernel⟩
theorem sS (F:Fun K "_law_store" "_law_store" (top 37) f fd) (B:Blt mg)      :
  FnOk P w K mg base CX0 (n + 1) f fd ["_law_script","_law_k"] (Wz K):=by
 refine F.ok xF xf (fun cdv A outer s H vs Q E hr h=>?_)
 obtain ⟨x,y,rfl,a,ns,k,rfl,rfl,hs,k0,k1,q⟩:=h
 refine ⟨_,(zc (zA (i:=2) xF.nd rfl (Or.inl rfl) ze) (zc (zM (zB Xx (pv 1) (zh zk rfl B.len yd (za (pv 0) zb)) (zG _)) (zf (zA (i:=2) xF.nd rfl (Or.inl rfl) (zh Xy rfl B.abs UQ (za (zH zZ (pv 0) (pv 1) (fun _ _=>rfl)) zb)))) zp) (zf (zq (xj (za (zh (wS rfl) rfl B.max XC (za ze (za (zK vM (pv 2) (zK jJ ze ze)) zb))) (za (zK tK (zK jJ (zK xH (zK xH (zK tK (pv 2) ze) (zK Yl ze (pv 1))) ze) ze) ze) zb))))))),?_⟩
 have hs2:=hs.sq
 have hl:(ns.map V.int).length = ns.length:=List.length_map ..
 refine ⟨_,rfl,_,rfl,a,_,rfl,.inl hs2,_,_,rfl,rfl,_,rfl,?_⟩
 by_cases c:k < ((ns.map V.int).length:Int)
 ·refine zN (decide_eq_true c) ?_
  have hj:k.toNat < ns.length:=by omega
  refine ⟨_,rfl,_,rfl,a,_,_,V.int ns[k.toNat],rfl,rfl,hs2,W9 (qJ k0 (by omega)) (by rw [List.getElem?_map,List.getElem?_eq_getElem hj]; rfl),_,rfl,?_⟩
  refine ⟨_,rfl,_,_,rfl,rfl,⟨by decide,by decide,by decide⟩,_,_,rfl,rfl,_,_,rfl,?_⟩
  refine ⟨_,rfl,_,_,rfl,rfl,(by show (0:Int) < 2147483549; decide),_,rfl,_,_,rfl,rfl,V5 ⟨by decide,by decide⟩ ⟨by omega,by omega⟩,_,_,rfl,rfl,_,_,rfl,rfl,_,_,rfl,rfl,⟨by decide,by decide,?_⟩,_,_,rfl,rfl,(by show (0:Int) < 2147483629; decide),szl rfl,fun p hp=>?_⟩
  ·have e0:0 <= (if ns[k.toNat] < 0 then -ns[k.toNat] else ns[k.toNat]) % 2147483549:=Int.emod_nonneg _ (by decide)
   have e1:(if ns[k.toNat] < 0 then -ns[k.toNat] else ns[k.toNat]) % 2147483549 < 2147483549:=Int.emod_lt_of_pos _ (by decide)
   show ((if ns[k.toNat] < 0 then -ns[k.toNat] else ns[k.toNat]) % 2147483549 + 1009 * k + 3).natAbs < 2 ^ 64
   omega
  refine q p _ hp (Grow.new hp _) ⟨_,_,zd,?_⟩
  show 0 <= (if ((if ns[k.toNat] < 0 then -ns[k.toNat] else ns[k.toNat]) - 10 ^ (18:Int).toNat) > 0 then _ else _)
  split <;> omega
 ·refine zD (decide_eq_false c) ?_
  refine ⟨_,rfl,_,_,rfl,rfl,⟨by decide,by decide,by decide⟩,_,_,rfl,rfl,_,_,rfl,?_⟩
  refine ⟨_,rfl,_,_,rfl,rfl,(by show (0:Int) < 2147483549; decide),_,rfl,_,_,rfl,rfl,V5 ⟨by decide,by decide⟩ ⟨by omega,by omega⟩,_,_,rfl,rfl,_,_,rfl,rfl,_,_,rfl,rfl,⟨by decide,by decide,?_⟩,_,_,rfl,rfl,(by show (0:Int) < 2147483629; decide),szl rfl,fun p hp=>?_⟩
  ·have e0:0 <= (0:Int) % 2147483549:=Int.emod_nonneg _ (by decide)
   have e1:(0:Int) % 2147483549 < 2147483549:=Int.emod_lt_of_pos _ (by decide)
   show ((0:Int) % 2147483549 + 1009 * k + 3).natAbs < 2 ^ 64
   omega
  refine q p _ hp (Grow.new hp _) ⟨_,_,zd,?_⟩
  show 0 <= (if ((0:Int) - 10 ^ (18:Int).toNat) > 0 then _ else _)
  split <;> omega
theorem wa:FnScope ["_law_script","_law_k","_law_store_here","_law_bad","_law_deeds","_law_table","_law_numbers","_law_tree_here","_law_state","_law_choice","_law_due_here"] ["_law_script"] (zg (top 55)):=⟨rfl,rfl,rfl,by decide +kernel,rfl,by decide +kernel,by decide +kernel⟩
theorem UE (F:Fun K "law" "law" (top 55) f fd) (B:Blt mg) {A_NoTable:Addr} {A_TooMany:Addr} {A_NoNumber:Addr} {A_NoTree:Addr} (x_NoTable:ExcC K mg "NoTable" A_NoTable) (x_TooMany:ExcC K mg "TooMany" A_TooMany) (x_NoNumber:ExcC K mg "NoNumber" A_NoNumber) (x_NoTree:ExcC K mg "NoTree" A_NoTree) (qc0:zw P w K mg base n "family" ["deeds"] (ve A_NoTable A_TooMany K)) (qc1:zw P w K mg base n "folded_by" ["table","numbers","tree"] (vf A_NoTable A_NoNumber A_NoTree K)) (qc2:zo P w K mg base n "_law_told" ["_law_choice","_law_deeds","_law_table","_law_numbers","_law_tree_here","_law_state"] (qg K)) (qc3:zo P w K mg base n "_law_due" ["_law_choice","_law_deeds","_law_table","_law_numbers","_law_tree_here","_law_state"] (Zi K)) (qc4:zo P w K mg base n "_law_things" ["_law_store_here","_law_bad"] (uV K)) (qc5:zo P w K mg base n "_law_draw" ["_law_store_here","_law_many"] (xS K)) (qc6:zo P w K mg base n "_law_store" ["_law_script","_law_k"] (Wz K))     :
  FnOk P w K mg base CX0 (n + 1) f fd ["_law_script"] (jP K):=by
 refine F.ok wa vo (fun cdv A outer s H vs Q E hr h=>?_)
 obtain ⟨x,rfl,a,ns,rfl,hs,h63,q⟩:=h
 refine ⟨_,(zc (wQ PassesOwn.never rfl (yj rfl B.range (za (zh (wS rfl) rfl B.max XC (za ze (za (zh (Yb rfl) rfl B.min UR (za ze (za (zh zk rfl B.len yd (za (pv 0) zb)) zb))) zb))) zb)) (zz (i:=1) wa.nd rfl (Or.inl rfl)) (zc (zA (i:=2) wa.nd rfl (Or.inr rfl) (zj qc6 hr rfl (za (pv 0) (za (pv 1) zb)))) (zc (XN (i:=3) wa.nd rfl rfl (CSc.of (N':=["_law_turn","_law_store_here"]) (sub:=[none,some 2]) (zg (top 55)) ["_law_script","_law_k","_law_store_here","_law_bad","_law_deeds","_law_table","_law_numbers","_law_tree_here","_law_state","_law_choice","_law_due_here"] rfl rfl (by decide +kernel) rfl) rfl (yj rfl B.range (za ze zb)) (fun _ _ _ _ _ _=>zz (i:=0) (show (["_law_turn","_law_store_here"]:List Str).Nodup by decide +kernel) rfl (Or.inl rfl)) (fun _ _ _ _ _ _=>zQ) (fun _ _ _ _ _ _=>(zh (wS rfl) rfl B.max XC (za ze (za (zK vM (zj qc5 hr rfl (za (pv 1) (za ze zb))) ze) zb))))) (zc (Z2 (zj qc4 hr rfl (za (pv 2) (za (pv 3) zb))) (sU rfl (yk (zz (i:=4) wa.nd rfl (Or.inl rfl)) (yk (zz (i:=5) wa.nd rfl (Or.inl rfl)) (yk (zz (i:=6) wa.nd rfl (Or.inl rfl)) (yk (zz (i:=7) wa.nd rfl (Or.inl rfl)) (yk (zz (i:=8) wa.nd rfl (Or.inl rfl)) uq))))))) (zc (wQ PassesOwn.never rfl (yj rfl B.range (za ze zb)) (zz (i:=9) wa.nd rfl (Or.inl rfl)) (zc (zA (i:=10) wa.nd rfl (Or.inl rfl) (zj qc3 hr rfl (za (pv 9) (za (pv 4) (za (pv 5) (za (pv 6) (za (pv 7) (za (pv 8) zb)))))))) (zf (zM (zB Z9 (zj qc2 hr rfl (za (pv 9) (za (pv 4) (za (pv 5) (za (pv 6) (za (pv 7) (za (pv 8) zb))))))) (pv 10) (zG _)) (zf (zq vT)) zp)))) (zf (zM (PW.pt (vU (zB Z9 (zF qc1 Uk hr rfl (za (zU (K:=K) (zm (zU (zm yl zI)) zI)) (za (zU (K:=K) (zm yl (zm yl zI))) (za (zU (K:=K) (zm yl (zm yl zI))) zb)))) ze (zG _)) (xL (zB (Ue (K:=K) rfl hr) (zF qc0 Uk hr rfl (za (zU (K:=K) (zm (zU (zm yl (zm yl zI))) zI)) zb)) (zU (K:=K) (zm (zU (zm yl (zm yl zI))) (zm (zU (zm yl (zm yl zI))) zI))) (zG _))))) (zf (zq vT)) zp))))))) (zf (zq vT))),?_⟩
 have hl:(ns.map V.int).length = ns.length:=List.length_map ..
 refine ⟨_,rfl,a,_,rfl,.inl hs.sq,_,_,rfl,_,_,rfl,_,rfl,?_,?_,?_⟩
 ·split <;> split <;> omega
 ·rw [hl]; split <;> split <;> omega
 refine xM (fun i σ H'=>∃ (e1 e2 e3 e4 e5 e6 e7 e8 e9 e10:Option V),σ = [some (.ref a),e1,e2,e3,e4,e5,e6,e7,e8,e9,e10] /\ Grow [] H H') ⟨_,_,_,_,_,_,_,_,_,_,rfl,Grow.refl _ _⟩ ?_ ?_
 rotate_left
 ·rintro σ H' ⟨e1,e2,e3,e4,e5,e6,e7,e8,e9,e10,rfl,g⟩
  exact q H'
 rintro i σ H1 hi ⟨e1,e2,e3,e4,e5,e6,e7,e8,e9,e10,rfl,g⟩
 have i63:i < 1000:=by
  have hi':=hi
  revert hi'
  split <;> split <;> omega
 refine ⟨_,rfl,_,rfl,_,_,rfl,a,ns,_,rfl,rfl,g.scr hs,by omega,by omega,fun p H2 hp g2 pp=>?_⟩
 refine xJ ⟨_,rfl,by decide,by decide,wf (fun j ys H'=>∃ bs:List Int,ys = bs.map V.int /\ bs.length = j /\ Grow [p] H2 H' /\ Pot H' p) ⟨[],rfl,rfl,Grow.refl _ _,pp⟩ ?_ ?_⟩
 ·rintro j ys H4 hj ⟨bs,rfl,bl,g4,pp4⟩
  refine ⟨_,rfl,_,_,rfl,p,7,rfl,rfl,pp4,by decide,by decide,fun n H5 l5 u5 g5 pp5=>⟨_,_,rfl,rfl,_,_,rfl,zn (by rw [List.length_map]; omega),bs ++ [_],by rw [List.map_append]; rfl,by rw [List.length_append]; show bs.length + 1 = _; omega,g4.trans g5,pp5⟩⟩
 rintro ys H4 ⟨bs,rfl,bl,g4,pp4⟩ l4 hl4
 have n4:l4 ∉ [p]:=fun z=>yA pp4 l4 z hl4
 have g5:=Grow.new (m:=[]) hl4 (.lst (bs.map V.int))
 have h5:=zd (H:=H4) (a:=l4) (o:=.lst (bs.map V.int))
 have pp5:=pp4.grow g5
 have G5:Grow [p] H2 (upd H4 l4 (.lst (bs.map V.int))):=g4.trans g5.wk
 generalize upd H4 l4 (.lst (bs.map V.int)) = H5 at h5 pp5 G5 ⊢
 refine xJ ⟨_,rfl,_,rfl,_,_,rfl,p,l4,bs,rfl,rfl,pp5,n4,h5,bl,fun r y1 y2 y3 y4 y5 dd dt dn dr ds H6 g6 pp6 sq o1 o2 o3 o4 o5 bd dp=>?_⟩
 refine ⟨r,_,rfl,sq,rfl,_,_,rfl,_,_,rfl,_,_,rfl,_,_,rfl,_,_,rfl,rfl,?_⟩
 have G6:Grow [] H1 H6:=((g2.wk (m:=[p])).trans (G5.trans g6)).less fun b hb=>.inr (by rw [List.mem_singleton.mp hb]; exact hp)
 have G0:=g.trans G6
 refine ⟨_,rfl,by decide,by decide,xM (fun _ σ H'=>∃ (e9 e10:Option V),σ = [some (.ref a),some (.int (0 + (i:Int))),some (.ref p),some (.ref l4),some y1,some y2,some y3,some y4,some y5,e9,e10] /\ Grow [] H6 H') ⟨_,_,rfl,Grow.refl _ _⟩ ?_ ?_⟩
 ·rintro j σ H7 hj ⟨e9,e10,rfl,g7⟩
  have w7:=g7.wk (m:=[p])
  refine ⟨_,rfl,_,rfl,_,rfl,_,rfl,_,rfl,_,rfl,_,_,_,_,_,_,rfl,j,dd,dt,dn,dr,ds,[p],congrArg V.int (by omega),hj,o1.grow w7,o2.grow w7,o3.grow w7,o4.grow w7,o5.grow w7,bd,dp,fun H8 g8=>?_⟩
  have w8:=(g7.trans g8).wk (m:=[p])
  refine ⟨_,rfl,_,rfl,_,rfl,_,rfl,_,rfl,_,rfl,_,_,_,_,_,_,rfl,j,dd,dt,dn,dr,ds,[p],congrArg V.int (by omega),hj,o1.grow w8,o2.grow w8,o3.grow w8,o4.grow w8,o5.grow w8,bd,fun H9 g9=>⟨_,rfl,rfl,_,rfl,zD ?_ ⟨_,_,rfl,g7.trans (g8.trans g9)⟩⟩⟩
  rw [decide_eq_true rfl]; rfl
 rintro σ H7 ⟨e9,e10,rfl,g7⟩
 refine ⟨[],trivial,nofun,fun x1 Ha ga oa=>⟨[],trivial,nofun,fun x2 Hb gb ob=>⟨[],trivial,nofun,fun x3 Hc gc oc=>?_⟩⟩⟩
 refine ⟨_,_,_,rfl,.tuple [.tuple [.int 0]],.tuple [.int 0,.int 0],.tuple [.int 0,.int 1],[],oa.grow (gb.trans gc),ob.grow gc,oc,rfl,by decide,Nat.le_of_ble_eq_true rfl,fun _ v Hd v0 v1 gd=>?_,fun c h=>nomatch h⟩
 have hv:v = 0:=by
  have v1:v < 1:=v1
  omega
 subst hv
 refine ⟨rfl,_,rfl,zD (by rw [decide_eq_true rfl]; rfl) ?_⟩
 refine ⟨[],trivial,nofun,fun x4 He ge oe=>?_⟩
 refine ⟨_,rfl,.tuple [.tuple [.int 1,.int 0]],[],oe,rfl,(fun h=>nomatch h),fun _=>⟨fun ms S er hM hF=>?_,fun ms S hx er hM s1 s5 m1 m4 y f Hf gf hB hL h60=>?_⟩⟩
 ·obtain ⟨rfl,rfl⟩:=Xp er hM
  exact absurd (Vp (S:=2) (m:=[1,0]) (by decide) ⟨rfl,(hM [1,0] (by simp)).2⟩) hF
 obtain ⟨rfl,rfl⟩:=Xp er hM
 rw [Wm hL] at hB
 obtain ⟨ry,xs,rfl,sy,hk⟩:=hB
 refine ⟨[],trivial,nofun,fun x5 Hg gg og=>?_⟩
 obtain ⟨r5,xs5,rfl,s5',t5⟩:=og.inv_tup
 have ob1:Ods K [] Hg xs ([[0,1],[1,0]].map yf):=(um (hk.imp fun _ _ z=>z.board)).grow gg
 refine ⟨.tuple [.tuple [.int 0,.int 1],.tuple [.int 1,.int 0]],(Od.dq67 (.tup (gg.sqT sy) ob1) rfl),Od.dq67 og rfl,⟨_,rfl⟩,by decide,_,rfl,iteF ?_⟩
 exact ⟨_,_,_,_,_,_,_,_,_,_,rfl,G0.trans (g7.trans (ga.trans (gb.trans (gc.trans (gd.trans (ge.trans (gf.trans gg)))))))⟩
end
theorem yL:∀ {us:List Value},us.length = 1 -> ∃ x0,us = [x0]
 | [x0],_=>⟨x0,rfl⟩
theorem yr:∀ {us:List Value},us.length = 2 -> ∃ x0,∃ x1,us = [x0,x1]
 | [x0,x1],_=>⟨x0,x1,rfl⟩
theorem wc:∀ {us:List Value},us.length = 3 -> ∃ x0,∃ x1,∃ x2,us = [x0,x1,x2]
 | [x0,x1,x2],_=>⟨x0,x1,x2,rfl⟩
theorem VH:∀ {us:List Value},us.length = 5 -> ∃ x0,∃ x1,∃ x2,∃ x3,∃ x4,us = [x0,x1,x2,x3,x4]
 | [x0,x1,x2,x3,x4],_=>⟨x0,x1,x2,x3,x4,rfl⟩
theorem sT:∀ {us:List Value},us.length = 6 -> ∃ x0,∃ x1,∃ x2,∃ x3,∃ x4,∃ x5,us = [x0,x1,x2,x3,x4,x5]
 | [x0,x1,x2,x3,x4,x5],_=>⟨x0,x1,x2,x3,x4,x5,rfl⟩
def FA (K:FG7) (x:Str) (t:Stmt) (f:Addr) (d:FuncData):Prop:=PySem.W.nsIn K mainGlobals x = some (some (.ref f)) /\ Fun K x x t f d
theorem FA.cl {P:Program} {w:World} {K:FG7} {h base:Heap} {mg:Str -> Option Value} {x:Str} {t:Stmt} {f:Addr} {d:FuncData} {k:Nat} {ps:List Str} {sp:Sp} (a:FA K x t f d) (X:K.In h) (G:h.Ns mainGlobals mg) (F:FnOk P w K mg base CX0 k f d ps sp) (b:vn K d ps []):zo P w K mg base k x ps sp:=⟨_,_,F,b,a.2.kp,PySem.W.mg_of X G a.1⟩
theorem all_mk {l:PySem.W.OpenLaw} {w:World} {K:FG7} {h:Heap} {mg:Str -> Option Value} {fa f1 f2 f3 f4 f5 f6 f7 f8 f9 f10 f11 f12 f13 f14 f15 f16 f17 f18 f19 f20 f21 f22 f23 f24 f25 f26 f27 f28 f29 f30 f31 f32 f33 f34 f35 f36 f37 f38 f39 f40 f41:Addr} (X:K.In h) (G:h.Ns mainGlobals mg) (hfa:mg "law" = some (.ref fa))
    {d1 d2 d3 d4 d5 d6 d7 d8 d9 d10 d11 d12 d13 d14 d15 d16 d17 d18 d19 d20 d21 d22 d23 d24 d25 d26 d27 d28 d29 d30 d31 d32 d33 d34 d35 d36 d37 d38 d39 d40 d41:FuncData}
    {A_AskError:Addr} (ax_AskError:PySem.W.nsIn K mainGlobals "AskError" = some (some (.ref A_AskError)))
    {A_NoNumber:Addr} (ax_NoNumber:PySem.W.nsIn K mainGlobals "NoNumber" = some (some (.ref A_NoNumber)))
    {A_NoTable:Addr} (ax_NoTable:PySem.W.nsIn K mainGlobals "NoTable" = some (some (.ref A_NoTable)))
    {A_NoTree:Addr} (ax_NoTree:PySem.W.nsIn K mainGlobals "NoTree" = some (some (.ref A_NoTree)))
    {A_TooMany:Addr} (ax_TooMany:PySem.W.nsIn K mainGlobals "TooMany" = some (some (.ref A_TooMany)))
    (ex_AskError:PySem.W.excIn K A_AskError veM "ValueError.__new__" = true)
    (ex_NoNumber:PySem.W.excIn K A_NoNumber veM "ValueError.__new__" = true)
    (ex_NoTable:PySem.W.excIn K A_NoTable veM "ValueError.__new__" = true)
    (ex_NoTree:PySem.W.excIn K A_NoTree veM "ValueError.__new__" = true)
    (ex_TooMany:PySem.W.excIn K A_TooMany veM "ValueError.__new__" = true)
    (kd:KdN K [A_NoTable,A_NoNumber,A_NoTree,A_TooMany] A_AskError)
 (h1:FA K "by_table_then" ((top 15)) f1 d1)
 (h2:FA K "is_whole" ((top 7)) f2 d2)
 (h3:FA K "is_within" ((top 8)) f3 d3)
 (h4:FA K "is_by_table" ((top 13)) f4 d4)
 (h5:FA K "need_by_table" ((top 14)) f5 d5)
 (h6:FA K "grown" ((top 16)) f6 d6)
 (h7:FA K "family" ((top 17)) f7 d7)
 (h8:FA K "number_of" ((top 32)) f8 d8)
 (h9:FA K "need_many" ((top 21)) f9 d9)
 (h10:FA K "is_tree" ((top 22)) f10 d10)
 (h11:FA K "need_tree" ((top 23)) f11 d11)
 (h12:FA K "are_numbers" ((top 25)) f12 d12)
 (h13:FA K "need_numbers" ((top 28)) f13 d13)
 (h14:FA K "need_table" ((top 26)) f14 d14)
 (h15:FA K "folded_by" ((top 33)) f15 d15)
 (h16:FA K "share_by" ((top 34)) f16 d16)
 (h17:FA K "need_table_of" ((top 27)) f17 d17)
 (h18:FA K "shared_by" ((top 35)) f18 d18)
 (h19:FA K "broken" ((top 31)) f19 d19)
 (h20:FA K "held" ((top 30)) f20 d20)
 (h21:FA K "own_table" ((top 29)) f21 d21)
 (h22:FA K "words" ((top 18)) f22 d22)
 (h23:FA K "_law_asked" ((top 51)) f23 d23)
 (h24:FA K "_law_word" ((top 52)) f24 d24)
 (h25:FA K "_law_told" ((top 53)) f25 d25)
 (h26:FA K "_law_is_number" ((top 44)) f26 d26)
 (h27:FA K "_law_leaves" ((top 48)) f27 d27)
 (h28:FA K "_law_is_tree" ((top 49)) f28 d28)
 (h29:FA K "_law_are_numbers" ((top 45)) f29 d29)
 (h30:FA K "_law_are_deeds" ((top 46)) f30 d30)
 (h31:FA K "_law_is_table" ((top 47)) f31 d31)
 (h32:FA K "_law_due" ((top 50)) f32 d32)
 (h33:FA K "_law_draw" ((top 38)) f33 d33)
 (h34:FA K "_law_odd" ((top 40)) f34 d34)
 (h35:FA K "_law_tree_spoilt" ((top 43)) f35 d35)
 (h36:FA K "_law_row_spoilt" ((top 41)) f36 d36)
 (h37:FA K "_law_rows_spoilt" ((top 42)) f37 d37)
 (h38:FA K "_law_tree" ((top 39)) f38 d38)
 (h39:FA K "_law_things" ((top 54)) f39 d39)
 (h40:FA K "_law_store" ((top 37)) f40 d40)
 (h41:FA K "law" ((top 55)) f41 d41)
    {t_MOST_DEEDS:Tok} (ga_MOST_DEEDS:PySem.W.nsIn K mainGlobals "MOST_DEEDS" = some (some (.int 40 t_MOST_DEEDS)))
    {t_MOST_GIVEN:Tok} (ga_MOST_GIVEN:PySem.W.nsIn K mainGlobals "MOST_GIVEN" = some (some (.int 4 t_MOST_GIVEN)))
    {t_MOST_IN_FAMILY:Tok} (ga_MOST_IN_FAMILY:PySem.W.nsIn K mainGlobals "MOST_IN_FAMILY" = some (some (.int 60 t_MOST_IN_FAMILY)))
    {t_MOST_STATES:Tok} (ga_MOST_STATES:PySem.W.nsIn K mainGlobals "MOST_STATES" = some (some (.int 5 t_MOST_STATES)))
    (ga_ValueError:PySem.W.nsIn K mainGlobals "ValueError" = some none)
    (ga_enumerate:PySem.W.nsIn K mainGlobals "enumerate" = some none)
    (z_abs:PySem.W.nsIn K mainGlobals "abs" = some none)
    (z_len:PySem.W.nsIn K mainGlobals "len" = some none)
    (z_max:PySem.W.nsIn K mainGlobals "max" = some none)
    (z_min:PySem.W.nsIn K mainGlobals "min" = some none)
    (z_divmod:PySem.W.nsIn K mainGlobals "divmod" = some none)
    (z_repr:PySem.W.nsIn K mainGlobals "repr" = some none)
    (z_isinstance:PySem.W.nsIn K mainGlobals "isinstance" = some none)
    (z_all:PySem.W.nsIn K mainGlobals "all" = some none)
    (z_range:PySem.W.nsIn K mainGlobals "range" = some none)
    (z_int:PySem.W.nsIn K mainGlobals "int" = some none)
    (z_bool:PySem.W.nsIn K mainGlobals "bool" = some none)
    (z_str:PySem.W.nsIn K mainGlobals "str" = some none)
    (z_tuple:PySem.W.nsIn K mainGlobals "tuple" = some none)
    (z_list:PySem.W.nsIn K mainGlobals "list" = some none)
    (z_dict:PySem.W.nsIn K mainGlobals "dict" = some none)
    :
    ∃ fd:FuncData,(∀ (s:Shared) (v:Value),BindsTo s fd ⟨[v],[]⟩ [("_law_script",v)]) /\ ∀ base:Heap,K.In base -> base.Ns mainGlobals mg -> FnOk l.prog w K mg base CX0 65 fa fd ["_law_script"] (jP K):=by
  have e:=hfa.symm.trans (PySem.W.mg_of X G h41.1)
  cases e
  have b5:=h5.2.binds (ps:=["thing","least","most"]) fun _ _ _ _ _ _ us hl=>by obtain ⟨_,_,_,rfl⟩:=wc hl; rfl
  have b6:=h6.2.binds (ps:=["deeds"]) fun _ _ _ _ _ _ us hl=>by obtain ⟨_,rfl⟩:=yL hl; rfl
  have b7:=h7.2.binds (ps:=["deeds"]) fun _ _ _ _ _ _ us hl=>by obtain ⟨_,rfl⟩:=yL hl; rfl
  have b8:=h8.2.binds (ps:=["table","numbers","tree"]) fun _ _ _ _ _ _ us hl=>by obtain ⟨_,_,_,rfl⟩:=wc hl; rfl
  have b9:=h9.2.binds (ps:=["thing"]) fun _ _ _ _ _ _ us hl=>by obtain ⟨_,rfl⟩:=yL hl; rfl
  have b10:=h10.2.binds (ps:=["thing","many"]) fun _ _ _ _ _ _ us hl=>by obtain ⟨_,_,rfl⟩:=yr hl; rfl
  have b11:=h11.2.binds (ps:=["thing","many"]) fun _ _ _ _ _ _ us hl=>by obtain ⟨_,_,rfl⟩:=yr hl; rfl
  have b13:=h13.2.binds (ps:=["table","thing"]) fun _ _ _ _ _ _ us hl=>by obtain ⟨_,_,rfl⟩:=yr hl; rfl
  have b14:=h14.2.binds (ps:=["thing"]) fun _ _ _ _ _ _ us hl=>by obtain ⟨_,rfl⟩:=yL hl; rfl
  have b15:=h15.2.binds (ps:=["table","numbers","tree"]) fun _ _ _ _ _ _ us hl=>by obtain ⟨_,_,_,rfl⟩:=wc hl; rfl
  have b16:=h16.2.binds (ps:=["deeds","table","numbers","tree","state","states"]) fun _ _ _ _ _ _ us hl=>by obtain ⟨_,_,_,_,_,_,rfl⟩:=sT hl; rfl
  have b17:=h17.2.binds (ps:=["deeds","table"]) fun _ _ _ _ _ _ us hl=>by obtain ⟨_,_,rfl⟩:=yr hl; rfl
  have b18:=h18.2.binds (ps:=["deeds","table","numbers","tree","state"]) fun _ _ _ _ _ _ us hl=>by obtain ⟨_,_,_,_,_,rfl⟩:=VH hl; rfl
  have b19:=h19.2.binds (ps:=["table"]) fun _ _ _ _ _ _ us hl=>by obtain ⟨_,rfl⟩:=yL hl; rfl
  have b20:=h20.2.binds (ps:=["deeds","table"]) fun _ _ _ _ _ _ us hl=>by obtain ⟨_,_,rfl⟩:=yr hl; rfl
  have b21:=h21.2.binds (ps:=["deeds"]) fun _ _ _ _ _ _ us hl=>by obtain ⟨_,rfl⟩:=yL hl; rfl
  have b22:=h22.2.binds (ps:=["deeds"]) fun _ _ _ _ _ _ us hl=>by obtain ⟨_,rfl⟩:=yL hl; rfl
  have b23:=h23.2.binds (ps:=["_law_choice","_law_deeds","_law_table","_law_numbers","_law_tree_here","_law_state"]) fun _ _ _ _ _ _ us hl=>by obtain ⟨_,_,_,_,_,_,rfl⟩:=sT hl; rfl
  have b24:=h24.2.binds (ps:=["_law_e"]) fun _ _ _ _ _ _ us hl=>by obtain ⟨_,rfl⟩:=yL hl; rfl
  have b27:=h27.2.binds (ps:=["_law_thing"]) fun _ _ _ _ _ _ us hl=>by obtain ⟨_,rfl⟩:=yL hl; rfl
  have b35:=h35.2.binds (ps:=["_law_store_here","_law_tree_here","_law_many"]) fun _ _ _ _ _ _ us hl=>by obtain ⟨_,_,_,rfl⟩:=wc hl; rfl
  have b38:=h38.2.binds (ps:=["_law_store_here","_law_first","_law_many"]) fun _ _ _ _ _ _ us hl=>by obtain ⟨_,_,_,rfl⟩:=wc hl; rfl
  have x_AskError:ExcC K mg "AskError" A_AskError:=excC_of (PySem.W.mg_of X G ax_AskError) ex_AskError
  have x_NoNumber:ExcC K mg "NoNumber" A_NoNumber:=excC_of (PySem.W.mg_of X G ax_NoNumber) ex_NoNumber
  have x_NoTable:ExcC K mg "NoTable" A_NoTable:=excC_of (PySem.W.mg_of X G ax_NoTable) ex_NoTable
  have x_NoTree:ExcC K mg "NoTree" A_NoTree:=excC_of (PySem.W.mg_of X G ax_NoTree) ex_NoTree
  have x_TooMany:ExcC K mg "TooMany" A_TooMany:=excC_of (PySem.W.mg_of X G ax_TooMany) ex_TooMany
  have v_AskError:mg "AskError" = some (.ref A_AskError):=PySem.W.mg_of X G ax_AskError
  have v_NoNumber:mg "NoNumber" = some (.ref A_NoNumber):=PySem.W.mg_of X G ax_NoNumber
  have v_NoTable:mg "NoTable" = some (.ref A_NoTable):=PySem.W.mg_of X G ax_NoTable
  have v_NoTree:mg "NoTree" = some (.ref A_NoTree):=PySem.W.mg_of X G ax_NoTree
  have v_TooMany:mg "TooMany" = some (.ref A_TooMany):=PySem.W.mg_of X G ax_TooMany
  have B:Blt mg:=⟨PySem.W.mg_none_of X G z_abs,PySem.W.mg_none_of X G z_len,PySem.W.mg_none_of X G z_max,PySem.W.mg_none_of X G z_min,PySem.W.mg_none_of X G z_divmod,PySem.W.mg_none_of X G z_repr,PySem.W.mg_none_of X G z_isinstance,PySem.W.mg_none_of X G z_all,PySem.W.mg_none_of X G z_range,PySem.W.mg_none_of X G z_int,PySem.W.mg_none_of X G z_bool,PySem.W.mg_none_of X G z_str,PySem.W.mg_none_of X G z_tuple,PySem.W.mg_none_of X G z_list,PySem.W.mg_none_of X G z_dict⟩
  obtain ⟨oc,od,kV,dc,pm,an,cd,ct,sl,rfl,lk,hc⟩:=h41.2.ex
  refine ⟨PySem.W.fnOf "law" "law" (uz (top 55)) (xR (top 55)) (zg (top 55)) .none kV dc pm an cd ct,fun s v=>.of_eq rfl,fun base _ _=>?_⟩
  have C1:zo l.prog w K mg base 1 _ _ _:=h1.cl X G (v5 h1.2 B       ) (h1.2.binds fun _ _ _ _ _ _ us hl=>by obtain ⟨_,_,rfl⟩:=yr hl; rfl)
  have C2:zo l.prog w K mg base 1 _ _ _:=h2.cl X G (jB h2.2 B       ) (h2.2.binds fun _ _ _ _ _ _ us hl=>by obtain ⟨_,rfl⟩:=yL hl; rfl)
  have C3:zo l.prog w K mg base 2 _ _ _:=h3.cl X G (qj h3.2 B    (C2.mono (by decide))   ) (h3.2.binds fun _ _ _ _ _ _ us hl=>by obtain ⟨_,_,_,rfl⟩:=wc hl; rfl)
  have C4:zo l.prog w K mg base 3 _ _ _:=h4.cl X G (tD h4.2 B    (C3.mono (by decide))  (PySem.W.mg_of X G ga_MOST_STATES) ) (h4.2.binds fun _ _ _ _ _ _ us hl=>by obtain ⟨_,rfl⟩:=yL hl; rfl)
  have C5:zw l.prog w K mg base 4 "need_by_table" ["thing","least","most"] (uk A_NoTable K):=⟨_,_,v8 (P:=l.prog) (w:=w) (base:=base) (n:=3) h5.2 B x_NoTable   (C4.mono (by decide))   ,b5,h5.2.kp,PySem.W.mg_of X G h5.1⟩
  have C6:zw l.prog w K mg base 5 "grown" ["deeds"] (wr A_NoTable A_TooMany K):=⟨_,_,Wo (P:=l.prog) (w:=w) (base:=base) (n:=4) h6.2 B x_TooMany x_NoTable   (C1.mono (by decide)) (C5.mono (by decide)) (PySem.W.mg_none_of X G ga_enumerate) (PySem.W.mg_of X G ga_MOST_IN_FAMILY) (PySem.W.mg_of X G ga_MOST_GIVEN) ,b6,h6.2.kp,PySem.W.mg_of X G h6.1⟩
  have C7:zw l.prog w K mg base 6 "family" ["deeds"] (ve A_NoTable A_TooMany K):=⟨_,_,Xr (P:=l.prog) (w:=w) (base:=base) (n:=5) h7.2 B x_NoTable x_TooMany   (C6.mono (by decide))   ,b7,h7.2.kp,PySem.W.mg_of X G h7.1⟩
  have R8:∀ N:Nat,FnOk l.prog w K mg base CX0 (1 + N) f8 d8 ["table","numbers","tree"] (yu N K):=by
    intro N
    induction N with
    | zero=>exact wV t6
    | succ N ih=>exact ql (P:=l.prog) (w:=w) (base:=base) (n:=1 + N) h8.2 B ⟨_,_,ih,b8,h8.2.kp,PySem.W.mg_of X G h8.1⟩ (C2.mono (Nat.le_trans (show 1 <= 1 by decide) (Nat.le_add_right 1 N)))
  have C8:zo l.prog w K mg base 42 "number_of" ["table","numbers","tree"] (yu 41 K):=⟨_,_,R8 41,b8,h8.2.kp,PySem.W.mg_of X G h8.1⟩
  have C9:zw l.prog w K mg base 3 "need_many" ["thing"] (sH A_NoNumber K):=⟨_,_,qr (P:=l.prog) (w:=w) (base:=base) (n:=2) h9.2 B x_NoNumber   (C3.mono (by decide))  (PySem.W.mg_of X G ga_MOST_DEEDS) ,b9,h9.2.kp,PySem.W.mg_of X G h9.1⟩
  have C10:zw l.prog w K mg base 4 "is_tree" ["thing","many"] (sI A_NoNumber K):=⟨_,_,ZW (P:=l.prog) (w:=w) (base:=base) (n:=3) h10.2 B x_NoNumber   (C2.mono (by decide)) (C9.mono (by decide))   ,b10,h10.2.kp,PySem.W.mg_of X G h10.1⟩
  have C11:zw l.prog w K mg base 5 "need_tree" ["thing","many"] (Zf A_NoTree K):=⟨_,_,qv (P:=l.prog) (w:=w) (base:=base) (n:=4) h11.2 B x_NoNumber x_NoTree   (C10.mono (by decide))   ,b11,h11.2.kp,PySem.W.mg_of X G h11.1⟩
  have C12:zo l.prog w K mg base 3 _ _ _:=h12.cl X G (tF h12.2 B    (C3.mono (by decide))   ) (h12.2.binds fun _ _ _ _ _ _ us hl=>by obtain ⟨_,_,rfl⟩:=yr hl; rfl)
  have C13:zw l.prog w K mg base 4 "need_numbers" ["table","thing"] (sJ A_NoNumber K):=⟨_,_,uY (P:=l.prog) (w:=w) (base:=base) (n:=3) h13.2 B x_NoNumber   (C12.mono (by decide))  (PySem.W.mg_of X G ga_MOST_DEEDS) ,b13,h13.2.kp,PySem.W.mg_of X G h13.1⟩
  have C14:zw l.prog w K mg base 4 "need_table" ["thing"] (xU A_NoTable K):=⟨_,_,sO (P:=l.prog) (w:=w) (base:=base) (n:=3) h14.2 B x_NoTable   (C12.mono (by decide))  (PySem.W.mg_of X G ga_MOST_IN_FAMILY) ,b14,h14.2.kp,PySem.W.mg_of X G h14.1⟩
  have C15:zw l.prog w K mg base 43 "folded_by" ["table","numbers","tree"] (vf A_NoTable A_NoNumber A_NoTree K):=⟨_,_,qz (P:=l.prog) (w:=w) (base:=base) (n:=42) h15.2 B x_NoTree x_NoNumber x_NoTable   (C8.mono (by decide)) (C11.mono (by decide)) (C13.mono (by decide)) (C14.mono (by decide))   ,b15,h15.2.kp,PySem.W.mg_of X G h15.1⟩
  have R16:∀ N:Nat,FnOk l.prog w K mg base CX0 (1 + N) f16 d16 ["deeds","table","numbers","tree","state","states"] (yB N K):=by
    intro N
    induction N with
    | zero=>exact wV rC
    | succ N ih=>exact jC (P:=l.prog) (w:=w) (base:=base) (n:=1 + N) h16.2 B ⟨_,_,ih,b16,h16.2.kp,PySem.W.mg_of X G h16.1⟩ (C2.mono (Nat.le_trans (show 1 <= 1 by decide) (Nat.le_add_right 1 N)))
  have C16:zo l.prog w K mg base 42 "share_by" ["deeds","table","numbers","tree","state","states"] (yB 41 K):=⟨_,_,R16 41,b16,h16.2.kp,PySem.W.mg_of X G h16.1⟩
  have C17:zw l.prog w K mg base 5 "need_table_of" ["deeds","table"] (vc A_NoTable K):=⟨_,_,ua (P:=l.prog) (w:=w) (base:=base) (n:=4) h17.2 B x_NoTable   (C5.mono (by decide)) (C14.mono (by decide))   ,b17,h17.2.kp,PySem.W.mg_of X G h17.1⟩
  have C18:zw l.prog w K mg base 43 "shared_by" ["deeds","table","numbers","tree","state"] (vA A_NoTable A_NoNumber A_NoTree K):=⟨_,_,qA (P:=l.prog) (w:=w) (base:=base) (n:=42) h18.2 B x_NoTree x_NoNumber x_NoTable   (C16.mono (by decide)) (C11.mono (by decide)) (C3.mono (by decide)) (C13.mono (by decide)) (C17.mono (by decide))   ,b18,h18.2.kp,PySem.W.mg_of X G h18.1⟩
  have C19:zw l.prog w K mg base 5 "broken" ["table"] (sL A_NoTable K):=⟨_,_,Xs (P:=l.prog) (w:=w) (base:=base) (n:=4) h19.2 B x_NoTable   (C14.mono (by decide))   ,b19,h19.2.kp,PySem.W.mg_of X G h19.1⟩
  have C20:zw l.prog w K mg base 6 "held" ["deeds","table"] (uT A_NoTable K):=⟨_,_,VG (P:=l.prog) (w:=w) (base:=base) (n:=5) h20.2 B x_NoTable   (C1.mono (by decide)) (C17.mono (by decide)) (PySem.W.mg_none_of X G ga_enumerate)  ,b20,h20.2.kp,PySem.W.mg_of X G h20.1⟩
  have C21:zw l.prog w K mg base 7 "own_table" ["deeds"] (wu A_NoTable A_TooMany K):=⟨_,_,qB (P:=l.prog) (w:=w) (base:=base) (n:=6) h21.2 B x_NoTable x_TooMany   (C1.mono (by decide)) (C7.mono (by decide)) (PySem.W.mg_none_of X G ga_enumerate)  ,b21,h21.2.kp,PySem.W.mg_of X G h21.1⟩
  have C22:zw l.prog w K mg base 6 "words" ["deeds"] (wu A_NoTable A_TooMany K):=⟨_,_,Wq (P:=l.prog) (w:=w) (base:=base) (n:=5) h22.2 B x_NoTable x_TooMany   (C6.mono (by decide))   ,b22,h22.2.kp,PySem.W.mg_of X G h22.1⟩
  have C23:zw l.prog w K mg base 44 "_law_asked" ["_law_choice","_law_deeds","_law_table","_law_numbers","_law_tree_here","_law_state"] (vB A_NoTable A_NoNumber A_NoTree A_TooMany K):=⟨_,_,sQ (P:=l.prog) (w:=w) (base:=base) (n:=43) h23.2 B x_NoTable x_NoNumber x_NoTree x_TooMany   (C18.mono (by decide)) (C15.mono (by decide)) (C19.mono (by decide)) (C20.mono (by decide)) (C21.mono (by decide)) (C22.mono (by decide)) (C7.mono (by decide))   ,b23,h23.2.kp,PySem.W.mg_of X G h23.1⟩
  have D24:vz l.prog w K mg base 1 "_law_word" ["_law_e"] (vF [A_NoTable,A_NoNumber,A_NoTree,A_TooMany] K):=⟨_,_,sR (P:=l.prog) (w:=w) (base:=base) (n:=0) h24.2 B  v_TooMany v_NoTree v_NoNumber v_NoTable kd  (PySem.W.mg_none_of X G ga_ValueError)  ,b24,h24.2.kp,PySem.W.mg_of X G h24.1⟩
  have C25:zo l.prog w K mg base 45 _ _ _:=h25.cl X G (qC h25.2 B x_AskError x_NoTable x_NoNumber x_NoTree x_TooMany  kd (C23.mono (by decide)) (D24.mono (by decide))   ) (h25.2.binds fun _ _ _ _ _ _ us hl=>by obtain ⟨_,_,_,_,_,_,rfl⟩:=sT hl; rfl)
  have C26:zo l.prog w K mg base 1 _ _ _:=h26.cl X G (vJ h26.2 B       ) (h26.2.binds fun _ _ _ _ _ _ us hl=>by obtain ⟨_,_,rfl⟩:=yr hl; rfl)
  have R27:∀ N:Nat,FnOk l.prog w K mg base CX0 (0 + N) f27 d27 ["_law_thing"] (yE N K):=by
    intro N
    induction N with
    | zero=>exact wV qd
    | succ N ih=>exact tH (P:=l.prog) (w:=w) (base:=base) (n:=0 + N) h27.2 B ⟨_,_,ih,b27,h27.2.kp,PySem.W.mg_of X G h27.1⟩
  have C27:zo l.prog w K mg base 62 "_law_leaves" ["_law_thing"] (yE 62 K):=⟨_,_,R27 62,b27,h27.2.kp,PySem.W.mg_of X G h27.1⟩
  have C28:zo l.prog w K mg base 63 _ _ _:=h28.cl X G (u6 h28.2 B    (C26.mono (by decide)) (C27.mono (by decide))   ) (h28.2.binds fun _ _ _ _ _ _ us hl=>by obtain ⟨_,_,rfl⟩:=yr hl; rfl)
  have C29:zo l.prog w K mg base 2 _ _ _:=h29.cl X G (wL h29.2 B    (C26.mono (by decide))   ) (h29.2.binds fun _ _ _ _ _ _ us hl=>by obtain ⟨_,_,rfl⟩:=yr hl; rfl)
  have C30:zo l.prog w K mg base 3 _ _ _:=h30.cl X G (vK h30.2 B    (C29.mono (by decide))   ) (h30.2.binds fun _ _ _ _ _ _ us hl=>by obtain ⟨_,_,rfl⟩:=yr hl; rfl)
  have C31:zo l.prog w K mg base 3 _ _ _:=h31.cl X G (uc h31.2 B    (C29.mono (by decide))   ) (h31.2.binds fun _ _ _ _ _ _ us hl=>by obtain ⟨_,rfl⟩:=yL hl; rfl)
  have C32:zo l.prog w K mg base 64 _ _ _:=h32.cl X G (jE h32.2 B    (C28.mono (by decide)) (C26.mono (by decide)) (C29.mono (by decide)) (C30.mono (by decide)) (C31.mono (by decide))   ) (h32.2.binds fun _ _ _ _ _ _ us hl=>by obtain ⟨_,_,_,_,_,_,rfl⟩:=sT hl; rfl)
  have C33:zo l.prog w K mg base 1 _ _ _:=h33.cl X G (qD h33.2 B       ) (h33.2.binds fun _ _ _ _ _ _ us hl=>by obtain ⟨_,_,rfl⟩:=yr hl; rfl)
  have C34:zo l.prog w K mg base 2 _ _ _:=h34.cl X G (jG h34.2 B    (C33.mono (by decide))   ) (h34.2.binds fun _ _ _ _ _ _ us hl=>by obtain ⟨_,_,rfl⟩:=yr hl; rfl)
  have R35:∀ N:Nat,FnOk l.prog w K mg base CX0 (1 + N) f35 d35 ["_law_store_here","_law_tree_here","_law_many"] (wv N K):=by
    intro N
    induction N with
    | zero=>exact wV Xn
    | succ N ih=>exact wM (P:=l.prog) (w:=w) (base:=base) (n:=1 + N) h35.2 B (C33.mono (Nat.le_trans (show 1 <= 1 by decide) (Nat.le_add_right 1 N))) ⟨_,_,ih,b35,h35.2.kp,PySem.W.mg_of X G h35.1⟩
  have C35:zo l.prog w K mg base 42 "_law_tree_spoilt" ["_law_store_here","_law_tree_here","_law_many"] (wv 41 K):=⟨_,_,R35 41,b35,h35.2.kp,PySem.W.mg_of X G h35.1⟩
  have C36:zo l.prog w K mg base 3 _ _ _:=h36.cl X G (vj h36.2 B    (C34.mono (by decide)) (C33.mono (by decide))   ) (h36.2.binds fun _ _ _ _ _ _ us hl=>by obtain ⟨_,_,_,rfl⟩:=wc hl; rfl)
  have C37:zo l.prog w K mg base 4 _ _ _:=h37.cl X G (wN h37.2 B    (C36.mono (by decide)) (C33.mono (by decide))   ) (h37.2.binds fun _ _ _ _ _ _ us hl=>by obtain ⟨_,_,_,rfl⟩:=wc hl; rfl)
  have R38:∀ N:Nat,FnOk l.prog w K mg base CX0 (1 + N) f38 d38 ["_law_store_here","_law_first","_law_many"] (wj N K):=by
    intro N
    induction N with
    | zero=>exact wV Yv
    | succ N ih=>exact qE (P:=l.prog) (w:=w) (base:=base) (n:=1 + N) h38.2 B ⟨_,_,ih,b38,h38.2.kp,PySem.W.mg_of X G h38.1⟩ (C33.mono (Nat.le_trans (show 1 <= 1 by decide) (Nat.le_add_right 1 N)))
  have C38:zo l.prog w K mg base 41 "_law_tree" ["_law_store_here","_law_first","_law_many"] (wj 40 K):=⟨_,_,R38 40,b38,h38.2.kp,PySem.W.mg_of X G h38.1⟩
  have C39:zo l.prog w K mg base 43 _ _ _:=h39.cl X G (tI h39.2 B    (C34.mono (by decide)) (C35.mono (by decide)) (C33.mono (by decide)) (C36.mono (by decide)) (C37.mono (by decide)) (C38.mono (by decide))   ) (h39.2.binds fun _ _ _ _ _ _ us hl=>by obtain ⟨_,_,rfl⟩:=yr hl; rfl)
  have C40:zo l.prog w K mg base 1 _ _ _:=h40.cl X G (sS h40.2 B       ) (h40.2.binds fun _ _ _ _ _ _ us hl=>by obtain ⟨_,_,rfl⟩:=yr hl; rfl)
  exact UE (P:=l.prog) (w:=w) (base:=base) (n:=64) h41.2 B x_NoTable x_TooMany x_NoNumber x_NoTree   (C7.mono (by decide)) (C15.mono (by decide)) (C25.mono (by decide)) (C32.mono (by decide)) (C39.mono (by decide)) (C33.mono (by decide)) (C40.mono (by decide))
theorem walk {l:PySem.W.OpenLaw} {q:Program} {loose:List Str} {XP:(Str -> Option Value) -> Heap -> Prop} {YP:World -> Heap -> Prop} {d:DefRec} {K:Params -> FG7} (hn:l.most = some 63) (hdf:d.params.defaults = [])
  (hY:∀ (w:World) (h:Heap),YP w h -> (K w.params).In h)
  (F:∀ (w:World) (mg:Str -> Option Value) (fa:Addr) (h:Heap),(K w.params).In h -> h.Ns mainGlobals mg -> mg d.name = some (.ref fa) →
   ∃ fd:FuncData,(∀ (s:Shared) (u:Value),BindsTo s fd ⟨[u],[]⟩ [("_law_script",u)]) /\ ∀ base:Heap,(K w.params).In base -> base.Ns mainGlobals mg -> FnOk l.prog w (K w.params) mg base CX0 65 fa fd ["_law_script"] (jP (K w.params))) :
  PySem.W.WalkO q loose XP YP l.row.toRowW d [] (fun f vs=>PySem.call f vs) :=
 L2.walk_of (n:=63) (k:=65) (x:="_law_script") (CX:=fun _=>CX0) (sp:=fun w=>jP (K w.params)) hn (by decide) hdf ⟨rfl,by decide,by decide,rfl⟩ hY F (fun _ _ a ns hl hO hS=>⟨_,rfl,a,ns,rfl,Scr.of hO hS,hl,fun _=>rfl⟩) fun _ _ _ _ _ z=>z
theorem walkX {q:Program} {loose:List Str} {XP:(Str -> Option Value) -> Heap -> Prop} {K:Params -> FG7} {as:List Addr} {n t:Nat} {r:PySem.W.RowW} {d:DefRec} {kwd:List (Str × Expr)} {run:Value -> List Value -> Sem Value}
  (e:∀ P,as = (K P).map (·.1)) (W:PySem.W.WalkO q loose XP (PySem.W.InK K) r d kwd run):PySem.W.WalkX q loose XP (PySem.W.X.obsZ as) (PySem.W.X.valZ K n t) r d kwd run :=
 fun w s₀ s₁ mg mb G Y a o pm cd doc dV kV h2 h3 h4 h5 h6 h7 args vals as' L hpre hlay hrd hwl hlo =>
  W w s₀ s₁ mg mb G (PySem.W.InK.keeps w s₀.heap s₁.heap (PySem.W.X.z_facts e Y).2.1 L.keeps) a o pm cd doc dV kV h2 h3 h4 h5 h6 h7 args vals as' hpre hlay hrd hwl hlo
end My
open PySem PySem.W PyProof.Rows
def PySem.W.Fast.tw16068149205736367292:Unit:=()
def PySem.W.Fast.tw6642278321638080531:Unit:=()
def PySem.W.Fast.tw18050860713859035627:Unit:=()
def PySem.W.Fast.tw7579999030752088818:Unit:=()
def PySem.W.Fast.tw9890313127938175968:Unit:=()
def PySem.W.Fast.tw1142732971602432063:Unit:=()
def PySem.W.Fast.tw5089769430977404195:Unit:=()
def PySem.W.Fast.tw11131893883414120345:Unit:=()
def PySem.W.Fast.tw14318433865973643104:Unit:=()
def PySem.W.Fast.tw10900528465265716931:Unit:=()
def PySem.W.Fast.tw12658647625260120830:Unit:=()
def PySem.W.Fast.tw14968290937172802303:Unit:=()
def PySem.W.Fast.tw5264848767641500333:Unit:=()
def PySem.W.Fast.tw16054920787796765352:Unit:=()
def PySem.W.Fast.tw5480485343816626557:Unit:=()
def PySem.W.Fast.tw8436710820870924487:Unit:=()
def PySem.W.Fast.tw9217921601223456651:Unit:=()
def PySem.W.Fast.tw4470943817356642183:Unit:=()
def PySem.W.Fast.tw17094642333240740789:Unit:=()
def PySem.W.Fast.tw11443021004154270598:Unit:=()
def PySem.W.Fast.tw10773525742913635051:Unit:=()
def PySem.W.Fast.tw14269444795710046233:Unit:=()
def PySem.W.Fast.tw17326363351690208972:Unit:=()
def PySem.W.Fast.tw4208822538511181808:Unit:=()
def PySem.W.Fast.tw12128215874548338909:Unit:=()
def PySem.W.Fast.tw14314474289767163442:Unit:=()
def PySem.W.Fast.tw17358963247422360202:Unit:=()
def PySem.W.Fast.tw10265978418924044814:Unit:=()
def PySem.W.Fast.tw6384409583021074720:Unit:=()
def PySem.W.Fast.tw480844617147107232:Unit:=()
def PySem.W.Fast.tw909142800606540866:Unit:=()
def PySem.W.Fast.tw210818554726647678:Unit:=()
def PySem.W.Fast.tw15204898158180104788:Unit:=()
def PySem.W.Fast.tw14321336042251917558:Unit:=()
def PySem.W.Fast.tw692025332755079385:Unit:=()
def PySem.W.Fast.tw17471784726605503904:Unit:=()
def PySem.W.Fast.tw12862696721487542546:Unit:=()
def PySem.W.Fast.tw16588457130203989503:Unit:=()
def PySem.W.Fast.tw11632859404538720496:Unit:=()
def PySem.W.Fast.tw16969491453937871702:Unit:=()
def PySem.W.Fast.tw17994516774590189375:Unit:=()
def PySem.W.Fast.tw4797214277910558926:Unit:=()
def PySem.W.Fast.tw11224455865844396489:Unit:=()
def PySem.W.Fast.tw2805380754234862562:Unit:=()
def PySem.W.Fast.tw10150572960151583531:Unit:=()
def PySem.W.Fast.tw17376717168224091080:Unit:=()
def PySem.W.Fast.tw9188312350717288338:Unit:=()
def PySem.W.Fast.tw5595080224425977687:Unit:=()
def PySem.W.Fast.tw15514942883867059394:Unit:=()
def PySem.W.Fast.tw2904073837410760114:Unit:=()
def PySem.W.Fast.tw10748003704458381292:Unit:=()
def PySem.W.Fast.tw14512909136307716738:Unit:=()
def PySem.W.Fast.tw6104395447878863532:Unit:=()
def PySem.W.Fast.tw14244943430912099037:Unit:=()
def PySem.W.Fast.tw18422048450007762502:Unit:=()
def PySem.W.Fast.tw8631234897275037814:Unit:=()
def PySem.W.Fast.tw15165888258359469528:Unit:=()
def PySem.W.Fast.tw14574915109609806293:Unit:=()
def PySem.W.Fast.tw7551791794800433125:Unit:=()
def PySem.W.Fast.tw16866355348418240318:Unit:=()
def PySem.W.Fast.tw866057916742443014:Unit:=()
def PySem.W.Fast.tw14627041853119561757:Unit:=()
def PySem.W.Fast.tw14703615206181174404:Unit:=()
def PySem.W.Fast.tw1969833182305944128:Unit:=()
def PySem.W.Fast.tw14785985957911357146:Unit:=()
def PySem.W.Fast.tw8329395517358865351:Unit:=()
def PySem.W.Fast.tw2006178794212687696:Unit:=()
def PySem.W.Fast.tw13938952037842280151:Unit:=()
def PySem.W.Fast.tw3836162590431101505:Unit:=()
def PySem.W.Fast.tw6024256163095012964:Unit:=()
def PySem.W.Fast.tw17942511933118520210:Unit:=()
def PySem.W.Fast.tw8750166336974250589:Unit:=()
def PySem.W.Fast.tw7490649944032885587:Unit:=()
def PySem.W.Fast.tw13142197268715831326:Unit:=()
def PySem.W.Fast.tw14529242577187070718:Unit:=()
def PySem.W.Fast.tw4233764979667824182:Unit:=()
def PySem.W.Fast.tw1203398277718303761:Unit:=()
def PySem.W.Fast.tw8324628248259551711:Unit:=()
def PySem.W.Fast.tw7694309881210717326:Unit:=()
def PySem.W.Fast.tw16572426552453446561:Unit:=()
def PySem.W.Fast.tw12914572711214073227:Unit:=()
def PySem.W.Fast.tw10937084356129594360:Unit:=()
def PySem.W.Fast.tw12097231518394552921:Unit:=()
def PySem.W.Fast.tw16222687791734650910:Unit:=()
def PySem.W.Fast.tw15368250198056408213:Unit:=()
def PySem.W.Fast.tw14375840510198514851:Unit:=()
def PySem.W.Fast.tw17923179869096847670:Unit:=()
def PySem.W.Fast.tw13697029062417751127:Unit:=()
def PySem.W.Fast.tw17672470056816223828:Unit:=()
def PySem.W.Fast.tw1628525136147586938:Unit:=()
def PySem.W.Fast.tw547339114641921111:Unit:=()
def PySem.W.Fast.tw2209493938390371771:Unit:=()
def PySem.W.Fast.tw15331483827333616505:Unit:=()
def PySem.W.Fast.tw14041747148840614506:Unit:=()
def PySem.W.Fast.tw12817275550591379016:Unit:=()
def PySem.W.Fast.tw11151006292628838914:Unit:=()
def PySem.W.Fast.tw1140679157023341689:Unit:=()
def PySem.W.Fast.tw8306408286407775605:Unit:=()
def PySem.W.Fast.tw15562669080332740272:Unit:=()
def PySem.W.Fast.tw3513243400123770447:Unit:=()
def PySem.W.Fast.tw6219671740563929686:Unit:=()
def PySem.W.Fast.tw16883610940058968704:Unit:=()
def PySem.W.Fast.tw11044310810067548248:Unit:=()
def PySem.W.Fast.tw17319119678131502741:Unit:=()
def PySem.W.Fast.tw17168514684769538137:Unit:=()
def PySem.W.Fast.tw9910741302343113041:Unit:=()
def PySem.W.Fast.tw724959944344933007:Unit:=()
def PySem.W.Fast.tw9057729604479474575:Unit:=()
def PySem.W.Fast.tw11742748211313299046:Unit:=()
def PySem.W.Fast.tw17886028226350280054:Unit:=()
def PySem.W.Fast.tw15969133046356409068:Unit:=()
def PySem.W.Fast.tw2588212998855244399:Unit:=()
def PySem.W.Fast.tw5539359340947527491:Unit:=()
def PySem.W.Fast.tw5984799658138085661:Unit:=()
def PySem.W.Fast.tw1927665430968418442:Unit:=()
def PySem.W.Fast.tw2494259136340578700:Unit:=()
def PySem.W.Fast.tw12958958358654548591:Unit:=()
def PySem.W.Fast.tw14167171496126108496:Unit:=()
def PySem.W.Fast.tw5847627393587206319:Unit:=()
def PySem.W.Fast.tw16090957655901416722:Unit:=()
def PySem.W.Fast.tw11758760347203231775:Unit:=()
def PySem.W.Fast.tw4201939174112448963:Unit:=()
def PySem.W.Fast.tw7550545487466781977:Unit:=()
def PySem.W.Fast.tw3811876301840292510:Unit:=()
def PySem.W.Fast.tw2182634816761226893:Unit:=()
def PySem.W.Fast.tw9623468915356419052:Unit:=()
def PySem.W.Fast.tw4570951779176193849:Unit:=()
def PySem.W.Fast.tw3846890146522209895:Unit:=()
def PySem.W.Fast.tw13448483622593401736:Unit:=()
def PySem.W.Fast.tw3919495957805709702:Unit:=()
def PySem.W.Fast.tw11634841515499345552:Unit:=()
def PySem.W.Fast.tw9579157195910219915:Unit:=()
def PySem.W.Fast.tw5900982622919103667:Unit:=()
def PySem.W.Fast.tw17406749333415196583:Unit:=()
def PySem.W.Fast.tw11483031666428930757:Unit:=()
def PySem.W.Fast.tw14860005069593582944:Unit:=()
def PySem.W.Fast.tw1223823745047434825:Unit:=()
def PySem.W.Fast.tw11024136048053394987:Unit:=()
def PySem.W.Fast.tw6521427050883039324:Unit:=()
def PySem.W.Fast.tw11379708958802727257:Unit:=()
def PySem.W.Fast.tw15270050608200144691:Unit:=()
def PySem.W.Fast.tw734424248441594932:Unit:=()
def PySem.W.Fast.tw15073109895754721232:Unit:=()
def PySem.W.Fast.tw1237436747335526894:Unit:=()
def PySem.W.Fast.tw12208425457538556021:Unit:=()
def PySem.W.Fast.tw1841851794424935553:Unit:=()
def PySem.W.Fast.tw6949088209311615806:Unit:=()
def PySem.W.Fast.tw10293455518846331093:Unit:=()
def PySem.W.Fast.tw4382335706619483259:Unit:=()
def PySem.W.Fast.tw12091561076604727175:Unit:=()
def PySem.W.Fast.tw6166393292270502445:Unit:=()
def PySem.W.Fast.tw299564123689082898:Unit:=()
def PySem.W.Fast.tw531809442252891757:Unit:=()
def PySem.W.Fast.tw14871573002860910250:Unit:=()
def PySem.W.Fast.tw1264804840937067914:Unit:=()
def PySem.W.Fast.tw11706847081876717376:Unit:=()
set_option maxRecDepth 100000 in
theorem PySem.Challenge.cw_joinedasks_k67_refused_by_tables_holds : PySem.Challenge.rw_joinedasks_k67_refused_by_tables.Holds := by
 w_on; o_law; z_head; (case hw=>w_witness2)
 refine My.walkX (fun _=>by kernel_rfl) (My.walk (l:=PySem.Challenge.rw_joinedasks_k67_refused_by_tables) rfl rfl (fun w h Y=>Y) ?F)
 case F =>
  intro w mg fa h KX G hmg
  refine' My.all_mk KX G hmg  ?ax_AskError ?ax_NoNumber ?ax_NoTable ?ax_NoTree ?ax_TooMany ?ex_AskError ?ex_NoNumber ?ex_NoTable ?ex_NoTree ?ex_TooMany   ?kd  ?h1 ?h2 ?h3 ?h4 ?h5 ?h6 ?h7 ?h8 ?h9 ?h10 ?h11 ?h12 ?h13 ?h14 ?h15 ?h16 ?h17 ?h18 ?h19 ?h20 ?h21 ?h22 ?h23 ?h24 ?h25 ?h26 ?h27 ?h28 ?h29 ?h30 ?h31 ?h32 ?h33 ?h34 ?h35 ?h36 ?h37 ?h38 ?h39 ?h40 ?h41 ?ga_MOST_DEEDS ?ga_MOST_GIVEN ?ga_MOST_IN_FAMILY ?ga_MOST_STATES ?ga_ValueError ?ga_enumerate ?z_abs ?z_len ?z_max ?z_min ?z_divmod ?z_repr ?z_isinstance ?z_all ?z_range ?z_int ?z_bool ?z_str ?z_tuple ?z_list ?z_dict
  (case ax_AskError=>k_is)
  (case ax_NoNumber=>k_is)
  (case ax_NoTable=>k_is)
  (case ax_NoTree=>k_is)
  (case ax_TooMany=>k_is)
  (case ex_AskError=>kernel_rfl)
  (case ex_NoNumber=>kernel_rfl)
  (case ex_NoTable=>kernel_rfl)
  (case ex_NoTree=>kernel_rfl)
  (case ex_TooMany=>kernel_rfl)
  (case kd=>exact L3.kdN_of (by kernel_rfl) (fun C h=>by simp only [List.mem_cons,List.not_mem_nil,or_false] at h; rcases h with rfl | rfl | rfl | rfl | rfl <;> exact ⟨by kernel_rfl,by kernel_rfl,by kernel_rfl,by kernel_rfl,by kernel_rfl⟩))
  (case h1=>exact ⟨by k_is,L2.fun_mk (by k_is) (by k_is) (by k_is)⟩)
  (case h2=>exact ⟨by k_is,L2.fun_mk (by k_is) (by k_is) (by k_is)⟩)
  (case h3=>exact ⟨by k_is,L2.fun_mk (by k_is) (by k_is) (by k_is)⟩)
  (case h4=>exact ⟨by k_is,L2.fun_mk (by k_is) (by k_is) (by k_is)⟩)
  (case h5=>exact ⟨by k_is,L2.fun_mk (by k_is) (by k_is) (by k_is)⟩)
  (case h6=>exact ⟨by k_is,L2.fun_mk (by k_is) (by k_is) (by k_is)⟩)
  (case h7=>exact ⟨by k_is,L2.fun_mk (by k_is) (by k_is) (by k_is)⟩)
  (case h8=>exact ⟨by k_is,L2.fun_mk (by k_is) (by k_is) (by k_is)⟩)
  (case h9=>exact ⟨by k_is,L2.fun_mk (by k_is) (by k_is) (by k_is)⟩)
  (case h10=>exact ⟨by k_is,L2.fun_mk (by k_is) (by k_is) (by k_is)⟩)
  (case h11=>exact ⟨by k_is,L2.fun_mk (by k_is) (by k_is) (by k_is)⟩)
  (case h12=>exact ⟨by k_is,L2.fun_mk (by k_is) (by k_is) (by k_is)⟩)
  (case h13=>exact ⟨by k_is,L2.fun_mk (by k_is) (by k_is) (by k_is)⟩)
  (case h14=>exact ⟨by k_is,L2.fun_mk (by k_is) (by k_is) (by k_is)⟩)
  (case h15=>exact ⟨by k_is,L2.fun_mk (by k_is) (by k_is) (by k_is)⟩)
  (case h16=>exact ⟨by k_is,L2.fun_mk (by k_is) (by k_is) (by k_is)⟩)
  (case h17=>exact ⟨by k_is,L2.fun_mk (by k_is) (by k_is) (by k_is)⟩)
  (case h18=>exact ⟨by k_is,L2.fun_mk (by k_is) (by k_is) (by k_is)⟩)
  (case h19=>exact ⟨by k_is,L2.fun_mk (by k_is) (by k_is) (by k_is)⟩)
  (case h20=>exact ⟨by k_is,L2.fun_mk (by k_is) (by k_is) (by k_is)⟩)
  (case h21=>exact ⟨by k_is,L2.fun_mk (by k_is) (by k_is) (by k_is)⟩)
  (case h22=>exact ⟨by k_is,L2.fun_mk (by k_is) (by k_is) (by k_is)⟩)
  (case h23=>exact ⟨by k_is,L2.fun_mk (by k_is) (by k_is) (by k_is)⟩)
  (case h24=>exact ⟨by k_is,L2.fun_mk (by k_is) (by k_is) (by k_is)⟩)
  (case h25=>exact ⟨by k_is,L2.fun_mk (by k_is) (by k_is) (by k_is)⟩)
  (case h26=>exact ⟨by k_is,L2.fun_mk (by k_is) (by k_is) (by k_is)⟩)
  (case h27=>exact ⟨by k_is,L2.fun_mk (by k_is) (by k_is) (by k_is)⟩)
  (case h28=>exact ⟨by k_is,L2.fun_mk (by k_is) (by k_is) (by k_is)⟩)
  (case h29=>exact ⟨by k_is,L2.fun_mk (by k_is) (by k_is) (by k_is)⟩)
  (case h30=>exact ⟨by k_is,L2.fun_mk (by k_is) (by k_is) (by k_is)⟩)
  (case h31=>exact ⟨by k_is,L2.fun_mk (by k_is) (by k_is) (by k_is)⟩)
  (case h32=>exact ⟨by k_is,L2.fun_mk (by k_is) (by k_is) (by k_is)⟩)
  (case h33=>exact ⟨by k_is,L2.fun_mk (by k_is) (by k_is) (by k_is)⟩)
  (case h34=>exact ⟨by k_is,L2.fun_mk (by k_is) (by k_is) (by k_is)⟩)
  (case h35=>exact ⟨by k_is,L2.fun_mk (by k_is) (by k_is) (by k_is)⟩)
  (case h36=>exact ⟨by k_is,L2.fun_mk (by k_is) (by k_is) (by k_is)⟩)
  (case h37=>exact ⟨by k_is,L2.fun_mk (by k_is) (by k_is) (by k_is)⟩)
  (case h38=>exact ⟨by k_is,L2.fun_mk (by k_is) (by k_is) (by k_is)⟩)
  (case h39=>exact ⟨by k_is,L2.fun_mk (by k_is) (by k_is) (by k_is)⟩)
  (case h40=>exact ⟨by k_is,L2.fun_mk (by k_is) (by k_is) (by k_is)⟩)
  (case h41=>exact ⟨by k_is,L2.fun_mk (by k_is) (by k_is) (by k_is)⟩)
  (case ga_MOST_DEEDS=>k_is)
  (case ga_MOST_GIVEN=>k_is)
  (case ga_MOST_IN_FAMILY=>k_is)
  (case ga_MOST_STATES=>k_is)
  (case ga_ValueError=>k_is)
  (case ga_enumerate=>k_is)
  (case z_abs=>k_is); (case z_len=>k_is); (case z_max=>k_is); (case z_min=>k_is); (case z_divmod=>k_is); (case z_repr=>k_is); (case z_isinstance=>k_is); (case z_all=>k_is); (case z_range=>k_is); (case z_int=>k_is); (case z_bool=>k_is); (case z_str=>k_is); (case z_tuple=>k_is); (case z_list=>k_is); (case z_dict=>k_is)
