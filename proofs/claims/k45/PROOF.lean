import PyProof.Rows.All
import Wide.All
import OpenK.AllK
import Wide.FinOn
import Lean
import PyProof.EqAt
import PyProof.EqKinds
import PyProof.TupleCall
import PyProof.NeKinds
import PyProof.ReprRoads
import PyProof.ReprLen
import PyProof.Rows.RegStrFacts
import PyProof.Draws
import PyProof.EnumStmt
import PyProof.ZipIter
import PyProof.ListNew
import PyProof.TupleOfGen
import PyProof.ListRange
import PyProof.Rows.Range3
import PyProof.SumWalkG
import PyProof.Rows.RuleB_lshift
import PyProof.AutoSeq1
import PyProof.Cells
import PyProof.AutoListH
import PyProof.DictTable
import PyProof.RulesAs
import PyProof.NsDelKeeps
import KE.KDictList
import PyProof.DictCompW
import PyProof.DictItems
import PyProof.Rows.SetFrom
import PyProof.SetRoads
import PyProof.IsiH_list
import PyProof.AttrMiss
import KE.KDictOf
import KE.KSortTup
import PyProof.DictWalks
import PyProof.Rows.CallKw2
import PyProof.LongRange
import PyProof.StrWalks
import PySem.Challenge.RW_joinedasks_k45_whole_loads
set_option Elab.async false
set_option linter.all false
set_option maxRecDepth 100000
set_option maxHeartbeats 0
abbrev FG7:=PySem.W.Frag
abbrev VS7:=PySem.Value -> PySem.Shared -> Prop
namespace L2
open PySem PySem.Spec PyProof.Rows
abbrev Key:=Sum Int Str
def qU:Key -> Value -> Bool
 | .inl k,v=>Value.isInt k v
 | .inr x,v=>Value.isStrOf x v
def keyH (w:World):Key -> Int
 | .inl k=>hashInt k
 | .inr x=>hashStr w x
theorem zJ:∀ {k:Key} {v:Value},qU k v = true -> (∃ i t,k = Sum.inl i /\ v = Value.int i t) \/ (∃ x t,k = Sum.inr x /\ v = Value.str x t)
 | .inl i,v,h=>by
  obtain ⟨t,e⟩:=Value.isInt_shape (k:=i) (v:=v) h
  exact .inl ⟨i,t,rfl,e⟩
 | .inr x,v,h=>by
  obtain ⟨t,e⟩:=Value.isStrOf_shape (x:=x) (v:=v) h
  exact .inr ⟨x,t,rfl,e⟩
theorem jO (i:Int) (t:Tok):qU (.inl i) (.int i t) = true:=by simp [qU,Value.isInt]
theorem jP (x:Str) (t:Tok):qU (.inr x) (.str x t) = true:=by simp [qU,Value.isStrOf]
theorem WK (a b:Int):decide ((Sum.inl a:Key) = Sum.inl b) = (a == b):=by
 by_cases e:a = b
 ·subst e; simp
 ·have h:¬ (Sum.inl a:Key) = Sum.inl b:=fun q=>e (Sum.inl.inj q)
  rw [decide_eq_false h]
  exact (beq_eq_false_iff_ne.mpr e).symm
theorem WL (a b:Str):decide ((Sum.inr a:Key) = Sum.inr b) = decide (a = b):=by
 by_cases e:a = b
 ·subst e; simp
 ·have h:¬ (Sum.inr a:Key) = Sum.inr b:=fun q=>e (Sum.inr.inj q)
  rw [decide_eq_false h,decide_eq_false e]
theorem WM (a:Int) (b:Str):decide ((Sum.inl a:Key) = Sum.inr b) = false:=decide_eq_false (fun q=>nomatch q)
theorem WN (a:Str) (b:Int):decide ((Sum.inr a:Key) = Sum.inl b) = false:=decide_eq_false (fun q=>nomatch q)
def zM (prog:Program) (w:World):PySem.KeyKind prog w Key where
 is:=qU
 hash:=keyH w
 inj:=fun v a b ha hb=>by
  rcases zJ ha with ⟨i,t,rfl,rfl⟩ | ⟨x,t,rfl,rfl⟩
  ·rcases zJ hb with ⟨j,u,rfl,e⟩ | ⟨y,u,rfl,e⟩
   ·injection e with e1 _; rw [e1]
   ·exact nomatch e
  ·rcases zJ hb with ⟨j,u,rfl,e⟩ | ⟨y,u,rfl,e⟩
   ·exact nomatch e
   ·injection e with e1 _; rw [e1]
 byValue:=fun k v h=>by
  rcases zJ h with ⟨i,t,rfl,rfl⟩ | ⟨x,t,rfl,rfl⟩ <;> rfl
 pyHash:=fun hv h=>by
  rcases zJ hv with ⟨i,t,rfl,rfl⟩ | ⟨x,t,rfl,rfl⟩
  ·exact wpAny_pyHash_int h
  ·exact wpAny_pyHash_str h
 eqBool:=fun hu hv h=>by
  rcases zJ hu with ⟨i,t,rfl,rfl⟩ | ⟨x,t,rfl,rfl⟩
  ·rcases zJ hv with ⟨j,u,rfl,rfl⟩ | ⟨y,u,rfl,rfl⟩
   ·rw [WK] at h; exact wpAny_eqBool_int h
   ·rw [WM] at h; exact SeqAt.EqAt.int_str i t y u _ _ _ _ h
  ·rcases zJ hv with ⟨j,u,rfl,rfl⟩ | ⟨y,u,rfl,rfl⟩
   ·rw [WN] at h; exact SeqAt.EqAt.str_int x t j u _ _ _ _ h
   ·rw [WL] at h; exact wpAny_eqBool_str h
 «strs»:=fun k x t v h=>by
  rcases zJ h with ⟨i,u,rfl,e⟩ | ⟨y,u,rfl,e⟩
  ·exact nomatch e
  ·injection e with e1 _
   subst e1
   cases v <;> rfl
theorem sD (prog:Program) (w:World) (i:Int) (t:Tok):(zM prog w).is (.inl i) (.int i t) = true:=jO i t
theorem sE (prog:Program) (w:World) (x:Str) (t:Tok):(zM prog w).is (.inr x) (.str x t) = true:=jP x t
end L2
namespace L2
open PySem PySem.Spec PyProof.Rows
inductive V where
 | non | bl (b:Bool) | int (i:Int) | str (x:Str) | byt (b:Array UInt8) | flt (b:UInt64) | ref (a:Addr) | ty (n:String)
 deriving DecidableEq
def RelV:V -> Value -> Prop
 | .non,u=>u = Value.none
 | .bl b,u=>u = Value.bool b
 | .int i,u=>∃ t,u = Value.int i t
 | .str x,u=>∃ t,u = Value.str x t
 | .byt b,u=>∃ t,u = Value.bytes b t
 | .flt b,u=>∃ t,u = Value.float b t
 | .ref a,u=>u = Value.ref a
 | .ty n,u=>u = Value.type n
abbrev Vals:List V -> List Value -> Prop:=Paired RelV
theorem Vals.length {xs:List V} {us:List Value} (r:Vals xs us):xs.length = us.length:=Paired.length r
theorem Vals.get:∀ {xs:List V} {us:List Value} {i:Nat} {x:V},Vals xs us -> xs[i]? = some x -> ∃ u,us[i]? = some u /\ RelV x u
 | _,_,_,_,.nil,e=>by simp at e
 | _,_,0,_,.cons r _,e=>by simp at e; subst e; exact ⟨_,rfl,r⟩
 | _,_,i + 1,x,.cons _ t,e=>by
  obtain ⟨u,h1,h2⟩:=Vals.get (i:=i) (x:=x) t (by simpa using e)
  exact ⟨u,by simpa using h1,h2⟩
theorem Vals.set {x:V} {u:Value} (r:RelV x u):∀ {xs:List V} {us:List Value} (i:Nat),Vals xs us -> Vals (xs.set i x) (us.set i u)
 | _,_,_,.nil=>.nil
 | _,_,0,.cons _ t=>.cons r t
 | _,_,i + 1,.cons q t=>.cons q (Vals.set r i t)
theorem Vals.append:∀ {xs ys:List V} {us ws:List Value},Vals xs us -> Vals ys ws -> Vals (xs ++ ys) (us ++ ws)
 | _,_,_,_,.nil,s=>s
 | _,_,_,_,.cons r t,s=>.cons r (Vals.append t s)
theorem Vals.take:∀ {xs:List V} {us:List Value} (n:Nat),Vals xs us -> Vals (xs.take n) (us.take n)
 | _,_,0,_=>.nil
 | _,_,_ + 1,.nil=>.nil
 | _,_,n + 1,.cons r t=>.cons r (Vals.take n t)
theorem Vals.drop:∀ {xs:List V} {us:List Value} (n:Nat),Vals xs us -> Vals (xs.drop n) (us.drop n)
 | _,_,0,r=>r
 | _,_,_ + 1,.nil=>.nil
 | _,_,n + 1,.cons _ t=>Vals.drop n t
def RelO:Option V -> Option Value -> Prop
 | some v,some u=>RelV v u
 | none,none=>True
 | _,_=>False
def KV {κ:Type}:List (κ × V) -> List (κ × Value) -> Prop:=Paired fun (p:κ × V) (q:κ × Value)=>p.1 = q.1 /\ RelV p.2 q.2
def kV:Key -> V
 | .inl i=>.int i
 | .inr x=>.str x
inductive HO where
 /-- a list -/
 | lst (xs:List V)
 /-- a tuple (never changes) -/
 | tup (xs:List V)
 /-- a dict whose keys are ints and texts; one whose keys are tuples of ints and texts (the empty one is both) -/
 | dK (kvs:List (Key × V)) | dT (kvs:List (List Key × V))
 /-- a set of ints: its members,its size -/
 | set (S:Int -> Bool) (n:Nat)
 /-- an instance of the class at C,its dict at dx,its attributes -/
 | ins (C dx:Addr) (fs:List (Str × V))
 /-- the dict of the instance at x -/
 | own (x:Addr)
 /-- the dict of an exception -/
 | xd (fs:List (Str × V))
 /-- a bound method,f of x -/
 | met (f x:Addr)
 /-- a range object lo,lo + 1,.. below hi -/
 | rng (lo hi:Int)
 /-- a thing that is known to the object (the script; a dict while a loop walks it): read,never written while it is so -/
 | frz (o:Obj) (u:HO)
 /-- a code object's table -/
 | tbl (ps:Array Value)
 /-- any other thing,by what is true of its one object (a def of one's own: SetO a S n:=HO.ext fun h=>..) -/
 | ext (φ:Heap -> Prop)
abbrev Hp:=Addr -> Option HO
def upd (H:Hp) (a:Addr) (o:HO):Hp:=fun b=>if b = a then some o else H b
theorem zc {H:Hp} {a:Addr} {o:HO}:upd H a o a = some o:=by unfold upd; rw [if_pos rfl]
theorem zk {H:Hp} {a b:Addr} {o:HO} (h:b ≠ a):upd H a o b = H b:=by unfold upd; rw [if_neg h]
theorem XY {H:Hp} {a b:Addr} {o u:HO} (h:H a = some o) (h':H b = some u) (d:o ≠ u):a ≠ b:=by
 intro e; subst e; rw [h] at h'; exact d (Option.some.inj h')
theorem zm {H:Hp} {a b:Addr} {o:HO} (h:H a = some o) (h':H b = none):a ≠ b:=by
 intro e; subst e; rw [h] at h'; cases h'
section
variable (P:Program) (w:World)
def zK (H:Hp) (h:Heap) (a:Addr):HO -> Prop
 | .lst xs=>xs.length <= sizeLine /\ ∃ (its:List Value) (n:Nat),Vals xs its /\ h.get? a = some { cls:=.type "list",data:=.seq its.toArray n }
 | .tup xs=>xs.length <= sizeLine /\ ∃ its:List Value,Vals xs its /\ IsTup h a its.toArray
 | .dK kvs=>kvs.length <= sizeLine /\ (a == sysModules) = false /\ ∃ vs,KV kvs vs /\ h.DictOf (zM P w) a vs
 | .dT kvs=>kvs.length <= sizeLine /\ (a == sysModules) = false /\ ∃ xs:List (List Key × Addr × Value),
   Paired (fun (p:List Key × V) (q:List Key × Addr × Value)=>p.1 = q.1 /\ H q.2.1 = some (.tup (p.1.map kV)) /\ RelV p.2 q.2.2) kvs xs ∧
   ∃ o es ep,h.get? a = some o /\ o.ExactDict /\ o.data = .dict es ep /\ es.toList = xs.map (entryOfKey (tupleKind (zM P w))) /\ (xs.map (·.1)).Nodup
 | .set S n=>h.SetOf (intKind P w) a S n
 | .ins C dx fs=>H dx = some (.own a) /\ fs.length <= 1000 /\ dx ≠ a /\ h.get? a = some (PySem.W.instObj C dx) ∧
   ∃ mA,h.Ns1 dx mA /\ (∀ f,RelO (fs.lookup f) (mA f)) /\ PySem.Within mA (fs.map (·.1))
 | .own _=>∃ o,h.get? a = some o
 | .xd fs=>∃ mA,h.Ns1 a mA /\ ∀ f,RelO (fs.lookup f) (mA f)
 | .rng lo hi=>∃ t u v,h.get? a = some { cls:=.type "range",data:=.fields #[.int lo t,.int hi u,.int 1 v] }
 | .frz o u=>h.get? a = some o /\ zK H h a u
 | .tbl ps=>h.get? a = some { cls:=.none,data:=.fields ps }
 | .met f x=>h.get? a = some (PySem.W.methodObj (.ref f) (.ref x))
 | .ext φ=>φ h /\ (∃ o,h.get? a = some o) /\ ∀ h1 h2:Heap,φ h1 -> (∀ o,h1.get? a = some o -> h2.get? a = some o) -> φ h2
def HOk (H:Hp) (h:Heap):Prop:=∀ a o,H a = some o -> zK P w H h a o
end
section
variable {P:Program} {w:World} {H H':Hp} {h h':Heap} {a:Addr} {o:HO}
theorem zK.lt (x:zK P w H h a o):a < h.objs.size:=by
 cases o with
 | lst xs=>obtain ⟨_,_,_,_,e⟩:=x; exact Heap.lt_size e
 | tup xs=>obtain ⟨_,_,_,p⟩:=x; exact p.lt
 | dK kvs=>obtain ⟨_,_,_,_,o,_,_,e,_⟩:=x; exact Heap.lt_size e
 | dT kvs=>obtain ⟨_,_,_,_,o,_,_,e,_⟩:=x; exact Heap.lt_size e
 | set S n=>obtain ⟨o,_,_,_,e,_⟩:=x; exact Heap.lt_size e
 | ins C dx fs=>obtain ⟨_,_,_,e,_⟩:=x; exact Heap.lt_size e
 | own y=>obtain ⟨_,e⟩:=x; exact Heap.lt_size e
 | xd fs=>obtain ⟨_,⟨_,_,_,e,_⟩,_⟩:=x; exact Heap.lt_size e
 | rng lo hi=>obtain ⟨_,_,_,e⟩:=x; exact Heap.lt_size e
 | frz ob u=>obtain ⟨e,_⟩:=x; exact Heap.lt_size e
 | tbl ps=>exact Heap.lt_size (show h.get? a = some _ from x)
 | met f y=>exact Heap.lt_size (show h.get? a = some _ from x)
 | ext φ=>obtain ⟨_,⟨_,e⟩,_⟩:=x; exact Heap.lt_size e
theorem Paired.mapP {α β:Type} {F G:α -> β -> Prop}:∀ {l₁:List α} {l₂:List β},Paired F l₁ l₂ -> (∀ a b,F a b -> G a b) -> Paired G l₁ l₂
 | _,_,.nil,_=>.nil
 | _,_,.cons r t,f=>.cons (f _ _ r) (Paired.mapP t f)
theorem zK.stay (x:zK P w H h a o) (k:∀ b u,(b = a \/ H b = some (.own a)) -> h.get? b = some u -> h'.get? b = some u)
  (ho:∀ b,H b = some (.own a) -> H' b = some (.own a)) (ht:∀ b xs,H b = some (.tup xs) -> H' b = some (.tup xs)):zK P w H' h' a o:=by
 induction o with
 | lst xs=>obtain ⟨z,its,n,r,e⟩:=x; exact ⟨z,its,n,r,k _ _ (.inl rfl) e⟩
 | tup xs=>obtain ⟨z,its,r,ob,e,c⟩:=x; exact ⟨z,its,r,ob,k _ _ (.inl rfl) e,c⟩
 | dK kvs=>obtain ⟨z,y,vs,r,ob,es,ep,e,c⟩:=x; exact ⟨z,y,vs,r,ob,es,ep,k _ _ (.inl rfl) e,c⟩
 | dT kvs =>
  obtain ⟨z,y,xs,r,ob,es,ep,e,c⟩:=x
  exact ⟨z,y,xs,Paired.mapP r fun p q z=>⟨z.1,ht _ _ z.2.1,z.2.2⟩,ob,es,ep,k _ _ (.inl rfl) e,c⟩
 | set S n=>obtain ⟨ob,es,ep,t,e,c⟩:=x; exact ⟨ob,es,ep,t,k _ _ (.inl rfl) e,c⟩
 | ins C dx fs =>
  obtain ⟨d,z,ne,e,mA,⟨od,es,ep,e2,c⟩,r⟩:=x
  exact ⟨ho _ d,z,ne,k _ _ (.inl rfl) e,mA,⟨od,es,ep,k _ _ (.inr d) e2,c⟩,r⟩
 | own y=>obtain ⟨ob,e⟩:=x; exact ⟨ob,k _ _ (.inl rfl) e⟩
 | xd fs=>obtain ⟨mA,⟨od,es,ep,e,c⟩,r⟩:=x; exact ⟨mA,⟨od,es,ep,k _ _ (.inl rfl) e,c⟩,r⟩
 | rng lo hi=>obtain ⟨t,u,v,e⟩:=x; exact ⟨t,u,v,k _ _ (.inl rfl) e⟩
 | frz ob u ih=>obtain ⟨e,q⟩:=x; exact ⟨k _ _ (.inl rfl) e,ih q⟩
 | tbl ps =>
  have e:h.get? a = some { cls:=.none,data:=.fields ps }:=x
  show h'.get? a = some { cls:=.none,data:=.fields ps }
  exact k a _ (.inl rfl) e
 | met f y =>
  have e:h.get? a = some (PySem.W.methodObj (.ref f) (.ref y)):=x
  show h'.get? a = some (PySem.W.methodObj (.ref f) (.ref y))
  exact k a _ (.inl rfl) e
 | ext φ=>obtain ⟨p,⟨o,e⟩,st⟩:=x; exact ⟨st _ _ p fun o q=>k _ _ (.inl rfl) q,⟨o,k _ _ (.inl rfl) e⟩,st⟩
theorem HOk.lt (x:HOk P w H h) (e:H a = some o):a < h.objs.size:=(x a o e).lt
theorem HOk.fresh (x:HOk P w H h) (e:h.objs.size <= a):H a = none:=by
 cases q:H a with
 | none=>rfl
 | some u=>exact absurd (Nat.lt_of_lt_of_le (x.lt q) e) (Nat.lt_irrefl _)
theorem HOk.kept (x:HOk P w H h) (k:∀ b u,h.get? b = some u -> h'.get? b = some u):HOk P w H h':=fun a o e =>
 (x a o e).stay (fun b u _ q=>k b u q) (fun _ q=>q) fun _ _ q=>q
theorem HOk.laid (x:HOk P w H h) (k:∀ b u,h.get? b = some u -> h'.get? b = some u) (hp:h.objs.size <= a) (new:zK P w (upd H a o) h' a o):HOk P w (upd H a o) h':=fun b u e=>by
 have hn:=x.fresh hp
 by_cases hb:b = a
 ·subst hb; rw [zc] at e; cases e; exact new
 ·rw [zk hb] at e
  exact (x b u e).stay (fun c v _ q=>k c v q) (fun c q=>by rw [zk (zm q hn)]; exact q) fun c xs q=>by rw [zk (zm q hn)]; exact q
end
def Rd (H:Hp) (a:Addr) (u:HO):Prop:=H a = some u \/ ∃ o,H a = some (.frz o u)
theorem Rd.of {H:Hp} {a:Addr} {u:HO} (h:H a = some u):Rd H a u:=.inl h
theorem Rd.ok {P:Program} {w:World} {H:Hp} {h:Heap} {a:Addr} {u:HO} (r:Rd H a u) (x:HOk P w H h):zK P w H h a u:=by
 rcases r with r | ⟨o,r⟩
 ·exact x a u r
 ·obtain ⟨_,q⟩:=x a _ r
  exact q
def Mut:Option HO -> Prop
 | some (.lst _)=>True
 | some (.dK _)=>True
 | some (.dT _)=>True
 | some (.set _ _)=>True
 | some (.ins _ _ _)=>True
 | some (.ext _)=>True
 | _=>False
section
variable {P:Program} {w:World} {H:Hp} {h h':Heap} {x e:Addr} {o':HO}
theorem HOk.write (ok:HOk P w H h) (mu:Mut (H x)) (he:e = x \/ H e = some (.own x)) (k:∀ b u,b ≠ e -> h.get? b = some u -> h'.get? b = some u) (heo:∃ u,h'.get? e = some u)
  (new:zK P w (upd H x o') h' x o'):HOk P w (upd H x o') h':=fun b u q=>by
 have nown:∀ c y,H c = some (.own y) -> c ≠ x:=fun c y r z=>by subst z; rw [r] at mu; exact mu
 have ntup:∀ c xs,H c = some (.tup xs) -> c ≠ x:=fun c xs r z=>by subst z; rw [r] at mu; exact mu
 by_cases hb:b = x
 ·subst hb; rw [zc] at q; cases q; exact new
 ·rw [zk hb] at q
  by_cases hbe:b = e
  ·have q':H b = some (.own x):=by
    rcases he with z | z
    ·exact absurd (hbe.trans z) hb
    ·rw [hbe]; exact z
   rw [q] at q'; cases q'
   obtain ⟨v,hv⟩:=heo
   exact ⟨v,by rw [hbe]; exact hv⟩
  ·refine (ok b u q).stay (fun c v hc r=>k c v ?_ r) (fun c r=>by rw [zk (nown c b r)]; exact r) fun c xs r=>by rw [zk (ntup c xs r)]; exact r
   rcases hc with rfl | hc
   ·exact hbe
   ·rintro rfl
    rcases he with z | z
    ·exact nown c b hc z
    ·rw [hc] at z; cases z; exact hb rfl
end
structure Un (fs ex:List Addr) (H H':Hp) (h h':Heap):Prop where
 keep:∀ b o,h.get? b = some o -> H b = none -> b ∉ fs -> b ∉ ex -> h'.get? b = some o
 slot:∀ b o,h.get? b = some o -> H b = none -> b ∈ fs -> b ∉ ex -> ∃ sl,h'.get? b = some { o with slots:=sl }
 free:∀ b o,h.get? b = some o -> H b = none -> b ∉ ex -> H' b = none
 there:∀ b o,h.get? b = some o -> b ∉ ex -> ∃ o',h'.get? b = some o'
 tups:∀ b xs,H b = some (.tup xs) -> H' b = some (.tup xs)
 frzs:∀ b o u,H b = some (.frz o u) -> H' b = some (.frz o u)
 tbls:∀ b ps,H b = some (.tbl ps) -> ∃ more,H' b = some (.tbl (ps ++ more))
section
variable {fs fs' ex ex':List Addr} {H H1 H2:Hp} {h h1 h2 h':Heap} {a x e:Addr} {o:HO}
theorem Un.any (u:Un fs ex H H1 h h1) {b:Addr} {ob:Obj} (q:h.get? b = some ob) (n:H b = none) (hx:b ∉ ex):∃ sl,h1.get? b = some { ob with slots:=sl }:=by
 by_cases hb:b ∈ fs
 ·exact u.slot b ob q n hb hx
 ·exact ⟨ob.slots,u.keep b ob q n hb hx⟩
theorem Un.trans (a:Un fs ex H H1 h h1) (b:Un fs ex H1 H2 h1 h2):Un fs ex H H2 h h2 where
 keep:=fun c ob q n hc hx=>b.keep c ob (a.keep c ob q n hc hx) (a.free c ob q n hx) hc hx
 slot:=fun c ob q n hc hx=>by
  obtain ⟨sl,e1⟩:=a.slot c ob q n hc hx
  obtain ⟨sl',e2⟩:=b.slot c _ e1 (a.free c ob q n hx) hc hx
  exact ⟨sl',e2⟩
 free:=fun c ob q n hx=>by
  obtain ⟨o',e1⟩:=a.there c ob q hx
  exact b.free c o' e1 (a.free c ob q n hx) hx
 there:=fun c ob q hx=>by
  obtain ⟨o',e1⟩:=a.there c ob q hx
  exact b.there c o' e1 hx
 tups:=fun c xs q=>b.tups c xs (a.tups c xs q)
 frzs:=fun c ob xs q=>b.frzs c ob xs (a.frzs c ob xs q)
 tbls:=fun c ps q=>by
  obtain ⟨m1,e1⟩:=a.tbls c ps q
  obtain ⟨m2,e2⟩:=b.tbls c _ e1
  exact ⟨m1 ++ m2,by rw [e2,Array.append_assoc]⟩
theorem Un.kept (k:∀ b u,h.get? b = some u -> h'.get? b = some u):Un fs ex H H h h' :=
 ⟨fun b ob q _ _ _=>k b ob q,fun b ob q _ _ _=>⟨ob.slots,k b ob q⟩,fun _ _ _ n _=>n,fun b ob q _=>⟨ob,k b ob q⟩,fun _ _ q=>q,fun _ _ _ q=>q,fun _ ps q=>⟨#[],by rw [q]; simp⟩⟩
theorem Un.refl:Un fs ex H H h h:=Un.kept fun _ _ q=>q
theorem Un.laid (k:∀ b u,h.get? b = some u -> h'.get? b = some u) (hp:h.objs.size <= a) (hn:H a = none):Un fs ex H (upd H a o) h h' where
 keep:=fun b u q _ _ _=>k b u q
 slot:=fun b u q _ _ _=>⟨u.slots,k b u q⟩
 free:=fun b u q n _=>by rw [zk (Nat.ne_of_lt (Nat.lt_of_lt_of_le (Heap.lt_size q) hp))]; exact n
 there:=fun b u q _=>⟨u,k b u q⟩
 tups:=fun b xs q=>by rw [zk (zm q hn)]; exact q
 frzs:=fun b u xs q=>by rw [zk (zm q hn)]; exact q
 tbls:=fun b ps q=>⟨#[],by rw [zk (zm q hn),q]; simp⟩
theorem Un.write (mu:Mut (H x)) (he:e = x \/ H e = some (.own x)) (k:∀ b u,b ≠ e -> h.get? b = some u -> h'.get? b = some u) (heo:∃ u,h'.get? e = some u):Un fs ex H (upd H x o) h h':=by
 have hx:∀ b,H b = none -> b ≠ x:=fun b n z=>by subst z; rw [n] at mu; exact mu
 have hb:∀ b,H b = none -> b ≠ e:=fun b n z=>by
  subst z
  rcases he with r | r
  ·exact hx b n r
  ·rw [n] at r; cases r
 have hm:∀ b u,H b = some u -> ¬ Mut (some u) -> b ≠ x:=fun b u q nm z=>by subst z; rw [q] at mu; exact nm mu
 refine ⟨fun b u q n _ _=>k b u (hb b n) q,fun b u q n _ _=>⟨u.slots,k b u (hb b n) q⟩,fun b u q n _=>by rw [zk (hx b n)]; exact n,fun b u q _=>?_,
  fun b xs q=>by rw [zk (hm b _ q fun z=>z)]; exact q,fun b u xs q=>by rw [zk (hm b _ q fun z=>z)]; exact q,fun b ps q=>⟨#[],by rw [zk (hm b _ q fun z=>z),q]; simp⟩⟩
 by_cases hbe:b = e
 ·subst hbe; exact heo
 ·exact ⟨u,k b u hbe q⟩
theorem Un.mono (u:Un fs ex H H1 h h1) (hs:∀ b ∈ fs,b ∈ fs') (hx:∀ b ∈ ex,b ∈ ex'):Un fs' ex' H H1 h h1 :=
 ⟨fun b ob q n hb he=>u.keep b ob q n (fun z=>hb (hs b z)) fun z=>he (hx b z),fun _ _ q n _ he=>u.any q n fun z=>he (hx _ z),fun b ob q n he=>u.free b ob q n fun z=>he (hx b z),fun b ob q he=>u.there b ob q fun z=>he (hx b z),u.tups,u.frzs,u.tbls⟩
end
def trk (h:Heap) (H:Hp):List Addr:=(List.range h.objs.size).filter fun a=>(H a).isSome
def hidT (h:Heap) (H:Hp):Heap:=PySem.W.hideAll h (trk h H)
theorem jQ (h:Heap) (H:Hp):(hidT h H).objs.size = h.objs.size:=PySem.W.hideAll_size _ _
theorem YC {h:Heap} {H:Hp} {b:Addr} {o:Obj} (e:h.get? b = some o) (n:H b = none):(hidT h H).get? b = some o :=
 PySem.W.hideAll_get _ e fun hm=>by
  have q:(H b).isSome = true:=(List.mem_filter.mp hm).2
  rw [n] at q; simp at q
theorem XZ {h:Heap} {H:Hp} {b:Addr} {o:Obj} (e:(hidT h H).get? b = some o):h.get? b = some o /\ H b = none:=by
 have e':h.get? b = some o:=PySem.W.of_hideAll (trk h H) e
 refine ⟨e',?_⟩
 cases q:H b with
 | none=>rfl
 | some x =>
  have hm:b ∈ trk h H:=List.mem_filter.mpr ⟨List.mem_range.mpr (Heap.lt_size e'),by simp [q]⟩
  have z:(hidT h H).get? b = none:=PySem.W.hideAll_none (trk h H) hm
  rw [z] at e; cases e
def X1 (g h:Heap) (L:Addr):List (Addr × Obj):=(List.range h.objs.size).filterMap fun a=>if a = L \/ (g.get? a).isSome = true then none else (h.get? a).map fun o=>(a,o)
def rest (g h:Heap) (L d:Addr):List (Addr × Obj):=(X1 g h L).filter fun p=>decide (p.1 ≠ d)
end L2
namespace L2
open PySem PySem.Spec PyProof.Rows
structure Mod (K:FG7) (mg:Str -> Option Value) (base:Heap):Prop where
 kin:K.In base
 glob:base.Ns mainGlobals mg
 blt:∃ mb,base.Ns builtinsNs mb /\ ∀ x:Str,x ≠ "__name__" -> mb x = bootBuiltins x
 nolimit:base.NoLimit
structure Cx where
 prog:Program
 w:World
 K:FG7
 mg:Str -> Option Value
 base:Heap
 A:Around
 N:List Str
 s₀:Shared
 H₀:Hp
 env:Env
 outer:List Env
 stack:List Env
 ex:List Addr
 fn:Str -> Bool
 calm:Bool
 pn:List (Addr × Obj)
 xe:VS7
def frs (l:List Env):List Addr:=l.filterMap (·.frame)
abbrev Cx.fs (X:Cx):List Addr:=frs X.outer
def Vis (sc:Scope) (x:Str):Prop:=sc.names.lookup x = some .local \/ sc.names.lookup x = some .cell \/ sc.names.lookup x = some .free
def Loc (sc:Scope) (x:Str):Prop:=sc.names.lookup x = some .local \/ sc.names.lookup x = some .cell
def Look (env:Env) (h:Heap) (m:Str -> Option Value) (x:Str) (u:Value):Prop :=
 (env.kindOf x = some .local /\ m x = some u) \/ ((env.kindOf x = some .cell \/ env.kindOf x = some .free) /\ ∃ c,env.cells.lookup x = some c /\ h.IsCell c (some u))
structure Cx.Ok (X:Cx):Prop where
 mod:Mod X.K X.mg X.base
 kind:X.env.scope.kind = .function
 glob:X.env.globals = mainGlobals
 blt:X.env.builtins = builtinsNs
 above:X.s₀.heap.objs.size <= X.env.locals
 inj:∀ x y c,X.env.cells.lookup x = some c -> X.env.cells.lookup y = some c -> x = y
 has:∀ x,(X.env.kindOf x = some .cell \/ X.env.kindOf x = some .free) -> ∃ c,X.env.cells.lookup x = some c
 cab:∀ x c,X.fn x = true -> X.env.cells.lookup x = some c -> X.s₀.heap.objs.size <= c
 hd:X.calm = true -> X.A.handled = none
 frames:X.A.frames = some X.stack
 stk:X.stack = X.outer \/ (X.stack = X.env :: X.outer /\ X.env.frame = some X.env.locals)
 exf:∀ b ∈ X.ex,b ≠ X.env.locals /\ ∀ x c,X.env.cells.lookup x = some c -> c ≠ b
 bs:∀ b o,X.base.get? b = some o -> X.s₀.heap.get? b = some o /\ X.H₀ b = none
 bsz:X.base.objs.size <= X.s₀.heap.objs.size
 noex:∀ b o,X.base.get? b = some o -> b ∉ X.ex
 exfs:∀ b ∈ X.ex,b ∉ X.fs
 funs:X.s₀.heap.FunFrames X.base X.outer
 frf:∀ b ∈ X.fs,X.H₀ b = none
structure Inv (X:Cx) (pins:List (Addr × Obj)) (σ:List (Option V)) (H:Hp) (s:Shared):Prop where
 ok:X.Ok
 os:s.os = X.s₀.os
 bare:AllBare s.gens
 base:Un X.fs X.ex X.H₀ H X.s₀.heap s.heap
 loc:∃ m,s.heap.Ns X.env.locals m /\ ∀ (i:Nat) (x:Str) (v:V),X.N[i]? = some x -> σ[i]? = some (some v) -> Vis X.env.scope x -> ∃ u,RelV v u /\ Look X.env s.heap m x u
 cell:∀ x c,X.env.cells.lookup x = some c -> ∃ v,s.heap.IsCell c v
 free:H X.env.locals = none
 freeC:∀ x c,X.env.cells.lookup x = some c -> H c = none
 pin:∀ p ∈ X.pn ++ pins,s.heap.get? p.1 = some p.2 /\ H p.1 = none /\ p.1 ≠ X.env.locals /\ p.1 ∉ X.fs /\ ∀ v,p.2.data ≠ .cell v
 hok:HOk X.prog X.w H s.heap
 len:σ.length = X.N.length
section
variable {X:Cx} {pins:List (Addr × Obj)} {σ:List (Option V)} {H H':Hp} {s:Shared} {h':Heap}
theorem Cx.Ok.nofr (ok:X.Ok) {b:Addr} {o:Obj} (e:X.base.get? b = some o):b ∉ X.fs:=fun hb=>by
 have:=(ok.funs.mem hb).1
 rw [e] at this; cases this
theorem Inv.bs (I:Inv X pins σ H s):∀ b o,X.base.get? b = some o -> s.heap.get? b = some o /\ H b = none:=fun b o e =>
 ⟨I.base.keep b o (I.ok.bs b o e).1 (I.ok.bs b o e).2 (I.ok.nofr e) (I.ok.noex b o e),I.base.free b o (I.ok.bs b o e).1 (I.ok.bs b o e).2 (I.ok.noex b o e)⟩
theorem Inv.bk (I:Inv X pins σ H s):∀ b o,X.base.get? b = some o -> s.heap.get? b = some o:=fun b o e=>(I.bs b o e).1
theorem Inv.mod (I:Inv X pins σ H s):Mod X.K X.mg X.base:=I.ok.mod
theorem Inv.kIn (I:Inv X pins σ H s):X.K.In s.heap:=I.ok.mod.kin.keeps I.bk
theorem Inv.nolimit (I:Inv X pins σ H s):s.heap.NoLimit:=I.ok.mod.nolimit.keeps I.bk
theorem Inv.fr (I:Inv X pins σ H s):∃ m,Fr X.base X.env.locals s.heap m :=
 let ⟨m,hn,_⟩:=I.loc
 ⟨m,hn,I.bk,Nat.le_trans I.ok.bsz I.ok.above⟩
theorem Inv.lt (I:Inv X pins σ H s):X.env.locals < s.heap.objs.size:=let ⟨_,hn,_⟩:=I.loc; hn.lt
theorem Inv.sz (I:Inv X pins σ H s):X.s₀.heap.objs.size <= s.heap.objs.size:=Nat.le_trans I.ok.above (Nat.le_of_lt I.lt)
theorem Inv.nofs (I:Inv X pins σ H s) {a:Addr} (h:s.heap.objs.size <= a):a ∉ X.fs:=fun hb=>by
 obtain ⟨_,o,ho,_⟩:=I.ok.funs.mem hb
 exact absurd (Nat.lt_of_lt_of_le (Heap.lt_size ho) (Nat.le_trans I.sz h)) (Nat.lt_irrefl _)
theorem Inv.cne (I:Inv X pins σ H s):∀ x c,X.env.cells.lookup x = some c -> c ≠ X.env.locals:=fun x c e z=>by
 obtain ⟨v,o,ho,hd⟩:=I.cell x c e
 obtain ⟨m,⟨o',es,ep,ho',hd',_⟩,_⟩:=I.loc
 rw [z,ho'] at ho; cases ho; rw [hd'] at hd; cases hd
theorem Inv.funs (I:Inv X pins σ H s):s.heap.FunFrames X.base X.outer:=by
 have all:∀ (l:List Env),(∀ b ∈ frs l,b ∈ X.fs) -> X.s₀.heap.FunFrames X.base l -> s.heap.FunFrames X.base l:=by
  intro l
  induction l with
  | nil=>intro _ _; trivial
  | cons env r ih =>
   intro hs hl
   obtain ⟨hk,⟨L,o,hf,hn,ho,hd⟩,hr⟩:=hl
   have hL:L ∈ X.fs:=hs L (by unfold frs; rw [List.filterMap_cons,hf]; exact List.mem_cons_self)
   obtain ⟨sl,e⟩:=I.base.slot L o ho (I.ok.frf L hL) hL fun z=>I.ok.exfs L z hL
   exact ⟨hk,⟨L,_,hf,hn,e,hd⟩,ih (fun b hb=>hs b (by unfold frs; rw [List.filterMap_cons,hf]; exact List.mem_cons_of_mem _ hb)) hr⟩
 exact all X.outer (fun _ hb=>hb) I.ok.funs
theorem Inv.stack (I:Inv X pins σ H s):s.heap.FunFrames X.base X.stack:=by
 rcases I.ok.stk with e | ⟨e,hf⟩
 ·rw [e]; exact I.funs
 ·rw [e]
  obtain ⟨m,hn,_⟩:=I.loc
  refine .cons (by rw [I.ok.kind]; decide) hf hn ?_ I.funs
  exact Heap.get?_none_of_le (Nat.le_trans I.ok.bsz I.ok.above)
theorem Inv.stkSub (I:Inv X pins σ H s):∀ b ∈ frs X.stack,b ∈ X.env.locals :: X.fs:=fun b hb=>by
 rcases I.ok.stk with e | ⟨e,hf⟩
 ·rw [e] at hb; exact List.mem_cons_of_mem _ hb
 ·rw [e] at hb
  unfold frs at hb
  rw [List.filterMap_cons,hf] at hb
  exact hb
theorem Inv.stkFree (I:Inv X pins σ H s):∀ b ∈ frs X.stack,H b = none:=fun b hb=>by
 rcases List.mem_cons.mp (I.stkSub b hb) with e | hb
 ·rw [e]; exact I.free
 ·obtain ⟨_,o,ho,_⟩:=I.ok.funs.mem hb
  exact I.base.free b o ho (I.ok.frf b hb) fun z=>I.ok.exfs b z hb
theorem Inv.step {g':Array GenState} {t':Nat} {d':Drawn} {ch:List Addr} (I:Inv X pins σ H s)
  (hch:∀ b ∈ ch,(b ∈ X.ex \/ X.s₀.heap.objs.size <= b) /\ b ≠ X.env.locals /\ (∀ x c,X.env.cells.lookup x = some c -> c ≠ b) /\ ∀ p ∈ X.pn ++ pins,p.1 ≠ b)
  (keep:∀ b o,b ≠ X.env.locals -> b ∉ X.fs -> b ∉ ch -> s.heap.get? b = some o -> H b = none -> h'.get? b = some o)
  (slot:∀ b o,b ≠ X.env.locals -> b ∈ X.fs -> b ∉ ch -> s.heap.get? b = some o -> H b = none -> ∃ sl,h'.get? b = some { o with slots:=sl }) (free:∀ b o,b ∉ ch -> s.heap.get? b = some o -> H b = none -> H' b = none)
  (there:∀ b o,b ∉ ch -> s.heap.get? b = some o -> ∃ o',h'.get? b = some o')
  (tups:∀ b xs,H b = some (.tup xs) -> H' b = some (.tup xs)) (frzs:∀ b o u,H b = some (.frz o u) -> H' b = some (.frz o u)) (tbls:∀ b ps,H b = some (.tbl ps) -> ∃ more,H' b = some (.tbl (ps ++ more)))
  (ns:∀ m,s.heap.Ns X.env.locals m -> h'.Ns X.env.locals m) (hok:HOk X.prog X.w H' h') (hg:AllBare g') :
  Inv X pins σ H' { s with heap:=h',gens:=g',drawn:=d',toks:=t' }:=by
 have neL:∀ b o,X.s₀.heap.get? b = some o -> b ≠ X.env.locals:=fun b o e=>Nat.ne_of_lt (Nat.lt_of_lt_of_le (Heap.lt_size e) I.ok.above)
 have neC:∀ b o,X.s₀.heap.get? b = some o -> b ∉ X.ex -> b ∉ ch:=fun b o e hx hb=>by
  rcases (hch b hb).1 with z | z
  ·exact hx z
  ·exact absurd (Nat.lt_of_lt_of_le (Heap.lt_size e) z) (Nat.lt_irrefl _)
 have cellK:∀ x c,X.env.cells.lookup x = some c -> ∀ v,s.heap.IsCell c v -> h'.IsCell c v:=fun x c e v ⟨o,ho,hd⟩=>by
  have nch:c ∉ ch:=fun z=>(hch c z).2.2.1 x c e rfl
  by_cases hc:c ∈ X.fs
  ·obtain ⟨sl,q⟩:=slot c o (I.cne x c e) hc nch ho (I.freeC x c e)
   exact ⟨_,q,hd⟩
  ·exact ⟨o,keep c o (I.cne x c e) hc nch ho (I.freeC x c e),hd⟩
 refine ⟨I.ok,I.os,hg,⟨fun b o e n hb hx=>?_,fun b o e n hb hx=>?_,fun b o e n hx=>?_,fun b o e hx=>?_,fun b xs e=>tups b xs (I.base.tups b xs e),fun b o xs e=>frzs b o xs (I.base.frzs b o xs e),fun b ps e=>?_⟩,?_,fun x c e=>?_,?_,fun x c e=>?_,fun p hp=>?_,hok,I.len⟩
 ·exact keep b o (neL b o e) hb (neC b o e hx) (I.base.keep b o e n hb hx) (I.base.free b o e n hx)
 ·obtain ⟨sl,e1⟩:=I.base.slot b o e n hb hx
  obtain ⟨sl',e2⟩:=slot b _ (neL b o e) hb (neC b o e hx) e1 (I.base.free b o e n hx)
  exact ⟨sl',e2⟩
 ·obtain ⟨o',e1⟩:=I.base.there b o e hx
  exact free b o' (neC b o e hx) e1 (I.base.free b o e n hx)
 ·obtain ⟨o',e1⟩:=I.base.there b o e hx
  exact there b o' (neC b o e hx) e1
 ·obtain ⟨m1,e1⟩:=I.base.tbls b ps e
  obtain ⟨m2,e2⟩:=tbls b _ e1
  exact ⟨m1 ++ m2,by rw [e2,Array.append_assoc]⟩
 ·obtain ⟨m,hn,hl⟩:=I.loc
  refine ⟨m,ns m hn,fun i x v e1 e2 e3=>?_⟩
  obtain ⟨u,r,l⟩:=hl i x v e1 e2 e3
  refine ⟨u,r,?_⟩
  rcases l with l | ⟨k,c,e,z⟩
  ·exact .inl l
  ·exact .inr ⟨k,c,e,cellK x c e _ z⟩
 ·obtain ⟨v,z⟩:=I.cell x c e
  exact ⟨v,cellK x c e v z⟩
 ·obtain ⟨m,⟨o,_,_,ho,_⟩,_⟩:=I.loc
  exact free _ o (fun z=>(hch _ z).2.1 rfl) ho I.free
 ·obtain ⟨v,o,ho,hd⟩:=I.cell x c e
  exact free c o (fun z=>(hch c z).2.2.1 x c e rfl) ho (I.freeC x c e)
 ·obtain ⟨e,n,ne,nf,d⟩:=I.pin p hp
  have nch:p.1 ∉ ch:=fun z=>(hch p.1 z).2.2.2 p hp rfl
  exact ⟨keep p.1 p.2 ne nf nch e n,free p.1 p.2 nch e n,ne,nf,d⟩
theorem Inv.un {t':Nat} (I:Inv X pins σ H s) (u:Un X.fs [] H H' s.heap h') (hok:HOk X.prog X.w H' h'):Inv X pins σ H' { s with heap:=h',toks:=t' }:=by
 obtain ⟨m,⟨o,es,ep,ho,r⟩,_⟩:=id I.loc
 obtain ⟨sl,hL⟩:=u.any ho I.free (by simp)
 exact I.step (g':=s.gens) (d':=s.drawn) (ch:=[]) (fun _ z=>nomatch z) (fun b o _ hb _ e n=>u.keep b o e n hb (by simp)) (fun b o _ hb _ e n=>u.slot b o e n hb (by simp)) (fun b o _ e n=>u.free b o e n (by simp)) (fun b o _ e=>u.there b o e (by simp)) u.tups u.frzs u.tbls (fun m' hm=>by
  obtain ⟨o',es',ep',ho',r'⟩:=hm
  rw [ho] at ho'; cases ho'
  exact ⟨_,es',ep',hL,r'⟩) hok I.bare
theorem Inv.call {g':Array GenState} {t':Nat} {d':Drawn} {ch:List Addr} (I:Inv X pins σ H s) (u:Un (frs X.stack) ch H H' s.heap h') (hok:HOk X.prog X.w H' h') (hg:AllBare g')
  (hch:∀ b ∈ ch,(b ∈ X.ex \/ X.s₀.heap.objs.size <= b) /\ b ≠ X.env.locals /\ (∀ x c,X.env.cells.lookup x = some c -> c ≠ b) /\ ∀ p ∈ X.pn ++ pins,p.1 ≠ b) :
  Inv X pins σ H' { s with heap:=h',gens:=g',drawn:=d',toks:=t' }:=by
 obtain ⟨m,⟨o,es,ep,ho,r⟩,_⟩:=id I.loc
 obtain ⟨sl,hL⟩:=u.any ho I.free fun z=>(hch _ z).2.1 rfl
 exact I.step (ch:=ch) hch (fun b o hL hb hc e n=>u.keep b o e n (fun z=>(List.mem_cons.mp (I.stkSub b z)).elim hL hb) hc) (fun b o _ _ hc e n=>u.any e n hc) (fun b o hc e n=>u.free b o e n hc) (fun b o hc e=>u.there b o e hc) u.tups u.frzs u.tbls (fun m' hm=>by
  obtain ⟨o',es',ep',ho',r'⟩:=hm
  rw [ho] at ho'; cases ho'
  exact ⟨_,es',ep',hL,r'⟩) hok hg
theorem Inv.turned {t':Nat} {it:Addr} (I:Inv X pins σ H s) (k:∀ b o,b ≠ it -> s.heap.get? b = some o -> h'.get? b = some o) (hn:H it = none) (hL:it ≠ X.env.locals)
  (h1:it ∈ X.ex \/ X.s₀.heap.objs.size <= it) (h2:∀ x c,X.env.cells.lookup x = some c -> c ≠ it) (h3:∀ p ∈ X.pn ++ pins,p.1 ≠ it):Inv X pins σ H { s with heap:=h',toks:=t' }:=by
 have nit:∀ b u,H b = some u -> b ≠ it:=fun b u e z=>by rw [z,hn] at e; cases e
 refine I.step (g':=s.gens) (d':=s.drawn) (ch:=[it]) (fun b hb=>?_) (fun b o _ _ hc e _=>k b o (fun z=>hc (by simp [z])) e) (fun b o _ _ hc e _=>⟨o.slots,k b o (fun z=>hc (by simp [z])) e⟩) (fun _ _ _ _ n=>n)
  (fun b o hc e=>⟨o,k b o (fun z=>hc (by simp [z])) e⟩) (fun _ _ e=>e) (fun _ _ _ e=>e) (fun b ps e=>⟨#[],by rw [e]; simp⟩) (fun m hm=>?_) (fun b u e=>?_) I.bare
 ·have e:b = it:=by simpa using hb
  subst e
  exact ⟨h1,hL,h2,h3⟩
 ·obtain ⟨o,es,ep,ho,r⟩:=hm
  exact ⟨o,es,ep,k _ o (Ne.symm hL) ho,r⟩
 ·refine (I.hok b u e).stay (fun c v hc q=>k c v ?_ q) (fun _ q=>q) fun _ _ q=>q
  rcases hc with z | z
  ·rw [z]; exact nit b u e
  ·exact nit c _ z
theorem Inv.tok (I:Inv X pins σ H s) (t:Nat):Inv X pins σ H { s with toks:=t }:=I.un (h':=s.heap) (t':=t) Un.refl I.hok
theorem Inv.kept {t':Nat} (I:Inv X pins σ H s) (k:∀ b u,s.heap.get? b = some u -> h'.get? b = some u):Inv X pins σ H { s with heap:=h',toks:=t' }:=I.un (Un.kept k) (I.hok.kept k)
theorem Inv.laid {a:Addr} {o:HO} {t':Nat} (I:Inv X pins σ H s) (k:∀ b u,s.heap.get? b = some u -> h'.get? b = some u) (hp:s.heap.objs.size <= a) (new:zK X.prog X.w (upd H a o) h' a o) :
  Inv X pins σ (upd H a o) { s with heap:=h',toks:=t' }:=I.un (Un.laid k hp (I.hok.fresh hp)) (I.hok.laid k hp new)
theorem Inv.write {x e:Addr} {o:HO} {t':Nat} (I:Inv X pins σ H s) (mu:Mut (H x)) (he:e = x \/ H e = some (.own x)) (k:∀ b u,b ≠ e -> s.heap.get? b = some u -> h'.get? b = some u) (heo:∃ u,h'.get? e = some u)
  (new:zK X.prog X.w (upd H x o) h' x o):Inv X pins σ (upd H x o) { s with heap:=h',toks:=t' }:=I.un (Un.write mu he k heo) (I.hok.write mu he k heo new)
theorem Inv.pins_of {pins':List (Addr × Obj)} (I:Inv X pins σ H s) (h:∀ p ∈ pins',s.heap.get? p.1 = some p.2 /\ H p.1 = none /\ p.1 ≠ X.env.locals /\ p.1 ∉ X.fs /\ ∀ v,p.2.data ≠ .cell v):Inv X pins' σ H s :=
 ⟨I.ok,I.os,I.bare,I.base,I.loc,I.cell,I.free,I.freeC,fun p hp=>(List.mem_append.mp hp).elim (fun z=>I.pin p (List.mem_append_left _ z)) (h p),I.hok,I.len⟩
theorem rW {N:List Str} (hN:N.Nodup) {i j:Nat} {x:Str} (a:N[i]? = some x) (b:N[j]? = some x):i = j:=by
 obtain ⟨h1,e1⟩:=List.getElem?_eq_some_iff.mp a
 obtain ⟨h2,e2⟩:=List.getElem?_eq_some_iff.mp b
 exact (List.getElem_inj hN).mp (e1.trans e2.symm)
theorem jR {M:Model} {A:Around} {E:VS7} {i:Nat} {x:Str} {v:V} {u:Value} {Q:Unit -> Shared -> Prop} (I:Inv X pins σ H s) (hN:X.N.Nodup) (hi:X.N[i]? = some x) (hx:Loc X.env.scope x) (r:RelV v u)
  (h:∀ s',Inv X pins (σ.set i (some v)) H s' -> (∃ a,Heap.SameBut a s.heap s'.heap /\ (a = X.env.locals \/ X.env.cells.lookup x = some a)) -> Q () s') (hf:X.fn x = true \/ X.env.scope.names.lookup x = some .local :=by first | exact .inl rfl | exact .inr rfl | assumption):wpAny M A (storeName X.env x u) Q E s:=by
 obtain ⟨m,hn,hl⟩:=id I.loc
 have hcls:(X.env.scope.kind == .class || (X.env.scope.kind == .module && X.env.locals != X.env.globals)) = false:=by rw [I.ok.kind]; rfl
 have hiσ:i < σ.length:=by rw [I.len]; exact (List.getElem?_eq_some_iff.mp hi).1
 have cne:=I.cne
 have tracked:∀ {a:Addr} {h':Heap},(∃ o,s.heap.get? a = some o /\ H a = none) -> Heap.SameBut a s.heap h' -> HOk X.prog X.w H h':=fun {a h'} ha hs b ob e=>by
  obtain ⟨_,_,hfree⟩:=ha
  refine (I.hok b ob e).stay (fun c w' hc q=>(hs.2 c ?_).trans q) (fun _ q=>q) fun _ _ q=>q
  rintro rfl
  rcases hc with rfl | hc
  ·rw [hfree] at e; cases e
  ·rw [hfree] at hc; cases hc
 rcases hx with hk | hk
 ·refine wpAny_storeName_local hk hn (fun h' hn' hs=>?_) hcls
  obtain ⟨oL,_,_,hoL,_⟩:=id hn
  refine h _ ⟨I.ok,I.os,I.bare,⟨fun b o e n hb hx=>?_,fun b o e n hb hx=>?_,I.base.free,fun b o e hx=>?_,I.base.tups,I.base.frzs,I.base.tbls⟩,⟨_,hn',fun j y v' e1 e2 e3=>?_⟩,fun y c e=>?_,I.free,I.freeC,fun p hp=>?_,tracked ⟨oL,hoL,I.free⟩ hs,by simpa using I.len⟩ ⟨_,hs,.inl rfl⟩
  ·exact (hs.2 b (Nat.ne_of_lt (Nat.lt_of_lt_of_le (Heap.lt_size e) I.ok.above))).trans (I.base.keep b o e n hb hx)
  ·obtain ⟨sl,e1⟩:=I.base.slot b o e n hb hx
   exact ⟨sl,(hs.2 b (Nat.ne_of_lt (Nat.lt_of_lt_of_le (Heap.lt_size e) I.ok.above))).trans e1⟩
  ·obtain ⟨o',e1⟩:=I.base.there b o e hx
   exact ⟨o',(hs.2 b (Nat.ne_of_lt (Nat.lt_of_lt_of_le (Heap.lt_size e) I.ok.above))).trans e1⟩
  ·by_cases hj:j = i
   ·subst hj
    rw [hi] at e1; cases e1
    rw [List.getElem?_set_self hiσ] at e2
    cases e2
    exact ⟨u,r,.inl ⟨hk,by simp⟩⟩
   ·rw [List.getElem?_set_ne (Ne.symm hj)] at e2
    obtain ⟨u',r',q⟩:=hl j y v' e1 e2 e3
    refine ⟨u',r',?_⟩
    rcases q with ⟨k,e⟩ | ⟨k,c,e,z⟩
    ·refine .inl ⟨k,?_⟩
     have:y ≠ x:=fun e=>hj (rW hN e1 (e ▸ hi))
     simp [this,e]
    ·exact .inr ⟨k,c,e,z.sameBut hs (cne y c e)⟩
  ·obtain ⟨w',z⟩:=I.cell y c e
   exact ⟨w',z.sameBut hs (cne y c e)⟩
  ·obtain ⟨e,n,ne,nf,d⟩:=I.pin p hp
   exact ⟨(hs.2 p.1 ne).trans e,n,ne,nf,d⟩
 ·have hfn:X.fn x = true:=by
   rcases hf with z | z
   ·exact z
   ·rw [z] at hk; cases hk
  obtain ⟨c,hc⟩:=I.ok.has x (.inl hk)
  obtain ⟨w',z⟩:=I.cell x c hc
  refine wpAny_storeName_cell I.ok.kind hk hc z (fun h' hc' hs=>?_)
  obtain ⟨oc,hoc,hocd⟩:=id z
  refine h { s with heap:=h' } ⟨I.ok,I.os,I.bare,⟨fun b o e n hb hx=>?_,fun b o e n hb hx=>?_,I.base.free,fun b o e hx=>?_,I.base.tups,I.base.frzs,I.base.tbls⟩,⟨m,hn.sameBut hs (Ne.symm (cne x c hc)),fun j y v' e1 e2 e3=>?_⟩,fun y c' e=>?_,I.free,I.freeC,fun p hp=>?_,tracked ⟨oc,hoc,I.freeC x c hc⟩ hs,by simpa using I.len⟩ ⟨c,hs,.inr hc⟩
  ·exact (hs.2 b (Nat.ne_of_lt (Nat.lt_of_lt_of_le (Heap.lt_size e) (I.ok.cab x c hfn hc)))).trans (I.base.keep b o e n hb hx)
  ·obtain ⟨sl,e1⟩:=I.base.slot b o e n hb hx
   exact ⟨sl,(hs.2 b (Nat.ne_of_lt (Nat.lt_of_lt_of_le (Heap.lt_size e) (I.ok.cab x c hfn hc)))).trans e1⟩
  ·obtain ⟨o',e1⟩:=I.base.there b o e hx
   exact ⟨o',(hs.2 b (Nat.ne_of_lt (Nat.lt_of_lt_of_le (Heap.lt_size e) (I.ok.cab x c hfn hc)))).trans e1⟩
  ·by_cases hj:j = i
   ·subst hj
    rw [hi] at e1; cases e1
    rw [List.getElem?_set_self hiσ] at e2
    cases e2
    exact ⟨u,r,.inr ⟨.inl hk,c,hc,hc'⟩⟩
   ·rw [List.getElem?_set_ne (Ne.symm hj)] at e2
    obtain ⟨u',r',q⟩:=hl j y v' e1 e2 e3
    refine ⟨u',r',?_⟩
    rcases q with q | ⟨k,c',e,z'⟩
    ·exact .inl q
    ·refine .inr ⟨k,c',e,z'.sameBut hs ?_⟩
     rintro rfl
     exact hj (rW hN e1 (I.ok.inj _ _ _ e hc ▸ hi))
  ·by_cases hcc:c' = c
   ·subst hcc; exact ⟨_,hc'⟩
   ·obtain ⟨w2,z2⟩:=I.cell y c' e
    exact ⟨w2,z2.sameBut hs hcc⟩
  ·obtain ⟨e,n,ne,nf,d⟩:=I.pin p hp
   refine ⟨(hs.2 p.1 ?_).trans e,n,ne,nf,d⟩
   intro q
   rw [q,hoc] at e
   have q':oc = p.2:=Option.some.inj e
   exact d w' (by rw [← q']; exact hocd)
theorem wO {M:Model} {A:Around} {E:VS7} {i:Nat} {x:Str} {v:V} {u:Value} {Q:Unit -> Shared -> Prop} (I:Inv X pins σ H s) (hN:X.N.Nodup) (hi:X.N[i]? = some x) (hx:Loc X.env.scope x) (r:RelV v u)
  (h:∀ s',Inv X pins (σ.set i (some v)) H s' -> Q () s') (hf:X.fn x = true \/ X.env.scope.names.lookup x = some .local :=by first | exact .inl rfl | exact .inr rfl | assumption):wpAny M A (storeName X.env x u) Q E s :=
 jR I hN hi hx r (fun s' I' _=>h s' I') hf
theorem Inv.call' {s':Shared} {ch:List Addr} (I:Inv X pins σ H s) (ho:s'.os = s.os) (u:Un (frs X.stack) ch H H' s.heap s'.heap) (hok:HOk X.prog X.w H' s'.heap) (hg:AllBare s'.gens)
  (hch:∀ b ∈ ch,(b ∈ X.ex \/ X.s₀.heap.objs.size <= b) /\ b ≠ X.env.locals /\ (∀ x c,X.env.cells.lookup x = some c -> c ≠ b) /\ ∀ p ∈ X.pn ++ pins,p.1 ≠ b):Inv X pins σ H' s':=by
 obtain ⟨h',g',d',t',o'⟩:=s'
 have e:o' = s.os:=ho
 subst e
 exact I.call (g':=g') (t':=t') (d':=d') u hok hg hch
end
abbrev XK:=Value -> Option Addr -> Hp -> Prop
abbrev St:=List (Option V)
abbrev VK:=V -> Hp -> Prop
abbrev TE:=St -> Hp -> VK -> Prop
abbrev TT:=St -> Hp -> (Bool -> Hp -> Prop) -> Prop
abbrev TA:=St -> Hp -> (List V -> Hp -> Prop) -> Prop
structure Ends where
 nx:St -> Hp -> Prop
 rt:VK
 bk:St -> Hp -> Prop:=fun _ _=>False
 ct:St -> Hp -> Prop:=fun _ _=>False
abbrev TS:=Ends -> St -> Hp -> Prop
def EP (X:Cx) (pins:List (Addr × Obj)) (σ:St) (Q:VK) (u:Value) (s':Shared):Prop:=∃ v H',Inv X pins σ H' s' /\ RelV v u /\ Q v H'
def TP (X:Cx) (pins:List (Addr × Obj)) (σ:St) (Q:Bool -> Hp -> Prop) (b:Bool) (s':Shared):Prop:=∃ H',Inv X pins σ H' s' /\ Q b H'
def AP (X:Cx) (pins:List (Addr × Obj)) (σ:St) (Q:List V -> Hp -> Prop) (us:List Value) (s':Shared):Prop:=∃ vs H',Inv X pins σ H' s' /\ Vals vs us /\ Q vs H'
def SP (X:Cx) (pins:List (Addr × Obj)) (D:Ends) (f:Flow) (s':Shared):Prop :=
 match f with
 | .next=>∃ σ' H',Inv X pins σ' H' s' /\ D.nx σ' H'
 | .brk=>∃ σ' H',Inv X pins σ' H' s' /\ D.bk σ' H'
 | .cont=>∃ σ' H',Inv X pins σ' H' s' /\ D.ct σ' H'
 | .ret u=>∃ v σ' H',Inv X pins σ' H' s' /\ RelV v u /\ D.rt v H'
def PE (X:Cx) (e:Expr) (t:TE):Prop :=
 ∀ (pins:List (Addr × Obj)) (s:Shared) (σ:St) (H:Hp) (Q:VK),Inv X pins σ H s -> t σ H Q -> wpAny (model X.prog X.w) X.A (eval e X.env) (EP X pins σ Q) X.xe s
def PT (X:Cx) (e:Expr) (t:TT):Prop :=
 ∀ (pins:List (Addr × Obj)) (s:Shared) (σ:St) (H:Hp) (Q:Bool -> Hp -> Prop),Inv X pins σ H s -> t σ H Q -> wpAny (model X.prog X.w) X.A (isTrue e X.env (eval e X.env)) (TP X pins σ Q) X.xe s
def PW (X:Cx) (e:Expr) (t:TT):Prop :=
 ∀ (whole:Sem Value) (pins:List (Addr × Obj)) (s:Shared) (σ:St) (H:Hp) (Q:Bool -> Hp -> Prop),Inv X pins σ H s -> t σ H Q -> wpAny (model X.prog X.w) X.A (isTrue e X.env whole) (TP X pins σ Q) X.xe s
theorem PW.pt {X:Cx} {e:Expr} {t:TT} (h:PW X e t):PT X e t:=h _
def PA (X:Cx) (es:List Expr) (t:TA):Prop :=
 ∀ (pos:Pos) (pins:List (Addr × Obj)) (s:Shared) (σ:St) (H:Hp) (Q:List V -> Hp -> Prop),Inv X pins σ H s -> t σ H Q -> wpAny (model X.prog X.w) X.A (spliced (backTo pos (starEach es X.env))) (AP X pins σ Q) X.xe s
def PS (X:Cx) (st:Stmt) (t:TS):Prop :=
 ∀ (pins:List (Addr × Obj)) (s:Shared) (σ:St) (H:Hp) (D:Ends),Inv X pins σ H s -> t D σ H -> wpAny (model X.prog X.w) X.A (exec st X.env) (SP X pins D) X.xe s
def PSs (X:Cx) (st:List Stmt) (t:TS):Prop :=
 ∀ (pins:List (Addr × Obj)) (s:Shared) (σ:St) (H:Hp) (D:Ends),Inv X pins σ H s -> t D σ H -> wpAny (model X.prog X.w) X.A (execs st X.env) (SP X pins D) X.xe s
theorem thn {α:Type} {t:Sem α} {Q Q':α -> Shared -> Prop} {M:Model} {A:Around} {E:VS7} {s:Shared} (h:wpAny M A t Q E s) (hQ:∀ a s,Q a s -> Q' a s):wpAny M A t Q' E s:=wpAny_mono h hQ fun _ _ x=>x
end L2
namespace L2
open PySem PySem.Spec PyProof.Rows
section
variable {X:Cx}
def tVar (i:Nat):TE:=fun σ H Q=>∃ v,σ[i]? = some (some v) /\ Q v H
def tC (v:V):TE:=fun _ H Q=>Q v H
theorem WO {i:Nat} {x:Str} {pos:Pos} (hN:X.N[i]? = some x) (hv:Vis X.env.scope x) (hd:(x == ("__debug__":Str)) = false:=by decide) (hcd:(x == ("__classdict__":Str)) = false:=by decide):PE X (.Name x pos) (tVar i):=by
 intro pins s σ H Q I h
 obtain ⟨v,e,h⟩:=h
 obtain ⟨m,hn,hl⟩:=I.loc
 obtain ⟨u,r,l⟩:=hl i x v hN e hv
 have fin:EP X pins σ Q u s:=⟨v,H,I,r,h⟩
 rcases l with ⟨hk,hm⟩ | ⟨hk,c,hc,hcell⟩
 ·exact wpAny_Name (wpAny_loadName_local I.ok.kind hk hn hm fin) hd
 ·rcases hk with hk | hk
  ·exact wpAny_Name (wpAny_loadName_cell I.ok.kind hk hc hcell fin) hd
  ·exact wpAny_Name (wpAny_loadName_free I.ok.kind hk hc hcell fin hcd) hd
theorem zf {i j pos}:PE X (.Constant (.int i) j pos) (tC (.int i)):=fun _ _ _ H _ I h=>wpAny_Constant_int ⟨.int i,H,I.tok _,⟨_,rfl⟩,h⟩
theorem wJ {b j pos}:PE X (.Constant (.bool b) j pos) (tC (.bl b)):=fun _ _ _ H _ I h=>Constant_bool ⟨.bl b,H,I,rfl,h⟩
theorem rX {j pos}:PE X (.Constant .none j pos) (tC .non):=fun _ _ _ H _ I h=>Constant_none ⟨.non,H,I,rfl,h⟩
theorem WP {x j pos}:PE X (.Constant (.str x) j pos) (tC (.str x)):=fun _ _ _ H _ I h=>Calls.Constant_str ⟨.str x,H,I.tok _,⟨_,rfl⟩,h⟩
def Gl (X:Cx) (x:Str):Prop:=X.env.kindOf x = some .globalImplicit
theorem jS {E:VS7} {pins:List (Addr × Obj)} {s:Shared} {σ:St} {H:Hp} {x:Str} {u:Value} {pos:Pos} {Q:VS7} (I:Inv X pins σ H s) (hg:Gl X x) (hm:X.mg x = some u) (h:Q u s)
  (hd:(x == ("__debug__":Str)) = false:=by decide):wpAny (model X.prog X.w) X.A (eval (.Name x pos) X.env) Q E s :=
 Calls.Name_function_global I.ok.kind hg (Calls.loadGlobal_global (by rw [I.ok.glob]; exact I.mod.glob.keeps I.bk) hm h) hd
theorem vZ {E:VS7} {pins:List (Addr × Obj)} {s:Shared} {σ:St} {H:Hp} {x:Str} {u:Value} {pos:Pos} {Q:VS7} (I:Inv X pins σ H s) (hg:Gl X x) (hm:X.mg x = none) (hv:bootBuiltins x = some u) (h:Q u s)
  (hn:x ≠ "__name__":=by decide) (hd:(x == ("__debug__":Str)) = false:=by decide):wpAny (model X.prog X.w) X.A (eval (.Name x pos) X.env) Q E s:=by
 obtain ⟨mb,h1,h2⟩:=I.mod.blt
 exact Calls.Name_function_global I.ok.kind hg (Calls.loadGlobal_builtin (by rw [I.ok.glob]; exact I.mod.glob.keeps I.bk) hm (by rw [I.ok.blt]; exact h1.keeps I.bk) ((h2 x hn).trans hv) h) hd
theorem sF {x:Str} {v:V} {u:Value} {pos:Pos} (hg:Gl X x) (hm:X.mg x = some u) (r:RelV v u) (hd:(x == ("__debug__":Str)) = false:=by decide):PE X (.Name x pos) (tC v) :=
 fun _ _ _ H _ I h=>jS I hg hm ⟨v,H,I,r,h⟩ hd
theorem X2 {x:Str} {v:V} {u:Value} {pos:Pos} (hg:Gl X x) (hm:X.mg x = none) (hv:bootBuiltins x = some u) (r:RelV v u) (hn:x ≠ "__name__":=by decide) (hd:(x == ("__debug__":Str)) = false:=by decide):PE X (.Name x pos) (tC v) :=
 fun _ _ _ H _ I h=>vZ I hg hm hv ⟨v,H,I,r,h⟩ hn hd
variable {a b:Expr} {ta tb:TE} {pos:Pos}
def PC (X:Cx) (op:CmpOp) (a b:Expr) (t:TE):Prop :=
 ∀ (pins:List (Addr × Obj)) (s:Shared) (σ:St) (H:Hp) (Q:VK),Inv X pins σ H s -> t σ H Q →
  wpAny (model X.prog X.w) X.A (eval a X.env) (fun v s₁=>wpAny (model X.prog X.w) X.A (eval b X.env) (fun u s₂=>wpAny (model X.prog X.w) X.A (compareOp op v u) (EP X pins σ Q) X.xe s₂) X.xe s₁) X.xe s
theorem rY (b:Expr) {op:CmpOp} (h:op ≠ .In) (h2:op ≠ .NotIn):behindInMarks op b = false:=by
 have e1:(op == CmpOp.In) = false:=by cases op <;> first | rfl | exact absurd rfl h
 have e2:(op == CmpOp.NotIn) = false:=by cases op <;> first | rfl | exact absurd rfl h2
 cases b <;> simp [behindInMarks,e1,e2]
def tIsN (ta:TE):TE:=fun σ H Q=>ta σ H fun x H1=>Q (.bl (decide (x = .non))) H1
def VS (ta:TE):TE:=fun σ H Q=>ta σ H fun x H1=>Q (.bl (!decide (x = .non))) H1
theorem RelV.none_iff {x:V} {v:Value} (r:RelV x v):(v == Value.none) = decide (x = .non):=by
 cases x with
 | non=>cases r; rfl
 | bl _=>cases r; rfl
 | int _=>obtain ⟨t,rfl⟩:=r; rfl
 | str _=>obtain ⟨t,rfl⟩:=r; rfl
 | byt _=>obtain ⟨t,rfl⟩:=r; rfl
 | flt _=>obtain ⟨t,rfl⟩:=r; rfl
 | ref _=>cases r; rfl
 | ty _=>cases r; rfl
theorem uS {j pos'} (ha:PE X a ta):PC X .Is a (.Constant .none j pos') (tIsN ta):=by
 intro pins s σ H Q I h
 refine thn (ha pins s σ H _ I h) fun v s1 ⟨x,H1,I1,r1,q1⟩=>?_
 exact Constant_none (is_none_gen ⟨.bl _,H1,I1,by rw [r1.none_iff]; rfl,q1⟩)
theorem sG {j pos'} (ha:PE X a ta):PC X .IsNot a (.Constant .none j pos') (VS ta):=by
 intro pins s σ H Q I h
 refine thn (ha pins s σ H _ I h) fun v s1 ⟨x,H1,I1,r1,q1⟩=>?_
 exact Constant_none (isnot_none_gen ⟨.bl _,H1,I1,by rw [r1.none_iff]; rfl,q1⟩)
def tB (t:TE):TT:=fun σ H Q=>t σ H fun x H1=>∃ c,x = .bl c /\ Q c H1
theorem WQ {op:CmpOp} {t:TE} (h:PC X op a b t) (h1:behindInMarks op b = false:=by first | exact rY _ (by decide) (by decide) | rfl):PE X (.Compare a [op] [b] pos) t:=fun pins s σ H Q I hw=>wpAny_Compare1 (h pins s σ H Q I hw) h1
theorem wB {op:CmpOp} {t:TE} (h:PC X op a b t) (h1:behindInMarks op b = false:=by first | exact rY _ (by decide) (by decide) | rfl):PT X (.Compare a [op] [b] pos) (tB t):=by
 intro pins s σ H Q I hw
 refine wpAny_isTrue_Compare1 (thn (h pins s σ H _ I hw) fun v s1 h1=>thn h1 fun u s2 h2=>thn h2 fun c s3 ⟨x,H1,I1,r1,q1⟩=>?_) h1
 obtain ⟨d,rfl,q⟩:=q1
 cases r1
 exact wpAny_truthy_bool ⟨H1,I1,q⟩
theorem yJ {e:Expr} {t:TE} (h:PE X e t) (he:∀ whole,isTrue e X.env whole = (do let v ← whole; standAt e.pos; holding [v] (truthy v)):=by intro _; rfl):PT X e (tB t):=by
 intro pins s σ H Q I hw
 refine isTrue_plain (thn (h pins s σ H _ I hw) fun v s1 ⟨x,H1,I1,r1,q1⟩=>?_) (he _)
 obtain ⟨d,rfl,q⟩:=q1
 cases r1
 exact wpAny_truthy_bool ⟨H1,I1,q⟩
variable {tA tB':TT} {rest:List Expr}
def tAnd (t u:TT):TT:=fun σ H Q=>t σ H fun c H1=>if c = true then u σ H1 Q else Q false H1
def tOr (t u:TT):TT:=fun σ H Q=>t σ H fun c H1=>if c = true then Q true H1 else u σ H1 Q
def tNot (t:TT):TT:=fun σ H Q=>t σ H fun c H1=>Q (!c) H1
theorem uo (ha:PT X a tA):PW X (.BoolOp .And [a] pos) tA:=by
 intro wh pins s σ H Q I h
 refine isTrue_and (thn (ha pins s σ H Q I h) fun c s1 e=>?_)
 cases c with
 | true=>exact isTrue_and_nil e
 | false=>exact e
theorem wU (ha:PT X a tA):PW X (.BoolOp .Or [a] pos) tA:=by
 intro wh pins s σ H Q I h
 refine isTrue_or (thn (ha pins s σ H Q I h) fun c s1 e=>?_)
 cases c with
 | false=>exact isTrue_or_nil e
 | true=>exact e
theorem uT (ha:PT X a tA) (hb:PW X (.BoolOp .And (b :: rest) pos) tB'):PW X (.BoolOp .And (a :: b :: rest) pos) (tAnd tA tB'):=by
 intro wh pins s σ H Q I h
 refine isTrue_and (thn (ha pins s σ H _ I h) fun c s1 ⟨H1,I1,q1⟩=>?_)
 cases c with
 | true=>exact hb wh pins s1 σ H1 Q I1 q1
 | false=>exact ⟨H1,I1,q1⟩
theorem sH (ha:PT X a tA) (hb:PW X (.BoolOp .Or (b :: rest) pos) tB'):PW X (.BoolOp .Or (a :: b :: rest) pos) (tOr tA tB'):=by
 intro wh pins s σ H Q I h
 refine isTrue_or (thn (ha pins s σ H _ I h) fun c s1 ⟨H1,I1,q1⟩=>?_)
 cases c with
 | true=>exact ⟨H1,I1,q1⟩
 | false=>exact hb wh pins s1 σ H1 Q I1 q1
theorem y7 (ha:PT X a tA):PT X (.UnaryOp .Not a pos) (tNot tA):=by
 intro pins s σ H Q I h
 exact isTrue_not (ha pins s σ H (fun c H1=>Q (!c) H1) I h)
def VT (ta tb:TE):TE:=fun σ H Q=>ta σ H fun x H1=>∃ c,x = .bl c /\ if c = true then tb σ H1 Q else Q (.bl false) H1
def tOrV (ta tb:TE):TE:=fun σ H Q=>ta σ H fun x H1=>∃ c,x = .bl c /\ if c = true then Q (.bl true) H1 else tb σ H1 Q
def VU (ta:TE):TE:=fun σ H Q=>ta σ H fun x H1=>∃ c,x = .bl c /\ Q (.bl (!c)) H1
theorem wV {op} {t:TE} (h:PE X a t):PE X (.BoolOp op [a] pos) t:=fun pins s σ H Q I hw=>BoolOp_one (h pins s σ H Q I hw)
theorem v3 (ha:PE X a ta) (hb:PE X (.BoolOp .And (b :: rest) pos) tb):PE X (.BoolOp .And (a :: b :: rest) pos) (VT ta tb):=by
 intro pins s σ H Q I h
 refine BoolOp_and (thn (ha pins s σ H _ I h) fun v s1 ⟨x,H1,I1,r1,q1⟩=>?_)
 obtain ⟨c,rfl,q1⟩:=q1
 cases r1
 refine wpAny_truthy_bool ?_
 cases c with
 | true=>exact hb pins s1 σ H1 Q I1 q1
 | false=>exact ⟨.bl false,H1,I1,rfl,q1⟩
theorem WR (ha:PE X a ta) (hb:PE X (.BoolOp .Or (b :: rest) pos) tb):PE X (.BoolOp .Or (a :: b :: rest) pos) (tOrV ta tb):=by
 intro pins s σ H Q I h
 refine BoolOp_or (thn (ha pins s σ H _ I h) fun v s1 ⟨x,H1,I1,r1,q1⟩=>?_)
 obtain ⟨c,rfl,q1⟩:=q1
 cases r1
 refine wpAny_truthy_bool ?_
 cases c with
 | false=>exact hb pins s1 σ H1 Q I1 q1
 | true=>exact ⟨.bl true,H1,I1,rfl,q1⟩
theorem WT (ha:PE X a ta):PE X (.UnaryOp .Not a pos) (VU ta):=by
 intro pins s σ H Q I h
 refine UnaryOp_ (thn (ha pins s σ H _ I h) fun v s1 ⟨x,H1,I1,r1,q1⟩=>?_)
 obtain ⟨c,rfl,q1⟩:=q1
 cases r1
 exact not_of (wpAny_truthy_bool ⟨.bl (!c),H1,I1,rfl,q1⟩)
def tIf (t:TT) (ta tb:TE):TE:=fun σ H Q=>t σ H fun c H1=>if c = true then ta σ H1 Q else tb σ H1 Q
theorem uq {c:Expr} (hc:PT X c tA) (ha:PE X a ta) (hb:PE X b tb):PE X (.IfExp c a b pos) (tIf tA ta tb):=by
 intro pins s σ H Q I h
 refine wpAny_IfExp (thn (hc pins s σ H _ I h) fun d s1 ⟨H1,I1,q1⟩=>?_)
 cases d with
 | true=>exact ha pins s1 σ H1 Q I1 q1
 | false=>exact hb pins s1 σ H1 Q I1 q1
end
end L2
namespace L2
open PySem PySem.Spec PyProof.Rows
def SqL (K:FG7) (H:Hp) (a:Addr) (xs:List V):Prop :=
 Rd H a (.lst xs) ∨
  ∃ (o:Obj) (its:Array Value) (n:Nat),K.lookup a = some o /\ o.cls = .type "list" /\ o.dict = none /\ o.data = .seq its n /\ its.size <= sizeLine /\ Vals xs its.toList
def SqT (K:FG7) (H:Hp) (a:Addr) (xs:List V):Prop :=
 Rd H a (.tup xs) ∨
  ∃ (o:Obj) (its:Array Value) (n:Nat),K.lookup a = some o /\ o.cls = .type "tuple" /\ o.data = .seq its n /\ its.size <= sizeLine /\ Vals xs its.toList
def absV:Value -> Option V
 | .none=>some .non
 | .bool b=>some (.bl b)
 | .int i _=>some (.int i)
 | .str x _=>some (.str x)
 | .bytes b _=>some (.byt b)
 | .float b _=>some (.flt b)
 | .ref a=>some (.ref a)
 | .type n=>some (.ty n)
 | _=>none
theorem RelV.abs {x:V} {u:Value} (r:RelV x u):absV u = some x:=by
 cases x with
 | non=>cases r; rfl
 | bl _=>cases r; rfl
 | int _=>obtain ⟨t,rfl⟩:=r; rfl
 | str _=>obtain ⟨t,rfl⟩:=r; rfl
 | byt _=>obtain ⟨t,rfl⟩:=r; rfl
 | flt _=>obtain ⟨t,rfl⟩:=r; rfl
 | ref _=>cases r; rfl
 | ty _=>cases r; rfl
theorem RelV.inj {x y:V} {u:Value} (r:RelV x u) (q:RelV y u):x = y:=Option.some.inj (r.abs.symm.trans q.abs)
theorem Vals.inj:∀ {xs ys:List V} {us:List Value},Vals xs us -> Vals ys us -> xs = ys
 | _,_,_,.nil,.nil=>rfl
 | _,_,_,.cons r t,.cons r' t'=>by rw [r.inj r',Vals.inj t t']
section
variable {X:Cx} {pins:List (Addr × Obj)} {σ:St} {H:Hp} {s:Shared} {a:Addr} {xs ys:List V}
theorem SqL.of {K:FG7} (h:H a = some (.lst xs)):SqL K H a xs:=.inl (.inl h)
theorem SqT.of {K:FG7} (h:H a = some (.tup xs)):SqT K H a xs:=.inl (.inl h)
theorem Inv.list (I:Inv X pins σ H s) (h:SqL X.K H a xs):∃ its:List Value,Vals xs its /\ PlainL s.heap a its.toArray /\ xs.length <= sizeLine:=by
 rcases h with h | ⟨o,its,n,hk,hc,hd,hs,hz,r⟩
 ·obtain ⟨z,its,n,r,e⟩:=h.ok I.hok
  exact ⟨its,r,⟨_,n,e,rfl,rfl,rfl⟩,z⟩
 ·refine ⟨its.toList,r,⟨o,n,I.kIn a o hk,hc,hd,by simpa using hs⟩,?_⟩
  have e:=r.length
  simp only [Array.length_toList] at e
  omega
theorem Inv.tuple (I:Inv X pins σ H s) (h:SqT X.K H a xs):∃ its:List Value,Vals xs its /\ IsTup s.heap a its.toArray /\ xs.length <= sizeLine:=by
 rcases h with h | ⟨o,its,n,hk,hc,hs,hz,r⟩
 ·obtain ⟨z,its,r,p⟩:=h.ok I.hok
  exact ⟨its,r,p,z⟩
 ·refine ⟨its.toList,r,⟨o,I.kIn a o hk,hc,n,by simpa using hs⟩,?_⟩
  have e:=r.length
  simp only [Array.length_toList] at e
  omega
theorem Inv.list_inj (I:Inv X pins σ H s) (h:SqL X.K H a xs) (h':SqL X.K H a ys):xs = ys:=by
 obtain ⟨its,r,⟨o,n,e,_,_,d⟩,_⟩:=I.list h
 obtain ⟨its',r',⟨o',n',e',_,_,d'⟩,_⟩:=I.list h'
 rw [e] at e'; cases e'
 rw [d] at d'
 injection d' with d1 _
 have:its = its':=by simpa using congrArg Array.toList d1
 subst this
 exact r.inj r'
theorem Inv.tuple_inj (I:Inv X pins σ H s) (h:SqT X.K H a xs) (h':SqT X.K H a ys):xs = ys:=by
 obtain ⟨its,r,⟨o,e,_,n,d⟩,_⟩:=I.tuple h
 obtain ⟨its',r',⟨o',e',_,n',d'⟩,_⟩:=I.tuple h'
 rw [e] at e'; cases e'
 rw [d] at d'
 injection d' with d1 _
 have:its = its':=by simpa using congrArg Array.toList d1
 subst this
 exact r.inj r'
end
abbrev Cx.wish (X:Cx) (E:VS7):Cx:={ X with xe:=E }
abbrev Cx.nox (X:Cx):Cx:=X.wish fun _ _=>False
theorem Cx.Ok.wish {X:Cx} (ok:X.Ok) (E:VS7):(X.wish E).Ok :=
 ⟨ok.mod,ok.kind,ok.glob,ok.blt,ok.above,ok.inj,ok.has,ok.cab,ok.hd,ok.frames,ok.stk,ok.exf,ok.bs,ok.bsz,ok.noex,ok.exfs,ok.funs,ok.frf⟩
theorem Cx.Ok.unwish {X:Cx} {E:VS7} (ok:(X.wish E).Ok):X.Ok :=
 ⟨ok.mod,ok.kind,ok.glob,ok.blt,ok.above,ok.inj,ok.has,ok.cab,ok.hd,ok.frames,ok.stk,ok.exf,ok.bs,ok.bsz,ok.noex,ok.exfs,ok.funs,ok.frf⟩
section
variable {X:Cx} {pins:List (Addr × Obj)} {σ:St} {H:Hp} {s:Shared} {E:VS7}
theorem Inv.wish (I:Inv X pins σ H s) (E:VS7):Inv (X.wish E) pins σ H s:=⟨I.ok.wish E,I.os,I.bare,I.base,I.loc,I.cell,I.free,I.freeC,I.pin,I.hok,I.len⟩
theorem Inv.unwish (I:Inv (X.wish E) pins σ H s):Inv X pins σ H s:=⟨I.ok.unwish,I.os,I.bare,I.base,I.loc,I.cell,I.free,I.freeC,I.pin,I.hok,I.len⟩
theorem SP.unwish {D:Ends} {f:Flow} {s':Shared} (h:SP (X.wish E) pins D f s'):SP X pins D f s':=by
 cases f with
 | next=>obtain ⟨σ',H',I,q⟩:=h; exact ⟨σ',H',I.unwish,q⟩
 | brk=>obtain ⟨σ',H',I,q⟩:=h; exact ⟨σ',H',I.unwish,q⟩
 | cont=>obtain ⟨σ',H',I,q⟩:=h; exact ⟨σ',H',I.unwish,q⟩
 | ret u=>obtain ⟨v,σ',H',I,r,q⟩:=h; exact ⟨v,σ',H',I.unwish,r,q⟩
theorem PE.nox {e:Expr} {t:TE} (h:PE X.nox e t):PE X e t:=fun pins s σ H Q I hw =>
 wpAny_mono (h pins s σ H Q (I.wish _) hw) (fun _ _ ⟨v,H',I',r,q⟩=>⟨v,H',I'.unwish,r,q⟩) fun _ _ z=>False.elim z
theorem PT.nox {e:Expr} {t:TT} (h:PT X.nox e t):PT X e t:=fun pins s σ H Q I hw =>
 wpAny_mono (h pins s σ H Q (I.wish _) hw) (fun _ _ ⟨H',I',q⟩=>⟨H',I'.unwish,q⟩) fun _ _ z=>False.elim z
theorem PSs.nox {st:List Stmt} {t:TS} (h:PSs X.nox st t):PSs X st t:=fun pins s σ H D I hw =>
 wpAny_mono (h pins s σ H D (I.wish _) hw) (fun _ _ q=>q.unwish) fun _ _ z=>False.elim z
end
section
variable {X:Cx} {st:Stmt} {rest:List Stmt} {t u:TS} {e:Expr} {te:TE} {pos:Pos}
def WU:TS:=fun D σ H=>D.nx σ H
def tSeq (t u:TS):TS:=fun D σ H=>t { D with nx:=u D } σ H
theorem zC:PSs X [] WU:=fun _ _ σ H _ I h=>wpAny_execs_nil ⟨σ,H,I,h⟩
theorem zd (h1:PS X st t) (h2:PSs X rest u):PSs X (st :: rest) (tSeq t u):=by
 intro pins s σ H D I h
 refine wpAny_execs_cons (thn (h1 pins s σ H { D with nx:=u D } I h) fun f s1 q=>?_)
 cases f with
 | next =>
  obtain ⟨σ',H',I',q⟩:=q
  exact h2 pins s1 σ' H' D I' q
 | ret v=>exact q
 | brk=>exact q
 | cont=>exact q
theorem zh (h1:PS X st t):PSs X [st] t:=by
 intro pins s σ H D I h
 refine wpAny_execs_cons (thn (h1 pins s σ H D I h) fun f s1 q=>?_)
 cases f with
 | next=>exact wpAny_execs_nil q
 | ret v=>exact q
 | brk=>exact q
 | cont=>exact q
theorem Inv.quiet {pins:List (Addr × Obj)} {σ:St} {H:Hp} {s:Shared} (I:Inv X pins σ H s):interactive X.env = false:=by simp [interactive,I.ok.kind]
def VV (te:TE):TS:=fun D σ H=>te σ H fun _ H1=>D.nx σ H1
theorem yt (he:PE X e te) (hs:swapsWith e none pos.line X.env = pure false:=by rfl):PS X (.Expr e pos) (VV te):=by
 intro pins s σ H D I h
 exact wpAny_Expr_any (thn (he pins s σ H _ I h) fun v s1 ⟨x,H1,I1,r1,q1⟩=>⟨σ,H1,I1,q1⟩) I.quiet hs
def tRet (te:TE):TS:=fun D σ H=>te σ H D.rt
theorem zt (he:PE X e te):PS X (.Return (some e) pos) (tRet te):=by
 intro pins s σ H D I h
 exact wpAny_Return_some (thn (he pins s σ H _ I h) fun v s1 ⟨x,H1,I1,r1,q1⟩=>⟨x,σ,H1,I1,r1,q1⟩)
def tIfS (c:TT) (t u:TS):TS:=fun D σ H=>c σ H fun b H1=>if b = true then t D σ H1 else u D σ H1
theorem yB {c:Expr} {a b:List Stmt} {tc:TT} (hc:PT X c tc) (ha:PSs X a t) (hb:PSs X b u):PS X (.If c a b pos) (tIfS tc t u):=by
 intro pins s σ H D I h
 refine wpAny_If (thn (hc pins s σ H _ I h) fun d s1 ⟨H1,I1,q1⟩=>?_)
 cases d with
 | true=>exact ha pins s1 σ H1 D I1 q1
 | false=>exact hb pins s1 σ H1 D I1 q1
def WV:TS:=fun _ _ _=>False
theorem wP:PS X st WV:=fun _ _ _ _ _ _ h=>h.elim
end
abbrev TG:=V -> St -> Hp -> (St -> Hp -> Prop) -> Prop
abbrev TGs:=List V -> St -> Hp -> (St -> Hp -> Prop) -> Prop
def PG (X:Cx) (target:Expr) (t:TG):Prop :=
 ∀ (pins:List (Addr × Obj)) (s:Shared) (σ:St) (H:Hp) (v:V) (u:Value) (Q:St -> Hp -> Prop),Inv X pins σ H s -> RelV v u -> t v σ H Q →
  wpAny (model X.prog X.w) X.A (assign target X.env u) (fun _ s'=>∃ σ' H',Inv X pins σ' H' s' /\ Q σ' H') X.xe s
def PGs (X:Cx) (ts:List Expr) (t:TGs):Prop :=
 ∀ (pins:List (Addr × Obj)) (s:Shared) (σ:St) (H:Hp) (vs:List V) (us:List Value) (Q:St -> Hp -> Prop),Inv X pins σ H s -> Vals vs us -> t vs σ H Q →
  wpAny (model X.prog X.w) X.A (assignInOrder ((assignEach ts X.env).map (·.2)) us) (fun _ s'=>∃ σ' H',Inv X pins σ' H' s' /\ Q σ' H') X.xe s
abbrev TSet:=V -> V -> V -> Hp -> (Hp -> Prop) -> Prop
def PSet (X:Cx) (t:TSet):Prop :=
 ∀ (pins:List (Addr × Obj)) (s:Shared) (σ:St) (H:Hp) (o i v:V) (ov iv u:Value) (Q:Hp -> Prop),Inv X pins σ H s -> RelV o ov -> RelV i iv -> RelV v u -> t o i v H Q →
  wpAny (model X.prog X.w) X.A (setItem ov iv u) (fun _ s'=>∃ H',Inv X pins σ H' s' /\ Q H') X.xe s
section
variable {X:Cx} {pos:Pos}
def wK (i:Nat):TG:=fun v σ H Q=>Q (σ.set i (some v)) H
theorem zj {i:Nat} {x:Str} (hN:X.N.Nodup) (hi:X.N[i]? = some x) (hx:Loc X.env.scope x) (hf:X.fn x = true \/ X.env.scope.names.lookup x = some .local :=by first | exact .inl rfl | exact .inr rfl | assumption):PG X (.Name x pos) (wK i):=by
 intro pins s σ H v u Q I r h
 exact wpAny_assign_Name (wO I hN hi hx r (fun s' I'=>⟨_,H,I',h⟩) hf)
def gNil:TGs:=fun vs σ H Q=>vs = [] /\ Q σ H
def VW (t:TG) (u:TGs):TGs:=fun vs σ H Q=>∃ v r,vs = v :: r /\ t v σ H fun σ' H'=>u r σ' H' Q
theorem z6:PGs X [] gNil:=by
 intro pins s σ H vs us Q I r h
 obtain ⟨e,h⟩:=h
 subst e
 cases r
 exact assignInOrder_nil ⟨σ,H,I,h⟩
theorem zo {e:Expr} {es:List Expr} {t:TG} {u:TGs} (h1:PG X e t) (h2:PGs X es u)
  (hs:(assignEach (e :: es) X.env).map (·.2) = assign e X.env :: (assignEach es X.env).map (·.2):=by rfl):PGs X (e :: es) (VW t u):=by
 intro pins s σ H vs us Q I r h
 obtain ⟨v,vr,e1,h⟩:=h
 subst e1
 cases r with
 | cons r rr =>
  rw [hs]
  refine assignInOrder_cons (thn (h1 pins s σ H _ _ _ I r h) fun _ s1 ⟨σ1,H1,I1,q1⟩=>?_)
  exact h2 pins s1 σ1 H1 _ _ Q I1 rr q1
def gTup (K:FG7) (n:Nat) (t:TGs):TG:=fun v σ H Q=>∃ a xs,v = .ref a /\ SqT K H a xs /\ xs.length = n /\ t xs σ H Q
theorem xD {es:List Expr} {k:Nat} {t:TGs} {n:Nat} (hc:X.calm = true) (h:PGs X es t)
  (hn:(assignEach es X.env).length = n:=by rfl) (hst:(assignEach es X.env).findIdx? (·.1) = none:=by rfl):PG X (.Tuple es k pos) (gTup X.K n t):=by
 intro pins s σ H v u Q I r hw
 obtain ⟨a,xs,e1,hq,hl,hw⟩:=hw
 subst e1
 cases r
 obtain ⟨its,rv,ht,hz⟩:=I.tuple hq
 refine assign_Tuple_tuple (I.ok.hd hc) ht (by simp [hn,← hl,rv.length]) hst fun h' hx=>?_
 have I1:Inv X pins σ H { s with heap:=h' }:=I.kept (t':=s.toks) fun b o e=>hx b o (Nat.ne_of_lt (Heap.lt_size e)) e
 exact h pins _ σ H xs _ Q I1 (by simpa using rv) hw
def gSub (to ti:TE) (t:TSet):TG:=fun v σ H Q=>to σ H fun o H1=>ti σ H1 fun i H2=>t o i v H2 fun H3=>Q σ H3
theorem Xu {o i:Expr} {to ti:TE} {t:TSet} (ho:PE X o to) (hi:PE X i ti) (hs:PSet X t)
  (ha:∀ v,assign (.Subscript o i pos) X.env v = (do
   let ov ← holding [v] (eval o X.env)
   let iv ← holding [v,ov] (eval i X.env)
   standAt pos
   holding [v,ov,iv] (setItem ov iv v)
   release [v,ov,iv] []):=by intro _; rfl):PG X (.Subscript o i pos) (gSub to ti t):=by
 intro pins s σ H v u Q I r h
 rw [ha]
 refine wpAny_bind (wpAny_holding (thn (ho pins s σ H _ I h) fun ov s1 ⟨x,H1,I1,r1,q1⟩=>?_))
 refine wpAny_bind (wpAny_holding (thn (hi pins s1 σ H1 _ I1 q1) fun iv s2 ⟨y,H2,I2,r2,q2⟩=>?_))
 refine wpAny_bind (wpAny_standAt (wpAny_bind (wpAny_holding (thn (hs pins s2 σ H2 x y v ov iv u _ I2 r1 r2 r q2) fun _ s3 ⟨H3,I3,q3⟩=>?_))))
 exact wpAny_release ⟨σ,H3,I3,q3⟩
def tAsg (te:TE) (g:TG):TS:=fun D σ H=>te σ H fun x H1=>g x σ H1 D.nx
theorem wW {tg e:Expr} {te:TE} {g:TG} (he:PE X e te) (hg:PG X tg g) (hs:swapsWithSole [tg] e pos.line X.env = pure false:=by rfl) (hw:swappedStores [tg] e X.env = pure none:=by rfl)
  (h1:(assignEach [tg] X.env).map (·.2) = [assign tg X.env]:=by rfl):PS X (.Assign [tg] e pos) (tAsg te g):=by
 intro pins s σ H D I h
 refine wpAny_Assign_stores (thn (he pins s σ H _ I h) fun v s1 ⟨x,H1,I1,r1,q1⟩=>?_) hs hw
 rw [h1]
 exact thn (hg pins s1 σ H1 x v _ I1 r1 q1) fun _ s2 q=>q
theorem zu {i:Nat} {x:Str} {e:Expr} {te:TE} {pos':Pos} (hN:X.N.Nodup) (hi:X.N[i]? = some x) (hx:Loc X.env.scope x) (he:PE X e te) (hs:swapsWith e (some (.Name x pos')) pos.line X.env = pure false:=by rfl) (hf:X.fn x = true \/ X.env.scope.names.lookup x = some .local :=by first | exact .inl rfl | exact .inr rfl | assumption) :
  PS X (.Assign [.Name x pos'] e pos) (tAsg te (wK i)):=by
 intro pins s σ H D I h
 refine wpAny_Assign_Name (thn (he pins s σ H _ I h) fun v s1 ⟨y,H1,I1,r1,q1⟩=>?_) hs
 exact wO I1 hN hi hx r1 (fun s2 I2=>⟨_,H1,I2,q1⟩) hf
def tPar (i j:Nat) (ta:TA):TS:=fun D σ H=>ta σ H fun vs H1=>∃ v w,vs = [v,w] /\ D.nx ((σ.set i (some v)).set j (some w)) H1
theorem WW {i j:Nat} {x y:Str} {a b:Expr} {ta:TA} {px py pt:Pos} {kt k2 pt2} (hc:X.calm = true) (hN:X.N.Nodup) (hi:X.N[i]? = some x) (hj:X.N[j]? = some y) (hij:i ≠ j)
  (hx:X.env.scope.names.lookup x = some .local) (hy:X.env.scope.names.lookup y = some .local) (ha:PA X [a,b] ta)
  (hw:swappedStores [.Tuple [.Name x px,.Name y py] kt pt] (.Tuple [a,b] k2 pt2) X.env = pure (some [x,y]))
  (hs:swapsWithSole [.Tuple [.Name x px,.Name y py] kt pt] (.Tuple [a,b] k2 pt2) pos.line X.env = pure false:=by rfl) :
  PS X (.Assign [.Tuple [.Name x px,.Name y py] kt pt] (.Tuple [a,b] k2 pt2) pos) (tPar i j ta):=by
 intro pins s σ H D I h
 rw [exec_Assign_arm]
 refine wpAny_bind (wpAny_standAt ?_)
 rw [hs]
 refine wpAny_bind (wpAny_pure ?_)
 rw [if_neg (by decide)]
 refine wpAny_bind (Tuple_ (thn (ha _ pins s σ H _ I h) fun us s1 ⟨vs,H1,I1,r1,q1⟩=>?_))
 obtain ⟨v,w,e1,q1⟩:=q1
 subst e1
 obtain ⟨u1,u2,rfl,rv,rw'⟩:∃ u1 u2,us = [u1,u2] /\ RelV v u1 /\ RelV w u2:=by
  cases r1 with
  | cons p q =>
   cases q with
   | cons p' q' =>
    cases q'
    exact ⟨_,_,rfl,p,p'⟩
 refine wpAny_newObj_type ?_ (by show 2 <= sizeLine; decide)
 have I2:Inv X pins σ H1 { s1 with heap:=s1.heap.push { cls:=.type "tuple",data:=.seq [u1,u2].toArray } }:=I1.kept (t':=s1.toks) fun b o e=>Heap.get?_push_of_some _ e
 rw [hw]
 refine wpAny_bind (wpAny_pure ?_)
 show wpAny (model X.prog X.w) X.A (do rule "assign.swapped-stores"; let items ← unpackItems (.ref s1.heap.objs.size) 2 none; assignInOrder [fun v=>bindName X.env y v,fun v=>bindName X.env x v] items.reverse; pure Flow.next) _ _ _
 refine wpAny_bind (wpAny_rule (wpAny_bind (unpackItems_tuple (items:=#[u1,u2]) (I.ok.hd hc) (IsTup.new s1.heap _) fun h' hx'=>?_)))
 have I3:=I2.kept (h':=h') (t':=s1.toks) fun b o e=>hx' b o (Nat.ne_of_lt (Heap.lt_size e)) e
 show wpAny _ _ (assignInOrder [fun v=>bindName X.env y v,fun v=>bindName X.env x v] [u2,u1] >>= fun _=>pure Flow.next) _ _ _
 refine wpAny_bind (assignInOrder_cons (wpAny_bindName (wO I3 hN hj (.inl hy) rw' (fun s2 I4=>?_) (.inr hy))))
 refine assignInOrder_cons (wpAny_bindName (wO I4 hN hi (.inl hx) rv (fun s3 I5=>assignInOrder_nil (wpAny_pure ?_)) (.inr hx)))
 rw [List.set_comm _ _ (Ne.symm hij)] at I5
 exact ⟨_,H1,I5,q1⟩
end
structure It where
 go:Nat -> Hp -> Prop
 yld:Nat -> Hp -> V -> Hp -> Prop
 stop:Nat -> Hp -> Prop
def FpOk (X:Cx) (pins:List (Addr × Obj)) (H:Hp) (b:Addr):Prop :=
 H b = none /\ b ≠ X.env.locals /\ b ∉ X.fs /\ (b ∈ X.ex \/ X.s₀.heap.objs.size <= b) /\ (∀ x c,X.env.cells.lookup x = some c -> c ≠ b) /\ ∀ p ∈ X.pn ++ pins,p.1 ≠ b
theorem Inv.fpOk {X:Cx} {pins:List (Addr × Obj)} {σ:St} {H H':Hp} {s:Shared} {b:Addr} (I:Inv X pins σ H s) (hb:s.heap.objs.size <= b) (hn:H' b = none):FpOk X pins H' b:=by
 refine ⟨hn,Nat.ne_of_gt (Nat.lt_of_lt_of_le I.lt hb),I.nofs hb,.inr (Nat.le_trans I.sz hb),fun x c e z=>?_,fun p hp z=>?_⟩
 ·obtain ⟨v,q⟩:=I.cell x c e
  exact absurd (Nat.lt_of_lt_of_le q.lt (by rw [z]; exact hb)) (Nat.lt_irrefl _)
 ·exact absurd (Nat.lt_of_lt_of_le (Heap.lt_size (I.pin p hp).1) (by rw [z]; exact hb)) (Nat.lt_irrefl _)
structure Turn (P:Program) (w:World) (K:FG7) (tg:Expr) (J:It) (fp:List Addr) (it:Addr) (tn:Nat -> Heap -> Prop):Prop where
 mem:it ∈ fp
 obj:∀ i h,tn i h -> ∀ b ∈ fp,∃ o,h.get? b = some o /\ ∀ v,o.data ≠ .cell v
 keep:∀ i h h',tn i h -> (∀ b ∈ fp,∀ o,h.get? b = some o -> h'.get? b = some o) -> tn i h'
 item:∀ (X:Cx),X.prog = P -> X.w = w -> X.K = K -> X.calm = true -> ∀ (i:Nat) (pins:List (Addr × Obj)) (s:Shared) (σ:St) (H:Hp) (E:VS7),Inv X pins σ H s -> (∀ b ∈ fp,FpOk X pins H b) -> tn i s.heap -> J.go i H →
  wpAny (model P w) X.A (pyNext (.ref it)) (fun r s1=>∃ u,r = some u ∧
   wpAny (model P w) X.A (letOwnedTupleGo tg (.ref it) u) (fun _ s2=>∃ x H',Inv X pins σ H' s2 /\ RelV x u /\ J.yld i H x H' /\ tn (i + 1) s2.heap /\ ∀ b ∈ fp,H' b = none) E s1) E s
 done:∀ (X:Cx),X.prog = P -> X.w = w -> X.K = K -> X.calm = true -> ∀ (i:Nat) (pins:List (Addr × Obj)) (s:Shared) (σ:St) (H:Hp) (E:VS7),Inv X pins σ H s -> (∀ b ∈ fp,FpOk X pins H b) -> tn i s.heap -> J.stop i H →
  wpAny (model P w) X.A (pyNext (.ref it)) (fun r s1=>r = none /\ Inv X pins σ H s1) E s
 self:∀ (A:Around) (i:Nat) (s:Shared) (Q:VS7) (E:VS7),tn i s.heap -> Q (.ref it) s -> wpAny (model P w) A (pyIter (.ref it)) Q E s
abbrev TI:=St -> Hp -> (It -> Hp -> Prop) -> Prop
def PIE (X:Cx) (pins:List (Addr × Obj)) (σ:St) (tg:Expr) (R:It -> Hp -> Prop) (itv:Value) (s2:Shared):Prop :=
 ∃ (it:Addr) (fp:List Addr) (tn:Nat -> Heap -> Prop) (J:It) (H':Hp),itv = .ref it /\ Inv X pins σ H' s2 /\ Turn X.prog X.w X.K tg J fp it tn /\ tn 0 s2.heap /\ (∀ b ∈ fp,FpOk X pins H' b) /\ R J H'
def PI (X:Cx) (tg iter:Expr) (wi:TI):Prop :=
 ∀ (pins:List (Addr × Obj)) (s:Shared) (σ:St) (H:Hp) (R:It -> Hp -> Prop),Inv X pins σ H s -> wi σ H R →
  wpAny (model X.prog X.w) X.A (eval iter X.env) (fun v s1=>wpAny (model X.prog X.w) X.A (pyIter v) (PIE X pins σ tg R) X.xe s1) X.xe s
theorem jT {M:Model} {A:Around} {E:VS7} {s:Shared} {tg:Expr} {it:Addr} {u:Value} {o:Obj} {n:String} {vs:Array Value} {Q:Unit -> Shared -> Prop} (ho:s.heap.get? it = some o) (hc:o.cls = .type n) (hd:o.data = .fields vs)
    (hn:["enumerate","zip","dict_itemiterator","dict_reverseitemiterator","odict_iterator","itertools.zip_longest","itertools.pairwise"].contains n = false) (hQ:Q () s):wpAny M A (letOwnedTupleGo tg (.ref it) u) Q E s:=by
  unfold letOwnedTupleGo
  cases tg <;> first
    | exact wpAny_pure hQ
    | (cases u <;> first
        | exact wpAny_pure hQ
        | (refine wpAny_bind (wpAny_load ho ?_)
           rw [hc,hd]
           show wpAny M A (if (["enumerate","zip","dict_itemiterator","dict_reverseitemiterator","odict_iterator","itertools.zip_longest","itertools.pairwise"].contains n && vs[0]? == some (rawInt _)) = true then _ else _) Q E s
           rw [if_neg (by intro h; rw [hn,Bool.false_and] at h; cases h)]
           exact wpAny_pure hQ))
def Itl (K:FG7) (a:Addr):It :=
 ⟨fun i H=>∃ xs x,SqL K H a xs /\ xs[i]? = some x,fun i H x H'=>H' = H /\ ∀ xs,SqL K H a xs -> xs[i]? = some x,fun i H=>∃ xs,SqL K H a xs /\ xs.length <= i⟩
def Itt (K:FG7) (a:Addr):It :=
 ⟨fun i H=>∃ xs x,SqT K H a xs /\ xs[i]? = some x,fun i H x H'=>H' = H /\ ∀ xs,SqT K H a xs -> xs[i]? = some x,fun i H=>∃ xs,SqT K H a xs /\ xs.length <= i⟩
def Itr (lo:Int) (n:Nat):It:=⟨fun i _=>i < n,fun i H x H'=>H' = H /\ x = .int (lo + i),fun i _=>n <= i⟩
theorem jU {P:Program} {w:World} {K:FG7} {tg:Expr} (a it:Addr):Turn P w K tg (Itl K a) [it] it (fun i h=>h.IsListIter it a i) where
 mem:=by simp
 obj:=fun i h st b hb=>by
  have e:b = it:=by simpa using hb
  subst e
  obtain ⟨o,e,c,d⟩:=st
  exact ⟨o,e,fun v z=>by rw [d] at z; cases z⟩
 keep:=fun i h h' st k=>st.at fun o e=>k it (by simp) o e
 item:=by
  intro X hP hw hK hc i pins s σ H E I hf st hg
  subst hP hw hK
  obtain ⟨xs,x,hq,hx⟩:=hg
  obtain ⟨its,rv,p,hz⟩:=I.list hq
  obtain ⟨u,hu,ru⟩:=rv.get hx
  obtain ⟨f0,f1,f2,f3,f4,f5⟩:=hf it (by simp)
  refine wpAny_pyNext_list_item st p.isList (x:=u) (by simpa using hu) fun h' st' sb=>?_
  have I1:Inv X pins σ H { s with heap:=h' }:=I.turned (t':=s.toks) (fun b o hb e=>(sb.2 b hb).trans e) f0 f1 f3 f4 f5
  obtain ⟨o,e,c,d⟩:=id st'
  exact ⟨u,rfl,jT (s:={ s with heap:=h' }) e c d (by decide) ⟨x,H,I1,ru,⟨rfl,fun ys hy=>by rw [I.list_inj hy hq]; exact hx⟩,st',fun b hb=>(hf b hb).1⟩⟩
 done:=by
  intro X hP hw hK hc i pins s σ H E I hf st hg
  subst hP hw hK
  obtain ⟨xs,hq,hx⟩:=hg
  obtain ⟨its,rv,p,hz⟩:=I.list hq
  obtain ⟨f0,f1,f2,f3,f4,f5⟩:=hf it (by simp)
  have hl:=rv.length
  exact wpAny_pyNext_list_end (I.ok.hd hc) st p.isList (by simp; omega) fun h' eb=>⟨rfl,I.turned (t':=s.toks) (fun b o hb e=>eb b o hb e) f0 f1 f3 f4 f5⟩
 self:=fun _ _ _ _ _ st h=>wpAny_pyIter_listiter st h
theorem qV {P:Program} {w:World} {K:FG7} {tg:Expr} (a it:Addr):Turn P w K tg (Itt K a) [it] it (fun i h=>h.IsTupleIter it a i) where
 mem:=by simp
 obj:=fun i h st b hb=>by
  have e:b = it:=by simpa using hb
  subst e
  obtain ⟨o,e,c,d⟩:=st
  exact ⟨o,e,fun v z=>by rw [d] at z; cases z⟩
 keep:=fun i h h' st k=>st.at fun o e=>k it (by simp) o e
 item:=by
  intro X hP hw hK hc i pins s σ H E I hf st hg
  subst hP hw hK
  obtain ⟨xs,x,hq,hx⟩:=hg
  obtain ⟨its,rv,p,hz⟩:=I.tuple hq
  obtain ⟨u,hu,ru⟩:=rv.get hx
  obtain ⟨f0,f1,f2,f3,f4,f5⟩:=hf it (by simp)
  refine wpAny_pyNext_tuple_item st (show s.heap.IsTuple a its.toArray from p) (x:=u) (by simpa using hu) fun h' st' sb=>?_
  have I1:Inv X pins σ H { s with heap:=h' }:=I.turned (t':=s.toks) (fun b o hb e=>(sb.2 b hb).trans e) f0 f1 f3 f4 f5
  obtain ⟨o,e,c,d⟩:=id st'
  exact ⟨u,rfl,jT (s:={ s with heap:=h' }) e c d (by decide) ⟨x,H,I1,ru,⟨rfl,fun ys hy=>by rw [I.tuple_inj hy hq]; exact hx⟩,st',fun b hb=>(hf b hb).1⟩⟩
 done:=by
  intro X hP hw hK hc i pins s σ H E I hf st hg
  subst hP hw hK
  obtain ⟨xs,hq,hx⟩:=hg
  obtain ⟨its,rv,p,hz⟩:=I.tuple hq
  obtain ⟨f0,f1,f2,f3,f4,f5⟩:=hf it (by simp)
  have hl:=rv.length
  exact wpAny_pyNext_tuple_end (I.ok.hd hc) st (show s.heap.IsTuple a its.toArray from p) (by simp; omega) fun h' eb=>⟨rfl,I.turned (t':=s.toks) (fun b o hb e=>eb b o hb e) f0 f1 f3 f4 f5⟩
 self:=fun _ _ _ _ _ st h=>wpAny_pyIter_tupleiter st h
theorem qW {P:Program} {w:World} {K:FG7} {tg:Expr} (it:Addr) (lo:Int) (n:Nat):Turn P w K tg (Itr lo n) [it] it (fun i h=>IsRangeIter h it (lo + (i:Nat) * 1) ((n:Int) - (i:Nat)) 1) where
 mem:=by simp
 obj:=fun i h st b hb=>by
  have e:b = it:=by simpa using hb
  subst e
  exact ⟨_,st,fun v z=>by
   have z':Data.fields _ = Data.cell v:=z
   cases z'⟩
 keep:=fun i h h' st k=>k it (by simp) _ st
 item:=by
  intro X hP hw hK hc i pins s σ H E I hf st hg
  subst hP hw hK
  obtain ⟨f0,f1,f2,f3,f4,f5⟩:=hf it (by simp)
  have W:=Walks.range (prog:=X.prog) (w:=X.w) (I.ok.hd hc) it lo 1 n
  refine W.item i s _ _ hg st fun v h' tk hv st' kk=>?_
  obtain ⟨t,rfl⟩:=hv
  have I1:Inv X pins σ H { s with heap:=h',toks:=tk }:=I.turned (fun b o hb e=>kk b o (by simpa using hb) e) f0 f1 f3 f4 f5
  refine ⟨_,rfl,jT (s:={ s with heap:=h',toks:=tk }) (n:="range_iterator") st' rfl rfl (by decide) ⟨.int (lo + i),H,I1,⟨t,?_⟩,⟨rfl,rfl⟩,st',fun b hb=>(hf b hb).1⟩⟩
  rw [Int.mul_one]
 done:=by
  intro X hP hw hK hc i pins s σ H E I hf st hg
  subst hP hw hK
  obtain ⟨f0,f1,f2,f3,f4,f5⟩:=hf it (by simp)
  exact wpAny_pyNext_range_end (I.ok.hd hc) st (by have:n <= i:=hg; omega) fun h' eb=>⟨rfl,I.turned (t':=s.toks) (fun b o hb e=>eb b o hb e) f0 f1 f3 f4 f5⟩
 self:=fun _ _ _ _ _ st h=>wpAny_pyIter_rangeiter st h
end L2
namespace L2
open PySem PySem.Spec PyProof.Rows
section
variable {X:Cx} {tg:Expr}
def WX (K:FG7) (tl:TE):TI:=fun σ H R=>tl σ H fun x H1=>∃ a,x = .ref a /\ (∃ xs,SqL K H1 a xs) /\ R (Itl K a) H1
def iTup (K:FG7) (tl:TE):TI:=fun σ H R=>tl σ H fun x H1=>∃ a,x = .ref a /\ (∃ xs,SqT K H1 a xs) /\ R (Itt K a) H1
theorem wf {l:Expr} {tl:TE} (hl:PE X l tl):PI X tg l (WX X.K tl):=by
 intro pins s σ H R I h
 refine thn (hl pins s σ H _ I h) fun v s1 ⟨x,H1,I1,r1,q1⟩=>?_
 obtain ⟨a,e,⟨xs,hq⟩,q⟩:=q1
 subst e
 cases r1
 obtain ⟨its,rv,p,hz⟩:=I1.list hq
 refine wpAny_pyIter_list p.isList ?_
 refine ⟨s1.heap.objs.size,[s1.heap.objs.size],_,_,H1,rfl,I1.kept (t':=s1.toks) fun b o e=>Heap.get?_push_of_some _ e,jU a _,⟨_,Heap.get?_push_size _ rfl,rfl,rfl⟩,fun b hb=>?_,q⟩
 have e:b = s1.heap.objs.size:=by simpa using hb
 subst e
 exact I1.fpOk (Nat.le_refl _) (I1.hok.fresh (Nat.le_refl _))
theorem wC {l:Expr} {tl:TE} (hl:PE X l tl):PI X tg l (iTup X.K tl):=by
 intro pins s σ H R I h
 refine thn (hl pins s σ H _ I h) fun v s1 ⟨x,H1,I1,r1,q1⟩=>?_
 obtain ⟨a,e,⟨xs,hq⟩,q⟩:=q1
 subst e
 cases r1
 obtain ⟨its,rv,p,hz⟩:=I1.tuple hq
 refine wpAny_pyIter_tuple (show s1.heap.IsTuple a its.toArray from p) ?_
 refine ⟨s1.heap.objs.size,[s1.heap.objs.size],_,_,H1,rfl,I1.kept (t':=s1.toks) fun b o e=>Heap.get?_push_of_some _ e,qV a _,⟨_,Heap.get?_push_size _ rfl,rfl,rfl⟩,fun b hb=>?_,q⟩
 have e:b = s1.heap.objs.size:=by simpa using hb
 subst e
 exact I1.fpOk (Nat.le_refl _) (I1.hok.fresh (Nat.le_refl _))
theorem rZ {pins:List (Addr × Obj)} {σ:St} {H:Hp} {s:Shared} {R:It -> Hp -> Prop} {E:VS7} {lo hi:Int} {t u v:Tok} {tk:Nat} (I:Inv X pins σ H s) (h1:-(2 ^ 62) <= lo) (h2:lo < 2 ^ 62) (h3:-(2 ^ 62) <= hi) (h4:hi < 2 ^ 62)
  (q:R (Itr lo (hi - lo).toNat) H):wpAny (model X.prog X.w) X.A (pyIter (.ref s.heap.objs.size)) (PIE X pins σ tg R) E { s with heap:=s.heap.push { cls:=.type "range",data:=.fields #[.int lo t,.int hi u,.int 1 v] },toks:=tk }:=by
 refine wpAny_pyIter_range (IsRange.new ..) (small_one h1 h2 h3 h4) ?_
 have I1:Inv X pins σ H { s with heap:=s.heap.push { cls:=.type "range",data:=.fields #[.int lo t,.int hi u,.int 1 v] },toks:=tk }:=I.kept fun b o e=>Heap.get?_push_of_some _ e
 refine ⟨(s.heap.push { cls:=.type "range",data:=.fields #[.int lo t,.int hi u,.int 1 v] }).objs.size,[(s.heap.push { cls:=.type "range",data:=.fields #[.int lo t,.int hi u,.int 1 v] }).objs.size],_,_,H,rfl,
  I1.kept (t':=tk) fun b o e=>Heap.get?_push_of_some _ e,qW _ lo (hi - lo).toNat,?_,fun b hb=>?_,q⟩
 ·have e1:lo + ((0:Nat):Int) * 1 = lo:=by simp
  have e2:(((hi - lo).toNat:Nat):Int) - ((0:Nat):Int) = Builtin.Range.rangeSize lo hi 1:=by rw [rangeSize_one]; split <;> omega
  show IsRangeIter _ _ (lo + ((0:Nat):Int) * 1) ((((hi - lo).toNat:Nat):Int) - ((0:Nat):Int)) 1
  rw [e1,e2]
  exact Heap.get?_push_size _ rfl
 ·have e:b = (s.heap.push { cls:=.type "range",data:=.fields #[.int lo t,.int hi u,.int 1 v] }).objs.size:=by simpa using hb
  subst e
  exact I1.fpOk (Nat.le_refl _) (I1.hok.fresh (Nat.le_refl _))
def VX (ta:TA):TI:=fun σ H R=>ta σ H fun vs H1=>∃ j:Int,vs = [.int j] /\ -(2 ^ 62) <= j /\ j < 2 ^ 62 /\ R (Itr 0 j.toNat) H1
def VY (ta:TA):TI:=fun σ H R=>ta σ H fun vs H1=>∃ i j:Int,vs = [.int i,.int j] /\ (-(2 ^ 62) <= i /\ i < 2 ^ 62 /\ -(2 ^ 62) <= j /\ j < 2 ^ 62) /\ R (Itr i (j - i).toNat) H1
theorem zL {a:Expr} {ta:TA} {p pos:Pos} (hg:Gl X "range") (hm:X.mg "range" = none) (ha:PA X [a] ta) (hs:starEach [a] X.env = [(false,eval a X.env)]:=by rfl):PI X tg (.Call (.Name "range" p) [a] [] pos) (VX ta):=by
 intro pins s σ H R I h
 refine Call_ (vZ I hg hm boot_range (PyProof.Rows.callWith_type1 (thn (ha pos pins s σ H _ I h) fun us s1 ⟨vs,H1,I1,r1,q1⟩=>?_) hs rfl))
 obtain ⟨j,e,q1,q2,q⟩:=q1
 subst e
 cases r1 with
 | cons r rr =>
  cases rr
  obtain ⟨t,rfl⟩:=r
  exact call_range_1 (rZ I1 (by omega) (by omega) q1 q2 (by simpa using q))
theorem uU {a b:Expr} {ta:TA} {p pos:Pos} (hg:Gl X "range") (hm:X.mg "range" = none) (ha:PA X [a,b] ta) (hs:starEach [a,b] X.env = [(false,eval a X.env),(false,eval b X.env)]:=by rfl) (hs2:starEach [b] X.env = [(false,eval b X.env)]:=by rfl) :
  PI X tg (.Call (.Name "range" p) [a,b] [] pos) (VY ta):=by
 intro pins s σ H R I h
 refine Call_ (vZ I hg hm boot_range (PyProof.Rows.callWith_type1 (thn (ha pos pins s σ H _ I h) fun us s1 ⟨vs,H1,I1,r1,q1⟩=>?_) (by rw [hs,hs2]) (by rw [hs2]; rfl)))
 obtain ⟨i,j,e,⟨q1,q2,q3,q4⟩,q⟩:=q1
 subst e
 cases r1 with
 | cons r rr =>
  cases rr with
  | cons r' rr =>
   cases rr
   obtain ⟨t,rfl⟩:=r
   obtain ⟨t',rfl⟩:=r'
   exact call_range_2 (rZ I1 q1 q2 q3 q4 q)
def tFor (wi:TI) (g:TG) (tb:TS):TS:=fun D σ H=>wi σ H fun J H1=>∃ W:Nat -> Nat -> St -> Hp -> Prop,(∃ m,W 0 m σ H1) /\ ∀ i m σ H,W i m σ H →
 (J.stop i H /\ D.nx σ H) \/ (J.go i H /\ ∃ N:St -> Hp -> Prop,(∀ σ' H',N σ' H' -> ∃ m',m' < m /\ W (i + 1) m' σ' H') /\ ∀ x H',J.yld i H x H' -> g x σ H' fun σ2 H2=>tb { D with nx:=N,ct:=N,bk:=D.nx } σ2 H2)
def wX (fp:List Addr) (h:Heap):List (Addr × Obj):=fp.filterMap fun b=>(h.get? b).map fun o=>(b,o)
theorem z9 {fp:List Addr} {h:Heap} {b:Addr} {o:Obj} (hb:b ∈ fp) (e:h.get? b = some o):(b,o) ∈ wX fp h:=List.mem_filterMap.mpr ⟨b,hb,by rw [e]; rfl⟩
theorem jV {fp:List Addr} {h:Heap} {p:Addr × Obj} (hp:p ∈ wX fp h):p.1 ∈ fp /\ h.get? p.1 = some p.2:=by
 obtain ⟨b,hb,e⟩:=List.mem_filterMap.mp hp
 cases q:h.get? b with
 | none=>rw [q] at e; cases e
 | some o =>
  rw [q] at e
  have e':(b,o) = p:=Option.some.inj e
  subst e'
  exact ⟨hb,q⟩
theorem Inv.pinned {pins:List (Addr × Obj)} {σ:St} {H:Hp} {s:Shared} {fp:List Addr} (I:Inv X pins σ H s) (hf:∀ b ∈ fp,FpOk X pins H b) (ho:∀ b ∈ fp,∃ o,s.heap.get? b = some o /\ ∀ v,o.data ≠ .cell v):Inv X (pins ++ wX fp s.heap) σ H s :=
 I.pins_of fun p hp=>(List.mem_append.mp hp).elim (fun z=>I.pin p (List.mem_append_right _ z)) fun z=>by
  obtain ⟨hb,e⟩:=jV z
  obtain ⟨f0,f1,f2,_⟩:=hf p.1 hb
  obtain ⟨o,e',d⟩:=ho p.1 hb
  rw [e] at e'; cases e'
  exact ⟨e,f0,f1,f2,d⟩
theorem Inv.unpinned {pins pl:List (Addr × Obj)} {σ:St} {H:Hp} {s:Shared} (I:Inv X (pins ++ pl) σ H s):Inv X pins σ H s:=I.pins_of fun p hp=>I.pin p (List.mem_append_right _ (List.mem_append_left _ hp))
theorem yQ {iter:Expr} {body:List Stmt} {wi:TI} {g:TG} {tb:TS} {pos:Pos} (hp:PassesOwn (model X.prog X.w) X.A X.env X.xe) (hc:X.calm = true) (hi:PI X tg iter wi) (hg:PG X tg g) (hb:PSs X body tb)
  (hs:∀ x,foldedSetIterable iter X.env x = pure x:=by intro _; rfl):PS X (.For tg iter body [] pos) (tFor wi g tb):=by
 intro pins s σ H D I h
 refine wpAny_For (thn (hi pins s σ H _ I h) fun v s1 h1=>thn h1 fun itv s2 h2=>?_) hs
 obtain ⟨it,fp,tn,J,H2,e,I2,T,st2,f2,W,⟨m0,w0⟩,turn⟩:=h2
 subst e
 -- what stays true of the iterator's objects through the loop
 have stat:∀ {H':Hp},(∀ b ∈ fp,H' b = none) -> ∀ b ∈ fp,FpOk X pins H' b:=fun hn b hb=>⟨hn b hb,(f2 b hb).2⟩
 refine codeAny_forLoop_any (fun n s'=>∃ i σ' H',Inv X pins σ' H' s' /\ tn i s'.heap /\ (∀ b ∈ fp,H' b = none) /\ W i n σ' H') ?_ m0 ⟨0,σ,H2,I2,st2,fun b hb=>(f2 b hb).1,w0⟩
 rintro n s3 ⟨i,σ3,H3,I3,st3,fr3,w3⟩
 rcases turn i n σ3 H3 w3 with ⟨stop,qn⟩ | ⟨go,N,hN,step⟩
 ·refine wpAny_passesOwn hp (thn (T.done X rfl rfl rfl hc i pins s3 σ3 H3 X.xe I3 (stat fr3) st3 stop) fun r s4 ⟨hr,I4⟩=>?_)
  subst hr
  exact wpAny_execs_nil ⟨σ3,H3,I4,qn⟩
 ·refine wpAny_passesOwn hp (thn (T.item X rfl rfl rfl hc i pins s3 σ3 H3 X.xe I3 (stat fr3) st3 go) fun r s4 ⟨u,hr,h4⟩=>?_)
  subst hr
  refine wpAny_passesOwn hp (thn h4 fun _ s5 ⟨x,H5,I5,r5,y5,st5,fr5⟩=>?_)
  have I5':=I5.pinned (stat fr5) (T.obj _ _ st5)
  refine wpAny_passesOwn hp (thn (hg _ s5 σ3 H5 x u _ I5' r5 (step x H5 y5)) fun _ s6 ⟨σ6,H6,I6,q6⟩=>?_)
  refine wpAny_passesOwn hp (thn (hb _ s6 σ6 H6 _ I6 q6) fun f s7 q7=>?_)
  have again:∀ {σ7:St} {H7:Hp},Inv X (pins ++ wX fp s5.heap) σ7 H7 s7 -> N σ7 H7 -> ∃ m,m < n /\ ∃ i σ' H',Inv X pins σ' H' s7 /\ tn i s7.heap /\ (∀ b ∈ fp,H' b = none) /\ W i m σ' H':=fun {σ7 H7} I7 n7=>by
   obtain ⟨m',hm,w7⟩:=hN σ7 H7 n7
   refine ⟨m',hm,i + 1,σ7,H7,I7.unpinned,T.keep _ _ _ st5 fun b hb o e=>(I7.pin (b,o) (List.mem_append_right _ (List.mem_append_right _ (z9 hb e)))).1,fun b hb=>?_,w7⟩
   obtain ⟨o,e,d⟩:=T.obj _ _ st5 b hb
   exact (I7.pin (b,o) (List.mem_append_right _ (List.mem_append_right _ (z9 hb e)))).2.1
  cases f with
  | next=>obtain ⟨σ7,H7,I7,n7⟩:=q7; exact again I7 n7
  | cont=>obtain ⟨σ7,H7,I7,n7⟩:=q7; exact again I7 n7
  | brk=>obtain ⟨σ7,H7,I7,q7⟩:=q7; exact ⟨σ7,H7,I7.unpinned,q7⟩
  | ret v=>obtain ⟨x7,σ7,H7,I7,r7,q7⟩:=q7; exact ⟨x7,σ7,H7,I7.unpinned,r7,q7⟩
end
theorem X3 {K:FG7} {a:Addr} {xs:List V} {g:TG} {tb:TS} {D:Ends} {σ:St} {H:Hp} (Pv:Nat -> St -> Hp -> Prop) (h0:Pv 0 σ H) (hl:∀ i σ H,i <= xs.length -> Pv i σ H -> SqT K H a xs)
  (hs:∀ i x σ H,xs[i]? = some x -> Pv i σ H -> g x σ H fun σ2 H2=>tb { D with nx:=Pv (i + 1),ct:=Pv (i + 1),bk:=D.nx } σ2 H2) (hd:∀ σ H,Pv xs.length σ H -> D.nx σ H) :
  ∃ W:Nat -> Nat -> St -> Hp -> Prop,(∃ m,W 0 m σ H) /\ ∀ i m σ H,W i m σ H →
   ((Itt K a).stop i H /\ D.nx σ H) \/ ((Itt K a).go i H /\ ∃ N:St -> Hp -> Prop,(∀ σ' H',N σ' H' -> ∃ m',m' < m /\ W (i + 1) m' σ' H') /\ ∀ x H',(Itt K a).yld i H x H' -> g x σ H' fun σ2 H2=>tb { D with nx:=N,ct:=N,bk:=D.nx } σ2 H2):=by
 refine ⟨fun i m σ H=>m = xs.length - i /\ i <= xs.length /\ Pv i σ H,⟨xs.length,by simp,Nat.zero_le _,h0⟩,?_⟩
 rintro i m σ H ⟨rfl,hi,p⟩
 have q:=hl i σ H hi p
 by_cases hlt:i < xs.length
 ·refine .inr ⟨⟨xs,xs[i],q,by simp [hlt]⟩,Pv (i + 1),fun σ' H' p'=>⟨xs.length - (i + 1),by omega,rfl,hlt,p'⟩,fun x H' y=>?_⟩
  obtain ⟨e,y⟩:=y
  subst e
  exact hs i x σ _ (y xs q) p
 ·have e:i = xs.length:=by omega
  subst e
  exact .inl ⟨⟨xs,q,Nat.le_refl _⟩,hd σ H p⟩
theorem ye {lo:Int} {n:Nat} {g:TG} {tb:TS} {D:Ends} {σ:St} {H:Hp} (Pv:Nat -> St -> Hp -> Prop) (h0:Pv 0 σ H)
  (hs:∀ i σ H,i < n -> Pv i σ H -> g (.int (lo + i)) σ H fun σ2 H2=>tb { D with nx:=Pv (i + 1),ct:=Pv (i + 1),bk:=D.nx } σ2 H2) (hd:∀ σ H,Pv n σ H -> D.nx σ H) :
  ∃ W:Nat -> Nat -> St -> Hp -> Prop,(∃ m,W 0 m σ H) /\ ∀ i m σ H,W i m σ H →
   ((Itr lo n).stop i H /\ D.nx σ H) \/ ((Itr lo n).go i H /\ ∃ N:St -> Hp -> Prop,(∀ σ' H',N σ' H' -> ∃ m',m' < m /\ W (i + 1) m' σ' H') /\ ∀ x H',(Itr lo n).yld i H x H' -> g x σ H' fun σ2 H2=>tb { D with nx:=N,ct:=N,bk:=D.nx } σ2 H2):=by
 refine ⟨fun i m σ H=>m = n - i /\ i <= n /\ Pv i σ H,⟨n,by simp,Nat.zero_le _,h0⟩,?_⟩
 rintro i m σ H ⟨rfl,hi,p⟩
 by_cases hlt:i < n
 ·refine .inr ⟨hlt,Pv (i + 1),fun σ' H' p'=>⟨n - (i + 1),by omega,rfl,hlt,p'⟩,fun x H' y=>?_⟩
  obtain ⟨e,y⟩:=y
  subst e y
  exact hs i σ _ hlt p
 ·have e:i = n:=by omega
  subst e
  exact .inl ⟨Nat.le_refl _,hd σ H p⟩
end L2
namespace L2
open PySem PySem.Spec PyProof.Rows
abbrev R2:=V -> V -> Hp -> VK -> Prop
def OpR (X:Cx) (f:Value -> Value -> Sem Value) (r:R2):Prop :=
 ∀ (pins:List (Addr × Obj)) (s:Shared) (σ:St) (H:Hp) (x y:V) (v u:Value) (Q:VK),Inv X pins σ H s -> RelV x v -> RelV y u -> r x y H Q →
  wpAny (model X.prog X.w) X.A (f v u) (EP X pins σ Q) X.xe s
def UnR (X:Cx) (f:Value -> Sem Value) (r:V -> Hp -> VK -> Prop):Prop :=
 ∀ (pins:List (Addr × Obj)) (s:Shared) (σ:St) (H:Hp) (x:V) (v:Value) (Q:VK),Inv X pins σ H s -> RelV x v -> r x H Q →
  wpAny (model X.prog X.w) X.A (f v) (EP X pins σ Q) X.xe s
def yI (X:Cx) (f:Value) (r:List V -> Hp -> VK -> Prop):Prop :=
 ∀ (pins:List (Addr × Obj)) (s:Shared) (σ:St) (H:Hp) (xs:List V) (us:List Value) (Q:VK),Inv X pins σ H s -> Vals xs us -> r xs H Q →
  wpAny (model X.prog X.w) X.A (call f us) (EP X pins σ Q) X.xe s
def tOp (r:R2) (ta tb:TE):TE:=fun σ H Q=>ta σ H fun x H1=>tb σ H1 fun y H2=>r x y H2 Q
def tUn (r:V -> Hp -> VK -> Prop) (ta:TE):TE:=fun σ H Q=>ta σ H fun x H1=>r x H1 Q
def rI (C:Int -> Int -> Prop) (g:Int -> Int -> V):R2:=fun x y H Q=>∃ i j,x = .int i /\ y = .int j /\ C i j /\ Q (g i j) H
def rI0 (g:Int -> Int -> V):R2:=fun x y H Q=>∃ i j,x = .int i /\ y = .int j /\ Q (g i j) H
def rU (g:Int -> V):V -> Hp -> VK -> Prop:=fun x H Q=>∃ i,x = .int i /\ Q (g i) H
section
variable {X:Cx} {a b c:Expr} {ta tb tc:TE} {pos:Pos}
theorem binT (ha:PE X a ta) (hb:PE X b tb) {pins:List (Addr × Obj)} {s:Shared} {σ:St} {H:Hp} {R:V -> V -> Hp -> Prop} (I:Inv X pins σ H s)
  (h:ta σ H fun x H1=>tb σ H1 fun y H2=>R x y H2) {Q:VS7} {f:Value -> Value -> Sem Value}
  (hf:∀ v u s2 x y H2,Inv X pins σ H2 s2 -> RelV x v -> RelV y u -> R x y H2 -> wpAny (model X.prog X.w) X.A (f v u) Q X.xe s2) :
  wpAny (model X.prog X.w) X.A (eval a X.env) (fun v s₁=>wpAny (model X.prog X.w) X.A (eval b X.env) (fun u s₂=>wpAny (model X.prog X.w) X.A (f v u) Q X.xe s₂) X.xe s₁) X.xe s:=by
 refine thn (ha pins s σ H _ I h) fun v s1 ⟨x,H1,I1,r1,q1⟩=>?_
 refine thn (hb pins s1 σ H1 _ I1 q1) fun u s2 ⟨y,H2,I2,r2,q2⟩=>?_
 exact hf v u s2 x y H2 I2 r1 r2 q2
theorem zq {op:Operator} {r:R2} (ho:OpR X (binaryOp op) r) (ha:PE X a ta) (hb:PE X b tb):PE X (.BinOp a op b pos) (tOp r ta tb):=by
 intro pins s σ H Q I h
 exact wpAny_BinOp (binT ha hb I h fun v u s2 x y H2 I2 rx ry q=>ho pins s2 σ H2 x y v u Q I2 rx ry q)
theorem WY {op:UnaryOp} {r:V -> Hp -> VK -> Prop} (ho:UnR X (unaryOp op) r) (ha:PE X a ta):PE X (.UnaryOp op a pos) (tUn r ta):=by
 intro pins s σ H Q I h
 exact UnaryOp_ (thn (ha pins s σ H _ I h) fun v s1 ⟨x,H1,I1,r1,q1⟩=>ho pins s1 σ H1 x v Q I1 r1 q1)
theorem opI {f:Value -> Value -> Sem Value} {C:Int -> Int -> Prop} {g:Int -> Int -> Int}
  (rule:∀ (i j:Int) (t u:Tok) (s:Shared) (Q:VS7) (E:VS7),C i j -> Q (.int (g i j) s.toks) { s with toks:=s.toks + 1 } -> wpAny (model X.prog X.w) X.A (f (.int i t) (.int j u)) Q E s) :
  OpR X f (rI C fun i j=>.int (g i j)):=by
 intro pins s σ H x y v u Q I rx ry h
 obtain ⟨i,j,rfl,rfl,hc,q⟩:=h
 obtain ⟨t,rfl⟩:=rx
 obtain ⟨t',rfl⟩:=ry
 exact rule i j t t' s _ _ hc ⟨.int (g i j),H,I.tok _,⟨_,rfl⟩,q⟩
theorem opI0 {f:Value -> Value -> Sem Value} {g:Int -> Int -> Int}
  (rule:∀ (i j:Int) (t u:Tok) (s:Shared) (Q:VS7) (E:VS7),Q (.int (g i j) s.toks) { s with toks:=s.toks + 1 } -> wpAny (model X.prog X.w) X.A (f (.int i t) (.int j u)) Q E s) :
  OpR X f (rI0 fun i j=>.int (g i j)):=by
 intro pins s σ H x y v u Q I rx ry h
 obtain ⟨i,j,rfl,rfl,q⟩:=h
 obtain ⟨t,rfl⟩:=rx
 obtain ⟨t',rfl⟩:=ry
 exact rule i j t t' s _ _ ⟨.int (g i j),H,I.tok _,⟨_,rfl⟩,q⟩
theorem opB0 {f:Value -> Value -> Sem Value} {g:Int -> Int -> Bool}
  (rule:∀ (i j:Int) (t u:Tok) (s:Shared) (Q:VS7) (E:VS7),Q (.bool (g i j)) s -> wpAny (model X.prog X.w) X.A (f (.int i t) (.int j u)) Q E s) :
  OpR X f (rI0 fun i j=>.bl (g i j)):=by
 intro pins s σ H x y v u Q I rx ry h
 obtain ⟨i,j,rfl,rfl,q⟩:=h
 obtain ⟨t,rfl⟩:=rx
 obtain ⟨t',rfl⟩:=ry
 exact rule i j t t' s _ _ ⟨.bl (g i j),H,I,rfl,q⟩
def CPow (i j:Int):Prop:=0 <= j /\ j <= 1000000 /\ i.natAbs < 2 ^ 64
def CMul (i j:Int):Prop:=(-(2 ^ 64) < i /\ i < 2 ^ 64) \/ (-(2 ^ 64) < j /\ j < 2 ^ 64)
theorem CMul.ok {i j:Int} (h:CMul i j):IntMulOk i j:=by
 rcases h with ⟨h1,h2⟩ | ⟨h1,h2⟩
 ·exact .of_left (intBits_le_64 h1 h2)
 ·exact .of_right (intBits_le_64 h1 h2)
theorem qX (k:Nat):(0:Int) <= 2 ^ k:=by
 rw [two_pow_cast]
 exact Int.natCast_nonneg _
theorem yK:OpR X (binaryOp .Add) (rI0 fun i j=>.int (i + j)):=opI0 fun _ _ _ _ _ _ _ q=>add_int q
theorem yL:OpR X (binaryOp .Sub) (rI0 fun i j=>.int (i - j)):=opI0 fun _ _ _ _ _ _ _ q=>sub_int q
theorem xQ:OpR X (binaryOp .Mod) (rI (fun _ j=>0 < j) fun i j=>.int (i % j)):=opI fun i j _ _ _ _ _ hc q=>by
 have h1:(0:Int) < j:=hc
 exact mod_int' (by omega) (by rw [Int.fmod_eq_emod_of_nonneg i (by omega)]; exact q)
theorem Xv:OpR X (binaryOp .Pow) (rI CPow fun i j=>.int (i ^ j.toNat)):=opI fun _ _ _ _ _ _ _ hc q=>pow_int_small hc.1 hc.2.1 hc.2.2 q
theorem yw:OpR X (binaryOp .LShift) (rI CPow fun i j=>.int (i * 2 ^ j.toNat)):=opI fun _ _ _ _ _ _ _ hc q=>lshift_int_small hc.1 hc.2.1 hc.2.2 q
theorem jW:OpR X (binaryOp .RShift) (rI (fun _ j=>0 <= j) fun i j=>.int (i / 2 ^ j.toNat)):=opI fun i j _ _ _ _ _ hc q =>
 rshift_int hc (by rw [Int.fdiv_eq_ediv_of_nonneg i (qX _)]; exact q)
theorem jX:OpR X (binaryOp .BitAnd) (rI0 fun i j=>.int (Builtin.bitAnd i j)):=opI0 fun _ _ _ _ _ _ _ q=>and_int q
theorem VZ:OpR X (binaryOp .BitOr) (rI0 fun i j=>.int (Builtin.bitOr i j)):=opI0 fun _ _ _ _ _ _ _ q=>or_int q
theorem Xw:OpR X (binaryOp .BitXor) (rI0 fun i j=>.int (Builtin.bitXor i j)):=opI0 fun _ _ _ _ _ _ _ q=>xor_int q
theorem unI {f:Value -> Sem Value} {g:Int -> Int}
  (rule:∀ (i:Int) (t:Tok) (s:Shared) (Q:VS7) (E:VS7),Q (.int (g i) s.toks) { s with toks:=s.toks + 1 } -> wpAny (model X.prog X.w) X.A (f (.int i t)) Q E s) :
  UnR X f (rU fun i=>.int (g i)):=by
 intro pins s σ H x v Q I rx h
 obtain ⟨i,rfl,q⟩:=h
 obtain ⟨t,rfl⟩:=rx
 exact rule i t s _ _ ⟨.int (g i),H,I.tok _,⟨_,rfl⟩,q⟩
theorem Xx:UnR X (unaryOp .USub) (rU fun i=>.int (-i)):=unI fun _ _ _ _ _ q=>neg_int q
end
def scal:V -> V -> Bool
 | .non,.non=>true | .non,.int _=>true | .int _,.non=>true | .non,.bl _=>true | .bl _,.non=>true | .non,.str _=>true | .str _,.non=>true
 | .int _,.int _=>true | .bl _,.bl _=>true | .str _,.str _=>true | .byt _,.byt _=>true
 | .int _,.str _=>true | .str _,.int _=>true | .bl _,.str _=>true | .str _,.bl _=>true
 | _,_=>false
def rEq:R2:=fun x y H Q=>scal x y = true /\ Q (.bl (decide (x = y))) H
def rNe:R2:=fun x y H Q=>scal x y = true /\ Q (.bl (!decide (x = y))) H
theorem jY {i j:Int}:decide (V.int i = V.int j) = (i == j):=by
 rw [Bool.eq_iff_iff]
 simp
theorem Xy {i j:Bool}:decide (V.bl i = V.bl j) = (i == j):=by
 rw [Bool.eq_iff_iff]
 simp
theorem jZ {i j:Str}:decide (V.str i = V.str j) = (i == j):=by
 rw [Bool.eq_iff_iff]
 simp
theorem j0 {i j:Array UInt8}:decide (V.byt i = V.byt j) = (i.toList == j.toList):=by
 rw [Bool.eq_iff_iff]
 cases i
 cases j
 simp
section
variable {X:Cx} {a b c:Expr} {ta tb tc:TE} {pos:Pos}
theorem zB {pins:List (Addr × Obj)} {σ:St} {H:Hp} {s:Shared} {Q:VK} {k k':Bool} (I:Inv X pins σ H s) (q:Q (.bl k) H) (e:k = k'):EP X pins σ Q (.bool k') s:=by
 subst e
 exact ⟨.bl k,H,I,rfl,q⟩
theorem ur:OpR X (compareOp .Eq) rEq:=by
 intro pins s σ H x y v u Q I rx ry h
 obtain ⟨hs,q⟩:=h
 cases x with
 | non =>
  cases rx
  cases y with
  | non=>cases ry; exact PySem.EqNone.eq_none_none (zB I q (by simp))
  | bl j=>cases ry; exact PySem.EqNone.eq_none_bool (zB I q (by simp))
  | int j=>obtain ⟨t',rfl⟩:=ry; exact PySem.EqNone.eq_none_int (zB I q (by simp))
  | str j=>obtain ⟨t',rfl⟩:=ry; exact PySem.EqNone.eq_none_str (zB I q (by simp))
  | _=>exact absurd (show false = true from hs) Bool.false_ne_true
 | bl i =>
  cases rx
  cases y with
  | non=>cases ry; exact PySem.EqNone.eq_bool_none (zB I q (by simp))
  | bl j=>cases ry; exact eq_bool (zB I q Xy)
  | str j=>obtain ⟨t',rfl⟩:=ry; exact PySem.EqMixed.eq_bool_str (zB I q (by simp))
  | _=>exact absurd (show false = true from hs) Bool.false_ne_true
 | int i =>
  obtain ⟨t,rfl⟩:=rx
  cases y with
  | non=>cases ry; exact PySem.EqNone.eq_int_none (zB I q (by simp))
  | int j=>obtain ⟨t',rfl⟩:=ry; exact eq_int (zB I q jY)
  | str j=>obtain ⟨t',rfl⟩:=ry; exact PySem.EqMixed.eq_int_str (zB I q (by simp))
  | _=>exact absurd (show false = true from hs) Bool.false_ne_true
 | str i =>
  obtain ⟨t,rfl⟩:=rx
  cases y with
  | non=>cases ry; exact PySem.EqNone.eq_str_none (zB I q (by simp))
  | bl j=>cases ry; exact PySem.EqMixed.eq_str_bool (zB I q (by simp))
  | int j=>obtain ⟨t',rfl⟩:=ry; exact PySem.EqMixed.eq_str_int (zB I q (by simp))
  | str j=>obtain ⟨t',rfl⟩:=ry; exact eq_str (zB I q jZ)
  | _=>exact absurd (show false = true from hs) Bool.false_ne_true
 | byt i =>
  obtain ⟨t,rfl⟩:=rx
  cases y with
  | byt j=>obtain ⟨t',rfl⟩:=ry; exact PySem.W.eq_bytes (zB I q j0)
  | _=>exact absurd (show false = true from hs) Bool.false_ne_true
 | _=>cases y <;> exact absurd (show false = true from hs) Bool.false_ne_true
theorem j3:OpR X (compareOp .NotEq) rNe:=by
 intro pins s σ H x y v u Q I rx ry h
 obtain ⟨hs,q⟩:=h
 cases x with
 | non =>
  cases rx
  cases y with
  | non=>cases ry; exact PySem.EqNone.ne_none_none (zB I q (by simp))
  | bl j=>cases ry; exact PySem.EqNone.ne_none_bool (zB I q (by simp))
  | int j=>obtain ⟨t',rfl⟩:=ry; exact PySem.EqNone.ne_none_int (zB I q (by simp))
  | str j=>obtain ⟨t',rfl⟩:=ry; exact PySem.EqNone.ne_none_str (zB I q (by simp))
  | _=>exact absurd (show false = true from hs) Bool.false_ne_true
 | bl i =>
  cases rx
  cases y with
  | non=>cases ry; exact PySem.EqNone.ne_bool_none (zB I q (by simp))
  | bl j=>cases ry; exact ne_bool (zB I q (congrArg not Xy))
  | str j=>obtain ⟨t',rfl⟩:=ry; exact PySem.EqMixed.ne_bool_str (zB I q (by simp))
  | _=>exact absurd (show false = true from hs) Bool.false_ne_true
 | int i =>
  obtain ⟨t,rfl⟩:=rx
  cases y with
  | non=>cases ry; exact PySem.EqNone.ne_int_none (zB I q (by simp))
  | int j=>obtain ⟨t',rfl⟩:=ry; exact ne_int (zB I q (congrArg not jY))
  | str j=>obtain ⟨t',rfl⟩:=ry; exact PySem.EqMixed.ne_int_str (zB I q (by simp))
  | _=>exact absurd (show false = true from hs) Bool.false_ne_true
 | str i =>
  obtain ⟨t,rfl⟩:=rx
  cases y with
  | non=>cases ry; exact PySem.EqNone.ne_str_none (zB I q (by simp))
  | bl j=>cases ry; exact PySem.EqMixed.ne_str_bool (zB I q (by simp))
  | int j=>obtain ⟨t',rfl⟩:=ry; exact PySem.EqMixed.ne_str_int (zB I q (by simp))
  | str j=>obtain ⟨t',rfl⟩:=ry; exact ne_str (zB I q (congrArg not jZ))
  | _=>exact absurd (show false = true from hs) Bool.false_ne_true
 | byt i =>
  obtain ⟨t,rfl⟩:=rx
  cases y with
  | byt j=>obtain ⟨t',rfl⟩:=ry; exact PySem.W.ne_bytes (zB I q (congrArg not j0))
  | _=>exact absurd (show false = true from hs) Bool.false_ne_true
 | _=>cases y <;> exact absurd (show false = true from hs) Bool.false_ne_true
theorem YD:OpR X (compareOp .Lt) (rI0 fun i j=>.bl (decide (i < j))):=opB0 fun _ _ _ _ _ _ _ q=>lt_int q
theorem j4:OpR X (compareOp .LtE) (rI0 fun i j=>.bl (decide (i <= j))):=opB0 fun _ _ _ _ _ _ _ q=>le_int q
theorem YE:OpR X (compareOp .Gt) (rI0 fun i j=>.bl (decide (j < i))):=opB0 fun _ _ _ _ _ _ _ q=>gt_int q
theorem OpR.or {f:Value -> Value -> Sem Value} {r r':R2} (h:OpR X f r) (h':OpR X f r'):OpR X f (fun x y H Q=>r x y H Q \/ r' x y H Q):=by
 intro pins s σ H x y v u Q I rx ry q
 rcases q with q | q
 ·exact h pins s σ H x y v u Q I rx ry q
 ·exact h' pins s σ H x y v u Q I rx ry q
theorem zO (b:Expr) {op:CmpOp} (h:op ≠ .In:=by decide) (h2:op ≠ .NotIn:=by decide):behindInMarks op b = false:=by
 have e1:(op == CmpOp.In) = false:=by cases op <;> first | rfl | exact absurd rfl h
 have e2:(op == CmpOp.NotIn) = false:=by cases op <;> first | rfl | exact absurd rfl h2
 cases b <;> simp [behindInMarks,e1,e2]
theorem wg {op:CmpOp} {r:R2} (ho:OpR X (compareOp op) r) (ha:PE X a ta) (hb:PE X b tb) (hm:behindInMarks op b = false):PE X (.Compare a [op] [b] pos) (tOp r ta tb):=by
 intro pins s σ H Q I h
 exact wpAny_Compare1 (binT ha hb I h fun v u s2 x y H2 I2 rx ry q=>ho pins s2 σ H2 x y v u Q I2 rx ry q) hm
def WZ (t:TE):TT:=fun σ H Q=>t σ H fun x H'=>∃ k,x = .bl k /\ Q k H'
theorem zN {op:CmpOp} {r:R2} (ho:OpR X (compareOp op) r) (ha:PE X a ta) (hb:PE X b tb) (hm:behindInMarks op b = false):PT X (.Compare a [op] [b] pos) (WZ (tOp r ta tb)):=by
 intro pins s σ H Q I h
 refine wpAny_isTrue_Compare1 (thn (ha pins s σ H _ I h) fun v s1 ⟨x,H1,I1,r1,q1⟩=>thn (hb pins s1 σ H1 _ I1 q1) fun u s2 ⟨y,H2,I2,r2,q2⟩ =>
  thn (ho pins s2 σ H2 x y v u _ I2 r1 r2 q2) fun c s3 ⟨z,H3,I3,r3,k,e,q3⟩=>?_) hm
 subst e
 cases r3
 exact wpAny_truthy_bool ⟨H3,I3,q3⟩
def Xz (r r':R2) (ta tb tc:TE):TE:=fun σ H Q=>ta σ H fun x H1=>tb σ H1 fun y H2=>r x y H2 fun z H3=>∃ k,z = .bl k ∧
 (if k = true then tc σ H3 fun w' H4=>r' y w' H4 Q else Q (.bl false) H3)
theorem YF {op op':CmpOp} {r r':R2} (ho:OpR X (compareOp op) r) (ho':OpR X (compareOp op') r') (ha:PE X a ta) (hb:PE X b tb) (hc:PE X c tc)
  (hm:lastMarks [op,op'] [b,c] = false:=by with_unfolding_all rfl):PE X (.Compare a [op,op'] [b,c] pos) (Xz r r' ta tb tc):=by
 intro pins s σ H Q I h
 refine Compare_chain (thn (ha pins s σ H _ I h) fun v s1 ⟨x,H1,I1,r1,q1⟩=>chain_link (thn (hb pins s1 σ H1 _ I1 q1) fun u s2 ⟨y,H2,I2,r2,q2⟩ =>
  thn (ho pins s2 σ H2 x y v u _ I2 r1 r2 q2) fun d s3 ⟨z,H3,I3,r3,k,e,q3⟩=>?_)) hm
 subst e
 cases r3
 refine wpAny_truthy_bool ?_
 cases k with
 | false=>exact ite_ff ⟨.bl false,H3,I3,rfl,q3⟩
 | true=>exact ite_tt (chain_last (thn (hc pins s3 σ H3 _ I3 q3) fun w' s4 ⟨z',H4,I4,r4,q4⟩=>ho' pins s4 σ H4 y z' u w' Q I4 r2 r4 q4))
theorem YG {op op':CmpOp} {r r':R2} (ho:OpR X (compareOp op) r) (ho':OpR X (compareOp op') r') (ha:PE X a ta) (hb:PE X b tb) (hc:PE X c tc)
  (hm:lastMarks [op,op'] [b,c] = false:=by with_unfolding_all rfl):PT X (.Compare a [op,op'] [b,c] pos) (WZ (Xz r r' ta tb tc)):=by
 intro pins s σ H Q I h
 refine isTrue_chain (thn (ha pins s σ H _ I h) fun v s1 ⟨x,H1,I1,r1,q1⟩=>test_link (thn (hb pins s1 σ H1 _ I1 q1) fun u s2 ⟨y,H2,I2,r2,q2⟩ =>
  thn (ho pins s2 σ H2 x y v u _ I2 r1 r2 q2) fun d s3 ⟨z,H3,I3,r3,k,e,q3⟩=>?_)) hm
 subst e
 cases r3
 refine wpAny_truthy_bool ?_
 cases k with
 | false =>
  obtain ⟨k',e',q'⟩:=q3
  cases e'
  exact ite_ff ⟨H3,I3,q'⟩
 | true =>
  refine ite_tt (test_last (thn (hc pins s3 σ H3 _ I3 q3) fun w' s4 ⟨z',H4,I4,r4,q4⟩=>thn (ho' pins s4 σ H4 y z' u w' _ I4 r2 r4 q4) fun d' s5 ⟨z2,H5,I5,r5,k2,e2,q5⟩=>?_))
  subst e2
  cases r5
  exact wpAny_truthy_bool ⟨H5,I5,q5⟩
theorem uV:(sizeLine:Nat) < 2 ^ 63:=by rw [sizeLine_eq]; decide
theorem qY:OpR X (binaryOp .Add) (fun x y H Q=>∃ i j,x = .str i /\ y = .str j /\ i.length + j.length <= sizeLine /\ Q (.str (i ++ j)) H):=by
 intro pins s σ H x y v u Q I rx ry h
 obtain ⟨i,j,rfl,rfl,hz,q⟩:=h
 obtain ⟨t,rfl⟩:=rx
 obtain ⟨t',rfl⟩:=ry
 exact add_str (fun t' tk=>⟨.str (i ++ j),H,I.tok _,⟨_,rfl⟩,q⟩) hz
theorem wL {x:V} {us:List Value} (r:Vals [x] us):∃ u,us = [u] /\ RelV x u:=by
 cases r with
 | cons r1 r2=>cases r2; exact ⟨_,rfl,r1⟩
theorem qZ {x y:V} {us:List Value} (r:Vals [x,y] us):∃ u w',us = [u,w'] /\ RelV x u /\ RelV y w':=by
 cases r with
 | cons r1 r2 =>
  cases r2 with
  | cons r3 r4=>cases r4; exact ⟨_,_,rfl,r1,r3⟩
theorem qa:yI X (.builtin "abs") (fun xs H Q=>∃ i,xs = [.int i] /\ Q (.int (if i < 0 then -i else i)) H):=by
 intro pins s σ H xs us Q I r h
 obtain ⟨i,rfl,q⟩:=h
 obtain ⟨u,rfl,t,rfl⟩:=wL r
 exact call_abs_int fun u tk=>⟨.int (if i < 0 then -i else i),H,I.tok _,⟨_,rfl⟩,q⟩
theorem uW (hc:X.calm = true):yI X (.builtin "max") (fun xs H Q=>∃ i j,xs = [.int i,.int j] /\ Q (.int (if j > i then j else i)) H):=by
 intro pins s σ H xs us Q I r h
 obtain ⟨i,j,rfl,q⟩:=h
 obtain ⟨u,w',rfl,⟨t,rfl⟩,⟨t',rfl⟩⟩:=qZ r
 refine max_two_ints (I.ok.hd hc) fun h' tk k=>⟨_,H,I.kept k,?_,q⟩
 by_cases hj:j > i
 ·rw [if_pos hj,if_pos hj]; exact ⟨_,rfl⟩
 ·rw [if_neg hj,if_neg hj]; exact ⟨_,rfl⟩
theorem j5 (hc:X.calm = true):yI X (.builtin "min") (fun xs H Q=>∃ i j,xs = [.int i,.int j] /\ Q (.int (if j < i then j else i)) H):=by
 intro pins s σ H xs us Q I r h
 obtain ⟨i,j,rfl,q⟩:=h
 obtain ⟨u,w',rfl,⟨t,rfl⟩,⟨t',rfl⟩⟩:=qZ r
 refine min_two_ints (I.ok.hd hc) fun h' tk k=>⟨_,H,I.kept k,?_,q⟩
 by_cases hj:j < i
 ·rw [if_pos hj,if_pos hj]; exact ⟨_,rfl⟩
 ·rw [if_neg hj,if_neg hj]; exact ⟨_,rfl⟩
theorem uX:yI X (.type "str") (fun xs H Q=>∃ i,xs = [.int i] /\ i.natAbs.log2 < 1920 /\ Q (.str (toString i)) H):=by
 intro pins s σ H xs us Q I r h
 obtain ⟨i,rfl,hz,q⟩:=h
 obtain ⟨u,rfl,t,rfl⟩:=wL r
 exact PySem.P.str_of_int hz ⟨.str _,H,I.tok _,⟨_,rfl⟩,q⟩
end
end L2
namespace L2
open PySem PySem.Spec PyProof.Rows
structure ObjM (h:Heap) (x dx C:Addr) (mA:Str -> Option Value):Prop where
 obj:h.get? x = some (PySem.W.instObj C dx)
 ns:h.Ns1 dx mA
 ne:dx ≠ x
theorem j6 {h:Heap} {dx:Addr} {mA:Str -> Option Value} (n:h.Ns1 dx mA):∃ od,h.get? dx = some od /\ ∀ name,PySem.W.lookIn name od = some (mA name):=by
 obtain ⟨o,es,ep,ho,hd,hk,_,hm⟩:=n
 refine ⟨o,ho,fun name=>?_⟩
 have e:=hm name
 unfold nsFind findBy at e
 rw [← Array.find?_toList] at e
 unfold PySem.W.lookIn
 rw [hd]
 dsimp only
 split
 ·rename_i y q
  rw [q] at e
  exact congrArg some e
 ·rename_i q
  rw [q] at e
  have a:es.toList.any (·.refKey) = false:=by
   rw [List.any_eq_false]
   intro y hy
   obtain ⟨z,t,hkey⟩:=hk y (Array.mem_toList_iff.mp hy)
   simp [DictEntry.refKey,hkey]
  have a':¬ es.toList.any (·.refKey) = true:=by rw [a]; exact Bool.false_ne_true
  rw [if_neg a']
  exact congrArg some e
theorem ObjM.look {h:Heap} {x dx C:Addr} {mA:Str -> Option Value} (I:ObjM h x dx C mA):∃ od,PySem.W.InstAt h x (PySem.W.instObj C dx) C (some od) /\ ∀ name,PySem.W.lookIn name od = some (mA name) :=
 let ⟨od,ho,hl⟩:=j6 I.ns
 ⟨od,⟨I.obj,rfl,rfl,ho⟩,hl⟩
theorem RelO.some_of {v:V} {o:Option Value} (r:RelO (some v) o):∃ u,o = some u /\ RelV v u:=by
 cases o with
 | none=>exact (show False from r).elim
 | some u=>exact ⟨u,rfl,r⟩
section
variable {P:Program} {w:World} {H H':Hp} {h h':Heap} {a C dx:Addr} {fs fs':List (Str × V)}
theorem X4 (hok:HOk P w H h) (e:H a = some (.ins C dx fs)):∃ mA,ObjM h a dx C mA /\ (∀ f,RelO (fs.lookup f) (mA f)) /\ PySem.Within mA (fs.map (·.1)) /\ fs.length <= 1000 /\ H dx = some (.own a):=by
 obtain ⟨d,z,ne,ob,mA,n,r,q⟩:=(show zK P w H h a (.ins C dx fs) from hok a _ e)
 exact ⟨mA,⟨ob,n,ne⟩,r,q,z,d⟩
end
structure Cls (K:FG7) (C:Addr):Prop where
 pg:PySem.W.plainGet K C Str.empty = true
 hd:PySem.W.hasDictIn K C = true
 po:PySem.W.plainOver K C = true
 sa:PySem.W.findIn K (.ref C) "__setattr__" = some (some (.builtin "object.__setattr__"))
theorem Cls.get {K:FG7} {C:Addr} (c:Cls K C) (f:Str):PySem.W.plainGet K C f = true:=c.pg
def wY (K:FG7) (C:Addr) (f:Str):Prop:=PySem.W.findIn K (.ref C) f = some none
structure Con (K:FG7) (C:Addr) (f:Str) (v:V) (u:Value):Prop where
 at_:PySem.W.findIn K (.ref C) f = some (some u)
 rel:RelV v u
 get:PySem.W.specialIn K u "__get__" = some none
 cp:PySem.W.copiedNames.contains f = false
structure Meth (K:FG7) (C:Addr) (m:Str) (f:Addr):Prop where
 at_:PySem.W.findIn K (.ref C) m = some (some (.ref f))
 fn:PySem.W.isFn K (.ref f) = true
 kp:PySem.W.keepIn K (.ref f) = true
section
variable {X:Cx} {pins:List (Addr × Obj)} {σ:St} {H:Hp} {s:Shared} {a C dx:Addr} {fs:List (Str × V)} {f:Str} {v:V} {A:Around} {E:VS7}
theorem Inv.made (I:Inv X pins σ H s):Inv X pins σ (upd (upd H s.heap.objs.size (.own (s.heap.objs.size + 1))) (s.heap.objs.size + 1) (.ins C s.heap.objs.size []))
  { s with heap:=(s.heap.push PySem.W.emptyDict).push (PySem.W.instObj C s.heap.objs.size) }:=by
 have e1:(s.heap.push PySem.W.emptyDict).get? s.heap.objs.size = some PySem.W.emptyDict:=Heap.get?_push_size s.heap rfl
 have e2:((s.heap.push PySem.W.emptyDict).push (PySem.W.instObj C s.heap.objs.size)).get? (s.heap.objs.size + 1) = some (PySem.W.instObj C s.heap.objs.size):=by
  have:=Heap.get?_push_size (s.heap.push PySem.W.emptyDict) (o:=PySem.W.instObj C s.heap.objs.size) rfl
  rwa [Heap.size_push] at this
 have e3:(s.heap.push PySem.W.emptyDict).Ns s.heap.objs.size (fun _=>none):=⟨PySem.W.emptyDict,#[],_,e1,rfl,(fun e he=>absurd he (by simp)),fun _=>rfl⟩
 have I1:=I.laid (a:=s.heap.objs.size) (o:=.own (s.heap.objs.size + 1)) (h':=s.heap.push PySem.W.emptyDict) (t':=s.toks) (fun b u q=>Heap.get?_push_of_some _ q) (Nat.le_refl _) ⟨_,e1⟩
 refine I1.laid (a:=s.heap.objs.size + 1) (o:=.ins C s.heap.objs.size []) (t':=s.toks) (fun b u q=>Heap.get?_push_of_some _ q) (Nat.le_of_eq (Heap.size_push _ _)) ?_
 have ne:s.heap.objs.size ≠ s.heap.objs.size + 1:=Nat.ne_of_lt (Nat.lt_succ_self _)
 refine ⟨by rw [zk ne,zc],Nat.zero_le _,ne,e2,fun _=>none,(Heap.Ns1.of_empty e3).at fun o q=>Heap.get?_push_of_some _ q,fun _=>True.intro,fun y hy=>absurd rfl hy⟩
end
section
variable {X:Cx} {pins:List (Addr × Obj)} {σ:St} {H:Hp} {s:Shared} {A:Around} {E:VS7} {Q:VS7} {c:Value} {b:Bool}
inductive TyOf (K:FG7) (H:Hp):V -> Value -> Prop where
 | non:TyOf K H .non (.type "NoneType")
 | bl (x:Bool):TyOf K H (.bl x) (.type "bool")
 | int (i:Int):TyOf K H (.int i) (.type "int")
 | str (x:Str):TyOf K H (.str x) (.type "str")
 | flt (x:UInt64):TyOf K H (.flt x) (.type "float")
 | lst {a:Addr} {xs:List V} (e:H a = some (.lst xs)):TyOf K H (.ref a) (.type "list")
 | frz {a:Addr} {o:Obj} {xs:List V} (e:H a = some (.frz o (.lst xs))):TyOf K H (.ref a) (.type "list")
 | tup {a:Addr} {xs:List V} (e:H a = some (.tup xs)):TyOf K H (.ref a) (.type "tuple")
 | dK {a:Addr} {kvs:List (Key × V)} (e:H a = some (.dK kvs)):TyOf K H (.ref a) (.type "dict")
 | dT {a:Addr} {kvs:List (List Key × V)} (e:H a = some (.dT kvs)):TyOf K H (.ref a) (.type "dict")
 | ins {a C dx:Addr} {fs:List (Str × V)} (e:H a = some (.ins C dx fs)) (cl:Cls K C) (ha:PySem.W.findIn K (.ref C) "__class__" = some (some (.builtin "object.__class__")))
   (hn:PySem.W.specialIn K (.builtin "object.__class__") "__get__" = some (some (.builtin "getset_descriptor.__get__"))) (htk:PySem.W.takesIn K (.builtin "object.__class__") = some true)
   (hm:PySem.W.mroIn K C (.type "object") = some true):TyOf K H (.ref a) (.ref C)
theorem y9 {x:V} {u t:Value} (I:Inv X pins σ H s) (rx:RelV x u) (ty:TyOf X.K H x t) (e:PySem.W.kitOne X.K t c = some b) (h:∀ tk,Q (.bool b) { s with toks:=tk }) :
  wpAny (model X.prog X.w) A (call (.builtin "isinstance") [u,c]) Q E s:=by
 cases ty with
 | non=>cases (show u = Value.none from rx); exact PySem.W.kia_one PySem.W.kitx_none I.kIn True.intro e (fun z=>nomatch z) h
 | bl y=>cases (show u = Value.bool y from rx); exact PySem.W.kia_one PySem.W.kitx_bool I.kIn True.intro e (fun z=>nomatch z) h
 | int i=>obtain ⟨t,q⟩:=(show ∃ t,u = Value.int i t from rx); cases q; exact PySem.W.kia_one PySem.W.kitx_int I.kIn True.intro e (fun z=>nomatch z) h
 | str y=>obtain ⟨t,q⟩:=(show ∃ t,u = Value.str y t from rx); cases q; exact PySem.W.kia_one PySem.W.kitx_str I.kIn True.intro e (fun z=>nomatch z) h
 | flt y=>obtain ⟨t,q⟩:=(show ∃ t,u = Value.float y t from rx); cases q; exact PySem.W.kia_one PySem.W.kitx_float I.kIn True.intro e (fun z=>nomatch z) h
 | @lst a xs ea =>
  cases (show u = Value.ref a from rx)
  obtain ⟨_,_,n,_,h1⟩:=(show zK X.prog X.w H s.heap a (.lst xs) from I.hok a _ ea)
  exact PySem.W.kia_one PySem.W.kitx_list I.kIn ⟨_,h1,rfl⟩ e (fun z=>nomatch z) h
 | @frz a ob xs ea =>
  cases (show u = Value.ref a from rx)
  obtain ⟨_,_,_,n,_,h1⟩:=(show zK X.prog X.w H s.heap a (.frz ob (.lst xs)) from I.hok a _ ea)
  exact PySem.W.kia_one PySem.W.kitx_list I.kIn ⟨_,h1,rfl⟩ e (fun z=>nomatch z) h
 | @tup a xs ea =>
  cases (show u = Value.ref a from rx)
  obtain ⟨_,_,_,p⟩:=(show zK X.prog X.w H s.heap a (.tup xs) from I.hok a _ ea)
  obtain ⟨o,h1,h2,_⟩:=p
  exact PySem.W.kia_one PySem.W.kitx_tuple I.kIn ⟨o,h1,h2⟩ e (fun z=>nomatch z) h
 | @dK a kvs ea =>
  cases (show u = Value.ref a from rx)
  obtain ⟨_,_,vs,_,p⟩:=(show zK X.prog X.w H s.heap a (.dK kvs) from I.hok a _ ea)
  obtain ⟨o,es,ep,h1,h2,_⟩:=p
  exact PySem.W.kia_one PySem.W.kitx_dict I.kIn ⟨o,h1,h2.1⟩ e (fun z=>nomatch z) h
 | @dT a kvs ea =>
  cases (show u = Value.ref a from rx)
  obtain ⟨_,_,xs,_,o,es,ep,h1,h2,_⟩:=(show zK X.prog X.w H s.heap a (.dT kvs) from I.hok a _ ea)
  exact PySem.W.kia_one PySem.W.kitx_dict I.kIn ⟨o,h1,h2.1⟩ e (fun z=>nomatch z) h
 | @ins a C dx fs ea cl ha hn htk hm =>
  cases (show u = Value.ref a from rx)
  obtain ⟨mA,O,_⟩:=X4 I.hok ea
  obtain ⟨od,J,_⟩:=O.look
  exact PySem.W.kia_one (PySem.W.kitx_own (cl.get _) cl.hd ha hn htk hm) I.kIn J e (fun z=>nomatch z) h
end
end L2
namespace L2
open PySem PySem.Spec PyProof.Rows
structure Room (k:Nat) (A:Around):Prop where
 hd:A.handled = none
 dp:A.depth + 3 * k + 5 < recursionLimit
 un:A.units + 16 * k + 200 < cLine
 gd:A.guards = some []
theorem Room.mono {j k:Nat} {A:Around} (r:Room k A) (h:j <= k):Room j A:=⟨r.hd,by have:=r.dp; omega,by have:=r.un; omega,r.gd⟩
theorem Room.deeper {k:Nat} {A:Around} (r:Room (k + 1) A) (env:Env):Room k (A.deeper env) :=
 ⟨r.hd,by have:=r.dp; show A.depth + 1 + 3 * k + 5 < _; omega,by have:=r.un; show A.units + 3 + 16 * k + 200 < _; omega,r.gd⟩
theorem Room.in1 {k:Nat} {A:Around} (r:Room (k + 1) A):Room k A.in1 :=
 ⟨r.hd,by have:=r.dp; show A.depth + 3 * k + 5 < _; omega,by have:=r.un; show A.units + 1 + 16 * k + 200 < _; omega,r.gd⟩
theorem Room.depth {k:Nat} {A:Around} (r:Room k A):A.depth < recursionLimit:=by have:=r.dp; omega
theorem Room.units {k:Nat} {A:Around} (r:Room k A):A.units + 64 < cLine:=by have:=r.un; omega
theorem Room.units0 {k:Nat} {A:Around} (r:Room k A):A.units < cLine:=by have:=r.un; omega
def tNil:TA:=fun _ H Q=>Q [] H
def j7 (ta:TE) (tr:TA):TA:=fun σ H Q=>ta σ H fun x H1=>tr σ H1 fun xs H2=>Q (x :: xs) H2
section
variable {X:Cx} {e:Expr} {es:List Expr} {te:TE} {t:TA} {pos:Pos}
theorem zb:PA X [] tNil:=fun _ _ _ _ H Q I h=>Calls.spliced_nil ⟨[],H,I,.nil,h⟩
theorem za (ha:PE X e te) (hr:PA X es t) (hs:starEach (e :: es) X.env = (false,eval e X.env) :: starEach es X.env:=by rfl):PA X (e :: es) (j7 te t):=by
 intro pos pins s σ H Q I h
 rw [hs]
 show wpAny _ _ (spliced ((false,eval e X.env) :: backTo pos (starEach es X.env))) _ _ s
 refine Calls.spliced_cons (thn (ha pins s σ H _ I h) fun u s1 ⟨x,H1,I1,r1,q1⟩=>?_)
 exact thn (hr pos pins s1 σ H1 _ I1 q1) fun us s2 ⟨xs,H2,I2,r2,q2⟩=>⟨x :: xs,H2,I2,.cons r1 r2,q2⟩
def tTup (t:TA):TE:=fun σ H Q=>t σ H fun xs H1=>xs.length <= sizeLine /\ ∀ p,H1 p = none -> Q (.ref p) (upd H1 p (.tup xs))
def tLst (t:TA):TE:=fun σ H Q=>t σ H fun xs H1=>xs.length <= sizeLine /\ ∀ p,H1 p = none -> Q (.ref p) (upd H1 p (.lst xs))
theorem yq {x1} (h:PA X es t):PE X (.Tuple es x1 pos) (tTup t):=by
 intro pins s σ H Q I hq
 refine wpAny_Tuple_spliced (thn (h pos pins s σ H _ I hq) fun us s1 ⟨xs,H1,I1,r,z,q⟩=>⟨by rw [← r.length]; exact z,?_⟩)
 have hf:H1 s1.heap.objs.size = none:=I1.hok.fresh (Nat.le_refl _)
 refine ⟨.ref s1.heap.objs.size,upd H1 s1.heap.objs.size (.tup xs),I1.laid (t':=s1.toks) (fun b u e=>Heap.get?_push_of_some _ e) (Nat.le_refl _) ?_,rfl,q _ hf⟩
 exact ⟨z,us,r,⟨_,Heap.get?_push_size _ rfl,rfl,_,rfl⟩⟩
theorem xE (h:PA X es t):PE X (.List es pos) (tLst t):=by
 intro pins s σ H Q I hq
 refine wpAny_List_spliced (thn (h pos pins s σ H _ I hq) fun us s1 ⟨xs,H1,I1,r,z,q⟩=>⟨by rw [← r.length]; exact z,?_⟩)
 have hf:H1 s1.heap.objs.size = none:=I1.hok.fresh (Nat.le_refl _)
 refine ⟨.ref s1.heap.objs.size,upd H1 s1.heap.objs.size (.lst xs),I1.laid (t':=s1.toks) (fun b u e=>Heap.get?_push_of_some _ e) (Nat.le_refl _) ?_,rfl,q _ hf⟩
 exact ⟨z,us,0,r,Heap.get?_push_size _ rfl⟩
end
abbrev Sp:=List V -> Hp -> VK -> XK -> Prop
abbrev CXT:=List Env -> Hp -> Shared -> XK -> Value -> Shared -> Prop
structure Env0 (P:Program) (w:World) (K:FG7) (mg:Str -> Option Value) (base:Heap) (A:Around) (outer:List Env) (s:Shared) (H:Hp):Prop where
 frames:A.frames = some outer
 mod:Mod K mg base
 bs:∀ b o,base.get? b = some o -> s.heap.get? b = some o /\ H b = none
 bsz:base.objs.size <= s.heap.objs.size
 funs:s.heap.FunFrames base outer
 frf:∀ b ∈ frs outer,H b = none
 hok:HOk P w H s.heap
 bare:AllBare s.gens
def CE (outer:List Env) (P:Program) (w:World) (H:Hp) (s:Shared) (Q:VK) (u:Value) (s':Shared):Prop :=
 ∃ v H',s'.os = s.os /\ AllBare s'.gens /\ Un (frs outer) [] H H' s.heap s'.heap /\ HOk P w H' s'.heap /\ RelV v u /\ Q v H'
def CR (CX:CXT) (outer:List Env) (P:Program) (w:World) (H:Hp) (s:Shared) (Q:VK) (E:XK) (r:Result) (s':Shared):Prop :=
 match r with
 | .ok (.ret u)=>CE outer P w H s Q u s'
 | .ok _=>False
 | .error e=>CX outer H s E e s'
structure FnOk (P:Program) (w:World) (K:FG7) (mg:Str -> Option Value) (base:Heap) (CX:CXT) (k:Nat) (f:Addr) (fd:FuncData) (ps:List Str) (sp:Sp):Prop where
 len:∀ vs H Q E,sp vs H Q E -> vs.length = ps.length
 run:∀ (A:Around) (outer:List Env) (s:Shared) (H:Hp) (args:Args) (us:List Value) (vs:List V) (Q:VK) (E:XK),Room k A -> Env0 P w K mg base A outer s H -> BindsTo s fd args (ps.zip us) -> Vals vs us -> sp vs H Q E →
  codeAny (model P w) A (.call (.ref f) args) (CR CX outer P w H s Q E) s
theorem FnOk.mono {P:Program} {w:World} {K:FG7} {mg:Str -> Option Value} {base:Heap} {CX:CXT} {j k:Nat} {f:Addr} {fd:FuncData} {ps:List Str} {sp:Sp} (F:FnOk P w K mg base CX j f fd ps sp) (h:j <= k) :
  FnOk P w K mg base CX k f fd ps sp:=⟨F.len,fun A outer s H args us vs Q E hr=>F.run A outer s H args us vs Q E (hr.mono h)⟩
theorem FnOk.imp {P:Program} {w:World} {K:FG7} {mg:Str -> Option Value} {base:Heap} {CX:CXT} {k:Nat} {f:Addr} {fd:FuncData} {ps:List Str} {sp sp':Sp} (F:FnOk P w K mg base CX k f fd ps sp)
  (h:∀ vs H Q E,sp' vs H Q E -> sp vs H Q E):FnOk P w K mg base CX k f fd ps sp' :=
 ⟨fun vs H Q E q=>F.len vs H Q E (h _ _ _ _ q),fun A outer s H args us vs Q E hr he hb hv hs=>F.run A outer s H args us vs Q E hr he hb hv (h _ _ _ _ hs)⟩
theorem Env0.in1 {P:Program} {w:World} {K:FG7} {mg:Str -> Option Value} {base:Heap} {A:Around} {outer:List Env} {s:Shared} {H:Hp} (e:Env0 P w K mg base A outer s H) :
  Env0 P w K mg base A.in1 outer s H:=⟨e.frames,e.mod,e.bs,e.bsz,e.funs,e.frf,e.hok,e.bare⟩
section
variable {X:Cx} {pins:List (Addr × Obj)} {σ:St} {H:Hp} {s s':Shared}
theorem Inv.env0 (I:Inv X pins σ H s):Env0 X.prog X.w X.K X.mg X.base X.A X.stack s H :=
 ⟨I.ok.frames,I.ok.mod,I.bs,Nat.le_trans I.ok.bsz I.sz,I.stack,I.stkFree,I.hok,I.bare⟩
theorem Inv.after {Q:VK} {u:Value} (I:Inv X pins σ H s) (h:CE X.stack X.prog X.w H s Q u s'):EP X pins σ Q u s':=by
 obtain ⟨v,H',os,bare,un,hok,r,q⟩:=h
 obtain ⟨hh,g,d,t,os'⟩:=s'
 obtain rfl:os' = s.os:=os
 exact ⟨v,H',I.call (h':=hh) (g':=g) (d':=d) (t':=t) (ch:=[]) un hok bare (fun b z=>absurd z (by simp)),r,q⟩
end
def W0 (sp:Sp) (dvs:List V) (E:XK) (t:TA):TE:=fun σ H Q=>t σ H fun vs H1=>sp (vs ++ dvs) H1 Q E
def wZ (K:FG7) (fd:FuncData) (ps:List Str) (ds:List Value):Prop :=
 ∀ (s:Shared) (us:List Value),K.In s.heap -> (us ++ ds).length = ps.length -> BindsTo s fd ⟨us,[]⟩ (ps.zip (us ++ ds))
theorem wZ.all {K:FG7} {fd:FuncData} {ps:List Str} (h:∀ us:List Value,us.length = ps.length -> bindArgs fd ⟨us,[]⟩ = pure (ps.zip us)):wZ K fd ps []:=fun s us _ hl=>by
 rw [List.append_nil] at hl ⊢
 exact .of_eq (h us hl)
def j8 (CX:CXT) (X:Cx) (E:XK):Prop:=∀ (pins:List (Addr × Obj)) (σ:St) (H:Hp) (s:Shared) (e:Value) (s':Shared),Inv X pins σ H s -> CX X.stack H s E e s' -> X.xe e s'
section
variable {X:Cx} {CX:CXT} {k:Nat} {f C:Addr} {fd:FuncData} {ps:List Str} {sp:Sp} {dvs:List V} {ds:List Value} {E:XK} {x m:Str} {p pos apos:Pos} {e o:Expr} {es:List Expr} {ta:TE} {t:TA}
theorem W3 {pins:List (Addr × Obj)} {σ:St} {H:Hp} {s:Shared} {Q:VK} {us:List Value} {vs:List V} (F:FnOk X.prog X.w X.K X.mg X.base CX k f fd ps sp) (hr:Room k X.A) (hb:wZ X.K fd ps ds) (hd:Vals dvs ds) (hx:j8 CX X E)
  (I:Inv X pins σ H s) (r:Vals vs us) (h:sp (vs ++ dvs) H Q E):wpAny (model X.prog X.w) X.A (call (.ref f) us) (EP X pins σ Q) X.xe s:=by
 have r2:Vals (vs ++ dvs) (us ++ ds):=r.append hd
 have hl:(us ++ ds).length = ps.length:=by rw [← r2.length]; exact F.len _ _ _ _ h
 refine wpAny_call (codeAny_mono (F.run X.A X.stack s H ⟨us,[]⟩ (us ++ ds) (vs ++ dvs) Q E hr I.env0 (hb s us I.kIn hl) r2 h) fun r s' hq=>?_)
 cases r with
 | error e=>exact hx pins σ H s e s' I hq
 | ok fl =>
  cases fl with
  | ret u=>exact I.after hq
  | next=>exact False.elim hq
  | brk=>exact False.elim hq
  | cont=>exact False.elim hq
theorem X5 (F:FnOk X.prog X.w X.K X.mg X.base CX k f fd ps sp) (hr:Room k X.A) (hg:Gl X x) (hm:X.mg x = some (.ref f)) (hk:PySem.W.keepIn X.K (.ref f) = true) (hb:wZ X.K fd ps ds) (hd:Vals dvs ds) (hx:j8 CX X E)
  (ha:PA X (e :: es) t) (hdb:(x == ("__debug__":Str)) = false:=by decide) (he:starEach (e :: es) X.env = (false,eval e X.env) :: starEach es X.env:=by rfl) (hpl:(backTo pos (starEach es X.env)).any (·.1) = false:=by rfl) :
  PE X (.Call (.Name x p) (e :: es) [] pos) (W0 sp dvs E t):=by
 intro pins s σ H Q I h
 refine wpAny_Call_Name_kw (jS I hg hm ?_ hdb)
 refine PySem.W.callWith_K (h₀:=X.base) I.ok.mod.kin hk (thn (ha pos pins s σ H _ I h) fun us s1 ⟨vs,H1,I1,r,q⟩=>⟨I1.kIn,?_⟩) he hpl
 exact W3 F hr hb hd hx I1 r q
structure Mk (K:FG7) (C f:Addr):Prop where
 makes:PySem.W.makesIn K C = true
 init:PySem.W.findIn K (.ref C) "__init__" = some (some (.ref f))
 fn:PySem.W.isFn K (.ref f) = true
 kp:PySem.W.keepIn K (.ref C) = true
end
section
variable {X:Cx} {CX:CXT} {k:Nat} {f C:Addr} {fd:FuncData} {ps ks:List Str} {sp:Sp} {E:XK} {x m:Str} {p pos apos kpos:Pos} {e o:Expr} {es:List Expr} {kws:List Keyword} {te ta:TE} {t tk:TA} {nm:Option Str}
structure KBinds (K:FG7) (fd:FuncData) (ps ks:List Str) (g:List Value -> List Value -> List Value) (gV:List V -> List V -> List V):Prop where
 to:∀ (s:Shared) (us ws:List Value),K.In s.heap -> (g us ws).length = ps.length -> BindsTo s fd ⟨us,ks.zip ws⟩ (ps.zip (g us ws))
 rel:∀ {vs:List V} {us:List Value} {zs:List V} {ws:List Value},Vals vs us -> Vals zs ws -> Vals (gV vs zs) (g us ws)
variable {g:List Value -> List Value -> List Value} {gV:List V -> List V -> List V}
end
structure FnScope (N P:List Str) (sc:Scope):Prop where
 kind:sc.kind = .function
 co:sc.isCoroutine = false
 gen:sc.isGenerator = false
 nd:N.Nodup
 pre:N.take P.length = P
 par:∀ x ∈ P,sc.names.lookup x = some .local \/ sc.names.lookup x = some .cell
 nofree:∀ y ∈ sc.names,y.2 ≠ .free
theorem uY {kindOf:Str -> Option NameKind} {x:Str}:∀ {binds:List (Str × Value)} {m:Str -> Option Value},(∀ v,(x,v) ∉ binds) -> bindL kindOf binds m x = m x
 | [],_,_=>rfl
 | (n,v) :: r,m,h=>by
  unfold bindL
  rw [uY fun w hw=>h w (List.mem_cons_of_mem _ hw)]
  split
  ·have:x ≠ n:=by rintro rfl; exact h v List.mem_cons_self
   simp [this]
  ·rfl
theorem uZ {kindOf:Str -> Option NameKind} {x:Str}:∀ {binds:List (Str × Value)} {m:Str -> Option Value},(∀ v,(x,v) ∉ binds) -> bindC kindOf binds m x = m x
 | [],_,_=>rfl
 | (n,v) :: r,m,h=>by
  unfold bindC
  rw [uZ fun w hw=>h w (List.mem_cons_of_mem _ hw)]
  split
  ·rfl
  ·have:x ≠ n:=by rintro rfl; exact h v List.mem_cons_self
   simp [this]
theorem u7 {kindOf:Str -> Option NameKind} {x:Str} {v:Value}:∀ {P:List Str} {vs:List Value} {i:Nat} {m:Str -> Option Value},P.Nodup -> P[i]? = some x -> vs[i]? = some v -> kindOf x = some .local →
  bindL kindOf (P.zip vs) m x = some v
 | [],_,_,_,_,h,_,_=>by simp at h
 | _ :: _,[],_,_,_,_,h,_=>by simp at h
 | p :: P,w :: vs,0,m,nd,h1,h2,hk=>by
  simp at h1 h2; subst h1; subst h2
  show bindL kindOf ((p,w) :: P.zip vs) m p = _
  unfold bindL
  rw [uY fun v hv=>(List.nodup_cons.mp nd).1 (List.of_mem_zip hv).1,if_pos hk]
  simp
 | p :: P,w :: vs,i + 1,m,nd,h1,h2,hk=>by
  show bindL kindOf ((p,w) :: P.zip vs) m x = _
  unfold bindL
  exact u7 (i:=i) (List.nodup_cons.mp nd).2 (by simpa using h1) (by simpa using h2) hk
theorem tf {kindOf:Str -> Option NameKind} {x:Str} {v:Value}:∀ {P:List Str} {vs:List Value} {i:Nat} {m:Str -> Option Value},P.Nodup -> P[i]? = some x -> vs[i]? = some v -> kindOf x ≠ some .local →
  bindC kindOf (P.zip vs) m x = some v
 | [],_,_,_,_,h,_,_=>by simp at h
 | _ :: _,[],_,_,_,_,h,_=>by simp at h
 | p :: P,w :: vs,0,m,nd,h1,h2,hk=>by
  simp at h1 h2; subst h1; subst h2
  show bindC kindOf ((p,w) :: P.zip vs) m p = _
  unfold bindC
  rw [uZ fun v hv=>(List.nodup_cons.mp nd).1 (List.of_mem_zip hv).1,if_neg hk]
  simp
 | p :: P,w :: vs,i + 1,m,nd,h1,h2,hk=>by
  show bindC kindOf ((p,w) :: P.zip vs) m x = _
  unfold bindC
  exact tf (i:=i) (List.nodup_cons.mp nd).2 (by simpa using h1) (by simpa using h2) hk
def tj (N:List Str) (vs:List V):St:=vs.map some ++ List.replicate (N.length - vs.length) none
def cxOf (CX:CXT) (P:Program) (w:World) (K:FG7) (mg:Str -> Option Value) (base:Heap) (N:List Str) (qual:Str) (scope:Scope) (f:Addr) (cd:Value) (A:Around) (outer:List Env) (s:Shared) (H:Hp) (E:XK):Cx where
 prog:=P
 w:=w
 K:=K
 mg:=mg
 base:=base
 A:=A.deeper (envOfC qual scope s.heap.objs.size f cd)
 N:=N
 s₀:=s
 H₀:=H
 env:=envOfC qual scope s.heap.objs.size f cd
 outer:=outer
 stack:=envOfC qual scope s.heap.objs.size f cd :: outer
 ex:=[]
 calm:=true
 fn:=fun _=>true
 pn:=[]
 xe:=fun e s'=>wpAny (model P w) (A.deeper (envOfC qual scope s.heap.objs.size f cd)) (leaving (envOfC qual scope s.heap.objs.size f cd) e) (fun _ s''=>CX outer H s E e s'') (fun e' s''=>CX outer H s E e' s'') s'
theorem qb {sc:Scope} {n:Nat} {x:Str} (h:sc.names.lookup x = some .cell):∃ c,(cellsFrom n sc.names []).lookup x = some c:=by
 have q:=PySem.W.cellsFrom_some sc.names n [] (.inl h)
 exact Option.isSome_iff_exists.mp q
theorem j9 {CX:CXT} {P:Program} {w:World} {K:FG7} {mg:Str -> Option Value} {base:Heap} {N ps:List Str} {qual:Str} {scope:Scope} {f:Addr} {cd:Value} {A:Around} {outer:List Env} {s s1:Shared} {H:Hp} {E:XK} {us:List Value} {vs:List V}
  (S:FnScope N ps scope) (hd:A.handled = none) (e0:Env0 P w K mg base A outer s H) (hl:vs.length = ps.length) (r:Vals vs us)
  (x:InCallC s s.heap.objs.size (bindL (envOfC qual scope s.heap.objs.size f cd).kindOf (ps.zip us) fun _=>none) (cellsFrom (s.heap.objs.size + 1) scope.names []) (bindC (envOfC qual scope s.heap.objs.size f cd).kindOf (ps.zip us) fun _=>none) s1) :
  Inv (cxOf CX P w K mg base N qual scope f cd A outer s H E) [] (tj N vs) H s1:=by
 have hpl:ps.length <= N.length:=by have:=congrArg List.length S.pre; rw [List.length_take] at this; omega
 obtain ⟨h1,tk,rfl,hk⟩:=x.done
 have noA:∀ b:Addr,b ∉ (cxOf CX P w K mg base N qual scope f cd A outer s H E).ex:=fun b z=>absurd (show b ∈ ([]:List Addr) from z) (by simp)
 refine ⟨⟨e0.mod,S.kind,rfl,rfl,Nat.le_refl _,fun y z c h1 h2=>?_,fun y hy=>?_,fun y c _ h=>?_,fun _=>hd,Around.frames_deeper e0.frames,.inr ⟨rfl,rfl⟩,fun b z=>absurd z (noA b),e0.bs,e0.bsz,fun b _ _=>noA b,fun b z=>absurd z (noA b),e0.funs,e0.frf⟩,
  rfl,e0.bare,Un.kept hk,⟨_,x.toInCall.ns,fun i y v h1 h2 h3=>?_⟩,fun y c h=>⟨_,x.cell y c h⟩,e0.hok.fresh (Nat.le_refl _),fun y c h=>?_,fun p hp=>absurd (show p ∈ ([]:List (Addr × Obj)) from hp) (by simp),e0.hok.kept hk,?_⟩
 ·exact name_of_addr x.apart (PySem.mem_of_lookup h1) (PySem.mem_of_lookup h2)
 ·have hy:scope.names.lookup y = some .cell \/ scope.names.lookup y = some .free:=hy
  rcases hy with hy | hy
  ·exact qb hy
  ·exact absurd rfl (S.nofree _ (PySem.mem_of_lookup hy))
 ·exact Nat.le_of_lt (x.above y c (PySem.mem_of_lookup h))
 ·have hi:i < vs.length:=by
   unfold tj at h2
   by_cases hi:i < vs.length
   ·exact hi
   ·rw [List.getElem?_append_right (by simpa using hi)] at h2
    rw [List.getElem?_replicate] at h2
    split at h2 <;> cases h2
  have ha:vs[i]? = some v:=by
   unfold tj at h2
   rw [List.getElem?_append_left (by simpa using hi),List.getElem?_map] at h2
   cases e:vs[i]? with
   | none=>rw [e] at h2; cases h2
   | some a=>rw [e] at h2; cases h2; rfl
  obtain ⟨u,hu,rv⟩:=r.get ha
  have hp:ps[i]? = some y:=by
   rw [← S.pre,List.getElem?_take_of_lt (by omega)]; exact h1
  have ndP:ps.Nodup:=by rw [← S.pre]; exact S.nd.sublist (List.take_sublist _ _)
  refine ⟨u,rv,?_⟩
  rcases S.par y (List.mem_of_getElem? hp) with k | k
  ·exact .inl ⟨k,u7 ndP hp hu k⟩
  ·obtain ⟨c,e⟩:=qb (n:=s.heap.objs.size + 1) k
   refine .inr ⟨.inl k,c,e,?_⟩
   have q:=x.cell y c e
   rw [tf ndP hp hu (by show scope.names.lookup y ≠ _; rw [k]; decide)] at q
   exact q
 ·exact e0.hok.fresh (Nat.le_of_lt (x.above y c (PySem.mem_of_lookup h)))
 ·unfold tj
  show _ = N.length
  rw [List.length_append,List.length_map,List.length_replicate]
  omega
theorem V0 {CX:CXT} {P:Program} {w:World} {K:FG7} {mg:Str -> Option Value} {base:Heap} {k:Nat} {f:Addr} {name qual:Str} {params:Arguments} {body:List Stmt} {scope:Scope} {dV kV doc pm cdv ct oc:Value} {an od:Option Addr}
  {osl:Array (Option Value)} {N ps:List Str} {sp:Sp} (lk:K.lookup f = some ⟨oc,od,.func (PySem.W.fnOf name qual params body scope dV kV doc pm an cdv ct),osl⟩) (hcd:PySem.W.codeIn K cdv qual = true) (S:FnScope N ps scope)
  (len:∀ vs H Q E,sp vs H Q E -> vs.length = ps.length)
  (hbody:∀ (A:Around) (outer:List Env) (s:Shared) (H:Hp) (vs:List V) (Q:VK) (E:XK),Room k (A.deeper (envOfC qual scope s.heap.objs.size f cdv)) -> sp vs H Q E →
   ∃ t,PSs (cxOf CX P w K mg base N qual scope f cdv A outer s H E) body t /\ t { nx:=fun _ H'=>Q .non H',rt:=Q } (tj N vs) H) :
  FnOk P w K mg base CX (k + 1) f (PySem.W.fnOf name qual params body scope dV kV doc pm an cdv ct) ps sp:=by
 refine ⟨len,fun A outer s H args us vs Q E hr e0 hb r hsp=>?_⟩
 have hl:=len _ _ _ _ hsp
 have KX:K.In s.heap:=e0.mod.kin.keeps fun b o e=>(e0.bs b o e).1
 have lim:s.heap.NoLimit:=e0.mod.nolimit.keeps fun b o e=>(e0.bs b o e).1
 have hkind:∀ y ∈ ps.zip us,scope.names.lookup y.1 = some .local \/ (scope.names.lookup y.1 = some .cell /\ ((cellsFrom (s.heap.objs.size + 1) scope.names []).lookup y.1).isSome = true):=fun ⟨n,v⟩ hy=>by
  rcases S.par n (List.of_mem_zip hy).1 with q | q
  ·exact .inl q
  ·exact .inr ⟨q,PySem.W.cellsFrom_some _ _ _ (.inl q)⟩
 refine codeAny_call_function hr.depth (KX _ _ lk) rfl S.co S.gen rfl (PySem.W.codeRec_of KX hcd) (hb _ _ _ _ ?_)
 refine wpAny_newFunctionEnv_cells S.kind hkind fun env he s1 x=>?_
 subst he
 refine ⟨lim.keeps x.toInCall.keep,codeAny_func ?_⟩
 obtain ⟨t,ht,hq⟩:=hbody A outer s H vs Q E (hr.deeper _) hsp
 have I:Inv (cxOf CX P w K mg base N qual scope f cdv A outer s H E) [] (tj N vs) H s1:=j9 S hr.hd e0 hl r x
 refine wpAny_mono (ht [] s1 (tj N vs) H _ I hq) (fun fl s' hs=>?_) fun e s' hs=>hs
 have fin:∀ {σ':St} {H':Hp} {v:V} {u:Value},Inv (cxOf CX P w K mg base N qual scope f cdv A outer s H E) [] σ' H' s' -> RelV v u -> Q v H' -> CE outer P w H s Q u s' :=
  fun {σ' H' v u} J rv q=>⟨v,H',J.os,J.bare,J.base,J.hok,rv,q⟩
 cases fl with
 | ret u =>
  obtain ⟨v,σ',H',J,rv,q⟩:=hs
  exact fin J rv q
 | next =>
  obtain ⟨σ',H',J,q⟩:=hs
  exact fin (v:=V.non) (u:=Value.none) J rfl q
 | brk =>
  obtain ⟨_,_,_,q⟩:=hs
  exact False.elim q
 | cont =>
  obtain ⟨_,_,_,q⟩:=hs
  exact False.elim q
end L2
namespace L2
open PySem PySem.Spec PyProof.Rows
section
variable {X:Cx} {x:Str} {p pos:Pos} {e:Expr} {es:List Expr} {t:TA} {id T:String} {r:List V -> Hp -> VK -> Prop}
def tCB (r:List V -> Hp -> VK -> Prop) (t:TA):TE:=fun σ H Q=>t σ H fun vs H1=>r vs H1 Q
theorem zp (hc:yI X (.builtin id) r) (hg:Gl X x) (hm:X.mg x = none) (hv:bootBuiltins x = some (.builtin id)) (ha:PA X (e :: es) t) (hn:x ≠ "__name__":=by decide) (hdb:(x == ("__debug__":Str)) = false:=by decide)
  (he:starEach (e :: es) X.env = (false,eval e X.env) :: starEach es X.env:=by rfl) (hpl:(backTo pos (starEach es X.env)).any (·.1) = false:=by rfl):PE X (.Call (.Name x p) (e :: es) [] pos) (tCB r t):=by
 intro pins s σ H Q I h
 refine wpAny_Call_Name_kw (vZ I hg hm hv ?_ hn hdb)
 exact PyProof.Rows.callWith_builtin1 (thn (ha pos pins s σ H _ I h) fun us s1 ⟨vs,H1,I1,r1,q1⟩=>hc pins s1 σ H1 vs us Q I1 r1 q1) he hpl
theorem zF (hc:yI X (.type T) r) (hg:Gl X x) (hm:X.mg x = none) (hv:bootBuiltins x = some (.type T)) (ha:PA X (e :: es) t) (hn:x ≠ "__name__":=by decide) (hdb:(x == ("__debug__":Str)) = false:=by decide)
  (he:starEach (e :: es) X.env = (false,eval e X.env) :: starEach es X.env:=by rfl) (hpl:(backTo pos (starEach es X.env)).any (·.1) = false:=by rfl):PE X (.Call (.Name x p) (e :: es) [] pos) (tCB r t):=by
 intro pins s σ H Q I h
 refine wpAny_Call_Name_kw (vZ I hg hm hv ?_ hn hdb)
 exact PyProof.Rows.callWith_type1 (thn (ha pos pins s σ H _ I h) fun us s1 ⟨vs,H1,I1,r1,q1⟩=>hc pins s1 σ H1 vs us Q I1 r1 q1) he hpl
end
end L2
namespace HT
open PySem PyProof.Rows
end HT
namespace L2
open PySem PySem.Spec PyProof.Rows
abbrev TO:=St -> Hp -> (Option Int -> Hp -> Prop) -> Prop
section
variable {X:Cx} {e:Expr} {te:TE} {lo hi:Option Expr} {tl th:TO} {pos p2:Pos}
def SlR (X:Cx) (r:V -> Option Int -> Option Int -> Hp -> VK -> Prop):Prop :=
 ∀ (pins:List (Addr × Obj)) (s:Shared) (σ:St) (H:Hp) (x:V) (v vl vu:Value) (lo hi:Option Int) (sl:Addr) (Q:VK),Inv X pins σ H s -> RelV x v -> s.heap.IsSliceOf sl vl vu .none -> IsPart vl lo -> IsPart vu hi -> r x lo hi H Q →
  ∃ T id,typeLookup (.type T) "__getitem__" = pure (some (.builtin id)) /\ s.TypeIs v T /\ wpAny (model X.prog X.w) X.A (getItem v (.ref sl)) (EP X pins σ Q) X.xe s
theorem SlR.or {r r':V -> Option Int -> Option Int -> Hp -> VK -> Prop} (h:SlR X r) (h':SlR X r'):SlR X (fun x lo hi H Q=>r x lo hi H Q \/ r' x lo hi H Q):=by
 intro pins s σ H x v vl vu lo hi sl Q I rx hs pl pu q
 rcases q with q | q
 ·exact h pins s σ H x v vl vu lo hi sl Q I rx hs pl pu q
 ·exact h' pins s σ H x v vl vu lo hi sl Q I rx hs pl pu q
theorem Vals.nil_iff {xs:List V} {us:List Value} (r:Vals xs us):us = [] ↔ xs = []:=by
 cases r with
 | nil=>simp
 | cons _ _=>simp
end
end L2
namespace L2
open PySem PySem.Spec PyProof.Rows
def ixN (n:Nat) (i:Int):Option Nat:=if 0 <= i then (if i < n then some i.toNat else none) else if -(n:Int) <= i then some (i + n).toNat else none
def atI {α:Type} (xs:List α) (i:Int):Option α:=(ixN xs.length i).bind fun j=>xs[j]?
theorem Za {n:Nat} {i:Int} {j:Nat} (h:ixN n i = some j):seqIndex? i n = some j /\ j < n /\ -(n:Int) <= i /\ i < n:=by
 unfold ixN at h
 by_cases h0:0 <= i
 ·rw [if_pos h0] at h
  by_cases h1:i < n
  ·rw [if_pos h1] at h
   have e:i.toNat = j:=Option.some.inj h
   exact ⟨by rw [seqIndex_of h0 h1,e],by omega,by omega,h1⟩
  ·rw [if_neg h1] at h; cases h
 ·rw [if_neg h0] at h
  by_cases h1:-(n:Int) <= i
  ·rw [if_pos h1] at h
   have e:(i + n).toNat = j:=Option.some.inj h
   exact ⟨by rw [seqIndex_neg (by omega) h1,e],by omega,h1,by omega⟩
  ·rw [if_neg h1] at h; cases h
theorem Zb {α:Type} {xs:List α} {i:Int} {v:α} (h:atI xs i = some v):∃ j,seqIndex? i xs.length = some j /\ xs[j]? = some v /\ j < xs.length /\ -(xs.length:Int) <= i /\ i < xs.length:=by
 unfold atI at h
 cases e:ixN xs.length i with
 | none=>rw [e] at h; cases h
 | some j =>
  rw [e] at h
  obtain ⟨h1,h2,h3,h4⟩:=Za e
  exact ⟨j,h1,h,h2,h3,h4⟩
theorem ut {α:Type} {xs:List α} {j:Nat} {v:α} (h:xs[j]? = some v):atI xs (j:Int) = some v:=by
 have hj:j < xs.length:=(List.getElem?_eq_some_iff.mp h).1
 have e:ixN xs.length (j:Int) = some j:=by
  unfold ixN
  rw [if_pos (by omega),if_pos (by omega)]; simp
 unfold atI; rw [e]; exact h
def X6 (b:Expr):Prop:=∀ o i,subscripted b false o i = operate [o,i] (getItem o i)
def IxR (X:Cx) (r:R2):Prop :=
 ∀ (value slice:Expr) (pins:List (Addr × Obj)) (s:Shared) (σ:St) (H:Hp) (x y:V) (v u:Value) (Q:VK),Inv X pins σ H s -> RelV x v -> RelV y u -> r x y H Q →
  subscripted slice false v u = operate [v,u] (getItem v u) -> wpAny (model X.prog X.w) X.A (subscriptTail value slice v u) (EP X pins σ Q) X.xe s
def MtR (X:Cx) (id:String) (r:V -> List V -> Hp -> VK -> Prop):Prop :=
 ∀ (pins:List (Addr × Obj)) (s:Shared) (σ:St) (H:Hp) (x:V) (xs:List V) (v:Value) (us:List Value) (Q:VK),Inv X pins σ H s -> RelV x v -> Vals xs us -> r x xs H Q →
  wpAny (model X.prog X.w) X.A (call (.builtin id) (v :: us)) (EP X pins σ Q) X.xe s
section
variable {X:Cx} {a b:Expr} {ta tb:TE} {pos:Pos}
theorem IxR.or {r r':R2} (h:IxR X r) (h':IxR X r'):IxR X (fun x y H Q=>r x y H Q \/ r' x y H Q):=by
 intro value slice pins s σ H x y v u Q I rx ry q hs
 rcases q with q | q
 ·exact h value slice pins s σ H x y v u Q I rx ry q hs
 ·exact h' value slice pins s σ H x y v u Q I rx ry q hs
theorem MtR.or {id:String} {r r':V -> List V -> Hp -> VK -> Prop} (h:MtR X id r) (h':MtR X id r'):MtR X id (fun x xs H Q=>r x xs H Q \/ r' x xs H Q):=by
 intro pins s σ H x xs v us Q I rx rs q
 rcases q with q | q
 ·exact h pins s σ H x xs v us Q I rx rs q
 ·exact h' pins s σ H x xs v us Q I rx rs q
theorem z7 {r:R2} (hr:IxR X r) (ha:PE X a ta) (hb:PE X b tb) (hs:X6 b):PE X (.Subscript a b pos) (tOp r ta tb):=by
 intro pins s σ H Q I h
 exact Subscript_ (binT ha hb I h fun v u s2 x y H2 I2 rx ry q=>hr a b pins s2 σ H2 x y v u Q I2 rx ry q (hs _ _))
def rIxL (K:FG7):R2:=fun x y H Q=>∃ p xs i v,x = .ref p /\ y = .int i /\ SqL K H p xs /\ atI xs i = some v /\ Q v H
def rIxT (K:FG7):R2:=fun x y H Q=>∃ p xs i v,x = .ref p /\ y = .int i /\ SqT K H p xs /\ atI xs i = some v /\ Q v H
theorem zW:IxR X (rIxL X.K):=by
 intro value slice pins s σ H x y v u Q I rx ry h hs
 obtain ⟨p,xs,i,z,rfl,rfl,hq,he,q⟩:=h
 cases rx
 obtain ⟨t,rfl⟩:=ry
 obtain ⟨its,r,pl,hz⟩:=I.list hq
 obtain ⟨j,h1,h2,h3,h4,h5⟩:=Zb he
 obtain ⟨w,ew,rw'⟩:=r.get h2
 have hl:=r.length
 have hn:=uV
 have fin:EP X pins σ Q w s:=⟨z,H,I,rw',q⟩
 by_cases h0:0 <= i
 ·have hj:i.toNat = j:=by
   rw [seqIndex_of h0 h5] at h1
   exact Option.some.inj h1
  exact item_listR pl.isList h0 (by omega) (by rw [hj]; simpa using ew) fin hs
 ·have hj:(i + (its.toArray.size:Int)).toNat = j:=by
   rw [seqIndex_neg (by omega) h4] at h1
   rw [List.size_toArray,← hl]
   exact Option.some.inj h1
  exact subscriptTail_builtinR (x:=w) pl.isList.typeIs slot_list_getitem.lookup
   (wpAny_getItem_list_neg (Q:=fun r s'=>r = w /\ EP X pins σ Q r s') pl.isList (by omega) (by rw [List.size_toArray] <;> omega) (by omega) (by rw [hj]; simpa using ew) ⟨rfl,fin⟩) hs
theorem yC:IxR X (rIxT X.K):=by
 intro value slice pins s σ H x y v u Q I rx ry h hs
 obtain ⟨p,xs,i,z,rfl,rfl,hq,he,q⟩:=h
 cases rx
 obtain ⟨t,rfl⟩:=ry
 obtain ⟨its,r,pl,hz⟩:=I.tuple hq
 obtain ⟨j,h1,h2,h3,h4,h5⟩:=Zb he
 obtain ⟨w,ew,rw'⟩:=r.get h2
 have hl:=r.length
 have hn:=uV
 have fin:EP X pins σ Q w s:=⟨z,H,I,rw',q⟩
 exact subscriptTail_builtinR (x:=w) pl.typeIs slot_tuple_getitem.lookup
  (getItem_tuple (j:=j) (Q:=fun r s'=>r = w /\ EP X pins σ Q r s') pl (by omega) (by omega) (by rw [List.size_toArray,← hl]; exact h1) (by simpa using ew) ⟨rfl,fin⟩) hs
theorem q9 (its:List Value) (n j:Nat) (u:Value):Obj.mapSeq (·.setIfInBounds j u) { cls:=.type "list",data:=.seq its.toArray n } = { cls:=.type "list",data:=.seq (its.set j u).toArray n }:=by
 simp [Obj.mapSeq]
theorem Inv.lst {pins:List (Addr × Obj)} {σ:St} {H:Hp} {s:Shared} {p:Addr} {xs:List V} (I:Inv X pins σ H s) (h:H p = some (.lst xs)) :
  ∃ (its:List Value) (n:Nat),Vals xs its /\ s.heap.get? p = some { cls:=.type "list",data:=.seq its.toArray n } /\ xs.length <= sizeLine:=by
 obtain ⟨z,its,n,r,e⟩:=I.hok p _ h
 exact ⟨its,n,r,e,z⟩
theorem Inv.lstUpd {pins:List (Addr × Obj)} {σ:St} {H:Hp} {s:Shared} {p:Addr} {xs ys:List V} {its its':List Value} {n n':Nat} {f:Obj -> Obj} (I:Inv X pins σ H s) (h:H p = some (.lst xs))
  (ho:s.heap.get? p = some { cls:=.type "list",data:=.seq its.toArray n }) (hf:f { cls:=.type "list",data:=.seq its.toArray n } = { cls:=.type "list",data:=.seq its'.toArray n' }) (r:Vals ys its') (hz:ys.length <= sizeLine) (t:Nat) :
  Inv X pins σ (upd H p (.lst ys)) { s with heap:=s.heap.update p f,toks:=t }:=by
 have e:(s.heap.update p f).get? p = some { cls:=.type "list",data:=.seq its'.toArray n' }:=by
  rw [Heap.get?_update_self f ho (by rw [hf] <;> rfl),hf]
 refine I.write (x:=p) (e:=p) (by rw [h]; trivial) (.inl rfl) (fun b u hb q=>(Heap.get?_update_other _ _ (Ne.symm hb)).trans q) ⟨_,e⟩ ?_
 exact ⟨hz,its',n',r,e⟩
def V1:V -> V -> V -> Hp -> (Hp -> Prop) -> Prop:=fun o i v H Q=>∃ p xs k j,o = .ref p /\ i = .int k /\ H p = some (.lst xs) /\ ixN xs.length k = some j /\ Q (upd H p (.lst (xs.set j v)))
theorem qc:PSet X V1:=by
 intro pins s σ H o i v ov iv u Q I ro ri rv h
 obtain ⟨p,xs,k,j,rfl,rfl,hp,hj,q⟩:=h
 cases ro
 obtain ⟨t,rfl⟩:=ri
 obtain ⟨its,n,r,ho,hz⟩:=I.lst hp
 obtain ⟨h1,h2,h3,h4⟩:=Za hj
 have hl:=r.length
 have hn:=uV
 have I':Inv X pins σ (upd H p (.lst (xs.set j v))) { s with heap:=s.heap.update p (Obj.mapSeq (·.setIfInBounds j u)) } :=
  I.lstUpd hp ho (q9 its n j u) (r.set rv j) (by rw [List.length_set]; exact hz) s.toks
 by_cases h0:0 <= k
 ·have hk:k.toNat = j:=by
   rw [seqIndex_of h0 h4] at h1
   exact Option.some.inj h1
  exact PySem.W.ki_setAt ho h0 (by omega) (by rw [List.size_toArray,← hl]; exact h4) (by rw [hk]; exact ⟨_,I',q⟩)
 ·have hk:(k + (its.toArray.size:Int)).toNat = j:=by
   rw [seqIndex_neg (by omega) h3] at h1
   rw [List.size_toArray,← hl]
   exact Option.some.inj h1
  exact PySem.W.ki_setBack ho (by omega) (by rw [List.size_toArray,← hl]; exact h3) (by omega) (by rw [hk]; exact ⟨_,I',q⟩)
def uu:V -> Bool
 | .non=>true
 | .bl _=>true
 | .int _=>true
 | .str _=>true
 | _=>false
def eqV:V -> V -> Bool
 | .non,.non=>true
 | .bl a,.bl b=>a == b
 | .bl a,.int b=>(if a then 1 else 0) == b
 | .int a,.bl b=>a == (if b then 1 else 0)
 | .int a,.int b=>a == b
 | .str a,.str b=>a == b
 | _,_=>false
theorem W4 {A:Around} {s:Shared} {y x:V} {u v:Value} (ry:RelV y u) (rx:RelV x v) (fy:uu y = true) (fx:uu x = true):SeqAt.EqAt A s u v (eqV y x):=by
 cases y with
 | non =>
  cases ry
  cases x with
  | non=>cases rx; exact SeqAt.EqAt.same _
  | bl b=>cases rx; exact SeqAt.EqAt.none_bool b
  | int b=>obtain ⟨t,rfl⟩:=rx; exact SeqAt.EqAt.none_int b t
  | str b=>obtain ⟨t,rfl⟩:=rx; exact SeqAt.EqAt.none_str b t
  | _=>exact absurd (show false = true from fx) Bool.false_ne_true
 | bl a =>
  cases ry
  cases x with
  | non=>cases rx; exact SeqAt.EqAt.bool_none a
  | bl b=>cases rx; exact SeqAt.EqAt.bool_bool a b
  | int b=>obtain ⟨t,rfl⟩:=rx; exact SeqAt.EqAt.bool_int a b t
  | str b=>obtain ⟨t,rfl⟩:=rx; exact SeqAt.EqAt.bool_str a b t
  | _=>exact absurd (show false = true from fx) Bool.false_ne_true
 | int a =>
  obtain ⟨t',rfl⟩:=ry
  cases x with
  | non=>cases rx; exact SeqAt.EqAt.int_none a t'
  | bl b=>cases rx; exact SeqAt.EqAt.int_bool a t' b
  | int b=>obtain ⟨t,rfl⟩:=rx; exact SeqAt.EqAt.int_int a t' b t
  | str b=>obtain ⟨t,rfl⟩:=rx; exact SeqAt.EqAt.int_str a t' b t
  | _=>exact absurd (show false = true from fx) Bool.false_ne_true
 | str a =>
  obtain ⟨t',rfl⟩:=ry
  cases x with
  | non=>cases rx; exact SeqAt.EqAt.str_none a t'
  | bl b=>cases rx; exact SeqAt.EqAt.str_bool a t' b
  | int b=>obtain ⟨t,rfl⟩:=rx; exact SeqAt.EqAt.str_int a t' b t
  | str b=>obtain ⟨t,rfl⟩:=rx; exact SeqAt.EqAt.str_str a t' b t
  | _=>exact absurd (show false = true from fx) Bool.false_ne_true
 | _=>exact absurd (show false = true from fy) Bool.false_ne_true
theorem zx:yI X (.builtin "len") (fun xs H Q=>∃ p ys,xs = [.ref p] /\ (SqL X.K H p ys \/ SqT X.K H p ys) /\ Q (.int ys.length) H):=by
 intro pins s σ H xs us Q I r h
 obtain ⟨p,ys,rfl,hq,q⟩:=h
 obtain ⟨u,rfl,rx⟩:=wL r
 cases rx
 have hn:=uV
 rcases hq with hq | hq
 ·obtain ⟨its,r',pl,hz⟩:=I.list hq
  have hlen:=r'.length
  exact Calls.call_len_list pl.isList (by simp only [List.size_toArray] <;> omega) ⟨.int ys.length,H,I.tok _,⟨s.toks + 1,by rw [List.size_toArray,hlen]⟩,q⟩
 ·obtain ⟨its,r',pl,hz⟩:=I.tuple hq
  have hlen:=r'.length
  exact len_tuple pl (by simp only [List.size_toArray] <;> omega) ⟨.int ys.length,H,I.tok _,⟨s.toks + 1,by rw [List.size_toArray,hlen]⟩,q⟩
theorem yI.or {f:Value} {r r':List V -> Hp -> VK -> Prop} (h:yI X f r) (h':yI X f r'):yI X f (fun xs H Q=>r xs H Q \/ r' xs H Q):=by
 intro pins s σ H xs us Q I rs q
 rcases q with q | q
 ·exact h pins s σ H xs us Q I rs q
 ·exact h' pins s σ H xs us Q I rs q
theorem zy:yI X (.type "tuple") (fun xs H Q=>∃ p ys,xs = [.ref p] /\ ((SqL X.K H p ys /\ ∀ l,H l = none -> Q (.ref l) (upd H l (.tup ys))) \/ (SqT X.K H p ys /\ Q (.ref p) H))):=by
 intro pins s σ H xs us Q I r h
 obtain ⟨p,ys,rfl,h⟩:=h
 obtain ⟨u,rfl,rx⟩:=wL r
 cases rx
 rcases h with ⟨hq,q⟩ | ⟨hq,q⟩
 ·obtain ⟨its,r',pl,hz⟩:=I.list hq
  have hlen:=r'.length
  refine call_tuple_list pl.isList (fun h' kp=>?_) (by simp only [List.size_toArray] <;> omega)
  have I1:Inv X pins σ H { s with heap:=h' }:=I.kept (t':=s.toks) kp
  have I2:Inv X pins σ (upd H h'.objs.size (.tup ys)) { s with heap:=h'.push { cls:=.type "tuple",data:=.seq its.toArray } } :=
   I1.laid (t':=s.toks) (fun b o e=>Heap.get?_push_of_some _ e) (Nat.le_refl _) (show zK X.prog X.w _ _ _ (.tup ys) from ⟨hz,its,r',IsTup.new _ _⟩)
  exact ⟨.ref h'.objs.size,_,I2,rfl,q _ (I1.hok.fresh (Nat.le_refl _))⟩
 ·obtain ⟨its,r',pl,hz⟩:=I.tuple hq
  exact call_tuple_same pl ⟨.ref p,H,I,rfl,q⟩
def tyV (K:FG7) (T:String) (x:V) (H:Hp):Prop:=match x with
 | .str _=>T = "str"
 | .int _=>T = "int"
 | .ref p=>(T = "list" /\ ∃ xs,SqL K H p xs) \/ (T = "tuple" /\ ∃ o,K.lookup p = some o /\ o.cls = .type "tuple" /\ o.dict = none) ∨
   (T = "dict" /\ ((∃ kvs,H p = some (.dK kvs)) \/ ∃ kvs,H p = some (.dT kvs))) \/ (T = "set" /\ ∃ S n,H p = some (.set S n))
 | _=>False
theorem W5 {pins:List (Addr × Obj)} {σ:St} {H:Hp} {s:Shared} {T:String} {x:V} {v:Value} (I:Inv X pins σ H s) (r:RelV x v) (ty:tyV X.K T x H) :
  s.TypeIs v T /\ ∀ a,v = .ref a -> ∃ ob,s.heap.get? a = some ob /\ ob.dict = none:=by
 cases x with
 | str z =>
  obtain ⟨t,rfl⟩:=r
  cases (show T = "str" from ty)
  exact ⟨typeIs_str s z t,fun _ e=>nomatch e⟩
 | int i =>
  obtain ⟨t,rfl⟩:=r
  cases (show T = "int" from ty)
  exact ⟨typeIs_int s i t,fun _ e=>nomatch e⟩
 | ref p =>
  cases r
  rcases ty with ⟨rfl,xs,hq⟩ | ⟨rfl,o,hk,hc,hd⟩ | ⟨rfl,hk⟩ | ⟨rfl,S,n,hk⟩
  ·obtain ⟨its,_,pl,_⟩:=I.list hq
   refine ⟨pl.isList.typeIs,fun a e=>?_⟩
   cases e
   obtain ⟨o,n,e,c,hd,_⟩:=pl
   exact ⟨o,e,hd⟩
  ·refine ⟨⟨o,I.kIn p o hk,hc⟩,fun a e=>?_⟩
   cases e
   exact ⟨o,I.kIn _ o hk,hd⟩
  ·have z:∃ o,s.heap.get? p = some o /\ o.ExactDict:=by
    rcases hk with ⟨kvs,hk⟩ | ⟨kvs,hk⟩
    ·obtain ⟨_,_,_,_,o,_,_,e,ex,_⟩:=I.hok p _ hk
     exact ⟨o,e,ex⟩
    ·obtain ⟨_,_,_,_,o,_,_,e,ex,_⟩:=I.hok p _ hk
     exact ⟨o,e,ex⟩
   obtain ⟨o,e,ex⟩:=z
   refine ⟨⟨o,e,ex.1⟩,fun a e2=>?_⟩
   cases e2
   exact ⟨o,e,ex.2.1⟩
  ·obtain ⟨o,_,_,_,e,ex,_⟩:=I.hok p _ hk
   refine ⟨⟨o,e,ex.1⟩,fun a e2=>?_⟩
   cases e2
   exact ⟨o,e,ex.2.1⟩
 | _=>exact False.elim ty
def tBM (K:FG7) (T:String) (r:V -> List V -> Hp -> VK -> Prop) (to:TE) (t:TA):TE:=fun σ H Q=>to σ H fun x H1=>tyV K T x H1 /\ t σ H1 fun xs H2=>r x xs H2 Q
variable {o e:Expr} {es:List Expr} {to:TE} {t:TA} {name:Str} {apos cpos:Pos} {T id:String} {r:V -> List V -> Hp -> VK -> Prop}
theorem sI (pa:PlainAttrs T) (slot:Slot T name id) (hty:typeOf (.builtin id) = pure (.type "method_descriptor")) (hm:MtR X id r) (ho:PE X o to) (ha:PA X (e :: es) t)
  (hbase:attributeBase o name X.env (eval o X.env) = eval o X.env:=by rfl)
  (hfew:((backTo cpos (starEach (e :: es) X.env)).all (fun x=>!x.1) && (backToKw cpos (keywordEach [] X.env)).all (fun x=>x.1.isSome)
   && decide ((e :: es).length + ([]:List Keyword).length + (if ([]:List Keyword).isEmpty then 0 else 1) < 30)) = true:=by rfl)
  (hline:(apos.endLine == cpos.line) = true:=by rfl) (hs:starEach (e :: es) X.env = (false,eval e X.env) :: starEach es X.env:=by rfl) (hplain:(backTo cpos (starEach es X.env)).any (·.1) = false:=by rfl) :
  PE X (.Call (.Attribute o name apos) (e :: es) [] cpos) (tBM X.K T r to t):=by
 intro pins s σ H Q I h
 refine wpAny_Call_method_late hbase hfew hline rfl (thn (ho pins s σ H _ I h) fun v s1 ⟨x,H1,I1,r1,ty,q1⟩=>?_)
 obtain ⟨h1,h2⟩:=W5 I1 r1 ty
 refine ⟨T,id,pa,slot,hty,h1,h2,?_⟩
 have hA:=ha cpos pins s1 σ H1 _ I1 q1
 rw [hs] at hA ⊢
 refine Calls.callWith_builtin (by show (false || (backTo cpos (starEach es X.env)).any (·.1)) = false; rw [hplain] <;> rfl) (Calls.evalArgs_plain ?_)
 exact thn hA fun us s2 ⟨vs,H2,I2,r2,q2⟩=>hm pins s2 σ H2 x vs v us Q I2 r1 r2 q2
end
end L2
namespace L2
open PySem PySem.Spec PyProof.Rows
def MtM (X:Cx) (id:String) (r:V -> List V -> Hp -> VK -> Prop):Prop :=
 ∀ (pins:List (Addr × Obj)) (s:Shared) (σ:St) (H:Hp) (x:V) (xs:List V) (v:Value) (us:List Value) (Q:VK),Inv X pins σ H s -> RelV x v -> Vals xs us -> r x xs H Q →
  wpAny (model X.prog X.w) X.A (call (.builtin id) (v :: us)) (EP X pins σ Q) X.xe s
theorem Vals.one:∀ {x:V} {us:List Value},Vals [x] us -> ∃ u,us = [u] /\ RelV x u
 | _,_,.cons r .nil=>⟨_,rfl,r⟩
theorem Vals.two:∀ {x y:V} {us:List Value},Vals [x,y] us -> ∃ u v,us = [u,v] /\ RelV x u /\ RelV y v
 | _,_,_,.cons r (.cons q .nil)=>⟨_,_,rfl,r,q⟩
theorem Vals.zero:∀ {us:List Value},Vals [] us -> us = []
 | _,.nil=>rfl
theorem Vals.dropLast {xs:List V} {us:List Value} (h:Vals xs us):Vals xs.dropLast us.dropLast:=by
 induction h with
 | nil=>exact .nil
 | cons r t ih =>
  cases t with
  | nil=>exact .nil
  | cons q t'=>exact .cons r ih
theorem Vals.eraseIdx:∀ {xs:List V} {us:List Value} (i:Nat),Vals xs us -> Vals (xs.eraseIdx i) (us.eraseIdx i)
 | _,_,_,.nil=>.nil
 | _,_,0,.cons _ t=>t
 | _,_,i + 1,.cons r t=>.cons r (Vals.eraseIdx i t)
theorem Vals.reverse {xs:List V} {us:List Value} (h:Vals xs us):Vals xs.reverse us.reverse:=by
 induction h with
 | nil=>exact .nil
 | cons r t ih=>rw [List.reverse_cons,List.reverse_cons]; exact Vals.append ih (.cons r .nil)
theorem Vals.rep {xs:List V} {us:List Value} (h:Vals xs us):∀ k:Nat,Vals (List.replicate k xs).flatten (List.replicate k us).flatten
 | 0=>.nil
 | k + 1=>by
  rw [List.replicate_succ,List.replicate_succ,List.flatten_cons,List.flatten_cons]
  exact Vals.append h (Vals.rep h k)
theorem tm (its:List Value):∀ (k:Nat) (acc:List Value),
  List.foldl (fun x1 x2=>x1 ++ x2) acc.toArray (List.replicate k its.toArray) = (acc ++ (List.replicate k its).flatten).toArray
 | 0,acc=>by simp
 | k + 1,acc=>by
  have e:acc.toArray ++ its.toArray = (acc ++ its).toArray:=by simp
  have e2:(acc ++ its) ++ (List.replicate k its).flatten = acc ++ (List.replicate (k + 1) its).flatten:=by
   rw [List.replicate_succ,List.flatten_cons,List.append_assoc]
  rw [← e2,← tm its k (acc ++ its),← e,List.replicate_succ,List.foldl_cons]
section
variable {X:Cx} {pins:List (Addr × Obj)} {σ:St} {H:Hp} {s:Shared} {l b:Addr} {xs ys zs:List V}
theorem Inv.lset {its its':List Value} {n:Nat} {f:Array Value -> Array Value} {t':Nat} (I:Inv X pins σ H s) (hH:H l = some (.lst xs))
  (e:s.heap.get? l = some { cls:=.type "list",data:=.seq its.toArray n }) (hf:f its.toArray = its'.toArray) (hv:Vals ys its') (hz:ys.length <= sizeLine) :
  Inv X pins σ (upd H l (.lst ys)) { s with heap:=s.heap.update l (Obj.mapSeq f),toks:=t' }:=by
 have q:=PySem.IsL.update e f
 rw [hf] at q
 refine I.write (x:=l) (e:=l) (by rw [hH]; exact trivial) (.inl rfl) (fun b' u hb hu=>(Heap.get?_update_other s.heap (Obj.mapSeq f) (Ne.symm hb)).trans hu) ⟨_,q⟩ ?_
 exact ⟨hz,its',_,hv,q⟩
theorem Inv.fresh (I:Inv X pins σ H s):H s.heap.objs.size = none:=I.hok.fresh (Nat.le_refl _)
theorem Inv.lstM (I:Inv X pins σ H s) (hH:H l = some (.lst xs)):xs.length <= sizeLine /\ ∃ (its:List Value) (n:Nat),Vals xs its /\ xs.length = its.length /\ s.heap.get? l = some { cls:=.type "list",data:=.seq its.toArray n }:=by
 obtain ⟨z,its,n,r,e⟩:=I.hok l _ hH
 exact ⟨z,its,n,r,r.length,e⟩
end
section
variable {X:Cx}
def X7:V -> List V -> Hp -> VK -> Prop:=fun x vs H Q=>∃ l xs y,x = .ref l /\ vs = [y] /\ H l = some (.lst xs) /\ xs.length < sizeLine /\ Q .non (upd H l (.lst (xs ++ [y])))
theorem xa:MtM X "list.append" X7:=by
 intro pins s σ H x vs v us Q I rx rv h
 obtain ⟨l,xs,y,rfl,rfl,hH,hz,q⟩:=h
 cases rx
 obtain ⟨u,rfl,ru⟩:=rv.one
 obtain ⟨z,its,n,r,hl,e⟩:=I.lstM hH
 refine call_meets F.slot_list_append ⟨_,e,rfl⟩ F.entry_list_append (F.args_list_append_2 _ _) (PySem.list_append l its.toArray n u (by rw [List.size_toArray]; omega)) ⟨e,?_⟩
 refine ⟨.non,_,I.lset (its':=its ++ [u]) hH e (by simp) (r.append (.cons ru .nil)) ?_,rfl,q⟩
 rw [List.length_append,List.length_singleton]
 omega
theorem Zc {α:Type} (xs:List α) (k:Nat):(List.replicate k xs).flatten.length = k * xs.length:=by
 induction k with
 | zero=>simp
 | succ k ih=>rw [List.replicate_succ,List.flatten_cons,List.length_append,ih,Nat.succ_mul,Nat.add_comm]
end
end L2
namespace Att
open PySem PySem.W PySem.Calls PyProof.Rows
theorem w4 {P:Params} {h:Heap}:∀ (ns:List Int) (vs:List Value),WellAll P h vs (ns.map WData.int) -> IntsAre vs ns:=by
 intro ns
 induction ns with
 | nil =>
  intro vs w
  rw [List.map_nil] at w
  cases w
  exact .nil
 | cons n ns ih =>
  intro vs w
  rw [List.map_cons] at w
  cases w with
  | cons a b =>
   cases a
   exact .cons _ _ (ih _ b)
theorem Zd {l:OpenLaw} {n:Nat} (hn:l.most = some n) {P:Params} {h:Heap} {args:List WData} {vals:List Value}
  (hpre:l.row.toRowW.claim.pre args = true) (hwl:WellAll P h vals args) :
  ∃ a vs ns,vals = [Value.ref a] /\ args = [WData.list (ns.map WData.int)] /\ h.get? a = some { cls:=.type "list",data:=.seq vs.toArray } /\ IntsAre vs ns /\ ns.length <= n:=by
 have hsh:WShape.hasAll [] args [.list .int] = true:=(pre_splitW hpre).1
 have hc:l.pre.holds [] { args:=args } = true:=(pre_splitW hpre).2
 obtain ⟨d,r,rfl,h1,h2⟩:=hasAllW_cons hsh
 obtain rfl:=hasAllW_nil h2
 obtain ⟨xs,rfl,h3⟩:=hasW_list h1
 obtain ⟨ns,rfl⟩:=items_int h3
 have hlen:ns.length <= n:=by
  unfold OpenLaw.pre at hc
  have h4:(WTm.not (.lt (.lit (.int (n:Int))) (.len (.arg 0)))).holds [] { args:=[.list (ns.map .int)] } = true:=by
   have h4:=(holds_andW hc).1
   rw [hn] at h4
   exact h4
  have h5:=condW_of h4 (w_not (w_lt w_lit (w_len_list (w_arg rfl))))
  rw [List.length_map] at h5
  refine Nat.le_of_not_lt fun q=>?_
  have q':(n:Int) < ((ns.length:Nat):Int):=by omega
  first
   | (rw [decide_eq_true q'] at h5; exact absurd h5 (by decide))
   | (simp at h5; omega)
 cases hwl with
 | cons w1 w2 =>
  cases w2
  cases w1 with
  | list ho hall=>exact ⟨_,_,ns,rfl,rfl,ho,w4 ns _ hall,hlen⟩
theorem Ze (l:OpenLaw) (args:List WData):l.row.toRowW.claim.post args (.bool true) args = true :=
 postW_of (r:=l.row.toRowW) (X:=(true == true))
  (show WShape.has [] (.bool true) .bool = true by first | rfl | decide | simp [WShape.has,WShape.arms,WShape.armsAll])
  (show (WTm.eq .res (.lit (.bool true))).value [] { args:=args,res:=some (.bool true),after:=args } = some (.bool (true == true)) from w_eq_bool (w_res rfl) w_lit) rfl
theorem attach_call {l:OpenLaw} {n:Nat} {q:Program} {loose:List Str} {XP:(Str -> Option Value) -> Heap -> Prop} {YP:World -> Heap -> Prop} {d:DefRec}
  (hn:l.most = some n) (hdf:d.params.defaults = [])
  (call:∀ (w:World) (s₀ s₁:Shared) (mg mb:Str -> Option Value) (fa:Addr) (o:Obj) (pm cd doc:Value) (a:Addr) (vs:List Value) (ns:List Int),
   Ground q loose [] XP w s₀ mg mb s₁.heap -> YP w s₁.heap →
   s₁.heap.get? fa = some o -> o.data = .func (docDef d.name d.params d.body d.scope pm cd doc) -> s₁.heap.CodeRec cd d.name -> mg d.name = some (.ref fa) →
   s₁.heap.get? a = some { cls:=.type "list",data:=.seq vs.toArray } -> IntsAre vs ns -> ns.length <= n -> s₁.gens = #[] →
   codeAny (model l.prog w) callerA (.call (.ref fa) ⟨[.ref a],[]⟩) (fun r s'=>r = .ok (.ret (.bool true)) /\ OldK s₁.heap s'.heap /\ s'.os = s₁.os /\ AllBare s'.gens) s₁) :
  WalkO q loose XP YP l.row.toRowW d [] (fun f vs=>PySem.call f vs):=by
 intro w s₀ s₁ mg mb G Y fa o pm cd doc dV kV ho hd hcd hD hmg hg args vals as hpre hlay hrd hwl hlo
 obtain rfl:dV = .none:=Dflts.none hD hdf
 obtain rfl:kV = .none:=Dflts.noKw hD
 obtain ⟨a,vs,ns,rfl,rfl,hobj,hints,hlen⟩:=Zd hn hpre hwl
 refine enter_call (codeAny_mono (call w s₀ s₁ mg mb fa o pm cd doc a vs ns G Y ho (fd_plain hd) hcd hmg hobj hints hlen hg) fun r s' hq=>?_)
 obtain ⟨rfl,h2,h3,h4⟩:=hq
 exact ⟨.inl ⟨.bool true,.bool true,[],rfl,fun _=>rfl,.bool true,Ze l _,fun _=>⟨List.Pairwise.nil,fun _ hm=>(nomatch hm)⟩⟩,h2,h3,h4⟩
end Att
namespace L2
open PySem PySem.Spec PyProof.Rows
theorem xR:∀ {vs:List Value} {ns:List Int},IntsAre vs ns -> Vals (ns.map V.int) vs
 | _,_,.nil=>.nil
 | _,_,.cons n t h=>.cons ⟨t,rfl⟩ (xR h)
def Only (H:Hp):Prop:=∀ b,H b = none \/ ∃ o xs,H b = some (.frz o (.lst xs))
theorem YH {P:Program} {w:World} {K:FG7} {mg mb:Str -> Option Value} {CX:CXT} {k:Nat} {fa a:Addr} {fd:FuncData} {x:Str} {sp:Sp} {s₁:Shared} {vs:List Value} {ns:List Int}
  (KX:K.In s₁.heap) (hns:s₁.heap.Ns mainGlobals mg) (hb:s₁.heap.Ns builtinsNs mb) (hbb:∀ x:Str,x ≠ "__name__" -> mb x = bootBuiltins x) (hlim:s₁.heap.NoLimit) (hg:s₁.gens = #[])
  (ha:s₁.heap.get? a = some { cls:=.type "list",data:=.seq vs.toArray }) (hi:IntsAre vs ns) (hl:ns.length <= sizeLine) (hr:Room k callerA)
  (F:∀ base:Heap,K.In base -> base.Ns mainGlobals mg -> FnOk P w K mg base CX k fa fd [x] sp) (hbind:∀ (s:Shared) (u:Value),BindsTo s fd ⟨[u],[]⟩ [(x,u)])
  (hsp:∀ H:Hp,Only H -> SqL K H a (ns.map V.int) -> sp [.ref a] H (fun v _=>v = .bl true) fun _ _ _=>False)
  (hCX:∀ H e s',CX [] H s₁ (fun _ _ _=>False) e s' -> False) :
  codeAny (model P w) callerA (.call (.ref fa) ⟨[.ref a],[]⟩) (fun r s'=>r = .ok (.ret (.bool true)) /\ OldK s₁.heap s'.heap /\ s'.os = s₁.os /\ AllBare s'.gens) s₁:=by
 have rv:=xR hi
 have lenV:=hi.length
 -- from an abstract heap in which nothing but the script may be tracked
 have core:∀ H:Hp,Only H -> SqL K H a (ns.map V.int) -> HOk P w H s₁.heap -> (∀ b,H b ≠ none -> b = a) -> (H a ≠ none -> K.lookup a = none) →
   codeAny (model P w) callerA (.call (.ref fa) ⟨[.ref a],[]⟩) (fun r s'=>r = .ok (.ret (.bool true)) /\ OldK s₁.heap s'.heap /\ s'.os = s₁.os /\ AllBare s'.gens) s₁:=by
  intro H hO hS hok hA hK
  have base_of:∀ {b:Addr} {o:Obj},s₁.heap.get? b = some o -> H b = none -> (hidT s₁.heap H).get? b = some o:=fun e n=>YC e n
  have noA:∀ {b:Addr} {o:Obj} {es:Array DictEntry} {ep:Nat},s₁.heap.get? b = some o -> o.data = .dict es ep -> H b = none:=fun {b o es ep} e d=>by
   cases q:H b with
   | none=>rfl
   | some u =>
    have e':b = a:=hA b (by rw [q]; simp)
    subst e'
    rw [ha] at e; cases e
    have d':Data.seq vs.toArray _ = Data.dict es ep:=d
    cases d'
  have nsK:∀ {b:Addr} {m:Str -> Option Value},s₁.heap.Ns b m -> (hidT s₁.heap H).Ns b m:=fun {b m} ⟨o,es,ep,e,d,r⟩=>⟨o,es,ep,base_of e (noA e d),d,r⟩
  have hKb:K.In (hidT s₁.heap H):=fun b o e=>base_of (KX b o e) (by
   cases q:H b with
   | none=>rfl
   | some u =>
    have e':b = a:=hA b (by rw [q]; simp)
    subst e'
    rw [hK (by rw [q]; simp)] at e; cases e)
  have hM:Mod K mg (hidT s₁.heap H):=⟨hKb,nsK hns,⟨mb,nsK hb,hbb⟩,let ⟨mc,h1,h2⟩:=hlim; ⟨mc,nsK h1,h2⟩⟩
  have e0:Env0 P w K mg (hidT s₁.heap H) callerA [] s₁ H:=⟨rfl,hM,fun b o e=>XZ e,Nat.le_of_eq (jQ _ _),trivial,fun b hb=>absurd (show b ∈ ([]:List Addr) from hb) (by simp),hok,.of_eq hg⟩
  refine codeAny_mono ((F _ hKb (nsK hns)).run callerA [] s₁ H ⟨[.ref a],[]⟩ [.ref a] [.ref a] _ _ hr e0 (hbind s₁ (.ref a)) (.cons rfl .nil) (hsp H hO hS)) fun r s' h=>?_
  cases r with
  | error e=>exact (hCX H e s' h).elim
  | ok fl =>
   cases fl with
   | next=>exact False.elim h
   | brk=>exact False.elim h
   | cont=>exact False.elim h
   | ret u =>
    obtain ⟨v,H',os,bare,un,hok',r',q⟩:=h
    have q':v = .bl true:=q
    subst q'
    obtain rfl:u = Value.bool true:=r'
    refine ⟨rfl,OldK.of_keep fun b o e=>?_,os,bare⟩
    cases q:H b with
    | none=>exact un.keep b o e q (by intro z; exact absurd (show b ∈ ([]:List Addr) from z) (by simp)) (by simp)
    | some u =>
     rcases hO b with z | ⟨ob,xs,z⟩
     ·rw [q] at z; cases z
     ·have z2:=un.frzs b ob _ z
      obtain ⟨e1,_⟩:=hok b _ z
      obtain ⟨e2,_⟩:=hok' b _ z2
      rw [e] at e1; cases e1
      exact e2
 cases hk:K.lookup a with
 | some o =>
  -- the script is one of the module's own objects
  have e:=KX a o hk
  rw [ha] at e
  cases e
  refine core (fun _=>none) (fun _=>.inl rfl) (.inr ⟨_,vs.toArray,_,hk,rfl,rfl,rfl,by rw [List.size_toArray,lenV]; exact hl,by simpa using rv⟩) (fun b u z=>by have z':(none:Option HO) = some u:=z; cases z') (fun b z=>absurd rfl z) fun z=>absurd rfl z
 | none =>
  refine core (fun b=>if b = a then some (.frz { cls:=.type "list",data:=.seq vs.toArray } (.lst (ns.map V.int))) else none) (fun b=>?_) (.inl (.inr ⟨{ cls:=.type "list",data:=.seq vs.toArray },if_pos rfl⟩)) (fun b u z=>?_) (fun b z=>?_) fun _=>hk
  ·by_cases hb:b = a
   ·exact .inr ⟨_,_,if_pos hb⟩
   ·exact .inl (if_neg hb)
  ·by_cases hb:b = a
   ·have z':=(if_pos hb).symm.trans z
    cases z'
    subst hb
    exact ⟨ha,by rw [List.length_map]; exact hl,vs,_,rv,ha⟩
   ·have z':=(if_neg hb).symm.trans z
    cases z'
  ·by_cases hb:b = a
   ·exact hb
   ·exact absurd (if_neg hb) z
end L2
namespace L2
open PySem PySem.Spec PyProof.Rows
theorem walk_of {l:PySem.W.OpenLaw} {n k:Nat} {q:Program} {loose:List Str} {XP:(Str -> Option Value) -> Heap -> Prop} {YP:World -> Heap -> Prop} {d:DefRec} {K:Params -> FG7} {CX:World -> CXT} {sp:World -> Sp} {x:Str}
  (hn:l.most = some n) (hn2:n <= sizeLine) (hdf:d.params.defaults = []) (hr:Room k callerA)
  (hY:∀ (w:World) (h:Heap),YP w h -> (K w.params).In h)
  (F:∀ (w:World) (mg:Str -> Option Value) (fa:Addr) (h:Heap),(K w.params).In h -> h.Ns mainGlobals mg -> mg d.name = some (.ref fa) →
   ∃ fd:FuncData,(∀ (s:Shared) (u:Value),BindsTo s fd ⟨[u],[]⟩ [(x,u)]) ∧
    ∀ base:Heap,(K w.params).In base -> base.Ns mainGlobals mg -> FnOk l.prog w (K w.params) mg base (CX w) k fa fd [x] (sp w))
  (hsp:∀ (w:World) (H:Hp) (a:Addr) (ns:List Int),ns.length <= n -> Only H -> SqL (K w.params) H a (ns.map V.int) -> sp w [.ref a] H (fun v _=>v = .bl true) fun _ _ _=>False)
  (hCX:∀ (w:World) (H:Hp) (s:Shared) (e:Value) (s':Shared),CX w [] H s (fun _ _ _=>False) e s' -> False) :
  PySem.W.WalkO q loose XP YP l.row.toRowW d [] (fun f vs=>PySem.call f vs):=by
 refine Att.attach_call hn hdf fun w s₀ s₁ mg mb fa o pm cd doc a vs ns G Y ho hd hcd hmg hobj hints hlen hg=>?_
 have KX:=hY w _ Y
 obtain ⟨fd,hb,hF⟩:=F w mg fa _ KX G.T.g hmg
 exact YH KX G.T.g G.T.b G.T.builtins G.T.nolimit hg hobj hints (Nat.le_trans hlen hn2) hr hF hb (fun H hO hS=>hsp w H a ns hlen hO hS) fun H e s'=>hCX w H s₁ e s'
end L2
namespace L2
open PySem PySem.Spec PyProof.Rows
def w5 (s:Stmt):Arguments:=match s with
 | .FunctionDef _ a _ _ _ _ _ _ _ _=>a
 | _=>{ posonlyargs:=[],args:=[],vararg:=none,kwonlyargs:=[],kw_defaults:=[],kwarg:=none,defaults:=[] }
def wm (s:Stmt):List Stmt:=match s with
 | .FunctionDef _ _ b _ _ _ _ _ _ _=>b
 | _=>[]
def ze (s:Stmt):Scope:=match s with
 | .FunctionDef _ _ _ _ _ _ sc _ _ _=>sc
 | _=>{ kind:=.function,names:=[],isGenerator:=false,isCoroutine:=false }
abbrev CX0:CXT:=fun _ _ _ _ _ _=>False
abbrev E0:XK:=fun _ _ _=>False
theorem V2 {X:Cx}:j8 CX0 X E0:=fun _ _ _ _ _ _ _ h=>h.elim
structure Fun (K:FG7) (x qual:Str) (st:Stmt) (f:Addr) (fd:FuncData):Prop where
 ex:∃ (oc:Value) (od:Option Addr) (kV doc pm:Value) (an:Option Addr) (cdv ct:Value) (osl:Array (Option Value)),
  fd = PySem.W.fnOf x qual (w5 st) (wm st) (ze st) .none kV doc pm an cdv ct /\ K.lookup f = some ⟨oc,od,.func fd,osl⟩ /\ PySem.W.codeIn K cdv qual = true
 kp:PySem.W.keepIn K (.ref f) = true
section
variable {P:Program} {w:World} {K:FG7} {mg:Str -> Option Value} {base:Heap}
theorem Fun.ok {x qual:Str} {st:Stmt} {f:Addr} {fd:FuncData} {N ps:List Str} {k:Nat} {sp:Sp} (F:Fun K x qual st f fd) (S:FnScope N ps (ze st)) (len:∀ vs H Q E,sp vs H Q E -> vs.length = ps.length)
  (hbody:∀ (cdv:Value) (A:Around) (outer:List Env) (s:Shared) (H:Hp) (vs:List V) (Q:VK) (E:XK),Room k (A.deeper (envOfC qual (ze st) s.heap.objs.size f cdv)) -> sp vs H Q E →
   ∃ t,PSs (cxOf CX0 P w K mg base N qual (ze st) f cdv A outer s H E).nox (wm st) t /\ t { nx:=fun _ H'=>Q .non H',rt:=Q } (tj N vs) H):FnOk P w K mg base CX0 (k + 1) f fd ps sp:=by
 obtain ⟨oc,od,kV,doc,pm,an,cdv,ct,osl,rfl,lk,hcd⟩:=F.ex
 refine V0 lk hcd S len fun A outer s H vs Q E hr hsp=>?_
 obtain ⟨t,h,q⟩:=hbody cdv A outer s H vs Q E hr hsp
 exact ⟨t,h.nox,q⟩
theorem Fun.binds {x qual:Str} {st:Stmt} {f:Addr} {fd:FuncData} {ps:List Str} (F:Fun K x qual st f fd)
  (h:∀ (kV doc pm:Value) (an:Option Addr) (cdv ct:Value) (us:List Value),us.length = ps.length -> bindArgs (PySem.W.fnOf x qual (w5 st) (wm st) (ze st) .none kV doc pm an cdv ct) ⟨us,[]⟩ = pure (ps.zip us)):wZ K fd ps []:=by
 obtain ⟨oc,od,kV,doc,pm,an,cdv,ct,osl,rfl,lk,hcd⟩:=F.ex
 exact .all (h kV doc pm an cdv ct)
theorem fun_mk {x qual:Str} {st:Stmt} {f:Addr} {oc:Value} {od an:Option Addr} {osl:Array (Option Value)} {kV doc pm cdv ct:Value} (l:K.lookup f = some ⟨oc,od,.func (PySem.W.fnOf x qual (w5 st) (wm st) (ze st) .none kV doc pm an cdv ct),osl⟩)
  (c:PySem.W.codeIn K cdv qual = true) (k:PySem.W.keepIn K (.ref f) = true):Fun K x qual st f (PySem.W.fnOf x qual (w5 st) (wm st) (ze st) .none kV doc pm an cdv ct):=⟨⟨oc,od,kV,doc,pm,an,cdv,ct,osl,rfl,l,c⟩,k⟩
end
theorem zH {n:Nat} (h:n <= 1000):n < sizeLine:=Nat.lt_of_le_of_lt h (by decide)
section
variable {X:Cx}
theorem pv (i:Nat) {x:Str} {pos:Pos} (hN:X.N[i]? = some x:=by rfl) (hv:Vis X.env.scope x:=by first | exact Or.inl rfl | exact Or.inr (Or.inl rfl) | exact Or.inr (Or.inr rfl)) (hd:(x == ("__debug__":Str)) = false:=by decide)
  (hcd:(x == ("__classdict__":Str)) = false:=by decide):PE X (.Name x pos) (tVar i):=WO hN hv hd hcd
end
theorem iteF {A B:Prop} (h:B):if false = true then A else B:=by
 rw [if_neg Bool.false_ne_true]
 exact h
theorem iteT {A B:Prop} (h:A):if true = true then A else B:=by
 rw [if_pos rfl]
 exact h
theorem ite2 {c A B:Prop} [Decidable c] (h1:c -> A) (h2:¬ c -> B):if c then A else B:=by
 by_cases h:c
 ·rw [if_pos h]
  exact h1 h
 ·rw [if_neg h]
  exact h2 h
def Same (H H':Hp):Prop:=∀ b o,H b = some o -> H' b = some o
theorem Same.refl (H:Hp):Same H H:=fun _ _ h=>h
theorem Same.trans {H H1 H2:Hp} (a:Same H H1) (b:Same H1 H2):Same H H2:=fun c o h=>b c o (a c o h)
theorem Same.free {H H':Hp} (e:Same H H') {l:Addr} (h:H' l = Option.none):H l = Option.none:=by
 cases q:H l with
 | none=>rfl
 | some o =>
  rw [e l o q] at h
  cases h
theorem Same.seq {K:FG7} {H H':Hp} {a:Addr} {xs:List V} (e:Same H H') (h:SqL K H a xs):SqL K H' a xs:=by
 rcases h with (h | ⟨o,h⟩) | h
 ·exact .inl (.inl (e _ _ h))
 ·exact .inl (.inr ⟨o,e _ _ h⟩)
 ·exact .inr h
end L2
namespace L3
open PySem PySem.Spec PyProof.Rows L2
theorem W6:bootBuiltins "abs" = some (.builtin "abs"):=by decide +kernel
theorem wn:bootBuiltins "len" = some (.builtin "len"):=by decide +kernel
theorem W7:bootBuiltins "max" = some (.builtin "max"):=by decide +kernel
theorem V3:bootBuiltins "min" = some (.builtin "min"):=by decide +kernel
theorem YI:bootBuiltins "divmod" = some (.builtin "divmod"):=by decide +kernel
theorem qd:bootBuiltins "repr" = some (.builtin "repr"):=by decide +kernel
theorem yc:bootBuiltins "isinstance" = some (.builtin "isinstance"):=by decide +kernel
theorem YJ:bootBuiltins "all" = some (.builtin "all"):=by decide +kernel
theorem qe:bootBuiltins "sorted" = some (.builtin "sorted"):=by decide +kernel
theorem W8:bootBuiltins "int" = some (.type "int"):=by decide +kernel
theorem W9:bootBuiltins "bool" = some (.type "bool"):=by decide +kernel
theorem V4:bootBuiltins "str" = some (.type "str"):=by decide +kernel
theorem yi:bootBuiltins "tuple" = some (.type "tuple"):=by decide +kernel
def TyV (K:FG7) (H:Hp) (x:V) (T:String):Prop:=match x with
 | .non=>T = "NoneType"
 | .bl _=>T = "bool"
 | .int _=>T = "int"
 | .str _=>T = "str"
 | .ref a=>(T = "tuple" /\ ∃ xs,SqT K H a xs) \/ (T = "list" /\ ∃ xs,SqL K H a xs) \/ (T = "dict" /\ ∃ kvs,H a = some (.dK kvs))
 | _=>False
section
variable {X:Cx} {a b c:Expr} {ta tb tc:TE} {pos:Pos}
def rIsi (K:FG7):List V -> Hp -> VK -> Prop:=fun xs H Q=>∃ x T t k,xs = [x,.ty T] /\ TyV K H x t /\ PySem.W.kitOne K (.type t) (.type T) = some k /\ Q (.bl k) H
theorem xm:yI X (.builtin "isinstance") (rIsi X.K):=by
 intro pins s σ H xs us Q I r h
 obtain ⟨x,T,t,k,rfl,ty,e,q⟩:=h
 obtain ⟨u,w',rfl,rx,rt⟩:=qZ r
 cases (show w' = Value.type T from rt)
 have fin:∀ tk,EP X pins σ Q (.bool k) { s with toks:=tk }:=fun tk=>⟨.bl k,H,I.tok _,rfl,q⟩
 cases x with
 | non=>cases (show t = "NoneType" from ty); exact y9 I rx .non e fin
 | bl y=>cases (show t = "bool" from ty); exact y9 I rx (.bl y) e fin
 | int i=>cases (show t = "int" from ty); exact y9 I rx (.int i) e fin
 | str y=>cases (show t = "str" from ty); exact y9 I rx (.str y) e fin
 | byt y=>exact ty.elim
 | flt y=>exact ty.elim
 | ty y=>exact ty.elim
 | ref a =>
  cases (show u = Value.ref a from rx)
  rcases ty with ⟨rfl,xs,hq⟩ | ⟨rfl,xs,hq⟩ | ⟨rfl,kvs,hq⟩
  ·obtain ⟨its,_,⟨o,h1,h2,_⟩,_⟩:=I.tuple hq
   exact PySem.W.kia_one PySem.W.kitx_tuple I.kIn ⟨o,h1,h2⟩ e (fun z=>nomatch z) fin
  ·obtain ⟨its,_,pl,_⟩:=I.list hq
   obtain ⟨o,h1,h2,_⟩:=pl.isList
   exact PySem.W.kia_one PySem.W.kitx_list I.kIn ⟨o,h1,h2⟩ e (fun z=>nomatch z) fin
  ·exact y9 (x:=V.ref a) I (show RelV (.ref a) (.ref a) from rfl) (.dK hq) e fin
theorem v4 {x:Str} {T:String} {pos:Pos} (hg:Gl X x) (hm:X.mg x = none) (hv:bootBuiltins x = some (.type T)) (hn:x ≠ "__name__":=by decide) (hd:(x == ("__debug__":Str)) = false:=by decide):PE X (.Name x pos) (tC (.ty T)) :=
 X2 hg hm hv (show RelV (.ty T) (Value.type T) from rfl) hn hd
theorem sJ:OpR X (binaryOp .Mult) (rI IntMulOk fun i j=>.int (i * j)):=opI fun _ _ _ _ _ _ _ hc q=>mul_int q hc
def Zf (i j:Int):Prop:=0 < j /\ j < 2 ^ 200
theorem Zf.py {i j:Int} (h:Zf i j):Builtin.divisionGoesByPylong i j = false:=by
 refine PyProof.noPylong_of_log2 ?_
 obtain ⟨h1,h2⟩:=h
 have h0:j.natAbs ≠ 0:=by omega
 have h3:j.natAbs < 2 ^ 200:=by
  have:(j.natAbs:Int) = j:=by omega
  have h4:((j.natAbs:Nat):Int) < ((2 ^ 200:Nat):Int):=by rw [this]; exact h2
  exact Int.ofNat_lt.mp h4
 exact Nat.lt_of_lt_of_le ((Nat.log2_lt h0).mpr h3) (by decide)
theorem wQ:OpR X (binaryOp .FloorDiv) (rI Zf fun i j=>.int (i / j)):=opI fun i j _ _ _ _ _ hc q=>by
 have:=hc.1
 refine floordiv_int (by omega) ?_ (.inl hc.py)
 rw [Int.fdiv_eq_ediv_of_nonneg i (by omega)]
 exact q
theorem tq:yI X (.builtin "divmod") (fun xs H Q=>∃ i j,xs = [.int i,.int j] /\ Zf i j /\ ∀ p,H p = none -> Q (.ref p) (upd H p (.tup [.int (i / j),.int (i % j)]))):=by
 intro pins s σ H xs us Q I r h
 obtain ⟨i,j,rfl,hc,q⟩:=h
 have h1:=hc.1
 obtain ⟨u,w',rfl,⟨t,rfl⟩,⟨t',rfl⟩⟩:=qZ r
 refine divmod_int (by omega) ?_ (.inl hc.py)
 rw [Int.fdiv_eq_ediv_of_nonneg i (by omega),Int.fmod_eq_emod_of_nonneg i (by omega)]
 have hn:H s.heap.objs.size = none:=I.hok.fresh (Nat.le_refl _)
 refine ⟨.ref s.heap.objs.size,_,?_,rfl,q _ hn⟩
 refine I.laid (fun b o e=>Heap.get?_push_of_some _ e) (Nat.le_refl _) ⟨by simp only [List.length_cons,List.length_nil]; rw [sizeLine_eq]; decide,[.int (i / j) s.toks,.int (i % j) (s.toks + 1)],.cons ⟨_,rfl⟩ (.cons ⟨_,rfl⟩ .nil),?_⟩
 exact ⟨_,Heap.get?_push_size s.heap rfl,rfl,0,rfl⟩
def RepI (i:Int):Prop:=i.natAbs.log2 < 1920
end
def zi (P:Program) (w:World) (K:FG7) (mg:Str -> Option Value) (base:Heap) (k:Nat) (x:Str) (ps:List Str) (sp:Sp):Prop :=
 ∃ (f:Addr) (fd:FuncData),FnOk P w K mg base CX0 k f fd ps sp /\ wZ K fd ps [] /\ PySem.W.keepIn K (.ref f) = true /\ mg x = some (.ref f)
theorem zi.mono {P:Program} {w:World} {K:FG7} {mg:Str -> Option Value} {base:Heap} {j k:Nat} {x:Str} {ps:List Str} {sp:Sp} (C:zi P w K mg base j x ps sp) (h:j <= k):zi P w K mg base k x ps sp:=by
 obtain ⟨f,fd,F,b,kp,m⟩:=C
 exact ⟨f,fd,F.mono h,b,kp,m⟩
section
variable {X:Cx} {k:Nat} {ps:List Str} {sp:Sp} {x:Str} {p pos:Pos} {e:Expr} {es:List Expr} {t:TA}
theorem zg (C:zi X.prog X.w X.K X.mg X.base k x ps sp) (hr:Room k X.A) (hg:Gl X x)
  (ha:PA X (e :: es) t) (hdb:(x == ("__debug__":Str)) = false:=by decide) (he:starEach (e :: es) X.env = (false,eval e X.env) :: starEach es X.env:=by rfl) (hpl:(backTo pos (starEach es X.env)).any (·.1) = false:=by rfl) :
  PE X (.Call (.Name x p) (e :: es) [] pos) (W0 sp [] E0 t):=by
 obtain ⟨f,fd,F,b,kp,m⟩:=C
 exact X5 F hr hg m kp b .nil V2 ha hdb he hpl
end
structure Grow (m:List Addr) (H H':Hp):Prop where
 keep:∀ b o,b ∉ m -> H b = some o -> H' b = some o
 tup:∀ b xs,H b = some (.tup xs) -> H' b = some (.tup xs)
 frz:∀ b o u,H b = some (.frz o u) -> H' b = some (.frz o u)
theorem Grow.refl (m:List Addr) (H:Hp):Grow m H H:=⟨fun _ _ _ h=>h,fun _ _ h=>h,fun _ _ _ h=>h⟩
theorem Grow.trans {m:List Addr} {H H1 H2:Hp} (a:Grow m H H1) (b:Grow m H1 H2):Grow m H H2 :=
 ⟨fun c o n h=>b.keep c o n (a.keep c o n h),fun c xs h=>b.tup c xs (a.tup c xs h),fun c o u h=>b.frz c o u (a.frz c o u h)⟩
theorem Grow.new {m:List Addr} {H:Hp} {p:Addr} (h:H p = none) (o:HO):Grow m H (upd H p o) :=
 ⟨fun b u _ q=>by rw [zk (zm q h)]; exact q,fun b xs q=>by rw [zk (zm q h)]; exact q,fun b u v q=>by rw [zk (zm q h)]; exact q⟩
theorem Grow.set {m:List Addr} {H:Hp} {p:Addr} {xs:List V} (h:H p = some (.lst xs)) (hm:p ∈ m) (ys:List V):Grow m H (upd H p (.lst ys)) :=
 ⟨fun b u hb q=>by rw [zk (show b ≠ p from fun z=>hb (by rw [z]; exact hm))]; exact q,fun b zs q=>by rw [zk (fun z=>by subst z; rw [h] at q; cases q)]; exact q,fun b u v q=>by rw [zk (fun z=>by subst z; rw [h] at q; cases q)]; exact q⟩
theorem Grow.mono {m m':List Addr} {H H':Hp} (a:Grow m H H') (h:∀ b ∈ m,b ∈ m'):Grow m' H H':=⟨fun b o n q=>a.keep b o (fun z=>n (h b z)) q,a.tup,a.frz⟩
theorem Grow.same {H H':Hp} (a:Grow [] H H'):Same H H':=fun b o h=>a.keep b o (by simp) h
theorem Grow.sqT {m:List Addr} {H H':Hp} (g:Grow m H H') {K:FG7} {a:Addr} {xs:List V} (h:SqT K H a xs):SqT K H' a xs:=by
 rcases h with (h | ⟨o,h⟩) | h
 ·exact .inl (.inl (g.tup _ _ h))
 ·exact .inl (.inr ⟨o,g.frz _ _ _ h⟩)
 ·exact .inr h
theorem Grow.free {H H':Hp} {m:List Addr} (g:Grow m H H') {l:Addr} (hm:l ∉ m) (h:H' l = none):H l = none:=by
 cases q:H l with
 | none=>rfl
 | some o=>rw [g.keep l o hm q] at h; cases h
def Scr (K:FG7) (H:Hp) (a:Addr) (ns:List Int):Prop :=
 (∃ o,H a = some (.frz o (.lst (ns.map V.int)))) ∨
  ∃ (o:Obj) (its:Array Value) (n:Nat),K.lookup a = some o /\ o.cls = .type "list" /\ o.dict = none /\ o.data = .seq its n /\ its.size <= sizeLine /\ Vals (ns.map V.int) its.toList
theorem Scr.sq {K:FG7} {H:Hp} {a:Addr} {ns:List Int} (h:Scr K H a ns):SqL K H a (ns.map V.int):=by
 rcases h with ⟨o,h⟩ | h
 ·exact .inl (.inr ⟨o,h⟩)
 ·exact .inr h
theorem Scr.of {K:FG7} {H:Hp} {a:Addr} {ns:List Int} (hO:Only H) (h:SqL K H a (ns.map V.int)):Scr K H a ns:=by
 rcases h with (h | ⟨o,h⟩) | h
 ·rcases hO a with z | ⟨o,xs,z⟩
  ·rw [h] at z; cases z
  ·rw [h] at z; cases z
 ·exact .inl ⟨o,h⟩
 ·exact .inr h
theorem Grow.scr {m:List Addr} {H H':Hp} (g:Grow m H H') {K:FG7} {a:Addr} {ns:List Int} (h:Scr K H a ns):Scr K H' a ns:=by
 rcases h with ⟨o,h⟩ | h
 ·exact .inl ⟨o,g.frz _ _ _ h⟩
 ·exact .inr h
structure Blt (mg:Str -> Option Value):Prop where
 abs:mg "abs" = none
 len:mg "len" = none
 max:mg "max" = none
 min:mg "min" = none
 divmod:mg "divmod" = none
 repr:mg "repr" = none
 isinstance:mg "isinstance" = none
 all:mg "all" = none
 range:mg "range" = none
 int:mg "int" = none
 bool:mg "bool" = none
 str:mg "str" = none
 tuple:mg "tuple" = none
 list:mg "list" = none
 dict:mg "dict" = none
def sp1 (b:V -> Hp -> VK -> Prop):Sp:=fun vs H Q _=>∃ x,vs = [x] /\ b x H Q
def sp2 (b:V -> V -> Hp -> VK -> Prop):Sp:=fun vs H Q _=>∃ x y,vs = [x,y] /\ b x y H Q
def sp3 (b:V -> V -> V -> Hp -> VK -> Prop):Sp:=fun vs H Q _=>∃ x y z,vs = [x,y,z] /\ b x y z H Q
theorem yT {b:V -> Hp -> VK -> Prop} {p:Str}:∀ vs H Q E,sp1 b vs H Q E -> vs.length = [p].length:=fun vs H Q E h=>by
 obtain ⟨x,rfl,_⟩:=h; rfl
theorem yD {b:V -> V -> Hp -> VK -> Prop} {p q:Str}:∀ vs H Q E,sp2 b vs H Q E -> vs.length = [p,q].length:=fun vs H Q E h=>by
 obtain ⟨x,y,rfl,_⟩:=h; rfl
theorem yE {b:V -> V -> V -> Hp -> VK -> Prop} {p q r:Str}:∀ vs H Q E,sp3 b vs H Q E -> vs.length = [p,q,r].length:=fun vs H Q E h=>by
 obtain ⟨x,y,z,rfl,_⟩:=h; rfl
def tu:V -> Bool
 | .int _=>true
 | _=>false
def endV:V -> Bool
 | .non=>true
 | .int _=>true
 | _=>false
def Kn (K:FG7) (H:Hp) (x:V):Prop:=∃ T,TyV K H x T
structure Deed where
 add:Int
 lo:Option Int
 hi:Option Int
 deriving DecidableEq
def ov:Option Int -> V
 | none=>.non
 | some i=>.int i
def Deed.vs (d:Deed):List V:=[.int d.add,ov d.lo,ov d.hi]
def Deed.Ok (d:Deed):Prop:=∀ l h,d.lo = some l -> d.hi = some h -> l < h \/ (l = h /\ d.add = 0)
def X8 (lo:Option Int) (r:Int):Int:=match lo with
 | none=>r
 | some l=>if l > r then l else r
def Zg (hi:Option Int) (r:Int):Int:=match hi with
 | none=>r
 | some h=>if h < r then h else r
def Deed.mk' (d:Deed) (v:Int):Int:=Zg d.hi (X8 d.lo (v + d.add))
def ordV:V -> V -> V -> Bool
 | .int a,.int l,.int h=>decide (l < h) || (decide (l = h) && decide (a = 0))
 | _,_,_=>true
def wo:List V -> Bool
 | [x,y,z]=>tu x && (endV y && (endV z && ordV x y z))
 | _=>false
theorem ja {d:Deed} (h:d.Ok):wo d.vs = true:=by
 obtain ⟨a,lo,hi⟩:=d
 cases lo with
 | none=>cases hi <;> rfl
 | some l =>
  cases hi with
  | none=>rfl
  | some u =>
   have:=h l u rfl rfl
   show (decide (l < u) || (decide (l = u) && decide (a = 0))) = true
   rcases this with q | ⟨q,q2⟩
   ·simp [q]
   ·have q2':a = 0:=q2
    simp [q,q2']
theorem Zh {x:V} (h:tu x = true):∃ i,x = .int i:=by
 cases x <;> first | exact ⟨_,rfl⟩ | cases h
theorem XA {x:V} (h:endV x = true):∃ o,x = ov o:=by
 cases x <;> first | exact ⟨none,rfl⟩ | exact ⟨some _,rfl⟩ | cases h
theorem len3 {xs:List V} (h:xs.length = 3):∃ x y z,xs = [x,y,z]:=by
 match xs,h with
 | [x,y,z],_=>exact ⟨x,y,z,rfl⟩
theorem sK {xs:List V} (h:xs.length ≠ 3):wo xs = false:=by
 match xs,h with
 | [],_=>rfl
 | [_],_=>rfl
 | [_,_],_=>rfl
 | [_,_,_],h=>exact absurd rfl h
 | _ :: _ :: _ :: _ :: _,_=>rfl
def zv (K:FG7) (H:Hp) (x:V) (d:Deed):Prop:=∃ a,x = .ref a /\ SqT K H a d.vs
theorem Grow.deed {m:List Addr} {H H':Hp} (g:Grow m H H') {K:FG7} {x:V} {d:Deed} (h:zv K H x d):zv K H' x d:=by
 obtain ⟨a,e,h⟩:=h
 exact ⟨a,e,g.sqT h⟩
theorem qf {K:FG7} {H:Hp} {i:Int}:Kn K H (.int i):=⟨"int",rfl⟩
theorem Va {K:FG7} {H:Hp}:Kn K H .non:=⟨"NoneType",rfl⟩
theorem Vb {K:FG7} {H:Hp} (o:Option Int):Kn K H (ov o):=by cases o; exact Va; exact qf
def yF (K:FG7):Sp:=sp1 fun x H Q=>Kn K H x /\ Q (.bl (tu x)) H
def tw (K:FG7):Sp:=sp1 fun x H Q=>Kn K H x /\ Q (.bl (endV x)) H
def v5 (K:FG7):Sp:=sp1 fun x H Q=>(∃ T,T ≠ "tuple" /\ TyV K H x T /\ Q (.bl false) H) \/ ∃ a xs,x = .ref a /\ SqT K H a xs /\ (∀ y ∈ xs,Kn K H y) /\ Q (.bl (wo xs)) H
def Zi (K:FG7):Sp:=sp2 fun x y H Q=>∃ d v,zv K H x d /\ y = .int v /\ Q (.int (d.mk' v)) H
def Pot (H:Hp) (a:Addr):Prop:=∃ p0 p1:Int,H a = some (.lst [.int p0,.int p1]) /\ 0 <= p0
def Sm (n:Int):Prop:=-(10 ^ 30) < n /\ n < 10 ^ 30
def Deed.Sm (d:Deed):Prop:=L3.Sm d.add /\ (∀ l,d.lo = some l -> L3.Sm l) /\ ∀ h,d.hi = some h -> L3.Sm h
def XB (K:FG7):Sp:=sp2 fun x y H Q=>∃ a ns k,x = .ref a /\ y = .int k /\ Scr K H a ns /\ 0 <= k /\ k < 1000 /\ ∀ p H',H p = none -> Grow [] H H' -> Pot H' p -> Q (.ref p) H'
def sL (_:FG7):Sp:=sp2 fun x y H Q=>∃ a m,x = .ref a /\ y = .int m /\ Pot H a /\ 0 < m /\ m < 2 ^ 200 /\ ∀ n H',0 <= n -> n < m -> Grow [a] H H' -> Pot H' a -> Q (.int n) H'
theorem Sm.of {n:Int} (h1:-(10 ^ 30) < n) (h2:n < 10 ^ 30):Sm n:=⟨h1,h2⟩
def qg (K:FG7):Sp:=sp1 fun x H Q=>∃ a ns,x = .ref a /\ Scr K H a ns /\ ns.length <= 63 /\ ∀ H',Q (.bl true) H'
theorem szl {n:Nat} (h:Nat.ble n 1000 = true):n <= sizeLine:=Nat.le_of_lt (zH (Nat.le_of_ble_eq_true h))
theorem Grow.shrink {H H':Hp} {l:Addr} (h:H l = none) (g:Grow [l] H H'):Grow [] H H' :=
 ⟨fun b o _ q=>g.keep b o (fun z=>by rw [List.mem_singleton.mp z] at q; rw [h] at q; cases q) q,g.tup,g.frz⟩
theorem Grow.wk {m:List Addr} {H H':Hp} (g:Grow [] H H'):Grow m H H':=g.mono (by simp)
theorem Pot.grow {H H':Hp} {a:Addr} (p:Pot H a) (g:Grow [] H H'):Pot H' a:=by
 obtain ⟨u0,u1,hu,hn⟩:=p
 exact ⟨u0,u1,g.keep _ _ (by simp) hu,hn⟩
theorem Pot.new {H:Hp} {a l:Addr} (p:Pot H a) (hl:H l = none) (o:HO):Pot (upd H l o) a:=p.grow (Grow.new hl o)
theorem Vc {i j:Int} (h2:-(2 ^ 60) < j /\ j < 2 ^ 60):IntMulOk i j:=PySem.IntMulOk.of_right (Nat.le_trans ((PySem.intBits_le_iff (m:=60)).mpr (by obtain ⟨a,b⟩:=h2; omega)) (by decide))
section
variable {prog:Program} {w:World} {A:Around} {R:Result -> Shared -> Prop} {s:Shared}
theorem tD {elt target iter:Expr} {ifs:List Expr} {scope:Scope} {pos:Pos} {it acc:Value} {env:Env} (I:Nat -> Shared -> Prop)
  (turn:∀ n s,I n s -> wpAny (model prog w) A (pyNext it) (fun r s₁=>match r with
   | none=>R (.ok .next) s₁
   | some v=>wpAny (model prog w) A (letOwnedTupleGo target it v) (fun _ s₂=>wpAny (model prog w) A (assign target env v) (fun _ s₃ =>
     wpAny (model prog w) A (forIn ifs true fun c r=>if r = true then do let ok ← isTrue c env (eval c env); pure (ForInStep.yield ok) else pure (ForInStep.yield r)) (fun ok s₄ =>
      if ok = true then wpAny (model prog w) A (eval elt env) (fun x s₅ =>
       wpAny (model prog w) A (call (.builtin "list.append") [acc,x]) (fun _ s₆=>∃ m,m < n /\ I m s₆) (fun _ _=>False) s₅) (fun _ _=>False) s₄
      else ∃ m,m < n /\ I m s₄) (fun _ _=>False) s₃) (fun _ _=>False) s₂) (fun _ _=>False) s₁) (fun _ _=>False) s)
  (n:Nat) (h:I n s) :
  codeAny (model prog w) A (.compLoop (.ListComp elt [⟨target,iter,ifs,0⟩] scope pos) 0 it acc env) R s:=by
 refine codeAny_loop rfl I (fun n s hI=>?_) n h
 show wpAny _ A ((compTurn (.ListComp elt [⟨target,iter,ifs,0⟩] scope pos) 0 it acc env).onRaise (fun x=>do noteFrame x env; theTreesLotGoes x)) _ _ s
 refine wpAny_noted ?_
 rw [compTurn_list]
 have no:∀ (E:VS7) (e:Value) (s:Shared),(fun (_:Value) (_:Shared)=>False) e s -> E e s:=fun _ _ _ f=>f.elim
 refine wpAny_bind (wpAny_standAt (wpAny_bind (wpAny_mono (turn n s hI) (fun r s₁ h₁=>?_) (no _))))
 cases r with
 | none=>exact wpAny_pure h₁
 | some v =>
  refine wpAny_bind (wpAny_mono h₁ (fun _ s₂ h₂=>?_) (no _))
  refine wpAny_bind (wpAny_mono h₂ (fun _ s₃ h₃=>wpAny_bind (wpAny_mono h₃ (fun ok s₄ h₄=>?_) (no _))) (no _))
  cases ok with
  | true =>
   simp only [if_true] at h₄ ⊢
   exact wpAny_bind (wpAny_bind (wpAny_mono h₄ (fun x s₅ h₅=>wpAny_bind (wpAny_mono h₅ (fun _ s₆ h₆=>wpAny_pure (wpAny_pure ⟨rfl,h₆⟩)) (no _))) (no _)))
  | false =>
   simp only [Bool.false_eq_true,if_false] at h₄ ⊢
   first
    | exact wpAny_bind (wpAny_pure (wpAny_pure ⟨rfl,h₄⟩))
    | exact wpAny_pure ⟨rfl,h₄⟩
end
theorem v6 {scope:Scope} {env:Env} (hfree:∀ y ∈ scope.names,y.2 = .free -> ∃ c,env.cells.lookup y.1 = some c) :
  ∃ cl,closureFor scope env = pure cl /\ (∀ x c,cl.lookup x = some c -> env.cells.lookup x = some c) /\ ∀ y ∈ scope.names,y.2 = .free -> ∃ c,cl.lookup y.1 = some c:=by
 have key:∀ (l:List (Str × NameKind)) (cs:List (Str × Addr)),(∀ y ∈ l,y.2 = .free -> ∃ c,env.cells.lookup y.1 = some c) -> (∀ x c,cs.lookup x = some c -> env.cells.lookup x = some c) →
   ∃ cl,(forIn l cs (fun (x:Str × NameKind) r=>do if x.2 == .free then do let c ← cellOf env x.1; pure (ForInStep.yield ((x.1,c) :: r)) else pure (ForInStep.yield r)):Sem (List (Str × Addr))) = pure cl ∧
    (∀ x c,cl.lookup x = some c -> env.cells.lookup x = some c) /\ (∀ y ∈ l,y.2 = .free -> ∃ c,cl.lookup y.1 = some c) /\ ∀ x c,cs.lookup x = some c -> ∃ c',cl.lookup x = some c':=by
  intro l
  induction l with
  | nil=>intro cs _ h2; exact ⟨cs,rfl,h2,fun y hy=>absurd hy (by simp),fun x c h=>⟨c,h⟩⟩
  | cons y r ih =>
   intro cs h1 h2
   obtain ⟨n,k⟩:=y
   by_cases hk:k = .free
   ·subst hk
    obtain ⟨c,hc⟩:=h1 (n,.free) (by simp) rfl
    have hc':env.cells.lookup n = some c:=hc
    have e0:cellOf env n = pure c:=by unfold cellOf; rw [hc']
    obtain ⟨cl,e,p1,p2,p3⟩:=ih ((n,c) :: cs) (fun z hz=>h1 z (List.mem_cons_of_mem _ hz)) (fun x d h=>by
     by_cases hx:x = n
     ·subst hx
      rw [List.lookup_cons_self] at h
      cases h; exact hc'
     ·rw [List.lookup_cons,beq_eq_false_iff_ne.mpr hx] at h
      exact h2 x d h)
    refine ⟨cl,?_,p1,fun z hz=>?_,fun x d h=>?_⟩
    ·rw [List.forIn_cons]
     simp only [beq_self_eq_true,if_true,e0,pure_bind]
     exact e
    ·rcases List.mem_cons.mp hz with rfl | hz
     ·intro _
      exact p3 n c List.lookup_cons_self
     ·exact p2 z hz
    ·by_cases hx:x = n
     ·subst hx; exact p3 x c List.lookup_cons_self
     ·exact p3 x d (by rw [List.lookup_cons,beq_eq_false_iff_ne.mpr hx]; exact h)
   ·have hb:(k == NameKind.free) = false:=beq_eq_false_iff_ne.mpr hk
    obtain ⟨cl,e,p1,p2,p3⟩:=ih cs (fun z hz=>h1 z (List.mem_cons_of_mem _ hz)) h2
    refine ⟨cl,?_,p1,fun z hz=>?_,p3⟩
    ·rw [List.forIn_cons]
     simp only [hb,Bool.false_eq_true,if_false,pure_bind]
     exact e
    ·rcases List.mem_cons.mp hz with rfl | hz
     ·intro h; exact absurd h hk
     ·exact p2 z hz
 obtain ⟨cl,e,p1,p2,_⟩:=key scope.names [] hfree (fun x c h=>by cases h)
 refine ⟨cl,?_,p1,p2⟩
 unfold closureFor
 first
  | (rw [show (forIn scope.names [] _:Sem (List (Str × Addr))) = pure cl from e]; rfl)
  | (simp only [bind_pure]; exact e)
  | exact e
def PIfs (X:Cx) (ifs:List Expr) (t:TT):Prop :=
 ∀ (pins:List (Addr × Obj)) (s:Shared) (σ:L2.St) (H:Hp) (Q:Bool -> Hp -> Prop),Inv X pins σ H s -> t σ H Q →
  wpAny (model X.prog X.w) X.A (forIn ifs true fun c r=>if r = true then do let ok ← isTrue c X.env (eval c X.env); pure (ForInStep.yield ok) else pure (ForInStep.yield r)) (TP X pins σ Q) X.xe s
def tE:TT:=fun _ H Q=>Q true H
theorem zA {X:Cx}:PIfs X [] tE:=fun pins s σ H Q I h=>wpAny_pure ⟨H,I,h⟩
theorem uv {X:Cx} {c:Expr} {t:TT} (hc:PT X c t):PIfs X [c] t:=fun pins s σ H Q I h=>wpAny_tests_one (hc pins s σ H Q I h)
abbrev cxC (X:Cx) (N':List Str) (scope:Scope) (cl:List (Str × Addr)) (C D:Addr) (fp:List Addr) (s:Shared) (H:Hp):Cx :=
 { X with N:=N',s₀:=s,H₀:=H,env:=compEnvC scope cl C X.env,outer:=X.stack,ex:=D :: fp,fn:=fun _=>false,xe:=fun _ _=>False }
def capt (sub:List (Option Nat)) (σ:L2.St):L2.St:=sub.map fun o=>match o with
 | none=>none
 | some i=>(match σ[i]? with | some v=>v | none=>none)
def xC (J:It) (σ0:L2.St) (H1:Hp) (g:TG) (tt:TT) (te:TE) (Q:VK):Prop :=
 ∃ W:Nat -> Nat -> List V -> L2.St -> Hp -> Prop,(∃ m,W 0 m [] σ0 H1) /\ ∀ i m ys σ' H',W i m ys σ' H' →
  (J.stop i H' /\ ∀ l,H' l = none -> Q (.ref l) (upd H' l (.lst ys))) ∨
  (J.go i H' /\ ∃ Nn:List V -> L2.St -> Hp -> Prop,(∀ zs σ2 H2,Nn zs σ2 H2 -> ∃ m',m' < m /\ W (i + 1) m' zs σ2 H2) ∧
   ∀ x H2,J.yld i H' x H2 -> g x σ' H2 fun σ2 H3=>tt σ2 H3 fun b H4=>if b = true then te σ2 H4 fun y H5=>ys.length < sizeLine /\ Nn (ys ++ [y]) σ2 H5 else Nn ys σ2 H4)
def X9 (wi:TI) (sub:List (Option Nat)) (g:TG) (tt:TT) (te:TE):TE:=fun σ H Q=>wi σ H fun J H1=>xC J (capt sub σ) H1 g tt te Q
structure CSc (X:Cx) (scope:Scope) (N':List Str) (sub:List (Option Nat)):Prop where
 free:∀ y ∈ scope.names,y.2 = .free -> X.env.kindOf y.1 = some .cell
 nocell:∀ y ∈ scope.names,y.2 ≠ .cell
 kind:scope.kind = .function
 names:∀ y ∈ scope.names,y.2 = .local -> scope.names.lookup y.1 = some .local
 len:sub.length = N'.length
 cap:∀ (j:Nat) (y:Str) (i:Nat),N'[j]? = some y -> sub[j]? = some (some i) -> X.N[i]? = some y /\ X.env.scope.names.lookup y = some .cell /\ scope.names.lookup y = some .free
theorem HOk.track {P:Program} {w:World} {H:Hp} {h:Heap} {a:Addr} {o:HO} (x:HOk P w H h) (hn:H a = none) (new:zK P w (upd H a o) h a o):HOk P w (upd H a o) h:=fun b u e=>by
 by_cases hb:b = a
 ·subst hb; rw [zc] at e; cases e; exact new
 ·rw [zk hb] at e
  exact (x b u e).stay (fun c v _ q=>q) (fun c q=>by rw [zk (zm q hn)]; exact q) fun c xs q=>by rw [zk (zm q hn)]; exact q
theorem yo {scope:Scope} {env:Env} {y:Str} {k:NameKind} (h:(relabel scope env).names.lookup y = some k) :
  ∃ k',scope.names.lookup y = some k' /\ (k = k' \/ (k = .cell /\ k' = .free)):=by
 have key:∀ l:List (Str × NameKind),(l.map fun (n,k)=>if (k == NameKind.free && env.scope.kind == .function && env.kindOf n == some .cell) then (n,NameKind.cell) else (n,k)).lookup y = some k →
   ∃ k',l.lookup y = some k' /\ (k = k' \/ (k = .cell /\ k' = .free)):=by
  intro l
  induction l with
  | nil=>intro h; cases h
  | cons p r ih =>
   obtain ⟨n,k0⟩:=p
   intro h
   rw [List.map_cons] at h
   by_cases hc:(k0 == NameKind.free && env.scope.kind == .function && env.kindOf n == some .cell) = true
   ·have hf:k0 = .free:=by
     simp only [Bool.and_eq_true,beq_iff_eq] at hc
     exact hc.1.1
    dsimp only at h
    rw [if_pos hc,List.lookup_cons] at h
    rw [List.lookup_cons]
    cases hx:y == n with
    | true=>rw [hx] at h; cases h; exact ⟨k0,rfl,.inr ⟨rfl,hf⟩⟩
    | false=>rw [hx] at h; exact ih h
   ·dsimp only at h
    rw [if_neg hc,List.lookup_cons] at h
    rw [List.lookup_cons]
    cases hx:y == n with
    | true=>rw [hx] at h; cases h; exact ⟨_,rfl,.inl rfl⟩
    | false=>rw [hx] at h; exact ih h
 exact key scope.names h
theorem yM {scope:Scope} {env:Env} {y:Str} (hk:env.scope.kind = .function) (hc:env.kindOf y = some .cell) (h:scope.names.lookup y = some .free):(relabel scope env).names.lookup y = some .cell:=by
 have key:∀ l:List (Str × NameKind),l.lookup y = some .free -> (l.map fun (n,k)=>if (k == NameKind.free && env.scope.kind == .function && env.kindOf n == some .cell) then (n,NameKind.cell) else (n,k)).lookup y = some .cell:=by
  intro l
  induction l with
  | nil=>intro h; cases h
  | cons p r ih =>
   obtain ⟨n,k0⟩:=p
   intro h
   rw [List.map_cons]
   rw [List.lookup_cons] at h
   dsimp only
   cases hx:y == n with
   | true =>
    rw [hx] at h
    cases h
    have e:y = n:=by simpa using hx
    subst e
    rw [if_pos (by simp [hk,hc]),List.lookup_cons,hx]
   | false =>
    rw [hx] at h
    by_cases hc2:(k0 == NameKind.free && env.scope.kind == .function && env.kindOf n == some .cell) = true
    ·rw [if_pos hc2,List.lookup_cons,hx]; exact ih h
    ·rw [if_neg hc2,List.lookup_cons,hx]; exact ih h
 exact key scope.names h
section
variable {X:Cx} {pins:List (Addr × Obj)} {σ:L2.St} {H2:Hp} {s₂:Shared} {it:Addr} {fp:List Addr} {tn:Nat -> Heap -> Prop} {J:It} {scope:Scope} {cl:List (Str × Addr)} {N':List Str} {sub:List (Option Nat)}
theorem v7 {h₁:Heap} {tk:Nat} (I:Inv X pins σ H2 s₂) (S:CSc X scope N' sub) (hcl1:∀ x c,cl.lookup x = some c -> X.env.cells.lookup x = some c) (hcl2:∀ y ∈ scope.names,y.2 = .free -> ∃ c,cl.lookup y.1 = some c)
    (f2:∀ b ∈ fp,FpOk X pins H2 b) (hfp:∀ b ∈ fp,b < s₂.heap.objs.size) {m:Str -> Option Value} {ob:Obj}
    (hns:h₁.Ns (s₂.heap.objs.size + 1) m) (hk:∀ b o,(s₂.heap.push ob).get? b = some o -> h₁.get? b = some o) :
    Inv (cxC X N' scope cl (s₂.heap.objs.size + 1) s₂.heap.objs.size fp { s₂ with heap:=s₂.heap.push ob } H2) pins (capt sub σ) H2 { s₂ with heap:=h₁,toks:=tk }:=by
  have old:∀ b o,s₂.heap.get? b = some o -> (s₂.heap.push ob).get? b = some o:=fun b o e=>Heap.get?_push_of_some _ e
  have old2:∀ b o,s₂.heap.get? b = some o -> h₁.get? b = some o:=fun b o e=>hk b o (old b o e)
  have sz:(s₂.heap.push ob).objs.size = s₂.heap.objs.size + 1:=Heap.size_push ..
  have cells:∀ x c,cl.lookup x = some c -> c < s₂.heap.objs.size:=fun x c e=>let ⟨v,q⟩:=I.cell x c (hcl1 x c e); q.lt
  have has:∀ x,((relabel scope X.env).names.lookup x = some .cell \/ (relabel scope X.env).names.lookup x = some .free) -> ∃ c,cl.lookup x = some c:=fun x hx=>by
    rcases hx with hx | hx
    · obtain ⟨k',e,z⟩:=yo hx
      rcases z with z | ⟨_,z⟩
      · subst z; exact absurd rfl (S.nocell _ (PySem.mem_of_lookup e))
      · subst z; exact hcl2 _ (PySem.mem_of_lookup e) rfl
    · obtain ⟨k',e,z⟩:=yo hx
      rcases z with z | ⟨z,_⟩
      · subst z; exact hcl2 _ (PySem.mem_of_lookup e) rfl
      · cases z
  have frsz:∀ b ∈ frs X.stack,b < s₂.heap.objs.size:=fun b hb=>by
    rcases List.mem_cons.mp (I.stkSub b hb) with z | z
    · rw [z]; exact I.lt
    · exact Nat.lt_of_not_le fun q=>I.nofs q z
  refine
    { ok :=
      { mod:=I.ok.mod,kind:=S.kind,glob:=I.ok.glob,blt:=I.ok.blt
        above:=by show (s₂.heap.push ob).objs.size <= s₂.heap.objs.size + 1; rw [sz]; exact Nat.le_refl _
        inj:=fun x y c h1 h2=>I.ok.inj x y c (hcl1 x c h1) (hcl1 y c h2)
        has:=has
        cab:=fun x c z=>by cases z
        hd:=I.ok.hd,frames:=I.ok.frames,stk:=.inl rfl
        exf:=fun b hb=>?exf
        bs:=fun b o e=>⟨old b o (I.bk b o e),(I.bs b o e).2⟩
        bsz:=by show X.base.objs.size <= (s₂.heap.push ob).objs.size; rw [sz]; exact Nat.le_succ_of_le (Nat.le_trans I.ok.bsz I.sz)
        noex:=fun b o e hb=>?noex
        exfs:=fun b hb=>?exfs
        funs:=?funs
        frf:=I.stkFree }
      os:=rfl,bare:=I.bare,base:=Un.kept fun b u e=>hk b u e
      loc:=⟨m,hns,?loc⟩
      cell:=fun x c e=>?cell
      free:=I.hok.fresh (Nat.le_succ _)
      freeC:=fun x c e=>I.freeC x c (hcl1 x c e)
      pin:=fun p hp=>?pin
      hok:=I.hok.kept old2
      len:=?len }
  case exf =>
    rcases List.mem_cons.mp hb with rfl | hb
    · exact ⟨Nat.ne_of_lt (Nat.lt_succ_self _),fun x c e=>Nat.ne_of_lt (cells x c e)⟩
    · exact ⟨Nat.ne_of_lt (Nat.lt_succ_of_lt (hfp b hb)),fun x c e=>(f2 b hb).2.2.2.2.1 x c (hcl1 x c e)⟩
  case noex =>
    have hl:b < X.s₀.heap.objs.size:=Nat.lt_of_lt_of_le (Heap.lt_size e) I.ok.bsz
    rcases List.mem_cons.mp hb with rfl | hb
    · exact absurd (Nat.lt_of_lt_of_le hl I.sz) (Nat.lt_irrefl _)
    · rcases (f2 b hb).2.2.2.1 with z | z
      · exact I.ok.noex b o e z
      · exact absurd (Nat.lt_of_lt_of_le hl z) (Nat.lt_irrefl _)
  case exfs =>
    intro hs
    rcases List.mem_cons.mp hb with rfl | hb
    · exact absurd (frsz _ hs) (Nat.lt_irrefl _)
    · rcases List.mem_cons.mp (I.stkSub b hs) with z | z
      · exact (f2 b hb).2.1 z
      · exact (f2 b hb).2.2.1 z
  case funs=>exact Heap.FunFrames.of_keeps (fun b o e _=>⟨o,old b o e,rfl⟩) I.stack
  case loc =>
    intro j y v hj hv hvis
    obtain ⟨mX,_,lX⟩:=I.loc
    unfold capt at hv
    rw [List.getElem?_map] at hv
    cases hs:sub[j]? with
    | none=>rw [hs] at hv; cases hv
    | some o =>
      rw [hs] at hv
      cases o with
      | none=>cases hv
      | some i =>
        obtain ⟨hN,hc,hf⟩:=S.cap j y i hj hs
        have hv':σ[i]? = some (some v):=by
          have z:(match σ[i]? with | some v=>v | none=>none) = some v:=Option.some.inj hv
          cases q:σ[i]? with
          | none=>rw [q] at z; cases z
          | some w=>rw [q] at z; rw [show w = some v from z]
        obtain ⟨u,ru,hl⟩:=lX i y v hN hv' (.inr (.inl hc))
        refine ⟨u,ru,?_⟩
        have kc:(relabel scope X.env).names.lookup y = some .cell:=yM I.ok.kind hc hf
        rcases hl with ⟨z,_⟩ | ⟨_,c,e,ic⟩
        · have z':X.env.scope.names.lookup y = some .local :=z
          rw [hc] at z'; cases z'
        · obtain ⟨c',e'⟩:=hcl2 _ (PySem.mem_of_lookup hf) rfl
          have:=hcl1 _ _ e'
          rw [e] at this; cases this
          refine .inr ⟨.inl kc,c,e',?_⟩
          obtain ⟨oc,h1,h2⟩:=ic
          exact ⟨oc,old2 _ _ h1,h2⟩
  case cell =>
    obtain ⟨v,oc,h1,h2⟩:=I.cell x c (hcl1 x c e)
    exact ⟨v,oc,old2 _ _ h1,h2⟩
  case pin =>
    obtain ⟨p1,p2,p3,p4,p5⟩:=I.pin p hp
    refine ⟨old2 _ _ p1,p2,Nat.ne_of_lt (Nat.lt_succ_of_lt (Heap.lt_size p1)),fun hs=>?_,p5⟩
    rcases List.mem_cons.mp (I.stkSub _ hs) with z | z
    · exact p3 z
    · exact p4 z
  case len =>
    show (capt sub σ).length = N'.length
    unfold capt
    rw [List.length_map]; exact S.len
theorem YK {C D:Addr} {s₀:Shared} {s':Shared} {σ':L2.St} {H':Hp} {ys:List V} {us:List Value} {k:Nat} {oC:Obj} (I:Inv X pins σ H2 s₂)
    (hs₀:∀ b o,s₂.heap.get? b = some o -> s₀.heap.get? b = some o) (hos:s₀.os = s₂.os) (hD:s₂.heap.objs.size <= D) (hC:s₂.heap.objs.size <= C) (hDC:D ≠ C) (f2:∀ b ∈ fp,FpOk X pins H2 b)
    (I':Inv (cxC X N' scope cl C D fp s₀ H2) pins σ' H' s') (hn:H' D = none) (hy:s'.heap.get? D = some { cls:=.type "list",data:=.seq us.toArray k }) (rv:Vals ys us) (hz:ys.length <= sizeLine)
    (ho:s'.heap.get? C = some oC) (hd:∀ v,oC.data ≠ .cell v):Inv X (pins ++ [(C,oC)]) σ (upd H' D (.lst ys)) s' /\ FpOk X pins (upd H' D (.lst ys)) C:=by
  have neD:∀ b o,s₂.heap.get? b = some o -> b ≠ D:=fun b o e=>Nat.ne_of_lt (Nat.lt_of_lt_of_le (Heap.lt_size e) hD)
  have nm:∀ b o,s₂.heap.get? b = some o -> b ∉ fp -> b ∉ D :: fp:=fun b o e h z=>(List.mem_cons.mp z).elim (neD b o e) h
  have U:=I'.base
  have HC:upd H' D (.lst ys) C = none:=by rw [zk (Ne.symm hDC)]; exact I'.free
  have fpc:FpOk X pins (upd H' D (.lst ys)) C:=I.fpOk hC HC
  have un:Un (frs X.stack) fp H2 (upd H' D (.lst ys)) s₂.heap s'.heap :=
    { keep:=fun b o e n h1 h2=>U.keep b o (hs₀ b o e) n h1 (nm b o e h2)
      slot:=fun b o e n h1 h2=>U.slot b o (hs₀ b o e) n h1 (nm b o e h2)
      free:=fun b o e n h2=>by rw [zk (neD b o e)]; exact U.free b o (hs₀ b o e) n (nm b o e h2)
      there:=fun b o e h2=>U.there b o (hs₀ b o e) (nm b o e h2)
      tups:=fun b xs e=>by have z:=U.tups b xs e; rw [zk (zm z hn)]; exact z
      frzs:=fun b o u e=>by have z:=U.frzs b o u e; rw [zk (zm z hn)]; exact z
      tbls:=fun b ps e=>by obtain ⟨more,z⟩:=U.tbls b ps e; exact ⟨more,by rw [zk (zm z hn)]; exact z⟩ }
  have hok:HOk X.prog X.w (upd H' D (.lst ys)) s'.heap:=HOk.track I'.hok hn ⟨hz,us,k,rv,hy⟩
  have IX:Inv X pins σ (upd H' D (.lst ys)) s':=I.call' (I'.os.trans hos) un hok I'.bare fun b hb=>⟨(f2 b hb).2.2.2.1,(f2 b hb).2.1,(f2 b hb).2.2.2.2.1,(f2 b hb).2.2.2.2.2⟩
  refine ⟨IX.pins_of fun p hp=>?_,fpc⟩
  rcases List.mem_append.mp hp with hp | hp
  · exact IX.pin p (List.mem_append_right _ hp)
  · rw [List.mem_singleton.mp hp]
    exact ⟨ho,HC,fpc.2.1,fpc.2.2.1,hd⟩
end
section
variable {X:Cx} {scope:Scope} {N':List Str} {sub:List (Option Nat)} {x:Str} {px pos:Pos} {elt iter:Expr} {ifs:List Expr} {wi:TI} {g:TG} {tt:TT} {te:TE}
theorem CSc.clos {pins:List (Addr × Obj)} {σ:L2.St} {H:Hp} {s:Shared} (S:CSc X scope N' sub) (I:Inv X pins σ H s):∃ cl,closureFor scope X.env = pure cl /\ (∀ x c,cl.lookup x = some c -> X.env.cells.lookup x = some c) /\ ∀ y ∈ scope.names,y.2 = .free -> ∃ c,cl.lookup y.1 = some c :=
 v6 fun y hy hf=>I.ok.has y.1 (.inl (S.free y hy hf))
end
def eqVs:List V -> List V -> Bool
 | [],[]=>true
 | x :: xs,y :: ys=>eqV x y && eqVs xs ys
 | _,_=>false
theorem qh:∀ {xs ys:List V},eqVs xs ys = true ↔ xs.length = ys.length /\ ∀ (j:Nat) (x y:V),xs[j]? = some x -> ys[j]? = some y -> eqV x y = true
 | [],[]=>by simp [eqVs]
 | x :: xs,y :: ys=>by
  show (eqV x y && eqVs xs ys) = true ↔ _
  rw [Bool.and_eq_true,qh]
  constructor
  ·rintro ⟨h1,h2,h3⟩
   refine ⟨by simp [h2],fun j a b ha hb=>?_⟩
   cases j with
   | zero=>simp at ha hb; subst ha hb; exact h1
   | succ j=>exact h3 j a b (by simpa using ha) (by simpa using hb)
  ·rintro ⟨h1,h2⟩
   exact ⟨h2 0 x y rfl rfl,by simpa using h1,fun j a b ha hb=>h2 (j + 1) a b (by simpa using ha) (by simpa using hb)⟩
 | [],_ :: _=>by simp [eqVs]
 | _ :: _,[]=>by simp [eqVs]
theorem jb {xs ys:List V}:((List.range (min xs.length ys.length)).all (fun j=>match xs[j]?,ys[j]? with | some x,some y=>eqV x y | _,_=>true) && xs.length == ys.length) = eqVs xs ys:=by
 rw [Bool.eq_iff_iff,Bool.and_eq_true,List.all_eq_true,beq_iff_eq,qh]
 constructor
 ·rintro ⟨h1,h2⟩
  refine ⟨h2,fun j x y hx hy=>?_⟩
  have hj:j < xs.length:=(List.getElem?_eq_some_iff.mp hx).1
  have:=h1 j (List.mem_range.mpr (by rw [← h2]; simpa using hj))
  rw [hx,hy] at this
  exact this
 ·rintro ⟨h1,h2⟩
  refine ⟨fun j hj=>?_,h1⟩
  have hj':=List.mem_range.mp hj
  have a:j < xs.length:=by omega
  have b:j < ys.length:=by omega
  rw [List.getElem?_eq_getElem a,List.getElem?_eq_getElem b]
  exact h2 j _ _ (List.getElem?_eq_getElem a) (List.getElem?_eq_getElem b)
theorem Zj {xs:List V} {us:List Value} (r:Vals xs us) (j:Nat) (h:j < us.length):∃ x,xs[j]? = some x /\ RelV x us[j]:=by
 have hl:=r.length
 have hx:xs[j]? = some xs[j]:=List.getElem?_eq_getElem (by omega)
 obtain ⟨u,e,q⟩:=r.get hx
 rw [List.getElem?_eq_getElem h] at e
 cases e
 exact ⟨_,hx,q⟩
theorem Vd {A:Around} {s:Shared} {xs ys:List V} {us ws:List Value} (r1:Vals xs us) (r2:Vals ys ws) (f1:xs.all uu = true) (f2:ys.all uu = true) :
  ∀ j (h1:j < us.toArray.size) (h2:j < ws.toArray.size),SeqAt.EqAt A s us.toArray[j] ws.toArray[j] ((fun j=>match xs[j]?,ys[j]? with | some x,some y=>eqV x y | _,_=>true) j):=by
 intro j h1 h2
 obtain ⟨x,ex,qx⟩:=Zj r1 j (by simpa using h1)
 obtain ⟨y,ey,qy⟩:=Zj r2 j (by simpa using h2)
 have fx:uu x = true:=List.all_eq_true.mp f1 x (List.mem_of_getElem? ex)
 have fy:uu y = true:=List.all_eq_true.mp f2 y (List.mem_of_getElem? ey)
 show SeqAt.EqAt A s _ _ (match xs[j]?,ys[j]? with | some x,some y=>eqV x y | _,_=>true)
 rw [ex,ey]
 simpa using W4 qx qy fx fy
section
variable {X:Cx}
def rEqT (K:FG7) (neg:Bool):R2:=fun x y H Q=>∃ a b xs ys,x = .ref a /\ y = .ref b /\ SqT K H a xs /\ SqT K H b ys /\ xs.all uu = true /\ ys.all uu = true /\ Q (.bl (if neg then !eqVs xs ys else eqVs xs ys)) H
theorem xn {h:Heap} {a:Addr} {its:Array Value} (t:IsTup h a its):h.IsTuple a its:=t
theorem Ve {k:Nat} (hr:Room k X.A):OpR X (compareOp .Eq) (rEqT X.K false):=by
 intro pins s σ H x y v u Q I rx ry h
 obtain ⟨a,b,xs,ys,rfl,rfl,ha,hb,f1,f2,q⟩:=h
 cases rx; cases ry
 obtain ⟨us,r1,t1,_⟩:=I.tuple ha
 obtain ⟨ws,r2,t2,_⟩:=I.tuple hb
 refine SeqAt.eq_tupleAt (xn t1) (xn t2) hr.units0 (Vd r1 r2 f1 f2) ?_
 rw [List.size_toArray,List.size_toArray,← r1.length,← r2.length,jb]
 exact ⟨.bl _,H,I,rfl,q⟩
end
section
variable {X:Cx} {pos:Pos}
theorem tF:∀ {bs:List Bool} {us:List Value},Vals (bs.map V.bl) us -> LSm.BoolsAre us bs
 | [],_,.nil=>.nil
 | b :: bs,_,.cons r t=>by
  cases r
  exact .cons b (tF t)
theorem xS (hcalm:X.calm = true):yI X (.builtin "all") (fun xs H Q=>∃ (l:Addr) (bs:List Bool),xs = [.ref l] /\ SqL X.K H l (bs.map V.bl) /\ Q (.bl (bs.all id)) H):=by
 intro pins s σ H xs us Q I r h
 obtain ⟨l,bs,rfl,hl,q⟩:=h
 obtain ⟨u,rfl,rx⟩:=wL r
 cases (show u = Value.ref l from rx)
 obtain ⟨vs,rv,pl,_⟩:=I.list hl
 have hl':s.heap.IsList l vs.toArray:=pl.isList
 have hb:LSm.BoolsAre vs bs:=tF rv
 have hlt:l < s.heap.objs.size:=by obtain ⟨_,e,_⟩:=hl'; exact Heap.lt_size e
 refine call_all_walk (wpAny_pyIter_list hl' ?_)
 refine ⟨s.heap.objs.size,[s.heap.objs.size,l],[s.heap.objs.size],vs.toArray.size,_,_,fun i=>(bs[i]?).getD true,rfl,Walks.list (A:=X.A.in1) (I.ok.hd hcalm) _ l (Nat.ne_of_lt hlt) vs.toArray,
  ⟨⟨_,Heap.get?_push_size _ rfl,rfl,rfl⟩,hl'.push _⟩,fun i v s' Q' E' hP hQ=>?_,fun h' tk hk=>?_⟩
 ·obtain ⟨b,e,rfl⟩:=hb.get i v (by simpa using hP)
  simp only [e,Option.getD_some] at hQ
  exact wpAny_truthy_bool hQ
 ·have e:((List.range vs.toArray.size).all fun i=>(bs[i]?).getD true) = bs.all id:=by
   have hlen:bs.length = vs.length:=by rw [← rv.length,List.length_map]
   rw [List.size_toArray,← hlen,Bool.eq_iff_iff,List.all_eq_true,List.all_eq_true]
   constructor
   ·intro z b hb'
    obtain ⟨i,hi,rfl⟩:=List.getElem_of_mem hb'
    have:=z i (List.mem_range.mpr hi)
    simpa [List.getElem?_eq_getElem hi] using this
   ·intro z i hi
    have hi':=List.mem_range.mp hi
    simpa [List.getElem?_eq_getElem hi'] using z _ (List.getElem_mem hi')
  rw [e]
  exact ⟨.bl (bs.all id),H,I.kept (t':=tk) (h':=h') (LSm.kept_iter hk),rfl,q⟩
end
theorem CSc.of {X:Cx} {scope:Scope} {N':List Str} {sub:List (Option Nat)} (sc:Scope) (NN:List Str) (e:X.env.scope = sc) (en:X.N = NN)
  (h:((scope.names.all fun y=>(y.2 != .free || sc.names.lookup y.1 == some .cell) && (y.2 != .cell) && (y.2 != .local || scope.names.lookup y.1 == some .local)) && (sub.length == N'.length) &&
   ((N'.zip sub).all fun p=>match p.2 with | none=>true | some i=>NN[i]? == some p.1 && sc.names.lookup p.1 == some .cell && scope.names.lookup p.1 == some .free)) = true)
  (hk:scope.kind = .function):CSc X scope N' sub:=by
 rw [Bool.and_eq_true,Bool.and_eq_true] at h
 obtain ⟨⟨h1,h2⟩,h3⟩:=h
 have k1:=fun y hy=>List.all_eq_true.mp h1 y hy
 refine ⟨fun y hy hf=>?_,fun y hy hc=>?_,hk,fun y hy hl=>?_,by simpa using h2,fun j y i hj hs=>?_⟩
 ·have:=k1 y hy
  simp only [hf,Bool.and_eq_true] at this
  have z:=this.1.1
  show X.env.scope.names.lookup y.1 = _
  rw [e]; simpa using z
 ·have:=k1 y hy
  simp only [hc,Bool.and_eq_true] at this
  simp at this
 ·have:=k1 y hy
  simp only [hl,Bool.and_eq_true] at this
  simpa using this.2
 ·have hm:(y,some i) ∈ N'.zip sub:=by
   have:(N'.zip sub)[j]? = some (y,some i):=by
    rw [List.getElem?_zip_eq_some]; exact ⟨hj,hs⟩
   exact List.mem_of_getElem? this
  have:=List.all_eq_true.mp h3 _ hm
  simp only [Bool.and_eq_true,beq_iff_eq] at this
  rw [e,en]
  exact ⟨this.1.1,this.1.2,this.2⟩
def vR (a:Int) (lo hi:Option Int):Deed:=if lo ≠ none /\ lo = hi then ⟨0,lo,hi⟩ else ⟨a,lo,hi⟩
def thrO (e:Deed) (o:Option Int) (d:Option Int):Option Int:=match o with
 | none=>d
 | some l=>some (e.mk' l)
def tG (d e:Deed):Deed:=vR (d.add + e.add) (thrO e d.lo e.lo) (thrO e d.hi e.hi)
def Deed.Bd (B:Int) (d:Deed):Prop:=(-B <= d.add /\ d.add <= B) /\ (∀ l,d.lo = some l -> -B <= l /\ l <= B) /\ ∀ h,d.hi = some h -> -B <= h /\ h <= B
def optA (o:Option Int):Int:=match o with | none=>0 | some i=>(i.natAbs:Int)
def Deed.big (d:Deed):Int:=(d.add.natAbs:Int) + optA d.lo + optA d.hi + 1
theorem Zk {a:Int} {lo hi:Option Int} (h:∀ l u,lo = some l -> hi = some u -> l <= u):(vR a lo hi).Ok:=by
 unfold vR
 split
 ·rename_i c
  intro l u e1 e2
  have e1':lo = some l:=e1
  have e2':hi = some u:=e2
  right
  refine ⟨?_,rfl⟩
  have:=c.2
  rw [e1',e2'] at this
  exact Option.some.inj this
 ·rename_i c
  intro l u e1 e2
  have e1':lo = some l:=e1
  have e2':hi = some u:=e2
  left
  have:=h l u e1' e2'
  have ne:l ≠ u:=fun z=>c ⟨by rw [e1']; simp,by rw [e1',e2',z]⟩
  omega
theorem Deed.Sm.bd {d:Deed} (h:d.Sm):d.Bd (10 ^ 30):=by
 obtain ⟨⟨a1,a2⟩,h1,h2⟩:=h
 exact ⟨⟨by omega,by omega⟩,fun l e=>by have:=h1 l e; exact ⟨by have:=this.1; omega,by have:=this.2; omega⟩,fun l e=>by have:=h2 l e; exact ⟨by have:=this.1; omega,by have:=this.2; omega⟩⟩
theorem vS {c:Bool} {A B:Prop} (e:c = false) (h:B):if c = true then A else B:=by rw [e]; exact iteF h
theorem sM {c:Bool} {A B:Prop} (e:c = true) (h:A):if c = true then A else B:=by rw [e]; exact iteT h
theorem uw {K:FG7} {a:Addr} {xs:List V} {g:TG} {tt:TT} {te:TE} {Q:VK} {σ:L2.St} {H:Hp} (Pv:Nat -> List V -> L2.St -> Hp -> Prop) (h0:Pv 0 [] σ H) (hl:∀ i ys σ H,i <= xs.length -> Pv i ys σ H -> SqT K H a xs)
  (hs:∀ i x ys σ H,xs[i]? = some x -> Pv i ys σ H -> g x σ H fun σ2 H3=>tt σ2 H3 fun b H4=>if b = true then te σ2 H4 fun y H5=>ys.length < sizeLine /\ Pv (i + 1) (ys ++ [y]) σ2 H5 else Pv (i + 1) ys σ2 H4)
  (hd:∀ ys σ H,Pv xs.length ys σ H -> ∀ l,H l = none -> Q (.ref l) (upd H l (.lst ys))) :
  xC (Itt K a) σ H g tt te Q:=by
 refine ⟨fun i m ys σ H=>m = xs.length - i /\ i <= xs.length /\ Pv i ys σ H,⟨xs.length,by simp,Nat.zero_le _,h0⟩,?_⟩
 rintro i m ys σ H ⟨rfl,hi,p⟩
 have q:=hl i ys σ H hi p
 by_cases hlt:i < xs.length
 ·refine .inr ⟨⟨xs,xs[i],q,by simp [hlt]⟩,Pv (i + 1),fun zs σ' H' p'=>⟨xs.length - (i + 1),by omega,rfl,hlt,p'⟩,fun x H' y=>?_⟩
  obtain ⟨e,y⟩:=y
  subst e
  exact hs i x ys σ _ (y xs q) p
 ·have e:i = xs.length:=by omega
  subst e
  exact .inl ⟨⟨xs,q,Nat.le_refl _⟩,hd ys σ H p⟩
theorem w6 {K:FG7} {a:Addr} {xs:List V} {g:TG} {tt:TT} {te:TE} {Q:VK} {σ:L2.St} {H:Hp} (Pv:Nat -> List V -> L2.St -> Hp -> Prop) (h0:Pv 0 [] σ H) (hl:∀ i ys σ H,i <= xs.length -> Pv i ys σ H -> SqL K H a xs)
  (hs:∀ i x ys σ H,xs[i]? = some x -> Pv i ys σ H -> g x σ H fun σ2 H3=>tt σ2 H3 fun b H4=>if b = true then te σ2 H4 fun y H5=>ys.length < sizeLine /\ Pv (i + 1) (ys ++ [y]) σ2 H5 else Pv (i + 1) ys σ2 H4)
  (hd:∀ ys σ H,Pv xs.length ys σ H -> ∀ l,H l = none -> Q (.ref l) (upd H l (.lst ys))) :
  xC (Itl K a) σ H g tt te Q:=by
 refine ⟨fun i m ys σ H=>m = xs.length - i /\ i <= xs.length /\ Pv i ys σ H,⟨xs.length,by simp,Nat.zero_le _,h0⟩,?_⟩
 rintro i m ys σ H ⟨rfl,hi,p⟩
 have q:=hl i ys σ H hi p
 by_cases hlt:i < xs.length
 ·refine .inr ⟨⟨xs,xs[i],q,by simp [hlt]⟩,Pv (i + 1),fun zs σ' H' p'=>⟨xs.length - (i + 1),by omega,rfl,hlt,p'⟩,fun x H' y=>?_⟩
  obtain ⟨e,y⟩:=y
  subst e
  exact hs i x ys σ _ (y xs q) p
 ·have e:i = xs.length:=by omega
  subst e
  exact .inl ⟨⟨xs,q,Nat.le_refl _⟩,hd ys σ H p⟩
theorem Wa {X:Cx} {K:FG7} (h:X.K = K):IxR X (rIxT K):=by subst h; exact yC
theorem Vf {a:Int} {hi:Option Int}:vR a none hi = ⟨a,none,hi⟩:=by simp [vR]
theorem Vg {a l:Int}:vR a (some l) (some l) = ⟨0,some l,some l⟩:=by simp [vR]
theorem XC {a l:Int} {hi:Option Int} (h:some l ≠ hi):vR a (some l) hi = ⟨a,some l,hi⟩:=by simp [vR,h]
def Zl (_:FG7):Sp:=sp3 fun x y z H Q=>∃ a lo hi,x = .int a /\ y = ov lo /\ z = ov hi /\ ∀ t,H t = none -> Q (.ref t) (upd H t (.tup (vR a lo hi).vs))
def tH (K:FG7):Sp:=sp2 fun x y H Q=>∃ d e,zv K H x d /\ zv K H y e /\ ∀ t,H t = none -> Q (.ref t) (upd H t (.tup (tG d e).vs))
theorem Deed.Bd.mono {d:Deed} {B C:Int} (b:d.Bd B) (h:B <= C):d.Bd C:=by
 obtain ⟨⟨b1,b2⟩,b3,b4⟩:=b
 exact ⟨⟨by omega,by omega⟩,fun l e=>by have:=b3 l e; omega,fun l e=>by have:=b4 l e; omega⟩
theorem Wb {i j:Int}:eqV (.int i) (.int j) = decide (i = j):=by rw [Bool.eq_iff_iff]; simp [eqV]
theorem tJ:∀ {xs ys:List Int},eqVs (xs.map V.int) (ys.map V.int) = decide (xs = ys)
 | [],[]=>rfl
 | x :: xs,y :: ys=>by
  show (eqV (.int x) (.int y) && eqVs (xs.map V.int) (ys.map V.int)) = _
  rw [Wb,tJ,Bool.eq_iff_iff]
  simp
 | [],_ :: _=>by simp [eqVs]
 | _ :: _,[]=>by simp [eqVs]
theorem tK {xs:List Int}:(xs.map V.int).all uu = true:=by
 rw [List.all_eq_true]; intro x hx; obtain ⟨i,_,rfl⟩:=List.mem_map.mp hx; rfl
theorem Grow.sqL {H H':Hp} (g:Grow [] H H') {K:FG7} {a:Addr} {xs:List V} (h:SqL K H a xs):SqL K H' a xs:=by
 rcases h with (h | ⟨o,h⟩) | h
 ·exact .inl (.inl (g.keep _ _ (by simp) h))
 ·exact .inl (.inr ⟨o,g.frz _ _ _ h⟩)
 ·exact .inr h
section
variable {K:FG7} {a:Addr} {xs:List V} {n:Nat} {tt:TT} {te:TE} {Q:VK} {σ:L2.St} {H:Hp}
theorem xT {p:V -> Bool} {f:V -> V} {i:Nat} {x:V} (hx:xs[i]? = some x):((xs.take (i + 1)).filter p).map f = ((xs.take i).filter p).map f ++ (if p x = true then [f x] else []):=by
 rw [List.take_add_one,hx,List.filter_append,List.map_append]
 congr 1
 show ((([x]:List V)).filter p).map f = _
 by_cases c:p x = true
 ·rw [if_pos c,List.filter_cons_of_pos c]; rfl
 ·rw [if_neg c,List.filter_cons_of_neg c]; rfl
theorem qi {p:V -> Bool} {f:V -> V} {i:Nat} (h:xs.length <= 1000):(((xs.take i).filter p).map f).length < sizeLine:=by
 rw [List.length_map]
 refine zH ?_
 have:=List.length_filter_le p (xs.take i)
 have:=List.length_take_le i xs
 have:(xs.take i).length <= xs.length:=by rw [List.length_take]; omega
 omega
theorem qj {p:V -> Bool} {f:V -> V}:((xs.take xs.length).filter p).map f = (xs.filter p).map f:=by rw [List.take_length]
theorem jc (p:V -> Bool) (f:V -> V) (hl:SqL K H a xs) (hlen:xs.length <= 1000)
  (ht:∀ x H' (R:Bool -> Hp -> Prop),x ∈ xs -> Grow [] H H' -> (∀ H2,Grow [] H' H2 -> R (p x) H2) -> tt (σ.set n (some x)) H' R)
  (hs:∀ x H' (R:VK),x ∈ xs -> p x = true -> Grow [] H H' -> (∀ H2,Grow [] H' H2 -> R (f x) H2) -> te (σ.set n (some x)) H' R)
  (hd:∀ H' l,Grow [] H H' -> H' l = none -> Q (.ref l) (upd H' l (.lst ((xs.filter p).map f)))):xC (Itl K a) σ H (wK n) tt te Q:=by
 refine w6 (xs:=xs) (fun i ys σ' H'=>Grow [] H H' /\ (σ' = σ \/ ∃ e,σ' = σ.set n e) /\ ys = ((xs.take i).filter p).map f) ⟨Grow.refl _ _,.inl rfl,rfl⟩ ?_ ?_ ?_
 ·rintro i ys σ' H' _ ⟨g,_⟩
  exact g.sqL hl
 ·rintro i x ys σ' H' hx ⟨g,hσ,rfl⟩
  have e:σ'.set n (some x) = σ.set n (some x):=by
   rcases hσ with rfl | ⟨e,rfl⟩
   ·rfl
   ·rw [List.set_set]
  show tt (σ'.set n (some x)) H' _
  rw [e]
  refine ht x H' _ (List.mem_of_getElem? hx) g fun H2 g2=>?_
  by_cases c:p x = true
  ·rw [if_pos c]
   refine hs x H2 _ (List.mem_of_getElem? hx) c (g.trans g2) fun H3 g3=>⟨qi hlen,(g.trans g2).trans g3,.inr ⟨_,rfl⟩,?_⟩
   rw [xT hx,if_pos c]
  ·rw [if_neg c]
   refine ⟨g.trans g2,.inr ⟨_,rfl⟩,?_⟩
   rw [xT hx,if_neg c,List.append_nil]
 ·rintro ys σ' H' ⟨g,_,rfl⟩ l hl
  rw [qj]
  exact hd H' l g hl
theorem jd (p:V -> Bool) (f:V -> V) (hl:SqT K H a xs) (hlen:xs.length <= 1000)
  (ht:∀ x H' (R:Bool -> Hp -> Prop),x ∈ xs -> Grow [] H H' -> (∀ H2,Grow [] H' H2 -> R (p x) H2) -> tt (σ.set n (some x)) H' R)
  (hs:∀ x H' (R:VK),x ∈ xs -> p x = true -> Grow [] H H' -> (∀ H2,Grow [] H' H2 -> R (f x) H2) -> te (σ.set n (some x)) H' R)
  (hd:∀ H' l,Grow [] H H' -> H' l = none -> Q (.ref l) (upd H' l (.lst ((xs.filter p).map f)))):xC (Itt K a) σ H (wK n) tt te Q:=by
 refine uw (xs:=xs) (fun i ys σ' H'=>Grow [] H H' /\ (σ' = σ \/ ∃ e,σ' = σ.set n e) /\ ys = ((xs.take i).filter p).map f) ⟨Grow.refl _ _,.inl rfl,rfl⟩ ?_ ?_ ?_
 ·rintro i ys σ' H' _ ⟨g,_⟩
  exact g.sqT hl
 ·rintro i x ys σ' H' hx ⟨g,hσ,rfl⟩
  have e:σ'.set n (some x) = σ.set n (some x):=by
   rcases hσ with rfl | ⟨e,rfl⟩
   ·rfl
   ·rw [List.set_set]
  show tt (σ'.set n (some x)) H' _
  rw [e]
  refine ht x H' _ (List.mem_of_getElem? hx) g fun H2 g2=>?_
  by_cases c:p x = true
  ·rw [if_pos c]
   refine hs x H2 _ (List.mem_of_getElem? hx) c (g.trans g2) fun H3 g3=>⟨qi hlen,(g.trans g2).trans g3,.inr ⟨_,rfl⟩,?_⟩
   rw [xT hx,if_pos c]
  ·rw [if_neg c]
   refine ⟨g.trans g2,.inr ⟨_,rfl⟩,?_⟩
   rw [xT hx,if_neg c,List.append_nil]
 ·rintro ys σ' H' ⟨g,_,rfl⟩ l hl
  rw [qj]
  exact hd H' l g hl
theorem YL {p:V -> Bool} (h:∀ x,p x = true):xs.filter p = xs:=List.filter_eq_self.mpr fun x _=>h x
theorem tL (f:V -> V) (hl:SqT K H a xs) (hlen:xs.length <= 1000)
  (hs:∀ x H' (R:VK),x ∈ xs -> Grow [] H H' -> (∀ H2,Grow [] H' H2 -> R (f x) H2) -> te (σ.set n (some x)) H' R)
  (hd:∀ H' l,Grow [] H H' -> H' l = none -> Q (.ref l) (upd H' l (.lst (xs.map f)))):xC (Itt K a) σ H (wK n) tE te Q :=
 jd (fun _=>true) f hl hlen (fun x H' R _ _ k=>k H' (Grow.refl _ _)) (fun x H' R hx _ g k=>hs x H' R hx g k) (fun H' l g hl=>by rw [YL fun _=>rfl]; exact hd H' l g hl)
end
theorem nd {d e:Deed} (h:d = e):(!decide (d = e)) = false:=by rw [decide_eq_true h]; rfl
mutual
inductive Dat (K:FG7) (H:Hp):V -> PyData -> Prop
 | non:Dat K H .non .none
 | bl (b:Bool):Dat K H (.bl b) (.bool b)
 | int (i:Int):Dat K H (.int i) (.int i)
 | tup {a:Addr} {xs:List V} {ds:List PyData}:SqT K H a xs -> DatAll K H xs ds -> Dat K H (.ref a) (.tuple ds)
 | lst {a:Addr} {xs:List V} {ds:List PyData}:SqL K H a xs -> DatAll K H xs ds -> Dat K H (.ref a) (.list ds)
inductive DatAll (K:FG7) (H:Hp):List V -> List PyData -> Prop
 | nil:DatAll K H [] []
 | cons {x:V} {xs:List V} {d:PyData} {ds:List PyData}:Dat K H x d -> DatAll K H xs ds -> DatAll K H (x :: xs) (d :: ds)
end
section
variable {X:Cx} {pins:List (Addr × Obj)} {σ:L2.St} {H:Hp} {s:Shared}
mutual
theorem Dat.reads (I:Inv X pins σ H s):∀ {x:V} {d:PyData} {u:Value},Dat X.K H x d -> RelV x u -> ∃ as,Reads s.heap u d as
 | _,_,u,.non,r=>by
  cases (show u = Value.none from r)
  exact ⟨_,.none⟩
 | _,_,u,.bl b,r=>by
  cases (show u = Value.bool b from r)
  exact ⟨_,.bool b⟩
 | _,_,u,.int i,r=>by
  obtain ⟨t,rfl⟩:=r
  exact ⟨_,.int i t⟩
 | _,_,u,.tup (a:=a) hs hd,r=>by
  cases (show u = Value.ref a from r)
  obtain ⟨its,r1,⟨o,e1,e2,n,e3⟩,_⟩:=I.tuple hs
  obtain ⟨as,q⟩:=DatAll.reads I hd r1
  exact ⟨_,.tuple e1 e2 e3 q⟩
 | _,_,u,.lst (a:=a) hs hd,r=>by
  cases (show u = Value.ref a from r)
  obtain ⟨its,r1,⟨o,n,e1,e2,_,e3⟩,_⟩:=I.list hs
  obtain ⟨as,q⟩:=DatAll.reads I hd r1
  exact ⟨_,.list e1 e2 e3 q⟩
theorem DatAll.reads (I:Inv X pins σ H s):∀ {xs:List V} {ds:List PyData} {us:List Value},DatAll X.K H xs ds -> Vals xs us -> ∃ as,ReadsAll s.heap us ds as
 | _,_,_,.nil,.nil=>⟨_,.nil⟩
 | _,_,_,.cons h t,.cons r rs=>by
  obtain ⟨as,q⟩:=Dat.reads I h r
  obtain ⟨bs,q2⟩:=DatAll.reads I t rs
  exact ⟨_,.cons q q2⟩
end
def V5 (K:FG7):List V -> Hp -> VK -> Prop:=fun xs H Q=>∃ x d,xs = [x] /\ Dat K H x d /\ d.showable = true /\ d.hasDict = false /\ d.depth <= 60 /\ d.shown.length <= sizeLine /\ Q (.str d.shown) H
theorem xo {k:Nat} (hr:Room k X.A):yI X (.builtin "repr") (V5 X.K):=by
 intro pins s σ H xs us Q I r h
 obtain ⟨x,d,rfl,hd,h1,h2,h3,h4,q⟩:=h
 obtain ⟨u,rfl,rx⟩:=wL r
 cases hd with
 | non =>
  cases (show u = Value.none from rx)
  exact PySem.P.repr_of_none ⟨.str _,H,I.tok _,⟨_,rfl⟩,q⟩
 | bl b =>
  cases (show u = Value.bool b from rx)
  exact PySem.P.repr_of_bool ⟨.str _,H,I.tok _,⟨_,rfl⟩,q⟩
 | int i =>
  obtain ⟨t,rfl⟩:=rx
  exact PySem.P.repr_of_int (of_decide_eq_true h1) ⟨.str _,H,I.tok _,⟨_,rfl⟩,q⟩
 | tup hs ha =>
  rename_i a ys ds
  cases (show u = Value.ref a from rx)
  obtain ⟨as,rd⟩:=Dat.reads I (.tup hs ha) rx
  refine repr_of_reads' rd h1 (fun z=>by rw [h2] at z; cases z) hr.gd (by have:=hr.un; omega) (fun _ _ e=>e) (fun h' t tk hk=>?_) h4
  exact ⟨.str _,H,I.kept hk,⟨_,rfl⟩,q⟩
 | lst hs ha =>
  rename_i a ys ds
  cases (show u = Value.ref a from rx)
  obtain ⟨as,rd⟩:=Dat.reads I (.lst hs ha) rx
  refine repr_of_reads' rd h1 (fun z=>by rw [h2] at z; cases z) hr.gd (by have:=hr.un; omega) (fun _ _ e=>e) (fun h' t tk hk=>?_) h4
  exact ⟨.str _,H,I.kept hk,⟨_,rfl⟩,q⟩
end
mutual
/-- a bound of the text's length -/
def wtD:PyData -> Nat
 | .list xs | .tuple xs=>wtAll xs + 3
 | .int _=>1921
 | .none | .bool _=>5
 | _=>20000000
def wtAll:List PyData -> Nat
 | []=>0
 | x :: xs=>wtD x + 2 + wtAll xs
end
mutual
theorem shown_wt:∀ {d:PyData},d.showable = true -> d.hasDict = false -> wtD d <= 16777216 -> d.shown.length <= wtD d
 | .none,_,_,_=>by decide
 | .bool b,_,_,_=>by cases b <;> decide
 | .int i,h,_,_=>int_text_len_1921 (of_decide_eq_true h)
 | .str _,_,_,z=>absurd (show 20000000 <= 16777216 from z) (by decide)
 | .list xs,h,h2,z=>by
  have z':wtAll xs + 3 <= 16777216:=z
  have q:=shown_wtAll (xs:=xs) h h2 (by omega)
  have l:=listText_len_le (PyData.shownAll xs)
  show (listText (PyData.shownAll xs)).length <= wtAll xs + 3
  omega
 | .tuple xs,h,h2,z=>by
  have z':wtAll xs + 3 <= 16777216:=z
  have q:=shown_wtAll (xs:=xs) h h2 (by omega)
  have l:=tupleText_len_le (PyData.shownAll xs)
  show (tupleText (PyData.shownAll xs)).length <= wtAll xs + 3
  omega
 | .dict _,_,h,_=>by cases h
theorem shown_wtAll:∀ {xs:List PyData},PyData.showableAll xs = true -> PyData.hasDictAll xs = false -> wtAll xs <= 16777216 -> ((PyData.shownAll xs).map (·.length)).sum + 2 * (PyData.shownAll xs).length <= wtAll xs
 | [],_,_,_=>by decide
 | x :: xs,h,h2,z=>by
  have h':(x.showable && PyData.showableAll xs) = true:=h
  have h2':(x.hasDict || PyData.hasDictAll xs) = false:=h2
  rw [Bool.and_eq_true] at h'
  rw [Bool.or_eq_false_iff] at h2'
  have z':wtD x + 2 + wtAll xs <= 16777216:=z
  have q1:=shown_wt (d:=x) h'.1 h2'.1 (by omega)
  have q2:=shown_wtAll (xs:=xs) h'.2 h2'.2 (by omega)
  show (x.shown.length :: (PyData.shownAll xs).map (·.length)).sum + 2 * ((PyData.shownAll xs).length + 1) <= wtD x + 2 + wtAll xs
  rw [List.sum_cons]
  omega
end
theorem je {d:PyData} (h1:d.showable = true) (h2:d.hasDict = false) (h3:wtD d <= 16777216):d.shown.length <= sizeLine:=by
 rw [sizeLine_eq]; exact Nat.le_trans (shown_wt h1 h2 h3) h3
abbrev Span:=Option (Option Int × Option Int)
def XD (K:FG7) (H:Hp) (x:V):Span -> Prop
 | none=>x = .non
 | some (l,h)=>∃ a,x = .ref a /\ SqT K H a [ov l,ov h]
def I200 (i:Int):Prop:=-(2 ^ 300) < i /\ i < 2 ^ 300
theorem V6 {i:Int} (h:I200 i):RepI i:=by
 show i.natAbs.log2 < 1920
 by_cases h0:i.natAbs = 0
 ·rw [h0]; decide
 ·exact Nat.lt_of_lt_of_le ((Nat.log2_lt h0).mpr (show i.natAbs < 2 ^ 300 by obtain ⟨a,b⟩:=h; omega)) (by decide)
def oD:Option Int -> PyData
 | none=>.none
 | some i=>.int i
def V7:Span -> PyData
 | none=>.none
 | some (l,h)=>.tuple [oD l,oD h]
theorem qk {K:FG7} {H:Hp} (o:Option Int):Dat K H (ov o) (oD o):=by cases o; exact .non; exact .int _
theorem XD.dat {K:FG7} {H:Hp} {x:V} {sp:Span} (h:XD K H x sp):Dat K H x (V7 sp):=by
 match sp,h with
 | none,h=>cases (show x = .non from h); exact .non
 | some (l,u),⟨a,e,q⟩=>subst e; exact .tup q (.cons (qk l) (.cons (qk u) .nil))
theorem tM {α:Type} (xs:List α):(xs.map (fun _=>true)).all id = true:=by rw [List.all_eq_true]; intro x hx; obtain ⟨_,_,rfl⟩:=List.mem_map.mp hx; rfl
theorem YM (gs:List Int):(gs.map V.int).map (fun _=>V.bl true) = (gs.map (fun _=>true)).map V.bl:=by rw [List.map_map,List.map_map]; rfl
section
variable {K:FG7} {a:Addr} {xs:List V} {lo:Int} {n k:Nat} {te:TE} {Q:VK} {σ:L2.St} {H:Hp}
theorem xU (Pv:Nat -> List V -> Hp -> Prop) (h0:Pv 0 [] H)
  (hs:∀ i ys H',i < n -> Pv i ys H' -> te (σ.set k (some (.int (lo + i)))) H' fun y H5=>ys.length < sizeLine /\ Pv (i + 1) (ys ++ [y]) H5)
  (hd:∀ ys H',Pv n ys H' -> ∀ l,H' l = none -> Q (.ref l) (upd H' l (.lst ys))):xC (Itr lo n) σ H (wK k) tE te Q:=by
 refine ⟨fun i m ys σ' H'=>m = n - i /\ i <= n /\ (σ' = σ \/ ∃ e,σ' = σ.set k e) /\ Pv i ys H',⟨n,by simp,Nat.zero_le _,.inl rfl,h0⟩,?_⟩
 rintro i m ys σ' H' ⟨rfl,hi,hσ,p⟩
 by_cases hlt:i < n
 ·refine .inr ⟨hlt,fun zs σ2 H2=>(σ2 = σ \/ ∃ e,σ2 = σ.set k e) /\ Pv (i + 1) zs H2,fun zs σ2 H2 p'=>⟨n - (i + 1),by omega,rfl,hlt,p'.1,p'.2⟩,fun x H2 y=>?_⟩
  obtain ⟨e,y⟩:=y
  subst e y
  have e:σ'.set k (some (V.int (lo + i))) = σ.set k (some (V.int (lo + i))):=by
   rcases hσ with rfl | ⟨e,rfl⟩
   ·rfl
   ·rw [List.set_set]
  show if true = true then te (σ'.set k (some (V.int (lo + i)))) H2 (fun y H5=>ys.length < sizeLine /\ ((σ'.set k (some (V.int (lo + i))) = σ \/ ∃ e,σ'.set k (some (V.int (lo + i))) = σ.set k e) /\ Pv (i + 1) (ys ++ [y]) H5)) else ((σ'.set k (some (V.int (lo + i))) = σ \/ ∃ e,σ'.set k (some (V.int (lo + i))) = σ.set k e) /\ Pv (i + 1) ys H2)
  rw [if_pos rfl,e]
  have e2:(fun (y:V) (H5:Hp)=>ys.length < sizeLine /\ ((σ.set k (some (V.int (lo + i))) = σ \/ ∃ e,σ.set k (some (V.int (lo + i))) = σ.set k e) /\ Pv (i + 1) (ys ++ [y]) H5)) = fun y H5=>ys.length < sizeLine /\ Pv (i + 1) (ys ++ [y]) H5:=by
   funext y H5
   exact propext ⟨fun z=>⟨z.1,z.2.2⟩,fun z=>⟨z.1,.inr ⟨_,rfl⟩,z.2⟩⟩
  rw [e2]
  exact hs i ys H2 hlt p
 ·have e:i = n:=by omega
  subst e
  exact .inl ⟨Nat.le_refl _,hd ys H' p⟩
theorem wp (Pv:Nat -> List V -> Hp -> Prop) (h0:Pv 0 [] H) (hl:∀ i ys H',Pv i ys H' -> SqL K H' a xs)
  (hs:∀ i x ys H',xs[i]? = some x -> Pv i ys H' -> te (σ.set k (some x)) H' fun y H5=>ys.length < sizeLine /\ Pv (i + 1) (ys ++ [y]) H5)
  (hd:∀ ys H',Pv xs.length ys H' -> ∀ l,H' l = none -> Q (.ref l) (upd H' l (.lst ys))):xC (Itl K a) σ H (wK k) tE te Q:=by
 refine w6 (xs:=xs) (fun i ys σ' H'=>(σ' = σ \/ ∃ e,σ' = σ.set k e) /\ Pv i ys H') ⟨.inl rfl,h0⟩ (fun i ys σ' H' _ p=>hl i ys H' p.2) ?_ (fun ys σ' H' p l hl=>hd ys H' p.2 l hl)
 rintro i x ys σ' H' hx ⟨hσ,p⟩
 have e:σ'.set k (some x) = σ.set k (some x):=by
  rcases hσ with rfl | ⟨e,rfl⟩
  ·rfl
  ·rw [List.set_set]
 show if true = true then te (σ'.set k (some x)) H' (fun y H5=>ys.length < sizeLine /\ ((σ'.set k (some x) = σ \/ ∃ e,σ'.set k (some x) = σ.set k e) /\ Pv (i + 1) (ys ++ [y]) H5)) else ((σ'.set k (some x) = σ \/ ∃ e,σ'.set k (some x) = σ.set k e) /\ Pv (i + 1) ys H')
 rw [if_pos rfl,e]
 have e2:(fun (y:V) (H5:Hp)=>ys.length < sizeLine /\ ((σ.set k (some x) = σ \/ ∃ e,σ.set k (some x) = σ.set k e) /\ Pv (i + 1) (ys ++ [y]) H5)) = fun y H5=>ys.length < sizeLine /\ Pv (i + 1) (ys ++ [y]) H5:=by
  funext y H5
  exact propext ⟨fun z=>⟨z.1,z.2.2⟩,fun z=>⟨z.1,.inr ⟨_,rfl⟩,z.2⟩⟩
 rw [e2]
 exact hs i x ys H' hx p
end
theorem Grow.fresh {m:List Addr} {H H':Hp} (h:∀ b ∈ m,H b = none) (g:Grow m H H'):Grow [] H H' :=
 ⟨fun b o _ q=>g.keep b o (fun z=>by rw [h b z] at q; cases q) q,g.tup,g.frz⟩
theorem Grow.less {m m':List Addr} {H H':Hp} (g:Grow m H H') (h:∀ b ∈ m,b ∈ m' \/ H b = none):Grow m' H H' :=
 ⟨fun b o n q=>g.keep b o (fun z=>by
  rcases h b z with w | w
  ·exact n w
  ·rw [w] at q; cases q) q,g.tup,g.frz⟩
theorem Pot.ne {H:Hp} {a l:Addr} (p:Pot H a) (h:H l = none):l ∉ [a]:=by
 intro z
 obtain ⟨z0,z1,hz,_⟩:=p
 rw [List.mem_singleton.mp z,hz] at h
 cases h
theorem ux {n:Nat} {i:Int} (h0:0 <= i) (h:i.toNat < n):ixN n i = some i.toNat:=by
 unfold ixN; rw [if_pos h0,if_pos (by omega)]
theorem jf {xs:List V} {i:Int} {j:Nat} {v:V} (h:ixN xs.length i = some j) (hv:xs[j]? = some v):atI xs i = some v:=by
 unfold atI; rw [h]; exact hv
structure Ask where
 hand:Int
 box:Int
 deed:Deed
def vT (K:FG7) (H:Hp) (x:V) (k:Ask):Prop:=∃ r rd,x = .ref r /\ SqT K H r [.int k.hand,.int k.box,.ref rd] /\ SqT K H rd k.deed.vs
def AllA (K:FG7) (H:Hp):List V -> List Ask -> Prop
 | [],[]=>True
 | x :: xs,k :: ks=>vT K H x k /\ AllA K H xs ks
 | _,_=>False
def yR (K:FG7) (H:Hp) (x:V) (ks:List Ask):Prop:=∃ r xs,x = .ref r /\ SqT K H r xs /\ AllA K H xs ks
def zr (K:FG7) (H:Hp) (x:V) (b:List Int):Prop:=∃ r,x = .ref r /\ SqT K H r (b.map V.int)
def YN (m:Nat) (k:Ask):Prop:=0 <= k.hand /\ k.hand <= 15 /\ 0 <= k.box /\ k.box < m /\ k.deed.Ok
theorem Grow.ask {m:List Addr} {H H':Hp} (g:Grow m H H') {K:FG7} {x:V} {k:Ask} (h:vT K H x k):vT K H' x k:=by
 obtain ⟨r,rd,e,h1,h2⟩:=h
 exact ⟨r,rd,e,g.sqT h1,g.sqT h2⟩
theorem Grow.allA {m:List Addr} {H H':Hp} (g:Grow m H H') {K:FG7}:∀ {xs:List V} {ks:List Ask},AllA K H xs ks -> AllA K H' xs ks
 | [],[],_=>trivial
 | _ :: _,_ :: _,⟨h,t⟩=>⟨g.ask h,g.allA t⟩
 | [],_ :: _,h=>h.elim
 | _ :: _,[],h=>h.elim
theorem Grow.asks {m:List Addr} {H H':Hp} (g:Grow m H H') {K:FG7} {x:V} {ks:List Ask} (h:yR K H x ks):yR K H' x ks:=by
 obtain ⟨r,xs,e,h1,h2⟩:=h
 exact ⟨r,xs,e,g.sqT h1,g.allA h2⟩
theorem Grow.board {m:List Addr} {H H':Hp} (g:Grow m H H') {K:FG7} {x:V} {b:List Int} (h:zr K H x b):zr K H' x b:=by
 obtain ⟨r,e,h1⟩:=h
 exact ⟨r,e,g.sqT h1⟩
theorem AllA.len {K:FG7} {H:Hp}:∀ {xs:List V} {ks:List Ask},AllA K H xs ks -> xs.length = ks.length
 | [],[],_=>rfl
 | _ :: xs,_ :: ks,⟨_,t⟩=>congrArg (· + 1) (AllA.len t)
 | [],_ :: _,h=>h.elim
 | _ :: _,[],h=>h.elim
theorem AllA.get {K:FG7} {H:Hp}:∀ {xs:List V} {ks:List Ask} {i:Nat} {x:V},AllA K H xs ks -> xs[i]? = some x -> ∃ k,ks[i]? = some k /\ vT K H x k
 | _ :: _,k :: _,0,x,⟨h,_⟩,e=>by
  obtain rfl:=Option.some.inj e
  exact ⟨k,rfl,h⟩
 | _ :: _,_ :: _,i + 1,x,⟨_,t⟩,e=>AllA.get (i:=i) t e
 | [],[],i,x,_,e=>by cases e
 | [],_ :: _,_,_,h,_=>h.elim
 | _ :: _,[],_,_,h,_=>h.elim
theorem AllA.snoc {K:FG7} {H:Hp}:∀ {xs:List V} {ks:List Ask} {x:V} {k:Ask},AllA K H xs ks -> vT K H x k -> AllA K H (xs ++ [x]) (ks ++ [k])
 | [],[],_,_,_,h=>⟨h,trivial⟩
 | _ :: _,_ :: _,_,_,⟨h,t⟩,q=>⟨h,AllA.snoc t q⟩
 | [],_ :: _,_,_,h,_=>h.elim
 | _ :: _,[],_,_,h,_=>h.elim
theorem Zm {xs:List Int} {i:Nat} (h:i < xs.length):xs[i]? = some (xs.getD i 0):=by
 rw [List.getD_eq_getElem?_getD,List.getElem?_eq_getElem h]; rfl
def InB (B:Int) (xs:List Int):Prop:=∀ v ∈ xs,-B < v /\ v < B
def wM (xs:List Int):PyData:=.tuple (xs.map PyData.int)
def sN (d:Deed):PyData:=.tuple [.int d.add,oD d.lo,oD d.hi]
def askD (k:Ask):PyData:=.tuple [.int k.hand,.int k.box,sN k.deed]
def V8 (ks:List Ask):PyData:=.tuple (ks.map askD)
theorem wR {K:FG7} {H:Hp}:∀ xs:List Int,DatAll K H (xs.map V.int) (xs.map PyData.int)
 | []=>.nil
 | x :: xs=>.cons (.int x) (wR xs)
theorem zr.dat {K:FG7} {H:Hp} {x:V} {b:List Int} (h:zr K H x b):Dat K H x (wM b):=by
 obtain ⟨r,rfl,h⟩:=h
 exact .tup h (wR b)
theorem ql {K:FG7} {H:Hp} {r:Addr} {d:Deed} (h:SqT K H r d.vs):Dat K H (.ref r) (sN d):=.tup h (.cons (.int _) (.cons (qk _) (.cons (qk _) .nil)))
theorem vT.dat {K:FG7} {H:Hp} {x:V} {k:Ask} (h:vT K H x k):Dat K H x (askD k):=by
 obtain ⟨r,rd,rfl,h1,h2⟩:=h
 exact .tup h1 (.cons (.int _) (.cons (.int _) (.cons (ql h2) .nil)))
theorem AllA.dat {K:FG7} {H:Hp}:∀ {xs:List V} {ks:List Ask},AllA K H xs ks -> DatAll K H xs (ks.map askD)
 | [],[],_=>.nil
 | _ :: _,_ :: _,⟨h,t⟩=>.cons h.dat (AllA.dat t)
 | [],_ :: _,h=>h.elim
 | _ :: _,[],h=>h.elim
theorem yR.dat {K:FG7} {H:Hp} {x:V} {ks:List Ask} (h:yR K H x ks):Dat K H x (V8 ks):=by
 obtain ⟨r,xs,rfl,h1,h2⟩:=h
 exact .tup h1 h2.dat
def Sh (d:PyData) (w n:Nat):Prop:=d.showable = true /\ d.hasDict = false /\ wtD d <= w /\ d.depth <= n
theorem Sh.mono {d:PyData} {w w' n n':Nat} (h:Sh d w n) (h1:w <= w') (h2:n <= n'):Sh d w' n':=⟨h.1,h.2.1,Nat.le_trans h.2.2.1 h1,Nat.le_trans h.2.2.2 h2⟩
def ShA (ds:List PyData) (w n:Nat):Prop:=PyData.showableAll ds = true /\ PyData.hasDictAll ds = false /\ wtAll ds <= w /\ PyData.depthAll ds <= n
theorem Wc {n:Nat}:ShA [] 0 n:=⟨rfl,rfl,Nat.le_refl _,Nat.zero_le _⟩
theorem YO {d:PyData} {ds:List PyData} {w v n:Nat} (h:Sh d w n) (t:ShA ds v n):ShA (d :: ds) (w + 2 + v) n:=by
 obtain ⟨a1,a2,a3,a4⟩:=h
 obtain ⟨b1,b2,b3,b4⟩:=t
 refine ⟨?_,?_,?_,?_⟩
 ·show (d.showable && PyData.showableAll ds) = true
  rw [a1,b1]; rfl
 ·show (d.hasDict || PyData.hasDictAll ds) = false
  rw [a2,b2]; rfl
 ·show wtD d + 2 + wtAll ds <= _; omega
 ·show max d.depth (PyData.depthAll ds) <= n; omega
theorem XE {ds:List PyData} {w n:Nat} (h:ShA ds w n):Sh (.tuple ds) (w + 3) (n + 1):=⟨h.1,h.2.1,Nat.add_le_add_right h.2.2.1 3,Nat.add_le_add_right h.2.2.2 1⟩
theorem Vh {i:Int} {n:Nat} (h:I200 i):Sh (.int i) 1921 n:=⟨decide_eq_true (V6 h),rfl,Nat.le_refl _,Nat.zero_le _⟩
theorem sO {α:Type} {f:α -> PyData} {w n:Nat}:∀ {xs:List α},(∀ x ∈ xs,Sh (f x) w n) -> ShA (xs.map f) (xs.length * (w + 2)) n
 | [],_=>by rw [show ([]:List α).length * (w + 2) = 0 from Nat.zero_mul _]; exact Wc
 | x :: xs,h=>by
  have z:=YO (h x (by simp)) (sO (xs:=xs) fun y hy=>h y (List.mem_cons_of_mem _ hy))
  rw [show (x :: xs).length * (w + 2) = w + 2 + xs.length * (w + 2) by rw [List.length_cons,Nat.add_mul,Nat.one_mul,Nat.add_comm]]
  exact z
theorem We {xs:List Int} {n:Nat} (h:InB (2 ^ 300) xs):Sh (wM xs) (xs.length * 1923 + 3) (n + 1):=XE (sO fun x hx=>Vh (h x hx))
theorem Sh.fits {d:PyData} {w n:Nat} (h:Sh d w n) (hw:w <= 16777216):d.shown.length <= sizeLine:=je h.1 h.2.1 (Nat.le_trans h.2.2.1 hw)
def XG (K:FG7) (H:Hp) (x:V) (p:List Int × List Int):Prop:=∃ r r1 r2,x = .ref r /\ SqT K H r [.ref r1,.ref r2] /\ SqT K H r1 (p.1.map V.int) /\ SqT K H r2 (p.2.map V.int)
def V9 (p:List Int × List Int):PyData:=.tuple [wM p.1,wM p.2]
theorem XG.dat {K:FG7} {H:Hp} {x:V} {p:List Int × List Int} (h:XG K H x p):Dat K H x (V9 p):=by
 obtain ⟨r,r1,r2,rfl,h0,h1,h2⟩:=h
 exact .tup h0 (.cons (.tup h1 (wR _)) (.cons (.tup h2 (wR _)) .nil))
theorem InB.mono {B C:Int} {xs:List Int} (h:InB B xs) (hC:B <= C):InB C xs:=fun v hv=>by have:=h v hv; omega
def yN (K:FG7):Sp:=sp3 fun x y z H Q=>∃ i l u,x = .int i /\ y = .int l /\ z = .int u /\ Q (.bl (decide (l <= i) && decide (i <= u))) H
def vc (K:FG7):Sp:=sp1 fun x H Q=>∃ b,zr K H x b /\ 1 <= b.length /\ b.length <= 16 /\ ∀ H',Grow [] H H' -> Q (.bl true) H'
def xV (K:FG7):Sp:=sp1 fun x H Q=>∃ b,zr K H x b /\ 1 <= b.length /\ b.length <= 16 /\ ∀ H',Grow [] H H' -> Q .non H'
def tN (K:FG7):Sp:=sp2 fun x y H Q=>∃ b k,zr K H x b /\ vT K H y k /\ YN b.length k /\ Q (.bl true) H
def vd (K:FG7):Sp:=sp2 fun x y H Q=>∃ b ks,zr K H x b /\ 1 <= b.length /\ b.length <= 16 /\ yR K H y ks /\ ks.length <= 1000 /\ (∀ k ∈ ks,YN b.length k) /\ ∀ H',Grow [] H H' -> Q (.bl true) H'
def wD (K:FG7):Sp:=sp2 fun x y H Q=>∃ b ks,zr K H x b /\ 1 <= b.length /\ b.length <= 16 /\ yR K H y ks /\ ks.length <= 1000 /\ (∀ k ∈ ks,YN b.length k) /\ ∀ H',Grow [] H H' -> Q .non H'
inductive Tr where
 | leaf (n:Int)
 | node (l r:Tr)
def Tr.count:Tr -> Int
 | .leaf _=>1
 | .node l r=>l.count + r.count
def Tr.ht:Tr -> Nat
 | .leaf _=>0
 | .node l r=>max l.ht r.ht + 1
def v8 (K:FG7) (H:Hp) (x:V):Tr -> Prop
 | .leaf n=>x = .int n
 | .node l r=>∃ a xl xr,x = .ref a /\ SqT K H a [xl,xr] /\ v8 K H xl l /\ v8 K H xr r
def trD:Tr -> PyData
 | .leaf n=>.int n
 | .node l r=>.tuple [trD l,trD r]
theorem v8.dat {K:FG7} {H:Hp}:∀ {t:Tr} {x:V},v8 K H x t -> Dat K H x (trD t)
 | .leaf n,x,h=>by
  cases (show x = V.int n from h)
  exact .int n
 | .node l r,x,h=>by
  obtain ⟨a,xl,xr,e,hs,h1,h2⟩:=h
  subst e
  exact .tup hs (.cons (v8.dat h1) (.cons (v8.dat h2) .nil))
def Tr.wt:Tr -> Nat
 | .leaf _=>1
 | .node l r=>l.wt + r.wt + 1
def sp4 (b:V -> V -> V -> V -> Hp -> VK -> Prop):Sp:=fun vs H Q _=>∃ x y z u,vs = [x,y,z,u] /\ b x y z u H Q
theorem ve {b:V -> V -> V -> V -> Hp -> VK -> Prop} {p q r s:Str}:∀ vs H Q E,sp4 b vs H Q E -> vs.length = [p,q,r,s].length:=fun vs H Q E h=>by
 obtain ⟨x,y,z,u,rfl,_⟩:=h; rfl
def AllR {α:Type} (R:V -> α -> Prop):List V -> List α -> Prop
 | [],[]=>True
 | x :: xs,k :: ks=>R x k /\ AllR R xs ks
 | _,_=>False
section
variable {α:Type} {R S:V -> α -> Prop}
theorem AllR.imp (h:∀ x k,R x k -> S x k):∀ {xs:List V} {ks:List α},AllR R xs ks -> AllR S xs ks
 | [],[],_=>trivial
 | _ :: _,_ :: _,⟨a,t⟩=>⟨h _ _ a,AllR.imp h t⟩
 | [],_ :: _,z=>z.elim
 | _ :: _,[],z=>z.elim
theorem AllR.len:∀ {xs:List V} {ks:List α},AllR R xs ks -> xs.length = ks.length
 | [],[],_=>rfl
 | _ :: xs,_ :: ks,⟨_,t⟩=>congrArg (· + 1) (AllR.len t)
 | [],_ :: _,h=>h.elim
 | _ :: _,[],h=>h.elim
theorem AllR.get:∀ {xs:List V} {ks:List α} {i:Nat} {x:V},AllR R xs ks -> xs[i]? = some x -> ∃ k,ks[i]? = some k /\ R x k
 | _ :: _,k :: _,0,x,⟨h,_⟩,e=>by
  obtain rfl:=Option.some.inj e
  exact ⟨k,rfl,h⟩
 | _ :: _,_ :: _,i + 1,x,⟨_,t⟩,e=>AllR.get (i:=i) t e
 | [],[],i,x,_,e=>by cases e
 | [],_ :: _,_,_,h,_=>h.elim
 | _ :: _,[],_,_,h,_=>h.elim
theorem AllR.getR:∀ {xs:List V} {ks:List α} {i:Nat} {k:α},AllR R xs ks -> ks[i]? = some k -> ∃ x,xs[i]? = some x /\ R x k
 | x :: _,_ :: _,0,k,⟨h,_⟩,e=>by
  obtain rfl:=Option.some.inj e
  exact ⟨x,rfl,h⟩
 | _ :: _,_ :: _,i + 1,k,⟨_,t⟩,e=>AllR.getR (i:=i) t e
 | [],[],i,k,_,e=>by cases e
 | [],_ :: _,_,_,h,_=>h.elim
 | _ :: _,[],_,_,h,_=>h.elim
theorem AllR.app:∀ {xs ys:List V} {ks js:List α},AllR R xs ks -> AllR R ys js -> AllR R (xs ++ ys) (ks ++ js)
 | [],_,[],_,_,h=>h
 | _ :: _,_,_ :: _,_,⟨h,t⟩,q=>⟨h,AllR.app t q⟩
 | [],_,_ :: _,_,h,_=>h.elim
 | _ :: _,_,[],_,h,_=>h.elim
theorem AllR.one {x:V} {k:α} (h:R x k):AllR R [x] [k]:=⟨h,trivial⟩
theorem AllR.take:∀ {xs:List V} {ks:List α} {n:Nat},AllR R xs ks -> AllR R (xs.take n) (ks.take n)
 | [],[],n,_=>by rw [List.take_nil,List.take_nil]; trivial
 | _ :: _,_ :: _,0,_=>trivial
 | _ :: _,_ :: _,n + 1,⟨h,t⟩=>⟨h,AllR.take t⟩
 | [],_ :: _,_,h=>h.elim
 | _ :: _,[],_,h=>h.elim
end
def qm (K:FG7) (H:Hp) (x:V) (ds:List Deed):Prop:=∃ r xs,x = .ref r /\ SqT K H r xs /\ AllR (zv K H) xs ds
theorem zv.dat {K:FG7} {H:Hp} {x:V} {d:Deed} (h:zv K H x d):Dat K H x (sN d):=by
 obtain ⟨r,rfl,h⟩:=h
 exact ql h
theorem datR {α:Type} {K:FG7} {H:Hp} {R:V -> α -> Prop} {f:α -> PyData} (h:∀ x k,R x k -> Dat K H x (f k)):∀ {xs:List V} {ks:List α},AllR R xs ks -> DatAll K H xs (ks.map f)
 | [],[],_=>.nil
 | _ :: _,_ :: _,⟨a,t⟩=>.cons (h _ _ a) (datR h t)
 | [],_ :: _,h=>h.elim
 | _ :: _,[],h=>h.elim
theorem qm.dat {K:FG7} {H:Hp} {x:V} {ds:List Deed} (h:qm K H x ds):Dat K H x (.tuple (ds.map sN)):=by
 obtain ⟨r,xs,rfl,h1,h2⟩:=h
 exact .tup h1 (datR (fun _ _ z=>z.dat) h2)
def look:Deed:=⟨0,none,none⟩
def Vi (ds:List Deed):Prop:=∀ d ∈ ds,d.Ok
def runD (ds:List Deed):Deed:=ds.foldl tG look
theorem AllR.drop {α:Type} {R:V -> α -> Prop}:∀ {xs:List V} {ks:List α} {n:Nat},AllR R xs ks -> AllR R (xs.drop n) (ks.drop n)
 | [],[],n,_=>by rw [List.drop_nil,List.drop_nil]; trivial
 | _ :: _,_ :: _,0,h=>h
 | _ :: _,_ :: _,n + 1,⟨h,t⟩=>AllR.drop (n:=n) t
 | [],_ :: _,_,h=>h.elim
 | _ :: _,[],_,h=>h.elim
theorem CSc.nest {X0:Cx} {scope scope2:Scope} {N' N2:List Str} {sub sub2:List (Option Nat)} {cl:List (Str × Addr)} {C D:Addr} {fp:List Addr} {s:Shared} {H:Hp} (S:CSc X0 scope N' sub) (hk0:X0.env.scope.kind = .function)
  (h:((scope2.names.all fun y=>(y.2 != .free || scope.names.lookup y.1 == some .free) && (y.2 != .cell) && (y.2 != .local || scope2.names.lookup y.1 == some .local)) && (sub2.length == N2.length) &&
   ((N2.zip sub2).all fun p=>match p.2 with | none=>true | some i=>N'[i]? == some p.1 && scope.names.lookup p.1 == some .free && scope2.names.lookup p.1 == some .free)) = true)
  (hk:scope2.kind = .function):CSc (cxC X0 N' scope cl C D fp s H) scope2 N2 sub2:=by
 rw [Bool.and_eq_true,Bool.and_eq_true] at h
 obtain ⟨⟨h1,h2⟩,h3⟩:=h
 have k1:=fun y hy=>List.all_eq_true.mp h1 y hy
 have cellOf:∀ y:Str,scope.names.lookup y = some .free -> (relabel scope X0.env).names.lookup y = some .cell:=fun y hy=>yM hk0 (S.free (y,.free) (PySem.mem_of_lookup hy) rfl) hy
 refine ⟨fun y hy hf=>?_,fun y hy hc=>?_,hk,fun y hy hl=>?_,by simpa using h2,fun j y i hj hs=>?_⟩
 ·have:=k1 y hy
  simp only [hf,Bool.and_eq_true] at this
  have z:=this.1.1
  exact cellOf y.1 (by simpa using z)
 ·have:=k1 y hy
  simp only [hc,Bool.and_eq_true] at this
  simp at this
 ·have:=k1 y hy
  simp only [hl,Bool.and_eq_true] at this
  simpa using this.2
 ·have hm:(y,some i) ∈ N2.zip sub2:=by
   have:(N2.zip sub2)[j]? = some (y,some i):=by
    rw [List.getElem?_zip_eq_some]; exact ⟨hj,hs⟩
   exact List.mem_of_getElem? this
  have:=List.all_eq_true.mp h3 _ hm
  simp only [Bool.and_eq_true,beq_iff_eq] at this
  exact ⟨this.1.1,cellOf y this.1.2,this.2⟩
theorem tP {X:Cx} {K:FG7} (h:X.K = K):yI X (.builtin "len") (fun xs H Q=>∃ p ys,xs = [.ref p] /\ (SqL K H p ys \/ SqT K H p ys) /\ Q (.int ys.length) H):=by subst h; exact zx
def yf (K:FG7) (H:Hp) (x:V) (rows:List (List Int)):Prop:=∃ r xs,x = .ref r /\ SqT K H r xs /\ AllR (zr K H) xs rows
theorem Grow.boardsR {m:List Addr} {H H':Hp} (g:Grow m H H') {K:FG7} {xs:List V} {rows:List (List Int)} (h:AllR (zr K H) xs rows):AllR (zr K H') xs rows:=h.imp fun _ _ z=>g.board z
theorem Grow.rows {m:List Addr} {H H':Hp} (g:Grow m H H') {K:FG7} {x:V} {rows:List (List Int)} (h:yf K H x rows):yf K H' x rows:=by
 obtain ⟨r,xs,e,h1,h2⟩:=h
 exact ⟨r,xs,e,g.sqT h1,g.boardsR h2⟩
def Rng (m:Int) (xs:List Int):Prop:=∀ v ∈ xs,0 <= v /\ v < m
def YQ (R M:Nat) (rows:List (List Int)):Prop:=rows.length = R /\ ∀ row ∈ rows,row.length = M /\ Rng M row
theorem getI {xs:List Int} {i:Int} (h0:0 <= i) (h:i < xs.length):atI (xs.map V.int) i = some (V.int (xs.getD i.toNat 0)):=by
 have hj:i.toNat < xs.length:=by omega
 exact jf (ux h0 (by rw [List.length_map]; exact hj)) (by rw [List.getElem?_map,Zm hj]; rfl)
theorem Vj {K:FG7} {H:Hp} {xs:List V} {rows:List (List Int)} (h:AllR (zr K H) xs rows) {i:Int} (h0:0 <= i) (h1:i < rows.length):∃ a,atI xs i = some (V.ref a) /\ SqT K H a ((rows.getD i.toNat []).map V.int):=by
 have hj:i.toNat < rows.length:=by omega
 have e:rows[i.toNat]? = some (rows.getD i.toNat []):=by rw [List.getD_eq_getElem?_getD,List.getElem?_eq_getElem hj]; rfl
 obtain ⟨x,hx,a,rfl,hs⟩:=h.getR e
 exact ⟨a,jf (ux h0 (by rw [h.len]; exact hj)) hx,hs⟩
structure Fd (R:Nat) (tab:List (List Int)) (ns:List Int):Prop where
 tab:YQ R R tab
 ns:Rng R ns
section
variable {prog:Program} {w:World} {A:Around} {E:VS7} {s:Shared}
theorem sP {jt t:Addr} {i:Nat} {vs:Array Value} {v:Value} {Q:VS7} (hit:s.heap.IsTupleIter jt t i) (ht:s.heap.IsTuple t vs) (hv:vs[i]? = some v)
  (hQ:∀ h',h'.IsTupleIter jt t (i + 1) -> Heap.SameBut jt s.heap h' -> Q v { s with heap:=h' }):wpAny (model prog w) A (Builtin.SmallTypes.nextOf (.ref jt)) Q E s:=by
 obtain ⟨oj,hoj,cj,dj⟩:=id hit
 obtain ⟨ot,hot,_,nt,dt⟩:=ht
 unfold Builtin.SmallTypes.nextOf
 refine wpAny_bind (wpAny_callSpecial?_slot (name:=Str.ofString "__next__") hit.typeIs F.slot_tuple_iterator_next (wpAny_call_entry F.slot_tuple_iterator_next hit.typeIs F.entry_tuple_iterator_next ?_ (F.args_tuple_iterator_next_1 _)))
 show wpAny _ _ (field (.ref jt) 0 >>= _) _ _ s
 refine wpAny_bind (wpAny_field hoj dj (x:=.ref t) rfl ?_); show wpAny _ _ (if (Value.ref t == Value.none) = true then _ else _) _ _ s
 rw [if_neg (show ¬ ((Value.ref t == Value.none) = true) by exact Bool.false_ne_true)]; show wpAny _ _ (field (.ref jt) 1 >>= _) _ _ s
 refine wpAny_bind (wpAny_field hoj dj (x:=.int i 0) rfl ?_); show wpAny _ _ (seqItems? (.ref t) >>= _) _ _ s
 refine wpAny_bind (wpAny_seqItems hot dt ?_); simp only [Int.toNat_natCast,hv]
 refine wpAny_bind (wpAny_setField hoj dj (by simp) (wpAny_pure ⟨v,rfl,wpAny_pure (hQ _ ⟨_,Heap.get?_update_self _ hoj (Obj.isFreed_of_fields (Obj.data_mapFields dj _)),(Obj.cls_mapFields ..).trans cj,by rw [Obj.data_mapFields dj]; simp [rawInt]⟩ (Heap.SameBut.update ..))⟩))
theorem v9 {jt t:Addr} {i:Nat} {vs:Array Value} {Q:VS7} (hh:A.handled = none) (hit:s.heap.IsTupleIter jt t i) (ht:s.heap.IsTuple t vs) (hv:vs[i]? = none)
  (hE:∀ h' e,Heap.ExtBut jt s.heap h' -> (∃ o,h'.get? e = some o /\ o.cls = .type "StopIteration") -> E (.ref e) { s with heap:=h' }):wpAny (model prog w) A (Builtin.SmallTypes.nextOf (.ref jt)) Q E s:=by
 obtain ⟨oj,hoj,cj,dj⟩:=id hit
 obtain ⟨ot,hot,_,nt,dt⟩:=ht
 unfold Builtin.SmallTypes.nextOf
 refine wpAny_bind (wpAny_callSpecial?_slot (name:=Str.ofString "__next__") hit.typeIs F.slot_tuple_iterator_next (wpAny_call_entry F.slot_tuple_iterator_next hit.typeIs F.entry_tuple_iterator_next ?_ (F.args_tuple_iterator_next_1 _)))
 show wpAny _ _ (field (.ref jt) 0 >>= _) _ _ s
 refine wpAny_bind (wpAny_field hoj dj (x:=.ref t) rfl ?_); show wpAny _ _ (if (Value.ref t == Value.none) = true then _ else _) _ _ s
 rw [if_neg (show ¬ ((Value.ref t == Value.none) = true) by exact Bool.false_ne_true)]; show wpAny _ _ (field (.ref jt) 1 >>= _) _ _ s
 refine wpAny_bind (wpAny_field hoj dj (x:=.int i 0) rfl ?_); show wpAny _ _ (seqItems? (.ref t) >>= _) _ _ s
 refine wpAny_bind (wpAny_seqItems hot dt ?_); simp only [Int.toNat_natCast,hv]
 refine wpAny_bind (wpAny_rule (wpAny_bind (wpAny_setField hoj dj (by simp) ?_))); show wpAny _ _ (newExc (.type "StopIteration") [] >>= _) _ _ _
 refine wpAny_bind ?_; simp only [newExc,newTuple]
 refine wpAny_bind (wpAny_newObj_type ?_ (by size_fits)); refine wpAny_bind (m:=firstArgMember _ _) (wpAny_of_eq (a:=Value.none) (by first | rfl | (simp only [firstArgMember]; rfl)) ?_)
 refine wpAny_newObj_type ?_ (by size_fits); simp only [raiseNew]
 refine wpAny_bind (wpAny_handled ?_); (first | rw [show A.in1.handled = none from hh] | rw [hh])
 exact wpAny_bind (wpAny_pure (wpAny_throw (hE _ _ (((Heap.SameBut.update ..).extBut.push _).push _) ⟨_,Heap.get?_push_size _ rfl,rfl⟩)))
end
theorem Zn {prog:Program} {w:World} {A:Around} (hh:A.handled = none) (jt t:Addr) (hne:t ≠ jt) (vs:Array Value) :
  Draws prog w A jt [jt,t] vs.size (fun i v=>vs[i]? = some v) (fun i h=>h.IsTupleIter jt t i /\ h.IsTuple t vs) where
 live:=fun _ _ st=>let ⟨o,ho,_⟩:=st.1; ⟨o,ho⟩
 frame:=fun _ _ _ st hk=>⟨st.1.at (hk jt (by simp)),st.2.at (hk t (by simp))⟩
 item:=fun i s Q E hi st hQ=>sP st.1 st.2 (v:=vs[i]) (by simp [hi]) fun h' hit' hs'=>hQ _ h' s.toks (by simp [hi]) ⟨hit',st.2.extBut hs'.extBut hne⟩ hs'
 done:=fun s Q E st hE=>v9 hh st.1 st.2 (by simp) hE
theorem Zo {prog:Program} {w:World} {A:Around} (hh:A.handled = none) (jt t:Addr) (vs:Array Value) {i:Nat} (hv:vs[i]? = none) :
  Draws prog w A jt [jt,t] i (fun _ _=>True) (fun j h=>j = i /\ h.IsTupleIter jt t i /\ h.IsTuple t vs) where
 live:=fun _ _ st=>let ⟨o,ho,_⟩:=st.2.1; ⟨o,ho⟩
 frame:=fun _ _ _ st hk=>⟨st.1,st.2.1.at (hk jt (by simp)),st.2.2.at (hk t (by simp))⟩
 item:=fun j s Q E hj st hQ=>absurd st.1 (Nat.ne_of_lt hj)
 done:=fun s Q E st hE=>v9 hh st.2.1 st.2.2 hv hE
section
variable {X:Cx} {pins:List (Addr × Obj)} {σ:L2.St} {H:Hp} {s:Shared} {h':Heap}
theorem Zp {fp:List Addr} {t':Nat} (I:Inv X pins σ H s) (k:∀ b o,b ∉ fp -> s.heap.get? b = some o -> h'.get? b = some o) (ff:∀ b ∈ fp,FpOk X pins H b):Inv X pins σ H { s with heap:=h',toks:=t' }:=by
 have nit:∀ b u,H b = some u -> b ∉ fp:=fun b u e z=>by rw [(ff b z).1] at e; cases e
 refine I.step (g':=s.gens) (d':=s.drawn) (ch:=fp) (fun b hb=>?_) (fun b o _ _ hc e _=>k b o hc e) (fun b o _ _ hc e _=>⟨o.slots,k b o hc e⟩) (fun _ _ _ _ n=>n) (fun b o hc e=>⟨o,k b o hc e⟩) (fun _ _ e=>e) (fun _ _ _ e=>e) (fun b ps e=>⟨#[],by rw [e]; simp⟩) (fun m hm=>?_) (fun b u e=>?_) I.bare
 ·obtain ⟨_,f1,_,f3,f4,f5⟩:=ff b hb
  exact ⟨f3,f1,f4,f5⟩
 ·obtain ⟨o,es,ep,ho,r⟩:=hm
  exact ⟨o,es,ep,k _ o (fun z=>(ff _ z).2.1 rfl) ho,r⟩
 ·refine (I.hok b u e).stay (fun c v hc q=>k c v ?_ q) (fun _ q=>q) fun _ _ q=>q
  rcases hc with z | z
  ·rw [z]; exact nit b u e
  ·exact nit c _ z
theorem YR {fp:List Addr} {T:Addr} {o:HO} {t':Nat} (I:Inv X pins σ H s) (k:∀ b o,b ∉ fp -> s.heap.get? b = some o -> h'.get? b = some o) (ff:∀ b ∈ fp,FpOk X pins H b) (hT:s.heap.objs.size <= T)
  (new:zK X.prog X.w (upd H T o) h' T o):Inv X pins σ (upd H T o) { s with heap:=h',toks:=t' }:=by
 have hn:H T = none:=I.hok.fresh hT
 have I1:Inv X pins σ H { s with heap:=h',toks:=t' }:=Zp I k ff
 have hok:HOk X.prog X.w (upd H T o) h':=HOk.track I1.hok hn new
 refine I.step (g':=s.gens) (d':=s.drawn) (ch:=fp) (fun b hb=>?_) (fun b o _ _ hc e _=>k b o hc e) (fun b o _ _ hc e _=>⟨o.slots,k b o hc e⟩) (fun b u _ e n=>by rw [zk (Nat.ne_of_lt (Nat.lt_of_lt_of_le (Heap.lt_size e) hT))]; exact n) (fun b o hc e=>⟨o,k b o hc e⟩)
  (fun b xs e=>by rw [zk (zm e hn)]; exact e) (fun b u xs e=>by rw [zk (zm e hn)]; exact e) (fun b ps e=>⟨#[],by rw [zk (zm e hn),e]; simp⟩) (fun m hm=>?_) hok I.bare
 ·obtain ⟨_,f1,_,f3,f4,f5⟩:=ff b hb
  exact ⟨f3,f1,f4,f5⟩
 ·obtain ⟨o,es,ep,ho,r⟩:=hm
  exact ⟨o,es,ep,k _ o (fun z=>(ff _ z).2.1 rfl) ho,r⟩
end
theorem Ua {ds:List Deed} {i:Nat} (h:i < ds.length):ds[i]? = some (ds.getD i look):=by
 rw [List.getD_eq_getElem?_getD,List.getElem?_eq_getElem h]; rfl
def Ub (j:Int) (ks:List Ask):List Deed:=(ks.filter fun k=>decide (k.box = j)).map Ask.deed
structure GInv (b:List Int) (ks:List Ask) (g:List Deed × List Deed) (p:List Int × List Int):Prop where
 l1:g.1.length = b.length
 l2:g.2.length = ks.length
 p1:p.1.length = ks.length
 p2:p.2.length = b.length
 bd1:∀ d ∈ g.1,d.Ok /\ d.Bd (ks.length * 10 ^ 30)
 bd2:∀ d ∈ g.2,d.Ok /\ d.Bd (ks.length * 10 ^ 30)
 run:∀ j:Nat,j < b.length -> g.1.getD j look = runD (Ub j ks)
 val:∀ j:Nat,j < b.length -> p.2.getD j 0 = (g.1.getD j look).mk' (b.getD j 0)
 ans:∀ i k,ks[i]? = some k -> p.1.getD i 0 = (g.2.getD i look).mk' (b.getD k.box.toNat 0)
theorem AllR.set {α:Type} {R:V -> α -> Prop} {x:V} {k:α} (h:R x k):∀ {xs:List V} {ks:List α} {n:Nat},AllR R xs ks -> AllR R (xs.set n x) (ks.set n k)
 | [],[],n,_=>by cases n <;> trivial
 | _ :: _,_ :: _,0,⟨_,t⟩=>⟨h,t⟩
 | _ :: _,_ :: _,n + 1,⟨a,t⟩=>⟨a,AllR.set h t⟩
 | [],_ :: _,_,z=>z.elim
 | _ :: _,[],_,z=>z.elim
def XH (K:FG7) (H:Hp) (x:V) (g:List Deed × List Deed):Prop:=∃ r r1 r2,x = .ref r /\ SqT K H r [.ref r1,.ref r2] /\ qm K H (.ref r1) g.1 /\ qm K H (.ref r2) g.2
def figI (k st l:Int):Int:=Builtin.bitAnd (l / 2 ^ (k - st).toNat) 1
def wfI (k st l w:Int):Int:=Builtin.bitXor l (Builtin.bitXor (figI k st l) w * 2 ^ (k - st).toNat)
def wayN (k h s:Int):Nat -> Int
 | 0=>h
 | n + 1=>wfI k (1 + n) (wayN k h s n) (figI k (1 + n) s)
def swI (k st l:Int):Int:=Builtin.bitOr (l / 2 ^ (k - st + 1).toNat * 2 ^ (k - st).toNat) (Builtin.bitAnd l (1 * 2 ^ (k - st).toNat - 1))
def xW (k n:Int):List Int:=(List.range k.toNat).map fun i:Nat=>Builtin.bitAnd (n / 2 ^ (k - 1 - (0 + (i:Int))).toNat) 1
def numL (xs:List Int):Int:=xs.foldl (fun f o=>2 * f + o) 0
def zD (k h g:Int) (n:Nat):Int:=numL ((xW k g).take n ++ (xW k h).drop n)
def vf (k l:Int) (st:Nat):Int:=numL ((xW k l).take (st - 1) ++ (xW k l).drop st)
theorem Zq:∀ k:Fin 5,∀ h:Fin 16,∀ g:Fin 16,h.val < 2 ^ k.val -> g.val < 2 ^ k.val -> ∀ n:Fin 5,n.val <= k.val →
  (wayN k.val h.val g.val n.val = zD k.val h.val g.val n.val /\ 0 <= zD k.val h.val g.val n.val /\ zD k.val h.val g.val n.val < 2 ^ k.val) ∧
  (1 <= n.val -> swI k.val n.val (zD k.val h.val g.val n.val) = vf k.val (zD k.val h.val g.val (n.val - 1)) n.val /\ vf k.val (zD k.val h.val g.val n.val) n.val = vf k.val (zD k.val h.val g.val (n.val - 1)) n.val /\ 0 <= vf k.val (zD k.val h.val g.val (n.val - 1)) n.val /\ vf k.val (zD k.val h.val g.val (n.val - 1)) n.val < 16):=by
 decide +kernel
theorem Zr:∀ k:Fin 5,∀ st:Fin 5,st.val <= k.val -> ∀ l:Fin 16,(figI k.val st.val l.val = 0 \/ figI k.val st.val l.val = 1) /\ ∀ w:Fin 2,(Builtin.bitXor (figI k.val st.val l.val) w.val).natAbs < 2:=by
 decide +kernel
theorem XI {i j:Int} (h:-(2 ^ 60) < i /\ i < 2 ^ 60):IntMulOk i j:=PySem.IntMulOk.of_left (Nat.le_trans ((PySem.intBits_le_iff (m:=60)).mpr (by obtain ⟨a,b⟩:=h; omega)) (by decide))
theorem tQ {k:Nat} (h:k <= 4):CPow 1 (k:Int):=⟨by omega,by omega,by decide⟩
theorem z8 {k:Nat} (h:k <= 4):(2:Nat) ^ k <= 16:=Nat.le_trans (Nat.pow_le_pow_right (by decide) h) (by decide)
theorem xJ {k:Nat}:(1:Int) * 2 ^ ((k:Int)).toNat = ((2 ^ k:Nat):Int):=by rw [Int.toNat_natCast,Int.one_mul,Int.natCast_pow]; rfl
theorem Wf {k h g n:Nat} (k4:k <= 4) (hh:h < 2 ^ k) (hg:g < 2 ^ k) (hn:n <= k):wayN k h g n = zD k h g n /\ 0 <= zD k h g n /\ zD k h g n < 16:=by
 have p:=z8 k4
 have z:=(Zq ⟨k,by omega⟩ ⟨h,by omega⟩ ⟨g,by omega⟩ hh hg ⟨n,by omega⟩ hn).1
 refine ⟨z.1,z.2.1,?_⟩
 have z3:zD k h g n < (2:Int) ^ k:=z.2.2
 have:((2 ^ k:Nat):Int) = (2:Int) ^ k:=Int.natCast_pow 2 k
 omega
theorem figF {k st:Nat} {l:Int} (k4:k <= 4) (hs:st <= k) (l0:0 <= l) (l1:l < 16):(figI k st l = 0 \/ figI k st l = 1) /\ ∀ w:Int,w = 0 \/ w = 1 -> (Builtin.bitXor (figI k st l) w).natAbs < 2 ^ 64:=by
 obtain ⟨n,rfl⟩:∃ n:Nat,l = n:=⟨l.toNat,by omega⟩
 have z:=Zr ⟨k,by omega⟩ ⟨st,by omega⟩ hs ⟨n,by omega⟩
 refine ⟨z.1,fun w hw=>?_⟩
 rcases hw with rfl | rfl
 ·exact Nat.lt_trans (z.2 0) (by decide)
 ·exact Nat.lt_trans (z.2 1) (by decide)
def qo (k h g:Nat):List Int:=(List.range (k + 1)).map fun n=>zD k h g n
theorem Uc {ys:List Int} {v:Int}:atI ((ys ++ [v]).map V.int) (-1) = some (V.int v):=by
 refine jf (j:=ys.length) ?_ ?_
 ·unfold ixN
  rw [List.length_map,List.length_append,if_neg (by decide),if_pos (by show -((ys.length + 1:Nat):Int) <= -1; omega)]
  exact congrArg some (by show (-1 + ((ys.length + 1:Nat):Int)).toNat = ys.length; omega)
 ·rw [List.getElem?_map]; simp
def ua (_:FG7):Sp:=sp2 fun x y H Q=>∃ k l:Nat,x = .int k /\ y = .int l /\ k <= 4 /\ l < 2 ^ k /\ Q (.bl true) H
def xK (_:FG7):Sp:=sp1 fun x H Q=>∃ k:Nat,x = .int k /\ k <= 4 /\ Q .non H
def vg (_:FG7):Sp:=sp3 fun x y z H Q=>∃ (k st:Nat) (l:Int),x = .int k /\ y = .int st /\ z = .int l /\ st <= k /\ Q (.int (figI k st l)) H
def yO (_:FG7):Sp:=sp4 fun x y z u H Q=>∃ (k st:Nat) (l w:Int),x = .int k /\ y = .int st /\ z = .int l /\ u = .int w /\ k <= 4 /\ st <= k /\ 0 <= l /\ l < 16 /\ (w = 0 \/ w = 1) /\ Q (.int (wfI k st l w)) H
def vh (_:FG7):Sp:=sp4 fun x y z u H Q=>∃ (k st:Nat) (l s:Int),x = .int k /\ y = .int st /\ z = .int l /\ u = .int s /\ k <= 4 /\ st <= k /\ 0 <= l /\ l < 16 /\ 0 <= s /\ s < 16 /\ Q (.int (wfI k st l (figI k st s))) H
def XJ (K:FG7):Sp:=sp3 fun x y z H Q=>∃ k h g:Nat,x = .int k /\ y = .int h /\ z = .int g /\ k <= 4 /\ h < 2 ^ k /\ g < 2 ^ k /\ ∀ y H',Grow [] H H' -> zr K H' y (qo k h g) -> Q y H'
def xc (_:FG7):Sp:=sp3 fun x y z H Q=>∃ (k st:Nat) (l:Int),x = .int k /\ y = .int st /\ z = .int l /\ k <= 4 /\ st <= k /\ 0 <= l /\ l < 16 /\ Q (.int (swI k st l)) H
def pI (p:Int -> Bool):V -> Bool
 | .int i=>p i
 | _=>false
theorem Zs (p:Int -> Bool):∀ ns:List Int,((ns.map V.int).filter (pI p)).map id = (ns.filter p).map V.int
 | []=>rfl
 | n :: ns=>by
  have ih:=Zs p ns
  rw [List.map_id] at ih ⊢
  rw [List.map_cons,List.filter_cons,List.filter_cons,show pI p (V.int n) = p n from rfl]
  split
  ·rw [ih]; rfl
  ·exact ih
theorem Zt {K:FG7} {a:Addr} {n:Nat} {tt:TT} {te:TE} {Q:VK} {σ:L2.St} {H:Hp} {ns:List Int} (p:Int -> Bool) (hl:SqL K H a (ns.map V.int)) (hlen:ns.length <= 1000)
  (ht:∀ i H' (R:Bool -> Hp -> Prop),i ∈ ns -> Grow [] H H' -> (∀ H2,Grow [] H' H2 -> R (p i) H2) -> tt (σ.set n (some (.int i))) H' R)
  (hs:∀ i H' (R:VK),i ∈ ns -> Grow [] H H' -> (∀ H2,Grow [] H' H2 -> R (.int i) H2) -> te (σ.set n (some (.int i))) H' R)
  (hd:∀ H' l,Grow [] H H' -> H' l = none -> Q (.ref l) (upd H' l (.lst ((ns.filter p).map V.int)))):xC (Itl K a) σ H (wK n) tt te Q :=
 jc (pI p) id hl (by rw [List.length_map]; exact hlen) (fun x H' R hx g k=>by obtain ⟨i,hi,rfl⟩:=List.mem_map.mp hx; exact ht i H' R hi g k)
  (fun x H' R hx _ g k=>by obtain ⟨i,hi,rfl⟩:=List.mem_map.mp hx; exact hs i H' R hi g k) (fun H' l g hl=>by rw [Zs]; exact hd H' l g hl)
theorem Deed.Sm.bd2 {d:Deed} (h:d.Sm):d.Bd (2 * 10 ^ 30):=h.bd.mono (by decide)
section
variable {X:Cx} {pins:List (Addr × Obj)} {σ:L2.St} {H2:Hp} {s₂:Shared} {it:Addr} {fp:List Addr} {tn:Nat -> Heap -> Prop} {J:It} {scope:Scope} {cl:List (Str × Addr)} {N':List Str} {sub:List (Option Nat)}
theorem Zu {C D:Addr} {s₀:Shared} {tg:Expr} {pos:Pos} {elt iter:Expr} {ifs:List Expr} {g:TG} {tt:TT} {te:TE} {Q:VK} {RR:Value -> Addr -> Result -> Shared -> Prop} {W:Nat -> Nat -> List V -> L2.St -> Hp -> Prop}
  (I:Inv X pins σ H2 s₂) (hcalm:X.calm = true) (T:Turn X.prog X.w X.K tg J fp it tn) (f2:∀ b ∈ fp,FpOk X pins H2 b) (hfp:∀ b ∈ fp,b < s₂.heap.objs.size)
  (hs₀:∀ b o,s₂.heap.get? b = some o -> s₀.heap.get? b = some o) (hos:s₀.os = s₂.os) (hD:s₂.heap.objs.size <= D) (hC:s₂.heap.objs.size <= C) (hDC:D ≠ C)
  (hcl1:∀ x c,cl.lookup x = some c -> X.env.cells.lookup x = some c)
  (hg:PG (cxC X N' scope cl C D fp s₀ H2) tg g) (ht:PIfs (cxC X N' scope cl C D fp s₀ H2) ifs tt) (he:PE (cxC X N' scope cl C D fp s₀ H2) elt te)
  (turn:∀ i m ys σ' H',W i m ys σ' H' →
   (J.stop i H' /\ ∀ l,H' l = none -> Q (.ref l) (upd H' l (.lst ys))) ∨
   (J.go i H' /\ ∃ Nn:List V -> L2.St -> Hp -> Prop,(∀ zs σ2 H2,Nn zs σ2 H2 -> ∃ m',m' < m /\ W (i + 1) m' zs σ2 H2) ∧
    ∀ x H2,J.yld i H' x H2 -> g x σ' H2 fun σ2 H3=>tt σ2 H3 fun b H4=>if b = true then te σ2 H4 fun y H5=>ys.length < sizeLine /\ Nn (ys ++ [y]) σ2 H5 else Nn ys σ2 H4))
  (hRR:∀ (D C:Addr) (oC:Obj) (m:Str -> Option Value) (s':Shared) (Hf:Hp),Inv X (pins ++ [(C,oC)]) σ Hf s' -> s'.heap.Ns C m -> FpOk X pins Hf C -> Q (.ref D) Hf -> RR (.ref D) C (.ok .next) s')
  (n:Nat) (s:Shared) (h:∃ i ys us k σ' H',Inv (cxC X N' scope cl C D fp s₀ H2) pins σ' H' s /\ tn i s.heap /\ (∀ b ∈ fp,H' b = none) /\ H' D = none ∧
   s.heap.get? D = some { cls:=.type "list",data:=.seq (us:List Value).toArray k } /\ Vals ys us /\ ys.length <= sizeLine /\ W i n ys σ' H') :
  codeAny (model X.prog X.w) X.A (.compLoop (.ListComp elt [⟨tg,iter,ifs,0⟩] scope pos) 0 (.ref it) (.ref D) (compEnvC scope cl C X.env)) (RR (.ref D) C) s:=by
 have frsz:∀ b ∈ frs X.stack,b < s₂.heap.objs.size:=fun b hb=>by
  rcases List.mem_cons.mp (I.stkSub b hb) with z | z
  ·rw [z]; exact I.lt
  ·exact Nat.lt_of_not_le fun q=>I.nofs q z
 have cells:∀ x c,cl.lookup x = some c -> c < s₂.heap.objs.size:=fun x c e=>let ⟨v,q⟩:=I.cell x c (hcl1 x c e); q.lt
 have pinsz:∀ p ∈ X.pn ++ pins,p.1 < s₂.heap.objs.size:=fun p hp=>Heap.lt_size (I.pin p hp).1
 refine tD (fun n s=>∃ i ys us k σ' H',Inv (cxC X N' scope cl C D fp s₀ H2) pins σ' H' s /\ tn i s.heap /\ (∀ b ∈ fp,H' b = none) /\ H' D = none ∧
   s.heap.get? D = some { cls:=.type "list",data:=.seq (us:List Value).toArray k } /\ Vals ys us /\ ys.length <= sizeLine /\ W i n ys σ' H') ?_ n h
 rintro n s ⟨i,ys,us,k,σ',H',I',st',fr,hn,hy,rv,hz,w'⟩
 have pD:Inv (cxC X N' scope cl C D fp s₀ H2) (pins ++ [(D,{ cls:=.type "list",data:=.seq us.toArray k })]) σ' H' s:=I'.pins_of fun p hp=>by
  rcases List.mem_append.mp hp with hp | hp
  ·exact I'.pin p (List.mem_append_right _ hp)
  ·rw [List.mem_singleton.mp hp]
   exact ⟨hy,hn,hDC,fun z=>absurd (Nat.lt_of_lt_of_le (frsz _ z) hD) (Nat.lt_irrefl _),fun v z=>by cases z⟩
 have fpok:∀ {H'':Hp},(∀ b ∈ fp,H'' b = none) -> ∀ b ∈ fp,FpOk (cxC X N' scope cl C D fp s₀ H2) (pins ++ [(D,{ cls:=.type "list",data:=.seq us.toArray k })]) H'' b:=fun hz b hb=>by
  refine ⟨hz b hb,Nat.ne_of_lt (Nat.lt_of_lt_of_le (hfp b hb) hC),fun z=>?_,.inl (List.mem_cons_of_mem _ hb),fun x c e=>(f2 b hb).2.2.2.2.1 x c (hcl1 x c e),fun p hp=>?_⟩
  ·rcases List.mem_cons.mp (I.stkSub b z) with z | z
   ·exact (f2 b hb).2.1 z
   ·exact (f2 b hb).2.2.1 z
  ·rcases List.mem_append.mp hp with hp | hp
   ·exact (f2 b hb).2.2.2.2.2 p (List.mem_append_left _ hp)
   ·rcases List.mem_append.mp hp with hp | hp
    ·exact (f2 b hb).2.2.2.2.2 p (List.mem_append_right _ hp)
    ·rw [List.mem_singleton.mp hp]
     exact Nat.ne_of_gt (Nat.lt_of_lt_of_le (hfp b hb) hD)
 rcases turn i n ys σ' H' w' with ⟨stop,q⟩ | ⟨go,Nn,hN,step⟩
 ·refine thn (T.done (cxC X N' scope cl C D fp s₀ H2) rfl rfl rfl hcalm i _ s σ' H' (fun _ _=>False) pD (fpok fr) st' stop) fun r s1 ⟨hr,I1⟩=>?_
  subst hr
  have hy1:=(I1.pin (D,{ cls:=.type "list",data:=.seq us.toArray k }) (by simp)).1
  obtain ⟨m,hm,_⟩:=I1.loc
  obtain ⟨oC,es,ep,hoC,hdC,_⟩:=id hm
  obtain ⟨IX,fpc⟩:=YK I hs₀ hos hD hC hDC f2 I1.unpinned hn hy1 rv hz hoC (by intro v z; rw [hdC] at z; cases z)
  exact hRR D C oC m s1 _ IX hm fpc (q D hn)
 ·refine thn (T.item (cxC X N' scope cl C D fp s₀ H2) rfl rfl rfl hcalm i _ s σ' H' (fun _ _=>False) pD (fpok fr) st' go) fun r s1 ⟨u,hr,h4⟩=>?_
  subst hr
  refine thn h4 fun _ s2 ⟨x5,H5,I5,r5,y5,st5,fr5⟩=>?_
  have I5':=I5.pinned (fpok fr5) (T.obj _ _ st5)
  refine thn (hg _ s2 σ' H5 x5 u _ I5' r5 (step x5 H5 y5)) fun _ s3 ⟨σ6,H6,I6,q6⟩=>?_
  refine thn (ht _ s3 σ6 H6 _ I6 q6) fun ok s4 ⟨H7,I7,q7⟩=>?_
  have stay:∀ {σ7:L2.St} {H7:Hp} {s7:Shared},Inv (cxC X N' scope cl C D fp s₀ H2) (pins ++ [(D,{ cls:=.type "list",data:=.seq us.toArray k })] ++ wX fp s2.heap) σ7 H7 s7 →
    (∀ b ∈ fp,∀ o,s2.heap.get? b = some o -> s7.heap.get? b = some o) /\ (∀ b ∈ fp,H7 b = none) /\ H7 D = none /\ s7.heap.get? D = some { cls:=.type "list",data:=.seq us.toArray k }:=fun {σ7 H7 s7} I7=>by
   have d:=I7.pin (D,{ cls:=.type "list",data:=.seq us.toArray k }) (by simp)
   refine ⟨fun b hb o e=>(I7.pin (b,o) (List.mem_append_right _ (List.mem_append_right _ (z9 hb e)))).1,fun b hb=>?_,d.2.1,d.1⟩
   obtain ⟨o,e,_⟩:=T.obj _ _ st5 b hb
   exact (I7.pin (b,o) (List.mem_append_right _ (List.mem_append_right _ (z9 hb e)))).2.1
  cases ok with
  | false =>
   rw [if_neg (by decide)] at q7 ⊢
   obtain ⟨k1,k2,k3,k4⟩:=stay I7
   obtain ⟨m',hm,w7⟩:=hN ys σ6 H7 q7
   exact ⟨m',hm,i + 1,ys,us,k,σ6,H7,I7.unpinned.unpinned,T.keep _ _ _ st5 k1,k2,k3,k4,rv,hz,w7⟩
  | true =>
   rw [if_pos rfl] at q7 ⊢
   refine thn (he _ s4 σ6 H7 _ I7 q7) fun v s5 ⟨y,H8,I8,r8,hl8,n8⟩=>?_
   obtain ⟨k1,k2,k3,k4⟩:=stay I8
   refine wpAny_list_append_plain (l:=D) ⟨k,k4⟩ (fun h' pl sb=>?_) (by rw [List.size_toArray,← rv.length]; exact hz)
   obtain ⟨k',e'⟩:=pl
   obtain ⟨m',hm,w8⟩:=hN _ σ6 H8 n8
   refine ⟨m',hm,i + 1,ys ++ [y],us ++ [v],k',σ6,H8,?_,T.keep _ _ _ (T.keep _ _ _ st5 k1) fun b hb o e=>sb.extBut b o (Nat.ne_of_lt (Nat.lt_of_lt_of_le (hfp b hb) hD)) e,k2,k3,?_,rv.append (.cons r8 .nil),?_,w8⟩
   ·exact (I8.unpinned.unpinned).turned (it:=D) (t':=s5.toks) (h':=h') (fun b o hb e=>sb.extBut b o hb e) k3 hDC (.inl (by simp)) (fun x c e=>Nat.ne_of_lt (Nat.lt_of_lt_of_le (cells x c e) hD)) (fun p hp=>Nat.ne_of_lt (Nat.lt_of_lt_of_le (pinsz p hp) hD))
   ·rw [e']; simp
   ·rw [List.length_append]; exact hl8
theorem vi {tg:Expr} {pos:Pos} {elt iter:Expr} {ifs:List Expr} {g:TG} {tt:TT} {te:TE} {E:VS7} {Q:VK} {RR:Value -> Addr -> Result -> Shared -> Prop}
  (I:Inv X pins σ H2 s₂) (hcalm:X.calm = true) (T:Turn X.prog X.w X.K tg J fp it tn) (st:tn 0 s₂.heap) (f2:∀ b ∈ fp,FpOk X pins H2 b)
  (S:CSc X scope N' sub) (hcl1:∀ x c,cl.lookup x = some c -> X.env.cells.lookup x = some c) (hcl2:∀ y ∈ scope.names,y.2 = .free -> ∃ c,cl.lookup y.1 = some c)
  (hg:∀ C D fp s H,PG (cxC X N' scope cl C D fp s H) tg g) (ht:∀ C D fp s H,PIfs (cxC X N' scope cl C D fp s H) ifs tt) (he:∀ C D fp s H,PE (cxC X N' scope cl C D fp s H) elt te)
  (hW:xC J (capt sub σ) H2 g tt te Q)
  (hRR:∀ (D C:Addr) (oC:Obj) (m:Str -> Option Value) (s':Shared) (Hf:Hp),Inv X (pins ++ [(C,oC)]) σ Hf s' -> s'.heap.Ns C m -> FpOk X pins Hf C -> Q (.ref D) Hf -> RR (.ref D) C (.ok .next) s') :
  wpAny (model X.prog X.w) X.A (newList []) (fun acc s₃=>wpAny (model X.prog X.w) X.A (newFunctionEnv scope X.env.globals cl [] X.env.qual none .none (some X.env)) (fun cenv s₄ =>
   codeAny (model X.prog X.w) X.A (.compStart (.ListComp elt [⟨tg,iter,ifs,0⟩] scope pos) 0 (.ref it) acc { cenv with scope:=relabel scope X.env }) (RR acc cenv.locals) s₄) E s₃) E s₂:=by
 obtain ⟨W,⟨m0,w0⟩,turn⟩:=hW
 refine wpAny_newObj_type (wpAny_newFunctionEnv S.nocell (by intro y hy; simp at hy) (fun h₁ hns₁ hsb₁=>?_) S.kind)
 dsimp only at hns₁ hsb₁ ⊢
 have hC:(s₂.heap.push { cls:=.type "list",dict:=none,data:=.seq ([]:List Value).toArray }).objs.size = s₂.heap.objs.size + 1:=Heap.size_push ..
 rw [hC] at hns₁ hsb₁ ⊢
 have hk:∀ b o,(s₂.heap.push { cls:=.type "list",dict:=none,data:=.seq ([]:List Value).toArray }).get? b = some o -> h₁.get? b = some o:=fun b o e =>
  hsb₁.extBut b o (by have:=Heap.lt_size e; rw [hC] at this; exact Nat.ne_of_lt this) (Heap.get?_push_of_some _ e)
 have hfp:∀ b ∈ fp,b < s₂.heap.objs.size:=fun b hb=>by
  obtain ⟨o,e,_⟩:=T.obj _ _ st b hb
  exact Heap.lt_size e
 have I0:=v7 (tk:=s₂.toks + ([]:List (Str × Value)).length) I S hcl1 hcl2 f2 hfp hns₁ hk
 have hD0:h₁.get? s₂.heap.objs.size = some { cls:=.type "list",data:=.seq ([]:List Value).toArray 0 }:=hk _ _ (Heap.get?_push_size _ rfl)
 have loop:codeAny (model X.prog X.w) X.A (.compLoop (.ListComp elt [⟨tg,iter,ifs,0⟩] scope pos) 0 (.ref it) (.ref s₂.heap.objs.size) (compEnvC scope cl (s₂.heap.objs.size + 1) X.env)) (RR (.ref s₂.heap.objs.size) (s₂.heap.objs.size + 1)) { s₂ with heap:=h₁,toks:=s₂.toks + ([]:List (Str × Value)).length } :=
  Zu (s₀:={ s₂ with heap:=s₂.heap.push { cls:=.type "list",dict:=none,data:=.seq ([]:List Value).toArray } }) (C:=s₂.heap.objs.size + 1) (D:=s₂.heap.objs.size) I hcalm T f2 hfp (fun b o e=>Heap.get?_push_of_some _ e) rfl (Nat.le_refl _) (Nat.le_succ _) (Nat.ne_of_lt (Nat.lt_succ_self _)) hcl1 (hg _ _ _ _ _) (ht _ _ _ _ _) (he _ _ _ _ _) turn hRR m0 _
   ⟨0,[],[],0,capt sub σ,H2,I0,T.keep _ _ _ st fun b hb o e=>hk b o (Heap.get?_push_of_some _ e),fun b hb=>(f2 b hb).1,I.hok.fresh (Nat.le_refl _),hD0,.nil,Nat.zero_le _,w0⟩
 exact codeAny_compStart_list loop (T.self _ _ _ _ _ (T.keep _ _ _ st fun b hb o e=>hk b o (Heap.get?_push_of_some _ e)) loop)
end
section
variable {X:Cx} {scope:Scope} {N':List Str} {sub:List (Option Nat)} {tg:Expr} {pos:Pos} {elt iter:Expr} {ifs:List Expr} {wi:TI} {g:TG} {tt:TT} {te:TE}
theorem zT (S:CSc X scope N' sub) (hcalm:X.calm = true) (hi:PI X tg iter wi)
  (hg:∀ cl C D fp s H,PG (cxC X N' scope cl C D fp s H) tg g) (ht:∀ cl C D fp s H,PIfs (cxC X N' scope cl C D fp s H) ifs tt) (he:∀ cl C D fp s H,PE (cxC X N' scope cl C D fp s H) elt te)
  (hs:∀ x,foldedSetIterable iter X.env x = pure x:=by intro _; rfl):PE X (.ListComp elt [⟨tg,iter,ifs,0⟩] scope pos) (X9 wi sub g tt te):=by
 intro pins s σ H Q I h
 obtain ⟨cl,hclos,hcl1,hcl2⟩:=S.clos I
 rw [eval_ListComp]
 refine wpAny_comprehension_free (use:=none) rfl hs hclos S.kind S.names (thn (hi pins s σ H _ I h) fun v s1 h1=>thn h1 fun itv s2 h2=>?_)
 obtain ⟨it,fp,tn,J,H2,e,I2,T,st2,f2,hW⟩:=h2
 subst e
 refine vi (RR:=fun acc C=>compPost (model X.prog X.w) X.A X.xe none (EP X pins σ Q) acc C) I2 hcalm T st2 f2 S hcl1 hcl2 (hg cl) (ht cl) (he cl) hW ?_
 intro D C oC m s' Hf IX hm fpc q
 refine ⟨m,hm,fun h' sb=>⟨.ref D,Hf,?_,rfl,q⟩⟩
 exact (IX.unpinned).turned (it:=C) (t':=s'.toks) (h':=h') (fun b o hb e=>sb.extBut b o hb e) fpc.1 fpc.2.1 fpc.2.2.2.1 fpc.2.2.2.2.1 fpc.2.2.2.2.2
theorem xX {i:Nat} {y:Str} {py spos:Pos} (hN:X.N.Nodup) (hiN:X.N[i]? = some y) (hy:X.env.scope.names.lookup y = some .local) (S:CSc X scope N' sub) (hcalm:X.calm = true) (hi:PI X tg iter wi)
  (hg:∀ cl C D fp s H,PG (cxC X N' scope cl C D fp s H) tg g) (ht:∀ cl C D fp s H,PIfs (cxC X N' scope cl C D fp s H) ifs tt) (he:∀ cl C D fp s H,PE (cxC X N' scope cl C D fp s H) elt te)
  (hsw:swapsWith (.ListComp elt [⟨tg,iter,ifs,0⟩] scope pos) (some (.Name y py)) spos.line X.env = pure true:=by rfl)
  (hs:∀ x,foldedSetIterable iter X.env x = pure x:=by intro _; rfl):PS X (.Assign [.Name y py] (.ListComp elt [⟨tg,iter,ifs,0⟩] scope pos) spos) (tAsg (X9 wi sub g tt te) (wK i)):=by
 intro pins s σ H D I h
 obtain ⟨cl,hclos,hcl1,hcl2⟩:=S.clos I
 rw [exec_Assign_Name_used _ _ _ _ hsw]
 refine wpAny_bind (wpAny_standAt (wpAny_bind ?_))
 show wpAny _ X.A (do let _ ← comprehension (.ListComp elt [⟨tg,iter,ifs,0⟩] scope pos) scope X.env _ (newList []) false (eval iter X.env) (some (assign (.Name y py) X.env))) _ _ s
 refine wpAny_bind (wpAny_mono (wpAny_comprehension_free (use:=some (assign (.Name y py) X.env)) (Q:=fun _ s'=>SP X pins D .next s') rfl hs hclos S.kind S.names
  (thn (hi pins s σ H _ I h) fun v s1 h1=>thn h1 fun itv s2 h2=>?_)) (fun _ s' hq=>wpAny_pure (wpAny_pure hq)) fun _ _ e=>e)
 obtain ⟨it,fp,tn,J,H2,e,I2,T,st2,f2,hW⟩:=h2
 subst e
 refine vi (Q:=fun x H1=>wK i x σ H1 D.nx) (RR:=fun acc C=>compPost (model X.prog X.w) X.A X.xe (some (assign (.Name y py) X.env)) (fun _ s'=>SP X pins D .next s') acc C) I2 hcalm T st2 f2 S hcl1 hcl2 (hg cl) (ht cl) (he cl) hW ?_
 intro L C oC m s' Hf IX hm fpc q
 have st:=zj (X:=X) (pos:=py) hN hiN (.inl hy) (.inr hy) _ s' σ Hf (.ref L) (.ref L) D.nx IX rfl q
 refine thn st fun _ s'' ⟨σ2,H2,I2',q2⟩=>?_
 have p:=I2'.pin (C,oC) (by simp)
 have hm':s''.heap.Ns C m:=by
  obtain ⟨o,es,ep,e1,r⟩:=hm
  have z:=(IX.pin (C,oC) (by simp)).1
  rw [e1] at z; cases z
  exact ⟨_,es,ep,p.1,r⟩
 refine ⟨m,hm',fun h' sb=>⟨σ2,H2,?_,q2⟩⟩
 exact (I2'.unpinned).turned (it:=C) (t':=s''.toks) (h':=h') (fun b o hb e=>sb.extBut b o hb e) p.2.1 fpc.2.1 fpc.2.2.2.1 fpc.2.2.2.2.1 fpc.2.2.2.2.2
end
section
variable {prog:Program} {w:World} {A:Around} {E:VS7} {s:Shared}
theorem ub {h:Heap} {z TI TO:Addr} {f0:Value} (hz:IsZip h z TI TO f0) (v:Value):IsZip (h.update z (Obj.mapFields fun x=>x.setIfInBounds 0 v)) z TI TO v /\ Heap.SameBut z h (h.update z (Obj.mapFields fun x=>x.setIfInBounds 0 v)) :=
 ⟨Heap.get?_update_self _ hz rfl,Heap.SameBut.update ..⟩
theorem Vk {h:Heap} {z TI TO:Addr} {f0:Value} (hz:IsZip h z TI TO f0):IsZip (h.update z (Obj.mapFields fun x=>x.setIfInBounds 1 (.bool false))) z TI TO f0 /\ Heap.SameBut z h (h.update z (Obj.mapFields fun x=>x.setIfInBounds 1 (.bool false))) :=
 ⟨Heap.get?_update_self _ hz rfl,Heap.SameBut.update ..⟩
theorem XL {h:Heap} {T:Addr} {a b:Value} (hp:IsPair h T a b) (v:Value):IsPair (h.update T (Obj.mapSeq fun x=>x.setIfInBounds 0 v)) T v b /\ Heap.SameBut T h (h.update T (Obj.mapSeq fun x=>x.setIfInBounds 0 v)) :=
 ⟨Heap.get?_update_self _ hp rfl,Heap.SameBut.update ..⟩
theorem Vl {h:Heap} {T:Addr} {a b:Value} (hp:IsPair h T a b) (v:Value):IsPair (h.update T (Obj.mapSeq fun x=>x.setIfInBounds 1 v)) T a v /\ Heap.SameBut T h (h.update T (Obj.mapSeq fun x=>x.setIfInBounds 1 v)) :=
 ⟨Heap.get?_update_self _ hp rfl,Heap.SameBut.update ..⟩
theorem Zv {z TI TO i1 i2:Addr} {fp1 fp2:List Addr} {n1 n2 i:Nat} {P1 P2:Nat -> Value -> Prop} {St1 St2:Nat -> Heap -> Prop} {a b:Value} {Q:VS7}
  (D1:Draws prog w A i1 fp1 n1 P1 St1) (D2:Draws prog w A i2 fp2 n2 P2 St2)
  (hz:IsZip s.heap z TI TO .none) (hI:IsPair s.heap TI (.ref i1) (.ref i2)) (hO:IsPair s.heap TO a b) (st1:St1 i s.heap) (st2:St2 i s.heap) (l1:i < n1) (l2:i < n2)
  (z1:z ∉ fp1) (z2:z ∉ fp2) (o1:TO ∉ fp1) (o2:TO ∉ fp2) (x12:i2 ∉ fp1) (x21:i1 ∉ fp2) (iz1:i1 ≠ z) (iz2:i2 ≠ z) (io1:i1 ≠ TO) (io2:i2 ≠ TO) (oz:TO ≠ z) (tz:TI ≠ z) (tO:TI ≠ TO) (ti1:TI ≠ i1) (ti2:TI ≠ i2)
  (hQ:∀ x y h' tk,P1 i x -> P2 i y -> IsZip h' z TI TO (rawInt s.heap.objs.size) -> IsPair h' TI (.ref i1) (.ref i2) -> IsPair h' TO x y -> St1 (i + 1) h' -> St2 (i + 1) h' -> IsPair h' s.heap.objs.size x y -> h'.objs.size = s.heap.objs.size + 1 →
   (∀ c o,c ≠ z -> c ≠ TO -> c ≠ i1 -> c ≠ i2 -> s.heap.get? c = some o -> h'.get? c = some o) -> Q (.ref s.heap.objs.size) { s with heap:=h',toks:=tk }) :
  wpAny (model prog w) A (Builtin.«zip.__next__» { pos:=[.ref z] }) (fun fin s'=>∃ v,fin = Fin.done (Flow.ret v) /\ Q v s') E s:=by
 show wpAny _ _ (field (.ref z) 2 >>= _) _ _ s
 refine wpAny_bind (wpAny_field hz rfl (x:=.bool false) rfl ?_)
 show wpAny _ _ (field (.ref z) 3 >>= _) _ _ s
 refine wpAny_bind (wpAny_field hz rfl (x:=.ref TI) rfl ?_)
 show wpAny _ _ (seqItems? (.ref TI) >>= _) _ _ s
 refine wpAny_bind (wpAny_seqItems hI rfl ?_)
 show wpAny _ _ (Builtin.SmallTypes.ownedTupleIsFree (.ref z) >>= _) _ _ s
 refine wpAny_bind ?_
 unfold Builtin.SmallTypes.ownedTupleIsFree
 refine wpAny_bind (wpAny_field hz rfl (x:=.none) rfl (wpAny_pure ?_))
 show wpAny _ _ (rule _ >>= _) _ _ s
 refine wpAny_bind (wpAny_rule ?_)
 show wpAny _ _ (field (.ref z) 4 >>= _) _ _ s
 refine wpAny_bind (wpAny_field hz rfl (x:=.ref TO) rfl ?_)
 show wpAny _ _ (setField (.ref z) 0 .ellipsis >>= _) _ _ s
 refine wpAny_bind (wpAny_setField hz rfl (by show 0 < 5; decide) ?_)
 obtain ⟨hz0,sb0⟩:=ub hz .ellipsis
 revert hz0 sb0
 generalize s.heap.update z (Obj.mapFields fun x=>x.setIfInBounds 0 Value.ellipsis) = h0
 intro hz0 sb0
 have no:∀ b,b ≠ z -> ∀ o,s.heap.get? b = some o -> h0.get? b = some o:=fun b hb o e=>(sb0.2 b hb).trans e
 refine wpAny_bind ?_
 show wpAny _ _ (forIn [(Value.ref i1,0),(Value.ref i2,1)] (none,()) _) _ _ _
 rw [List.forIn_cons]
 refine wpAny_bind (wpAny_bind (wpAny_onRaise ?_))
 show wpAny _ _ (Builtin.SmallTypes.nextOf (.ref i1) >>= fun x=>pure (some x)) _ _ _
 refine wpAny_bind (D1.item i { s with heap:=h0 } _ _ l1 (D1.frame _ _ _ st1 fun b hb o e=>no b (fun q=>z1 (q ▸ hb)) o e) fun x h1 tk1 p1 st1' sb1=>wpAny_pure ?_)
 have hO1:IsPair h1 TO a b:=(sb1.2 TO (Ne.symm io1)).trans (no TO oz _ hO)
 show wpAny _ _ (seqItems? (.ref TO) >>= _) _ _ _
 refine wpAny_bind (wpAny_seqItems (s:={ s with heap:=h1,toks:=tk1 }) hO1 rfl ?_)
 show wpAny _ _ (updateSeq TO _ >>= _) _ _ _
 refine wpAny_bind (wpAny_updateSeq (s:={ s with heap:=h1,toks:=tk1 }) hO1 rfl ?_)
 obtain ⟨hO2,sb2⟩:=XL hO1 x
 revert hO2 sb2
 show IsPair (h1.update TO (Obj.mapSeq fun q=>q.setIfInBounds 0 x)) TO x b -> Heap.SameBut TO h1 (h1.update TO (Obj.mapSeq fun q=>q.setIfInBounds 0 x)) -> wpAny _ _ _ _ _ { s with heap:=h1.update TO (Obj.mapSeq fun q=>q.setIfInBounds 0 x),toks:=tk1 }
 generalize h1.update TO (Obj.mapSeq fun q=>q.setIfInBounds 0 x) = h2
 intro hO2 sb2
 refine wpAny_bind (wpAny_letGo (wpAny_pure ?_))
 show wpAny _ _ (forIn [(Value.ref i2,1)] (none,()) _) _ _ _
 rw [List.forIn_cons]
 refine wpAny_bind (wpAny_bind (wpAny_onRaise ?_))
 show wpAny _ _ (Builtin.SmallTypes.nextOf (.ref i2) >>= fun x=>pure (some x)) _ _ _
 have k2:∀ c o,c ≠ z -> c ≠ TO -> c ≠ i1 -> s.heap.get? c = some o -> h2.get? c = some o:=fun c o c1 c2 c3 e=>(sb2.2 c c2).trans ((sb1.2 c c3).trans (no c c1 o e))
 refine wpAny_bind (D2.item i { s with heap:=h2,toks:=tk1 } _ _ l2 (D2.frame _ _ _ st2 fun c hc o e=>k2 c o (fun q=>z2 (q ▸ hc)) (fun q=>o2 (q ▸ hc)) (fun q=>x21 (q ▸ hc)) e) fun y h3 tk3 p2 st2' sb3=>wpAny_pure ?_)
 have hO3:IsPair h3 TO x b:=(sb3.2 TO (Ne.symm io2)).trans hO2
 show wpAny _ _ (seqItems? (.ref TO) >>= _) _ _ _
 refine wpAny_bind (wpAny_seqItems (s:={ s with heap:=h3,toks:=tk3 }) hO3 rfl ?_)
 show wpAny _ _ (updateSeq TO _ >>= _) _ _ _
 refine wpAny_bind (wpAny_updateSeq (s:={ s with heap:=h3,toks:=tk3 }) hO3 rfl ?_)
 obtain ⟨hO4,sb4⟩:=Vl hO3 y
 revert hO4 sb4
 show IsPair (h3.update TO (Obj.mapSeq fun q=>q.setIfInBounds 1 y)) TO x y -> Heap.SameBut TO h3 (h3.update TO (Obj.mapSeq fun q=>q.setIfInBounds 1 y)) -> wpAny _ _ _ _ _ { s with heap:=h3.update TO (Obj.mapSeq fun q=>q.setIfInBounds 1 y),toks:=tk3 }
 generalize h3.update TO (Obj.mapSeq fun q=>q.setIfInBounds 1 y) = h4
 intro hO4 sb4
 refine wpAny_bind (wpAny_letGo (wpAny_pure ?_))
 show wpAny _ _ (forIn [] (none,()) _) _ _ _
 rw [List.forIn_nil]
 refine wpAny_pure ?_
 show wpAny _ _ (seqItems? (.ref TO) >>= _) _ _ _
 refine wpAny_bind (wpAny_seqItems (s:={ s with heap:=h4,toks:=tk3 }) hO4 rfl ?_)
 show wpAny _ _ (newTuple [x,y] >>= _) _ _ _
 refine wpAny_bind ?_
 simp only [newTuple]
 have k4:∀ c o,c ≠ z -> c ≠ TO -> c ≠ i1 -> c ≠ i2 -> s.heap.get? c = some o -> h4.get? c = some o:=fun c o c1 c2 c3 c4 e=>(sb4.2 c c2).trans ((sb3.2 c c4).trans (k2 c o c1 c2 c3 e))
 have hz4:IsZip h4 z TI TO .ellipsis:=(sb4.2 z (Ne.symm oz)).trans ((sb3.2 z (Ne.symm iz2)).trans ((sb2.2 z (Ne.symm oz)).trans ((sb1.2 z (Ne.symm iz1)).trans hz0)))
 have s1':St1 (i + 1) h4:=D1.frame _ _ _ st1' fun c hc o e=>(sb4.2 c (fun q=>o1 (q ▸ hc))).trans ((sb3.2 c (fun q=>x12 (q ▸ hc))).trans ((sb2.2 c (fun q=>o1 (q ▸ hc))).trans e))
 have s2':St2 (i + 1) h4:=D2.frame _ _ _ st2' fun c hc o e=>(sb4.2 c (fun q=>o2 (q ▸ hc))).trans e
 have sz4:h4.objs.size = s.heap.objs.size:=by rw [sb4.1,sb3.1,sb2.1,sb1.1,sb0.1]
 refine wpAny_newObj_type ?_ (by size_fits)
 have hz5:IsZip (h4.push { cls:=.type "tuple",data:=.seq #[x,y] }) z TI TO .ellipsis:=Heap.get?_push_of_some _ hz4
 have hT5:IsPair (h4.push { cls:=.type "tuple",data:=.seq #[x,y] }) h4.objs.size x y:=Heap.get?_push_size _ rfl
 have sz5:(h4.push { cls:=.type "tuple",data:=.seq #[x,y] }).objs.size = h4.objs.size + 1:=Heap.size_push ..
 have k5:∀ c o,h4.get? c = some o -> (h4.push { cls:=.type "tuple",data:=.seq #[x,y] }).get? c = some o:=fun c o e=>Heap.get?_push_of_some _ e
 show wpAny _ _ _ _ _ { s with heap:=h4.push { cls:=.type "tuple",data:=.seq #[x,y] },toks:=tk3 }
 revert hz5 hT5 sz5 k5
 generalize h4.push { cls:=.type "tuple",data:=.seq #[x,y] } = h5
 intro hz5 hT5 sz5 k5
 show wpAny _ _ (Builtin.SmallTypes.ownedTupleHandOut (.ref z) (.ref h4.objs.size) >>= fun _=>pure (Fin.done (Flow.ret (.ref h4.objs.size)))) _ _ _
 rw [sz4] at hT5 sz5 ⊢
 refine wpAny_bind ?_
 show wpAny _ _ (setField (.ref z) 0 (rawInt s.heap.objs.size) >>= fun _=>setField (.ref z) 1 (.bool false)) _ _ _
 refine wpAny_bind (wpAny_setField (s:={ s with heap:=h5,toks:=tk3 }) hz5 rfl (by show 0 < 5; decide) ?_)
 obtain ⟨hz6,sb6⟩:=ub hz5 (rawInt s.heap.objs.size)
 obtain ⟨hz7,sb7⟩:=Vk hz6
 refine wpAny_setField hz6 rfl (by show 1 < 5; decide) (wpAny_pure ⟨_,rfl,?_⟩)
 have k7:∀ c o,c ≠ z -> h4.get? c = some o -> ((h5.update z (Obj.mapFields fun x=>x.setIfInBounds 0 (rawInt s.heap.objs.size))).update z (Obj.mapFields fun x=>x.setIfInBounds 1 (.bool false))).get? c = some o:=fun c o c1 e=>(sb7.2 c c1).trans ((sb6.2 c c1).trans (k5 c o e))
 have nT:s.heap.objs.size ≠ z:=Nat.ne_of_gt (Heap.lt_size hz)
 exact hQ x y _ tk3 p1 p2 hz7 (k7 TI _ tz (k4 TI _ tz tO ti1 ti2 hI)) (k7 TO _ oz hO4) (D1.frame _ _ _ s1' fun c hc o e=>k7 c o (fun q=>z1 (q ▸ hc)) e) (D2.frame _ _ _ s2' fun c hc o e=>k7 c o (fun q=>z2 (q ▸ hc)) e) ((sb7.2 _ nT).trans ((sb6.2 _ nT).trans hT5)) (by rw [sb7.1,sb6.1,sz5]) fun c o c1 c2 c3 c4 e=>k7 c o c1 (k4 c o c1 c2 c3 c4 e)
theorem YS {z TI TO i1 i2:Addr} {fp1:List Addr} {n1:Nat} {P1:Nat -> Value -> Prop} {St1:Nat -> Heap -> Prop} {a b:Value} {Q:Fin -> Shared -> Prop}
  (D1:Draws prog w A i1 fp1 n1 P1 St1)
  (hz:IsZip s.heap z TI TO .none) (hI:IsPair s.heap TI (.ref i1) (.ref i2)) (hO:IsPair s.heap TO a b) (st1:St1 n1 s.heap)
  (z1:z ∉ fp1) (iz1:i1 ≠ z)
  (hE:∀ h' e tk,(∀ c o,c ≠ z -> c ≠ TO -> c ≠ i1 -> c ≠ i2 -> s.heap.get? c = some o -> h'.get? c = some o) -> (∃ o,h'.get? e = some o /\ o.cls = .type "StopIteration") -> E (.ref e) { s with heap:=h',toks:=tk }) :
  wpAny (model prog w) A (Builtin.«zip.__next__» { pos:=[.ref z] }) Q E s:=by
 show wpAny _ _ (field (.ref z) 2 >>= _) _ _ s
 refine wpAny_bind (wpAny_field hz rfl (x:=.bool false) rfl ?_)
 show wpAny _ _ (field (.ref z) 3 >>= _) _ _ s
 refine wpAny_bind (wpAny_field hz rfl (x:=.ref TI) rfl ?_)
 show wpAny _ _ (seqItems? (.ref TI) >>= _) _ _ s
 refine wpAny_bind (wpAny_seqItems hI rfl ?_)
 show wpAny _ _ (Builtin.SmallTypes.ownedTupleIsFree (.ref z) >>= _) _ _ s
 refine wpAny_bind ?_
 unfold Builtin.SmallTypes.ownedTupleIsFree
 refine wpAny_bind (wpAny_field hz rfl (x:=.none) rfl (wpAny_pure ?_))
 show wpAny _ _ (rule _ >>= _) _ _ s
 refine wpAny_bind (wpAny_rule ?_)
 show wpAny _ _ (field (.ref z) 4 >>= _) _ _ s
 refine wpAny_bind (wpAny_field hz rfl (x:=.ref TO) rfl ?_)
 show wpAny _ _ (setField (.ref z) 0 .ellipsis >>= _) _ _ s
 refine wpAny_bind (wpAny_setField hz rfl (by show 0 < 5; decide) ?_)
 obtain ⟨hz0,sb0⟩:=ub hz .ellipsis
 revert hz0 sb0
 generalize s.heap.update z (Obj.mapFields fun x=>x.setIfInBounds 0 Value.ellipsis) = h0
 intro hz0 sb0
 have no:∀ b,b ≠ z -> ∀ o,s.heap.get? b = some o -> h0.get? b = some o:=fun b hb o e=>(sb0.2 b hb).trans e
 refine wpAny_bind ?_
 show wpAny _ _ (forIn [(Value.ref i1,0),(Value.ref i2,1)] (none,()) _) _ _ _
 rw [List.forIn_cons]
 refine wpAny_bind (wpAny_bind (wpAny_onRaise ?_))
 show wpAny _ _ (Builtin.SmallTypes.nextOf (.ref i1) >>= fun x=>pure (some x)) _ _ _
 refine wpAny_bind (D1.done { s with heap:=h0 } _ _ (D1.frame _ _ _ st1 fun b hb o e=>no b (fun q=>z1 (q ▸ hb)) o e) fun h1 e xb hs=>?_)
 have hz1:IsZip h1 z TI TO .ellipsis:=xb z _ (Ne.symm iz1) hz0
 obtain ⟨hz2,sb2⟩:=ub hz1 .none
 refine wpAny_setField (s:={ s with heap:=h1 }) hz1 rfl (by show 0 < 5; decide) (hE _ e s.toks (fun c o c1 c2 c3 c4 q=>(sb2.2 c c1).trans (xb c o c3 (no c c1 o q))) ?_)
 obtain ⟨o,ho,hc⟩:=hs
 refine ⟨o,(sb2.2 e fun q=>?_).trans ho,hc⟩
 rw [q,hz1] at ho
 obtain rfl:=Option.some.inj ho
 exact absurd hc (by show ¬ (Value.type "zip" = Value.type "StopIteration"); decide)
theorem YT {z TI TO i1 i2:Addr} {fp1 fp2:List Addr} {n1 i:Nat} {P1 P2:Nat -> Value -> Prop} {St1 St2:Nat -> Heap -> Prop} {a b:Value} {Q:Fin -> Shared -> Prop}
  (D1:Draws prog w A i1 fp1 n1 P1 St1) (D2:Draws prog w A i2 fp2 i P2 St2)
  (hz:IsZip s.heap z TI TO .none) (hI:IsPair s.heap TI (.ref i1) (.ref i2)) (hO:IsPair s.heap TO a b) (st1:St1 i s.heap) (st2:St2 i s.heap) (l1:i < n1)
  (z1:z ∉ fp1) (z2:z ∉ fp2) (o2:TO ∉ fp2) (x21:i1 ∉ fp2) (iz1:i1 ≠ z) (iz2:i2 ≠ z) (io1:i1 ≠ TO) (oz:TO ≠ z)
  (hE:∀ h' e tk,(∀ c o,c ≠ z -> c ≠ TO -> c ≠ i1 -> c ≠ i2 -> s.heap.get? c = some o -> h'.get? c = some o) -> (∃ o,h'.get? e = some o /\ o.cls = .type "StopIteration") -> E (.ref e) { s with heap:=h',toks:=tk }) :
  wpAny (model prog w) A (Builtin.«zip.__next__» { pos:=[.ref z] }) Q E s:=by
 show wpAny _ _ (field (.ref z) 2 >>= _) _ _ s
 refine wpAny_bind (wpAny_field hz rfl (x:=.bool false) rfl ?_)
 show wpAny _ _ (field (.ref z) 3 >>= _) _ _ s
 refine wpAny_bind (wpAny_field hz rfl (x:=.ref TI) rfl ?_)
 show wpAny _ _ (seqItems? (.ref TI) >>= _) _ _ s
 refine wpAny_bind (wpAny_seqItems hI rfl ?_)
 show wpAny _ _ (Builtin.SmallTypes.ownedTupleIsFree (.ref z) >>= _) _ _ s
 refine wpAny_bind ?_
 unfold Builtin.SmallTypes.ownedTupleIsFree
 refine wpAny_bind (wpAny_field hz rfl (x:=.none) rfl (wpAny_pure ?_))
 show wpAny _ _ (rule _ >>= _) _ _ s
 refine wpAny_bind (wpAny_rule ?_)
 show wpAny _ _ (field (.ref z) 4 >>= _) _ _ s
 refine wpAny_bind (wpAny_field hz rfl (x:=.ref TO) rfl ?_)
 show wpAny _ _ (setField (.ref z) 0 .ellipsis >>= _) _ _ s
 refine wpAny_bind (wpAny_setField hz rfl (by show 0 < 5; decide) ?_)
 obtain ⟨hz0,sb0⟩:=ub hz .ellipsis
 revert hz0 sb0
 generalize s.heap.update z (Obj.mapFields fun x=>x.setIfInBounds 0 Value.ellipsis) = h0
 intro hz0 sb0
 have no:∀ b,b ≠ z -> ∀ o,s.heap.get? b = some o -> h0.get? b = some o:=fun b hb o e=>(sb0.2 b hb).trans e
 refine wpAny_bind ?_
 show wpAny _ _ (forIn [(Value.ref i1,0),(Value.ref i2,1)] (none,()) _) _ _ _
 rw [List.forIn_cons]
 refine wpAny_bind (wpAny_bind (wpAny_onRaise ?_))
 show wpAny _ _ (Builtin.SmallTypes.nextOf (.ref i1) >>= fun x=>pure (some x)) _ _ _
 refine wpAny_bind (D1.item i { s with heap:=h0 } _ _ l1 (D1.frame _ _ _ st1 fun b hb o e=>no b (fun q=>z1 (q ▸ hb)) o e) fun x h1 tk1 p1 st1' sb1=>wpAny_pure ?_)
 have hO1:IsPair h1 TO a b:=(sb1.2 TO (Ne.symm io1)).trans (no TO oz _ hO)
 show wpAny _ _ (seqItems? (.ref TO) >>= _) _ _ _
 refine wpAny_bind (wpAny_seqItems (s:={ s with heap:=h1,toks:=tk1 }) hO1 rfl ?_)
 show wpAny _ _ (updateSeq TO _ >>= _) _ _ _
 refine wpAny_bind (wpAny_updateSeq (s:={ s with heap:=h1,toks:=tk1 }) hO1 rfl ?_)
 obtain ⟨hO2,sb2⟩:=XL hO1 x
 revert hO2 sb2
 show IsPair (h1.update TO (Obj.mapSeq fun q=>q.setIfInBounds 0 x)) TO x b -> Heap.SameBut TO h1 (h1.update TO (Obj.mapSeq fun q=>q.setIfInBounds 0 x)) -> wpAny _ _ _ _ _ { s with heap:=h1.update TO (Obj.mapSeq fun q=>q.setIfInBounds 0 x),toks:=tk1 }
 generalize h1.update TO (Obj.mapSeq fun q=>q.setIfInBounds 0 x) = h2
 intro hO2 sb2
 refine wpAny_bind (wpAny_letGo (wpAny_pure ?_))
 show wpAny _ _ (forIn [(Value.ref i2,1)] (none,()) _) _ _ _
 rw [List.forIn_cons]
 refine wpAny_bind (wpAny_bind (wpAny_onRaise ?_))
 show wpAny _ _ (Builtin.SmallTypes.nextOf (.ref i2) >>= fun x=>pure (some x)) _ _ _
 have k2:∀ c o,c ≠ z -> c ≠ TO -> c ≠ i1 -> s.heap.get? c = some o -> h2.get? c = some o:=fun c o c1 c2 c3 e=>(sb2.2 c c2).trans ((sb1.2 c c3).trans (no c c1 o e))
 have hz2:IsZip h2 z TI TO .ellipsis:=(sb2.2 z (Ne.symm oz)).trans ((sb1.2 z (Ne.symm iz1)).trans hz0)
 refine wpAny_bind (D2.done { s with heap:=h2,toks:=tk1 } _ _ (D2.frame _ _ _ st2 fun c hc o e=>k2 c o (fun q=>z2 (q ▸ hc)) (fun q=>o2 (q ▸ hc)) (fun q=>x21 (q ▸ hc)) e) fun h3 e xb hs=>?_)
 have hz3:IsZip h3 z TI TO .ellipsis:=xb z _ (Ne.symm iz2) hz2
 obtain ⟨hz4,sb4⟩:=ub hz3 .none
 refine wpAny_setField (s:={ s with heap:=h3,toks:=tk1 }) hz3 rfl (by show 0 < 5; decide) (hE _ e tk1 (fun c o c1 c2 c3 c4 q=>(sb4.2 c c1).trans (xb c o c4 (k2 c o c1 c2 c3 q))) ?_)
 obtain ⟨o,ho,hc⟩:=hs
 refine ⟨o,(sb4.2 e fun q=>?_).trans ho,hc⟩
 rw [q,hz3] at ho
 obtain rfl:=Option.some.inj ho
 exact absurd hc (by show ¬ (Value.type "zip" = Value.type "StopIteration"); decide)
end
section
variable {prog:Program} {w:World} {A:Around} {E:VS7} {s:Shared}
theorem Zw {e:Addr} {Q:Option Value -> Shared -> Prop} (h:∃ o,s.heap.get? e = some o /\ o.cls = .type "StopIteration") (q:Q none s) :
  wpAny (model prog w) A (do if ← isInstance (.ref e) (.type "StopIteration") then pure none else throw (.ref e):Sem (Option Value)) Q E s:=by
 refine wpAny_bind (wpAny_isInstance (T:="StopIteration") (b:=true) h (by first | rfl | decide) ?_)
 rw [if_pos rfl]
 exact wpAny_pure q
theorem XM {z TI TO:Addr} {f0:Value} (hz:IsZip s.heap z TI TO f0):s.TypeIs (.ref z) "zip":=⟨_,hz,rfl⟩
theorem Zx {z TI TO:Addr} {f0:Value} {Q:Option Value -> Shared -> Prop} (hz:IsZip s.heap z TI TO f0)
  (h:wpAny (model prog w) A.in1 (Builtin.«zip.__next__» { pos:=[.ref z] }) (fun fin s'=>∃ v,fin = Fin.done (Flow.ret v) /\ Q (some v) s')
   (fun e s'=>∃ a,e = .ref a /\ (∃ o,s'.heap.get? a = some o /\ o.cls = .type "StopIteration") /\ Q none s') s):wpAny (model prog w) A (pyNext (.ref z)) Q E s:=by
 unfold pyNext
 refine wpAny_bind (wpAny_attempt (wpAny_callSpecial?_slot (name:=Str.ofString "__next__") (XM hz) F.slot_zip_next (wpAny_call_entry F.slot_zip_next (XM hz) F.entry_zip_next (wpAny_mono h (fun fin s' hq=>?_) (fun e s' hq=>?_)) (F.args_zip_next_1 _))))
 ·obtain ⟨v,rfl,q⟩:=hq
  exact ⟨v,rfl,wpAny_pure q⟩
 ·obtain ⟨a,rfl,ho,q⟩:=hq
  exact Zw ho q
def wq (h:Heap) (a:Addr) (cn:String) (vs:Array Value):Prop:=(cn = "tuple_iterator" /\ h.IsTuple a vs) \/ (cn = "list_iterator" /\ h.IsList a vs)
theorem wq.iter {a:Addr} {cn:String} {vs:Array Value} {Q:VS7} (h:wq s.heap a cn vs)
  (q:Q (.ref s.heap.objs.size) { s with heap:=s.heap.push { cls:=.type cn,data:=.fields #[.ref a,.int 0 0] } }):wpAny (model prog w) A (pyIter (.ref a)) Q E s:=by
 rcases h with ⟨rfl,h⟩ | ⟨rfl,h⟩
 ·exact wpAny_pyIter_tuple h q
 ·exact wpAny_pyIter_list h q
theorem wq.push {h:Heap} {a:Addr} {cn:String} {vs:Array Value} (x:wq h a cn vs) (o:Obj):wq (h.push o) a cn vs:=by
 rcases x with ⟨rfl,x⟩ | ⟨rfl,x⟩
 ·exact .inl ⟨rfl,x.push o⟩
 ·exact .inr ⟨rfl,x.push o⟩
def zpO (c:String) (a:Addr):Obj:={ cls:=.type c,data:=.fields #[.ref a,.int 0 0] }
def zpT (a b:Value):Obj:={ cls:=.type "tuple",data:=.seq #[a,b] }
def zpZ (TI TO:Addr):Obj:={ cls:=.type "zip",data:=.fields #[.none,.bool false,.bool false,.ref TI,.ref TO] }
def zpN (h:Heap) (c1:String) (a:Addr) (c2:String) (b:Addr):Addr :=
 let h1:=h.push (zpO c1 a)
 let h2:=h1.push (zpO c2 b)
 let h3:=h2.push (zpT (.ref h.objs.size) (.ref h1.objs.size))
 (h3.push (zpT .none .none)).objs.size
def zpH (h:Heap) (c1:String) (a:Addr) (c2:String) (b:Addr):Heap :=
 let h1:=h.push (zpO c1 a)
 let h2:=h1.push (zpO c2 b)
 let h3:=h2.push (zpT (.ref h.objs.size) (.ref h1.objs.size))
 let h4:=h3.push (zpT .none .none)
 h4.push (zpZ h2.objs.size h3.objs.size)
theorem Wg (a b:Addr) (c1 c2:String) (xs ys:Array Value) :
  Meets (Builtin.«zip.__new__» ⟨[.type "zip",.ref a,.ref b],[]⟩) (fun _ R s=>wq s.heap a c1 xs /\ wq s.heap b c2 ys ∧
   R (.ok (.ret (.ref (zpN s.heap c1 a c2 b)))) { s with heap:=zpH s.heap c1 a c2 b }) :=
 .of_wp fun prog w A R s h=>by
  obtain ⟨hp,g,d,tk,os⟩:=s; obtain ⟨h1,h2,h⟩:=h
  have hsub:=sub_zip
  have h2':wq (Shared.heap ⟨hp.push { cls:=.type c1,data:=.fields #[.ref a,.int 0 0] },g,d,tk,os⟩) b c2 ys:=h2.push _
  wp_walk using wq.iter h1,wq.iter h2'
  exact ⟨_,rfl,h⟩
theorem Zy {a b:Addr} {c1 c2:String} {xs ys:Array Value} {Q:VS7} (ha:wq s.heap a c1 xs) (hb:wq s.heap b c2 ys)
  (h:∀ h',IsZip h' (s.heap.objs.size + 4) (s.heap.objs.size + 2) (s.heap.objs.size + 3) .none -> IsPair h' (s.heap.objs.size + 2) (.ref s.heap.objs.size) (.ref (s.heap.objs.size + 1)) -> IsPair h' (s.heap.objs.size + 3) .none .none →
   h'.get? s.heap.objs.size = some (zpO c1 a) -> h'.get? (s.heap.objs.size + 1) = some (zpO c2 b) -> (∀ c o,s.heap.get? c = some o -> h'.get? c = some o) -> Q (.ref (s.heap.objs.size + 4)) { s with heap:=h' }) :
  wpAny (model prog w) A (call (.type "zip") [.ref a,.ref b]) Q E s:=by
 refine callType_new F.called_zip (by decide) (F.typeCall_zip_2 _ _) (F.newCall_zip_2 _ _) (fun obj=>F.args_object_init_3 obj _ _) F.entry_zip_new (Wg a b c1 c2 xs ys) ⟨ha,hb,?_⟩
 have gs:∀ (h:Heap) (o:Obj) (m:Nat),o.isFreed = false -> h.objs.size = m -> (h.push o).get? m = some o /\ (h.push o).objs.size = m + 1:=fun h o m f e=>by
  subst e; exact ⟨Heap.get?_push_size _ f,Heap.size_push ..⟩
 obtain ⟨e1,z1⟩:=gs s.heap (zpO c1 a) _ rfl rfl
 obtain ⟨e2,z2⟩:=gs (s.heap.push (zpO c1 a)) (zpO c2 b) _ rfl z1
 obtain ⟨e3,z3⟩:=gs ((s.heap.push (zpO c1 a)).push (zpO c2 b)) (zpT (.ref s.heap.objs.size) (.ref (s.heap.push (zpO c1 a)).objs.size)) _ rfl z2
 obtain ⟨e4,z4⟩:=gs (((s.heap.push (zpO c1 a)).push (zpO c2 b)).push (zpT (.ref s.heap.objs.size) (.ref (s.heap.push (zpO c1 a)).objs.size))) (zpT .none .none) _ rfl z3
 obtain ⟨e5,z5⟩:=gs ((((s.heap.push (zpO c1 a)).push (zpO c2 b)).push (zpT (.ref s.heap.objs.size) (.ref (s.heap.push (zpO c1 a)).objs.size))).push (zpT .none .none)) (zpZ ((s.heap.push (zpO c1 a)).push (zpO c2 b)).objs.size (((s.heap.push (zpO c1 a)).push (zpO c2 b)).push (zpT (.ref s.heap.objs.size) (.ref (s.heap.push (zpO c1 a)).objs.size))).objs.size) _ rfl z4
 have eN:zpN s.heap c1 a c2 b = s.heap.objs.size + 4:=z4
 have ps:∀ (h:Heap) (o:Obj) (c:Addr) (q:Obj),h.get? c = some q -> (h.push o).get? c = some q:=fun h o c q e=>Heap.get?_push_of_some _ e
 have f5:(zpH s.heap c1 a c2 b).get? (s.heap.objs.size + 4) = some (zpZ (s.heap.objs.size + 2) (s.heap.objs.size + 3)):=by
  have:=e5
  rw [z2,z3] at this
  unfold zpH
  dsimp only
  rw [z2,z3]
  exact this
 have f3:(zpH s.heap c1 a c2 b).get? (s.heap.objs.size + 2) = some (zpT (.ref s.heap.objs.size) (.ref (s.heap.objs.size + 1))):=by
  have:=ps _ (zpZ ((s.heap.push (zpO c1 a)).push (zpO c2 b)).objs.size (((s.heap.push (zpO c1 a)).push (zpO c2 b)).push (zpT (.ref s.heap.objs.size) (.ref (s.heap.push (zpO c1 a)).objs.size))).objs.size) _ _ (ps _ (zpT .none .none) _ _ e3)
  unfold zpH
  dsimp only
  exact this.trans (by rw [z1])
 have f4:(zpH s.heap c1 a c2 b).get? (s.heap.objs.size + 3) = some (zpT .none .none):=ps _ _ _ _ e4
 have f1:(zpH s.heap c1 a c2 b).get? s.heap.objs.size = some (zpO c1 a):=ps _ _ _ _ (ps _ _ _ _ (ps _ _ _ _ (ps _ _ _ _ e1)))
 have f2:(zpH s.heap c1 a c2 b).get? (s.heap.objs.size + 1) = some (zpO c2 b):=ps _ _ _ _ (ps _ _ _ _ (ps _ _ _ _ e2))
 have fk:∀ c o,s.heap.get? c = some o -> (zpH s.heap c1 a c2 b).get? c = some o:=fun c o e=>ps _ _ _ _ (ps _ _ _ _ (ps _ _ _ _ (ps _ _ _ _ (ps _ _ _ _ e))))
 show _ /\ _
 rw [eN]
 exact ⟨⟨_,f5,rfl⟩,h _ f5 f3 f4 f1 f2 fk⟩
end
def SqC (c:Bool) (K:FG7) (H:Hp) (a:Addr) (xs:List V):Prop:=match c with
 | true=>SqT K H a xs
 | false=>SqL K H a xs
def vj (c:Bool) (h:Heap) (j a:Addr) (i:Nat):Prop:=match c with
 | true=>h.IsTupleIter j a i
 | false=>h.IsListIter j a i
def SeqC (c:Bool) (h:Heap) (a:Addr) (vs:Array Value):Prop:=match c with
 | true=>h.IsTuple a vs
 | false=>h.IsList a vs
def cnC (c:Bool):String:=match c with
 | true=>"tuple_iterator"
 | false=>"list_iterator"
theorem vj.at {c:Bool} {h h':Heap} {j a:Addr} {i:Nat} (x:vj c h j a i) (k:∀ o,h.get? j = some o -> h'.get? j = some o):vj c h' j a i:=by
 cases c
 ·exact Heap.IsListIter.at x k
 ·exact Heap.IsTupleIter.at x k
theorem vj.obj {c:Bool} {h:Heap} {j a:Addr} {i:Nat} (x:vj c h j a i):∃ o,h.get? j = some o /\ ∀ v,o.data ≠ .cell v:=by
 cases c
 ·obtain ⟨o,e,_,d⟩:=x
  exact ⟨o,e,fun v z=>by rw [d] at z; cases z⟩
 ·obtain ⟨o,e,_,d⟩:=x
  exact ⟨o,e,fun v z=>by rw [d] at z; cases z⟩
theorem vj.mk {c:Bool} {h:Heap} {j a:Addr} (e:h.get? j = some (zpO (cnC c) a)):vj c h j a 0:=by
 cases c
 ·exact ⟨_,e,rfl,rfl⟩
 ·exact ⟨_,e,rfl,rfl⟩
theorem SeqC.src {c:Bool} {h:Heap} {a:Addr} {vs:Array Value} (x:SeqC c h a vs):wq h a (cnC c) vs:=by
 cases c
 ·exact .inr ⟨rfl,x⟩
 ·exact .inl ⟨rfl,x⟩
theorem SeqC.lt {c:Bool} {h:Heap} {a:Addr} {vs:Array Value} (x:SeqC c h a vs):a < h.objs.size:=by
 cases c
 ·obtain ⟨_,e,_⟩:=(show h.IsList a vs from x); exact Heap.lt_size e
 ·obtain ⟨_,e,_⟩:=(show h.IsTuple a vs from x); exact Heap.lt_size e
theorem Zz {prog:Program} {w:World} {A:Around} (hh:A.handled = none) (c:Bool) (j t:Addr) (hne:t ≠ j) (vs:Array Value) :
  Draws prog w A j [j,t] vs.size (fun i v=>vs[i]? = some v) (fun i h=>vj c h j t i /\ SeqC c h t vs):=by
 cases c
 ·exact Draws.list hh j t hne vs
 ·exact Zn hh j t hne vs
theorem jg {prog:Program} {w:World} {A:Around} (hh:A.handled = none) (jt t:Addr) (vs:Array Value) {i:Nat} (hv:vs[i]? = none) :
  Draws prog w A jt [jt,t] i (fun _ _=>True) (fun j h=>j = i /\ h.IsListIter jt t i /\ h.IsList t vs) where
 live:=fun _ _ st=>let ⟨o,ho,_⟩:=st.2.1; ⟨o,ho⟩
 frame:=fun _ _ _ st hk=>⟨st.1,st.2.1.at (hk jt (by simp)),st.2.2.at (hk t (by simp))⟩
 item:=fun j s Q E hj st hQ=>absurd st.1 (Nat.ne_of_lt hj)
 done:=fun s Q E st hE=>wpAny_nextOf_list_end hh st.2.1 st.2.2 hv hE
theorem uc {prog:Program} {w:World} {A:Around} (hh:A.handled = none) (c:Bool) (j t:Addr) (vs:Array Value) {i:Nat} (hv:vs[i]? = none) :
  Draws prog w A j [j,t] i (fun _ _=>True) (fun k h=>k = i /\ vj c h j t i /\ SeqC c h t vs):=by
 cases c
 ·exact jg hh j t vs hv
 ·exact Zo hh j t vs hv
theorem xq {X:Cx} {pins:List (Addr × Obj)} {σ:L2.St} {H:Hp} {s:Shared} {c:Bool} {a:Addr} {xs:List V} (I:Inv X pins σ H s) (h:SqC c X.K H a xs):∃ its:List Value,Vals xs its /\ SeqC c s.heap a its.toArray:=by
 cases c
 ·obtain ⟨its,r,p,_⟩:=I.list h
  exact ⟨its,r,p.isList⟩
 ·obtain ⟨its,r,p,_⟩:=I.tuple h
  exact ⟨its,r,p⟩
theorem wE {X:Cx} {pins:List (Addr × Obj)} {σ:L2.St} {H:Hp} {s:Shared} {c:Bool} {a:Addr} {xs ys:List V} (I:Inv X pins σ H s) (h:SqC c X.K H a xs) (h':SqC c X.K H a ys):xs = ys:=by
 cases c
 ·exact I.list_inj h h'
 ·exact I.tuple_inj h h'
theorem nne {i j:Nat} (h:i ≠ j):i ≠ j:=h
theorem nin2 {z j t:Nat} (h1:z ≠ j) (h2:z ≠ t):z ∉ ([j,t]:List Nat):=by simp [h1,h2]
def Itz (K:FG7) (c:Bool) (a:Addr) (d:Bool) (b:Addr):It :=
  ⟨fun i H=>∃ xs ys x y,SqC c K H a xs /\ SqC d K H b ys /\ xs[i]? = some x /\ ys[i]? = some y,
   fun i H x H'=>∃ T v w,H T = none /\ x = .ref T /\ H' = upd H T (.tup [v,w]) /\ (∀ xs,SqC c K H a xs -> xs[i]? = some v) /\ ∀ ys,SqC d K H b ys -> ys[i]? = some w,
   fun i H=>∃ xs ys,SqC c K H a xs /\ SqC d K H b ys /\ (xs.length <= i \/ ys.length <= i)⟩
def Vm (c d:Bool) (z TI TO i1 i2 a b:Addr) (i:Nat) (h:Heap):Prop :=
 IsZip h z TI TO .none /\ IsPair h TI (.ref i1) (.ref i2) /\ (∃ u v,IsPair h TO u v) /\ vj c h i1 a i /\ vj d h i2 b i
theorem nad {n:Nat} (i j:Nat) (h:i ≠ j):n + i ≠ n + j:=fun z=>h (Nat.add_left_cancel z)
theorem nad0 {n:Nat} (i:Nat) (h:i ≠ 0):n + i ≠ n:=fun z=>h (Nat.add_left_cancel (z.trans (Nat.add_zero n).symm))
theorem YU {P:Program} {w:World} {K:FG7} {elts:List Expr} {kt:Nat} {pt:Pos} (c d:Bool) (a b n:Nat) (ha:a < n) (hb:b < n) :
  Turn P w K (.Tuple elts kt pt) (Itz K c a d b) [n + 4,n + 3,n + 2,n + 1,n] (n + 4) (Vm c d (n + 4) (n + 2) (n + 3) n (n + 1) a b) where
 mem:=by simp
 obj:=fun i h st q hq=>by
  obtain ⟨hz,hI,⟨u,v,hO⟩,s1,s2⟩:=st
  simp only [List.mem_cons,List.mem_nil_iff,or_false] at hq
  rcases hq with rfl | rfl | rfl | rfl | rfl
  ·exact ⟨_,hz,fun v z=>by cases z⟩
  ·exact ⟨_,hO,fun v z=>by cases z⟩
  ·exact ⟨_,hI,fun v z=>by cases z⟩
  ·exact s2.obj
  ·exact s1.obj
 keep:=fun i h h' st k=>by
  obtain ⟨hz,hI,⟨u,v,hO⟩,s1,s2⟩:=st
  exact ⟨k _ (by simp) _ hz,k _ (by simp) _ hI,⟨u,v,k _ (by simp) _ hO⟩,s1.at (k _ (by simp)),s2.at (k _ (by simp))⟩
 item:=by
  intro X hP hw hK hc i pins s σ H E I hf st hg
  subst hP hw hK
  obtain ⟨hz,hI,⟨u0,v0,hO⟩,s1,s2⟩:=st
  obtain ⟨xs,ys,x,y,hqa,hqb,hx,hy⟩:=hg
  obtain ⟨ia,ra,pa⟩:=xq I hqa
  obtain ⟨ib,rb,pb⟩:=xq I hqb
  obtain ⟨u,hu,ru⟩:=ra.get hx
  obtain ⟨v,hv,rv⟩:=rb.get hy
  have l1:i < ia.toArray.size:=by have:=(List.getElem?_eq_some_iff.mp hu).1; simpa using this
  have l2:i < ib.toArray.size:=by have:=(List.getElem?_eq_some_iff.mp hv).1; simpa using this
  have an:a ≠ n:=Nat.ne_of_lt ha
  have bn:b ≠ n + 1:=by omega
  refine Zx hz (wpAny_mono (Zv (A:=X.A.in1) (Q:=fun v s1=>∃ u,some v = some u /\ wpAny (model X.prog X.w) X.A (letOwnedTupleGo (.Tuple elts kt pt) (.ref (n + 4)) u) (fun _ s2=>∃ x H',Inv X pins σ H' s2 /\ RelV x u /\ (Itz X.K c a d b).yld i H x H' /\ Vm c d (n + 4) (n + 2) (n + 3) n (n + 1) a b (i + 1) s2.heap /\ ∀ b ∈ [n + 4,n + 3,n + 2,n + 1,n],H' b = none) E s1) (Zz (A:=X.A.in1) (I.ok.hd hc) c n a an ia.toArray) (Zz (A:=X.A.in1) (I.ok.hd hc) d (n + 1) b bn ib.toArray) hz hI hO ⟨s1,pa⟩ ⟨s2,pb⟩ l1 l2
   (nin2 (by first | exact nad _ _ (by decide) | exact nad0 _ (by decide) | exact (nad0 _ (by decide)).symm | omega) (by first | exact nad _ _ (by decide) | exact nad0 _ (by decide) | exact (nad0 _ (by decide)).symm | omega)) (nin2 (by first | exact nad _ _ (by decide) | exact nad0 _ (by decide) | exact (nad0 _ (by decide)).symm | omega) (by first | exact nad _ _ (by decide) | exact nad0 _ (by decide) | exact (nad0 _ (by decide)).symm | omega)) (nin2 (by first | exact nad _ _ (by decide) | exact nad0 _ (by decide) | exact (nad0 _ (by decide)).symm | omega) (by first | exact nad _ _ (by decide) | exact nad0 _ (by decide) | exact (nad0 _ (by decide)).symm | omega)) (nin2 (by first | exact nad _ _ (by decide) | exact nad0 _ (by decide) | exact (nad0 _ (by decide)).symm | omega) (by first | exact nad _ _ (by decide) | exact nad0 _ (by decide) | exact (nad0 _ (by decide)).symm | omega)) (nin2 (by first | exact nad _ _ (by decide) | exact nad0 _ (by decide) | exact (nad0 _ (by decide)).symm | omega) (by first | exact nad _ _ (by decide) | exact nad0 _ (by decide) | exact (nad0 _ (by decide)).symm | omega)) (nin2 (by first | exact nad _ _ (by decide) | exact nad0 _ (by decide) | exact (nad0 _ (by decide)).symm | omega) (by first | exact nad _ _ (by decide) | exact nad0 _ (by decide) | exact (nad0 _ (by decide)).symm | omega)) (nne (by first | exact nad _ _ (by decide) | exact nad0 _ (by decide) | exact (nad0 _ (by decide)).symm | omega)) (nne (by first | exact nad _ _ (by decide) | exact nad0 _ (by decide) | exact (nad0 _ (by decide)).symm | omega)) (nne (by first | exact nad _ _ (by decide) | exact nad0 _ (by decide) | exact (nad0 _ (by decide)).symm | omega)) (nne (by first | exact nad _ _ (by decide) | exact nad0 _ (by decide) | exact (nad0 _ (by decide)).symm | omega)) (nne (by first | exact nad _ _ (by decide) | exact nad0 _ (by decide) | exact (nad0 _ (by decide)).symm | omega)) (nne (by first | exact nad _ _ (by decide) | exact nad0 _ (by decide) | exact (nad0 _ (by decide)).symm | omega)) (nne (by first | exact nad _ _ (by decide) | exact nad0 _ (by decide) | exact (nad0 _ (by decide)).symm | omega)) (nne (by first | exact nad _ _ (by decide) | exact nad0 _ (by decide) | exact (nad0 _ (by decide)).symm | omega)) (nne (by first | exact nad _ _ (by decide) | exact nad0 _ (by decide) | exact (nad0 _ (by decide)).symm | omega)) ?_) (fun fin s' hq=>hq) (fun e s' (hq:False)=>hq.elim))
  intro p q h1 tk hp hq hz1 hI1 hO1 st1 st2 hT hsz hk
  have ep:p = u:=by
   have e1:ia.toArray[i]? = some p:=hp
   have e2:ia.toArray[i]? = some u:=by simpa using hu
   rw [e1] at e2; exact Option.some.inj e2
  have eq':q = v:=by
   have e1:ib.toArray[i]? = some q:=hq
   have e2:ib.toArray[i]? = some v:=by simpa using hv
   rw [e1] at e2; exact Option.some.inj e2
  subst ep eq'
  refine ⟨_,rfl,wpAny_letOwnedTupleGo_zip (s:={ s with heap:=h1,toks:=tk }) hz1 fun h2 hz2 hs2=>?_⟩
  have hk2:∀ b o,b ∉ [n + 4,n + 3,n + 2,n + 1,n] -> s.heap.get? b = some o -> h2.get? b = some o:=fun b o hb q=>by
   have n1:b ≠ n + 4:=fun z=>hb (by simp [z])
   have n2:b ≠ n + 3:=fun z=>hb (by simp [z])
   have n3:b ≠ n + 1:=fun z=>hb (by simp [z])
   have n4:b ≠ n:=fun z=>hb (by simp [z])
   exact (hs2.2 b n1).trans (hk b o n1 n2 n4 n3 q)
  have zs:n + 4 < s.heap.objs.size:=Heap.lt_size hz
  have hT2:h2.get? s.heap.objs.size = some { cls:=.type "tuple",data:=.seq #[p,q] }:=(hs2.2 _ (Nat.ne_of_gt zs)).trans hT
  have hn:H s.heap.objs.size = none:=I.hok.fresh (Nat.le_refl _)
  have I2:Inv X pins σ (upd H s.heap.objs.size (.tup [x,y])) { s with heap:=h2,toks:=tk }:=YR (s:=s) I hk2 hf (Nat.le_refl _) ⟨by show 2 <= sizeLine; decide,[p,q],.cons ru (.cons rv .nil),_,hT2,rfl,0,rfl⟩
  refine ⟨.ref s.heap.objs.size,upd H s.heap.objs.size (.tup [x,y]),I2,rfl,⟨_,x,y,hn,rfl,rfl,fun zs hz=>by rw [wE I hz hqa]; exact hx,fun zs hz=>by rw [wE I hz hqb]; exact hy⟩,⟨hz2,(hs2.2 _ (nne (by first | exact nad _ _ (by decide) | exact nad0 _ (by decide) | exact (nad0 _ (by decide)).symm | omega))).trans hI1,⟨p,q,(hs2.2 _ (nne (by first | exact nad _ _ (by decide) | exact nad0 _ (by decide) | exact (nad0 _ (by decide)).symm | omega))).trans hO1⟩,st1.1.at fun o e=>(hs2.2 _ (nne (by first | exact nad _ _ (by decide) | exact nad0 _ (by decide) | exact (nad0 _ (by decide)).symm | omega))).trans e,st2.1.at fun o e=>(hs2.2 _ (nne (by first | exact nad _ _ (by decide) | exact nad0 _ (by decide) | exact (nad0 _ (by decide)).symm | omega))).trans e⟩,fun q hq=>?_⟩
  have nb:q ≠ s.heap.objs.size:=by
   simp only [List.mem_cons,List.mem_nil_iff,or_false] at hq
   omega
  rw [zk nb]; exact (hf q hq).1
 done:=by
  intro X hP hw hK hc i pins s σ H E I hf st hg
  subst hP hw hK
  obtain ⟨hz,hI,⟨u0,v0,hO⟩,s1,s2⟩:=st
  obtain ⟨xs,ys,hqa,hqb,hl⟩:=hg
  obtain ⟨ia,ra,pa⟩:=xq I hqa
  obtain ⟨ib,rb,pb⟩:=xq I hqb
  have la:=ra.length
  have lb:=rb.length
  have an:a ≠ n:=Nat.ne_of_lt ha
  have fin:∀ (h':Heap) (e:Addr) (tk:Nat),(∀ c o,c ≠ n + 4 -> c ≠ n + 3 -> c ≠ n -> c ≠ n + 1 -> s.heap.get? c = some o -> h'.get? c = some o) -> Inv X pins σ H { s with heap:=h',toks:=tk }:=fun h' e tk k =>
   Zp (fp:=[n + 4,n + 3,n + 2,n + 1,n]) I (fun b o hb q=>k b o (fun z=>hb (by simp [z])) (fun z=>hb (by simp [z])) (fun z=>hb (by simp [z])) (fun z=>hb (by simp [z])) q) hf
  by_cases h1:xs.length <= i
  ·refine Zx hz (YS (A:=X.A.in1) (uc (A:=X.A.in1) (I.ok.hd hc) c n a ia.toArray (i:=i) (by simp; omega)) hz hI hO ⟨rfl,s1,pa⟩ (nin2 (by first | exact nad _ _ (by decide) | exact nad0 _ (by decide) | exact (nad0 _ (by decide)).symm | omega) (by first | exact nad _ _ (by decide) | exact nad0 _ (by decide) | exact (nad0 _ (by decide)).symm | omega)) (nne (by first | exact nad _ _ (by decide) | exact nad0 _ (by decide) | exact (nad0 _ (by decide)).symm | omega)) fun h' e tk k ho=>⟨e,rfl,ho,rfl,fin h' e tk k⟩)
  ·have h2:ys.length <= i:=by omega
   refine Zx hz (YT (A:=X.A.in1) (Zz (A:=X.A.in1) (I.ok.hd hc) c n a an ia.toArray) (uc (A:=X.A.in1) (I.ok.hd hc) d (n + 1) b ib.toArray (i:=i) (by simp; omega)) hz hI hO ⟨s1,pa⟩ ⟨rfl,s2,pb⟩ (by simp; omega) (nin2 (by first | exact nad _ _ (by decide) | exact nad0 _ (by decide) | exact (nad0 _ (by decide)).symm | omega) (by first | exact nad _ _ (by decide) | exact nad0 _ (by decide) | exact (nad0 _ (by decide)).symm | omega)) (nin2 (by first | exact nad _ _ (by decide) | exact nad0 _ (by decide) | exact (nad0 _ (by decide)).symm | omega) (by first | exact nad _ _ (by decide) | exact nad0 _ (by decide) | exact (nad0 _ (by decide)).symm | omega)) (nin2 (by first | exact nad _ _ (by decide) | exact nad0 _ (by decide) | exact (nad0 _ (by decide)).symm | omega) (by first | exact nad _ _ (by decide) | exact nad0 _ (by decide) | exact (nad0 _ (by decide)).symm | omega)) (nin2 (by first | exact nad _ _ (by decide) | exact nad0 _ (by decide) | exact (nad0 _ (by decide)).symm | omega) (by first | exact nad _ _ (by decide) | exact nad0 _ (by decide) | exact (nad0 _ (by decide)).symm | omega)) (nne (by first | exact nad _ _ (by decide) | exact nad0 _ (by decide) | exact (nad0 _ (by decide)).symm | omega)) (nne (by first | exact nad _ _ (by decide) | exact nad0 _ (by decide) | exact (nad0 _ (by decide)).symm | omega)) (nne (by first | exact nad _ _ (by decide) | exact nad0 _ (by decide) | exact (nad0 _ (by decide)).symm | omega)) (nne (by first | exact nad _ _ (by decide) | exact nad0 _ (by decide) | exact (nad0 _ (by decide)).symm | omega)) fun h' e tk k ho=>⟨e,rfl,ho,rfl,fin h' e tk k⟩)
 self:=fun _ _ _ _ _ st h=>wpAny_pyIter_zip st.1 h
section
variable {X:Cx} {elts:List Expr} {kt:Nat} {pt:Pos}
theorem Ud:bootBuiltins "zip" = some (.type "zip"):=by decide +kernel
def iZip (K:FG7) (ta:TA):TI:=fun σ H R=>ta σ H fun vs H1=>∃ (c d:Bool) (a b:Addr),vs = [.ref a,.ref b] /\ (∃ xs,SqC c K H1 a xs) /\ (∃ ys,SqC d K H1 b ys) /\ R (Itz K c a d b) H1
end
section
variable {X:Cx} {elts:List Expr} {kt:Nat} {pt:Pos} {K:FG7}
theorem XN {a b:Expr} {ta:TA} {p pos:Pos} (hK:X.K = K) (hg:Gl X "zip") (hm:X.mg "zip" = none) (ha:PA X [a,b] ta) (hs:starEach [a,b] X.env = [(false,eval a X.env),(false,eval b X.env)]:=by rfl) (hs2:starEach [b] X.env = [(false,eval b X.env)]:=by rfl) :
  PI X (.Tuple elts kt pt) (.Call (.Name "zip" p) [a,b] [] pos) (iZip K ta):=by
 subst hK
 intro pins s σ H R I h
 refine Call_ (vZ I hg hm Ud (PyProof.Rows.callWith_type1 (thn (ha pos pins s σ H _ I h) fun us s1 ⟨vs,H1,I1,r1,q1⟩=>?_) (by rw [hs,hs2]) (by rw [hs2]; rfl)))
 obtain ⟨c,d,ra,rb,e,⟨xs,hqa⟩,⟨ys,hqb⟩,q⟩:=q1
 subst e
 obtain ⟨u,w',rfl,e1,e2⟩:=qZ r1
 cases (show u = Value.ref ra from e1)
 cases (show w' = Value.ref rb from e2)
 obtain ⟨ia,va,pa⟩:=xq I1 hqa
 obtain ⟨ib,vb,pb⟩:=xq I1 hqb
 refine Zy pa.src pb.src fun h' hz hI hO h1 h2 hk=>?_
 refine wpAny_pyIter_zip (s:={ s1 with heap:=h' }) hz ?_
 have I2:Inv X pins σ H1 { s1 with heap:=h' }:=I1.kept (t':=s1.toks) hk
 refine ⟨s1.heap.objs.size + 4,[s1.heap.objs.size + 4,s1.heap.objs.size + 3,s1.heap.objs.size + 2,s1.heap.objs.size + 1,s1.heap.objs.size],_,_,H1,rfl,I2,YU c d ra rb s1.heap.objs.size pa.lt pb.lt,⟨hz,hI,⟨_,_,hO⟩,.mk h1,.mk h2⟩,fun b hb=>?_,q⟩
 have hle:s1.heap.objs.size <= b:=by
  simp only [List.mem_cons,List.mem_nil_iff,or_false] at hb
  rcases hb with rfl | rfl | rfl | rfl | rfl <;> first | exact Nat.le_add_right _ _ | exact Nat.le_refl _
 exact I1.fpOk hle (I1.hok.fresh hle)
end
section
variable {K:FG7} {a b:Addr} {c d:Bool} {xs ys:List V} {g:TG} {tt:TT} {te:TE} {tb:TS} {D:Ends} {Q:VK} {σ:L2.St} {H:Hp}
theorem YV (Pv:Nat -> List V -> L2.St -> Hp -> Prop) (h0:Pv 0 [] σ H) (hl:∀ i zs σ H,Pv i zs σ H -> SqC c K H a xs /\ SqC d K H b ys)
  (hs:∀ i x y zs σ H T,xs[i]? = some x -> ys[i]? = some y -> Pv i zs σ H -> H T = none -> g (.ref T) σ (upd H T (.tup [x,y])) fun σ2 H3=>tt σ2 H3 fun b H4=>if b = true then te σ2 H4 fun y H5=>zs.length < sizeLine /\ Pv (i + 1) (zs ++ [y]) σ2 H5 else Pv (i + 1) zs σ2 H4)
  (hd:∀ zs σ H,Pv (min xs.length ys.length) zs σ H -> ∀ l,H l = none -> Q (.ref l) (upd H l (.lst zs))) :
  xC (Itz K c a d b) σ H g tt te Q:=by
 refine ⟨fun i m zs σ H=>m = min xs.length ys.length - i /\ i <= min xs.length ys.length /\ Pv i zs σ H,⟨min xs.length ys.length,by simp,Nat.zero_le _,h0⟩,?_⟩
 rintro i m zs σ H ⟨rfl,hi,p⟩
 obtain ⟨q1,q2⟩:=hl i zs σ H p
 by_cases hlt:i < min xs.length ys.length
 ·have l1:i < xs.length:=by omega
  have l2:i < ys.length:=by omega
  refine .inr ⟨⟨xs,ys,xs[i],ys[i],q1,q2,by simp [l1],by simp [l2]⟩,Pv (i + 1),fun ws σ' H' p'=>⟨min xs.length ys.length - (i + 1),by omega,rfl,hlt,p'⟩,fun x H' y=>?_⟩
  obtain ⟨T,v,w,hT,rfl,rfl,y1,y2⟩:=y
  exact hs i v w zs σ H T (y1 xs q1) (y2 ys q2) p hT
 ·have e:i = min xs.length ys.length:=by omega
  subst e
  exact .inl ⟨⟨xs,ys,q1,q2,by omega⟩,hd zs σ H p⟩
theorem Wh (Pv:Nat -> L2.St -> Hp -> Prop) (h0:Pv 0 σ H) (hl:∀ i σ H,Pv i σ H -> SqC c K H a xs /\ SqC d K H b ys)
  (hs:∀ i x y σ H T,xs[i]? = some x -> ys[i]? = some y -> Pv i σ H -> H T = none -> g (.ref T) σ (upd H T (.tup [x,y])) fun σ2 H2=>tb { D with nx:=Pv (i + 1),ct:=Pv (i + 1),bk:=D.nx } σ2 H2) (hd:∀ σ H,Pv (min xs.length ys.length) σ H -> D.nx σ H) :
  ∃ W:Nat -> Nat -> L2.St -> Hp -> Prop,(∃ m,W 0 m σ H) /\ ∀ i m σ H,W i m σ H →
   ((Itz K c a d b).stop i H /\ D.nx σ H) \/ ((Itz K c a d b).go i H /\ ∃ N:L2.St -> Hp -> Prop,(∀ σ' H',N σ' H' -> ∃ m',m' < m /\ W (i + 1) m' σ' H') /\ ∀ x H',(Itz K c a d b).yld i H x H' -> g x σ H' fun σ2 H2=>tb { D with nx:=N,ct:=N,bk:=D.nx } σ2 H2):=by
 refine ⟨fun i m σ H=>m = min xs.length ys.length - i /\ i <= min xs.length ys.length /\ Pv i σ H,⟨min xs.length ys.length,by simp,Nat.zero_le _,h0⟩,?_⟩
 rintro i m σ H ⟨rfl,hi,p⟩
 obtain ⟨q1,q2⟩:=hl i σ H p
 by_cases hlt:i < min xs.length ys.length
 ·have l1:i < xs.length:=by omega
  have l2:i < ys.length:=by omega
  refine .inr ⟨⟨xs,ys,xs[i],ys[i],q1,q2,by simp [l1],by simp [l2]⟩,Pv (i + 1),fun σ' H' p'=>⟨min xs.length ys.length - (i + 1),by omega,rfl,hlt,p'⟩,fun x H' y=>?_⟩
  obtain ⟨T,v,w,hT,rfl,rfl,y1,y2⟩:=y
  exact hs i v w σ H T (y1 xs q1) (y2 ys q2) p hT
 ·have e:i = min xs.length ys.length:=by omega
  subst e
  exact .inl ⟨⟨xs,ys,q1,q2,by omega⟩,hd σ H p⟩
end
section
variable {X:Cx}
variable {K:FG7}
theorem wu {es:List Expr} {k:Nat} {pos:Pos} {t:TGs} (n:Nat) (h0:X.K = K) (hc:X.calm = true) (h:PGs X es t)
  (hn:(assignEach es X.env).length = n) (hst:(assignEach es X.env).findIdx? (·.1) = none):PG X (.Tuple es k pos) (gTup K n t):=by subst h0; exact xD hc h hn hst
theorem qp {tg l:Expr} {tl:TE} (h:X.K = K) (hl:PE X l tl):PI X tg l (WX K tl):=by subst h; exact wf hl
end
def InC (C:Int) (xs:List Int):Prop:=∀ v ∈ xs,-C <= v /\ v <= C
theorem InC.mono {B C:Int} {xs:List Int} (h:InC B xs) (hC:B <= C):InC C xs:=fun v hv=>by have:=h v hv; omega
theorem XH.dat {K:FG7} {H:Hp} {x:V} {g:List Deed × List Deed} (h:XH K H x g):Dat K H x (.tuple [.tuple (g.1.map sN),.tuple (g.2.map sN)]):=by
 obtain ⟨r,r1,r2,rfl,h0,d1,d2⟩:=h
 exact .tup h0 (.cons d1.dat (.cons d2.dat .nil))
theorem xR:∀ {ns:List Int} {us:List Value},IntsAre us ns -> Vals (ns.map V.int) us:=by
 intro ns us h
 induction h with
 | nil=>exact .nil
 | cons n t _ ih=>exact .cons ⟨t,rfl⟩ ih
structure Wk (prog:Program) (w:World) (A:Around) (T:String) (I:Addr) (n:Nat) (Fr:Addr -> Prop) (J:List Value -> Shared -> Prop) (Fn:List Value -> Shared -> Prop):Prop where
 ty:∀ acc s,J acc s -> s.TypeIs (.ref I) T
 self:∀ acc s (Q:VS7) (E:VS7),J acc s -> Q (.ref I) s -> wpAny (model prog w) A (pyIter (.ref I)) Q E s
 stay:∀ acc s (S:Addr) (ob:Obj) (h':Heap),J acc s -> Fr S -> s.heap.get? S = some ob -> ob.cls = .type "list" -> (∀ b o,b ≠ S -> s.heap.get? b = some o -> h'.get? b = some o) -> h'.objs.size = s.heap.objs.size -> J acc { s with heap:=h' }
 next:∀ acc s (S:Addr) (ob:Obj) (Q:Option Value -> Shared -> Prop) (E:VS7),J acc s -> Fr S -> s.heap.get? S = some ob -> ob.cls = .type "list" →
  (∀ v s',acc.length < n -> J (acc ++ [v]) s' -> s'.heap.get? S = some ob -> Q (some v) s') -> (∀ s',Fn acc s' -> s'.heap.get? S = some ob -> Q none s') -> wpAny (model prog w) A (pyNext (.ref I)) Q E s
 push:∀ acc s (o:Obj),J acc s -> J acc { s with heap:=s.heap.push o }
def wF (H:Hp) (a:Addr):Prop:=∃ p0 c t:Int,H a = some (.lst [.int p0,.int c,.int t]) /\ 0 <= p0
theorem wF.grow {H H':Hp} {a:Addr} (p:wF H a) (g:Grow [] H H'):wF H' a:=by
 obtain ⟨x,y,z,h,q⟩:=p
 exact ⟨x,y,z,g.keep _ _ (by simp) h,q⟩
theorem wF.new {H:Hp} {a l:Addr} (p:wF H a) (hl:H l = none) (o:HO):wF (upd H l o) a:=p.grow (Grow.new hl o)
theorem wF.ne {H:Hp} {a l:Addr} (p:wF H a) (h:H l = none):l ∉ [a]:=by
 intro z
 obtain ⟨x,y,w,hz,_⟩:=p
 rw [List.mem_singleton.mp z,hz] at h
 cases h
def PrAt (K:FG7) (H:Hp) (x:V) (q:Nat × Nat):Prop:=∃ r,x = .ref r /\ SqT K H r [.int q.1,.int q.2]
theorem Grow.prs {m:List Addr} {H H':Hp} (g:Grow m H H') {K:FG7} {xs:List V} {qs:List (Nat × Nat)} (h:AllR (PrAt K H) xs qs):AllR (PrAt K H') xs qs:=h.imp fun _ _ ⟨r,e,z⟩=>⟨r,e,g.sqT z⟩
def Ue (ns:List Int):List Int:=ns.mergeSort fun a b=>decide (a <= b)
def dupS:List Int -> Option Int
 | a :: b :: r=>if a = b then some a else dupS (b :: r)
 | _=>none
def Vn (rows:List (List Int)) (l:Nat):List Int:=rows.map fun r=>r.getD l 0
def xY (rows:List (List Int)) (l:Nat):Option Int:=dupS (Ue (Vn rows l))
def uy (k:Nat) (rows:List (List Int)) (o:Option (Nat × Int)):Prop:=match o with
 | none=>∀ l,l <= k -> xY rows l = none
 | some (l,v)=>l <= k /\ xY rows l = some v /\ ∀ j,j < l -> xY rows j = none
theorem uy.one {k:Nat} {rows rows':List (List Int)} {o o':Option (Nat × Int)} (e:∀ l,xY rows l = xY rows' l) (h:uy k rows o) (h':uy k rows' o'):o = o':=by
 cases o with
 | none =>
  cases o' with
  | none=>rfl
  | some p =>
   obtain ⟨l,v⟩:=p
   have z:=h l h'.1
   rw [e,h'.2.1] at z; cases z
 | some p =>
  obtain ⟨l,v⟩:=p
  cases o' with
  | none =>
   have z:=h' l h.1
   rw [← e,h.2.1] at z; cases z
  | some p' =>
   obtain ⟨l',v'⟩:=p'
   obtain ⟨a1,a2,a3⟩:=h
   obtain ⟨b1,b2,b3⟩:=h'
   by_cases c:l < l'
   ·have z:=b3 l c
    rw [← e,a2] at z; cases z
   ·by_cases c2:l' < l
    ·have z:=a3 l' c2
     rw [e,b2] at z; cases z
    ·have:l = l':=by omega
     subst this
     rw [e,b2] at a2
     cases a2; rfl
def ZA (K:FG7) (H:Hp) (x:V) (o:Option (Nat × Int)):Prop:=match o with
 | none=>x = .non
 | some (l,v)=>∃ r,x = .ref r /\ SqT K H r [.int l,.int v]
theorem Grow.clash {m:List Addr} {H H':Hp} (g:Grow m H H') {K:FG7} {x:V} {o:Option (Nat × Int)} (h:ZA K H x o):ZA K H' x o:=by
 cases o with
 | none=>exact h
 | some p =>
  obtain ⟨l,v⟩:=p
  obtain ⟨r,e,z⟩:=h
  exact ⟨r,e,g.sqT z⟩
def yh (k:Nat) (rows:List (List Int)):Prop:=rows.length = k /\ ∀ r ∈ rows,r.length = 2 ^ (k - 1) /\ ∀ b ∈ r,b = 0 \/ b = 1
mutual
inductive Dq (K:FG7) (H:Hp):V -> PyData -> Prop
 | non:Dq K H .non .none
 | bl (b:Bool):Dq K H (.bl b) (.bool b)
 | int (i:Int):Dq K H (.int i) (.int i)
 | str (x:Str):Dq K H (.str x) (.str x)
 | tup {a:Addr} {xs:List V} {ds:List PyData}:SqT K H a xs -> DqAll K H xs ds -> Dq K H (.ref a) (.tuple ds)
 | lst {a:Addr} {xs:List V} {ds:List PyData}:SqL K H a xs -> DqAll K H xs ds -> Dq K H (.ref a) (.list ds)
inductive DqAll (K:FG7) (H:Hp):List V -> List PyData -> Prop
 | nil:DqAll K H [] []
 | cons {x:V} {xs:List V} {d:PyData} {ds:List PyData}:Dq K H x d -> DqAll K H xs ds -> DqAll K H (x :: xs) (d :: ds)
end
mutual
theorem Dat.dq {K:FG7} {H:Hp}:∀ {x:V} {d:PyData},Dat K H x d -> Dq K H x d
 | _,_,.non=>.non
 | _,_,.bl b=>.bl b
 | _,_,.int i=>.int i
 | _,_,.tup h t=>.tup h (DatAll.dq t)
 | _,_,.lst h t=>.lst h (DatAll.dq t)
theorem DatAll.dq {K:FG7} {H:Hp}:∀ {xs:List V} {ds:List PyData},DatAll K H xs ds -> DqAll K H xs ds
 | _,_,.nil=>.nil
 | _,_,.cons h t=>.cons (Dat.dq h) (DatAll.dq t)
end
theorem DqAll.len {K:FG7} {H:Hp}:∀ {xs:List V} {ds:List PyData},DqAll K H xs ds -> xs.length = ds.length
 | _,_,.nil=>rfl
 | _,_,.cons _ t=>congrArg (· + 1) (DqAll.len t)
theorem DqAll.app {K:FG7} {H:Hp}:∀ {xs:List V} {ds:List PyData} {ys:List V} {es:List PyData},DqAll K H xs ds -> DqAll K H ys es -> DqAll K H (xs ++ ys) (ds ++ es)
 | _,_,_,_,.nil,h=>h
 | _,_,_,_,.cons h t,g=>.cons h (DqAll.app t g)
theorem qr (n:Nat):(List.range n).all (fun _=>true) = true:=List.all_eq_true.mpr fun _ _=>rfl
section
variable {X:Cx} {pins:List (Addr × Obj)} {σ:L2.St} {H:Hp} {s:Shared}
mutual
theorem dq_eq (I:Inv X pins σ H s):∀ {d:PyData} {x y:V} {u v:Value} {A:Around},Dq X.K H x d -> Dq X.K H y d -> RelV x u -> RelV y v -> A.units + d.depth < cLine -> SeqAt.EqAt A s u v true
 | _,_,y,u,v,A,.non,hy,ru,rv,_=>by
  cases hy
  cases (show u = Value.none from ru)
  cases (show v = Value.none from rv)
  exact SeqAt.EqAt.same _
 | _,_,y,u,v,A,.bl b,hy,ru,rv,_=>by
  cases hy
  cases (show u = Value.bool b from ru)
  cases (show v = Value.bool b from rv)
  exact SeqAt.EqAt.same _
 | _,_,y,u,v,A,.int i,hy,ru,rv,_=>by
  cases hy
  obtain ⟨t,rfl⟩:=ru
  obtain ⟨t',rfl⟩:=rv
  have z:=SeqAt.EqAt.int_int (A:=A) (s:=s) i t i t'
  rw [beq_self_eq_true] at z
  exact z
 | _,_,y,u,v,A,.str x,hy,ru,rv,_=>by
  cases hy
  obtain ⟨t,rfl⟩:=ru
  obtain ⟨t',rfl⟩:=rv
  have z:=SeqAt.EqAt.str_str (A:=A) (s:=s) x t x t'
  rw [beq_self_eq_true] at z
  exact z
 | _,_,y,u,v,A,.tup (a:=a) (xs:=xs) (ds:=ds) hs ha,hy,ru,rv,hu=>by
  cases hy with
  | tup hs' ha' =>
   rename_i a' xs'
   cases (show u = Value.ref a from ru)
   cases (show v = Value.ref a' from rv)
   obtain ⟨us,r1,t1,_⟩:=I.tuple hs
   obtain ⟨ws,r2,t2,_⟩:=I.tuple hs'
   have hd:A.units + (PyData.depthAll ds + 1) < cLine:=hu
   by_cases e:a = a'
   ·subst e; exact SeqAt.EqAt.same _
   ·have l1:=ha.len
    have l2:=ha'.len
    have q:=SeqAt.RcAt.tuples (e:=fun _=>true) (xn t1) (xn t2) (by omega) (dqs_eq I ha ha' r1 r2 (A:=A.in1) (by show A.units + 1 + PyData.depthAll ds < cLine; omega))
    rw [qr,Bool.true_and,List.size_toArray,List.size_toArray,← r1.length,← r2.length,l1,l2,beq_self_eq_true] at q
    exact SeqAt.EqAt.of_refs e q
 | _,_,y,u,v,A,.lst (a:=a) (xs:=xs) (ds:=ds) hs ha,hy,ru,rv,hu=>by
  cases hy with
  | lst hs' ha' =>
   rename_i a' xs'
   cases (show u = Value.ref a from ru)
   cases (show v = Value.ref a' from rv)
   obtain ⟨us,r1,t1,_⟩:=I.list hs
   obtain ⟨ws,r2,t2,_⟩:=I.list hs'
   have hd:A.units + (PyData.depthAll ds + 1) < cLine:=hu
   by_cases e:a = a'
   ·subst e; exact SeqAt.EqAt.same _
   ·have l1:=ha.len
    have l2:=ha'.len
    have q:=SeqAt.RcAt.lists (e:=fun _=>true) t1.isList t2.isList (by rw [List.size_toArray,List.size_toArray,← r1.length,← r2.length,l1,l2]) (by omega) (dqs_eq I ha ha' r1 r2 (A:=A.in1) (by show A.units + 1 + PyData.depthAll ds < cLine; omega))
    rw [qr] at q
    exact SeqAt.EqAt.of_refs e q
theorem dqs_eq (I:Inv X pins σ H s):∀ {ds:List PyData} {xs ys:List V} {us vs:List Value} {A:Around},DqAll X.K H xs ds -> DqAll X.K H ys ds -> Vals xs us -> Vals ys vs -> A.units + PyData.depthAll ds < cLine →
  ∀ j (h1:j < us.toArray.size) (h2:j < vs.toArray.size),SeqAt.EqAt A s us.toArray[j] vs.toArray[j] true
 | _,_,_,_,_,A,.nil,hy,ru,rv,_=>fun j h1 _=>by
  cases ru
  exact absurd h1 (Nat.not_lt_zero j)
 | _,_,_,_,_,A,.cons (d:=d) (ds:=ds) hx tx,hy,ru,rv,hd=>fun j h1 h2=>by
  cases hy with
  | cons hy ty =>
   cases ru with
   | cons r1 rr1 =>
    cases rv with
    | cons r2 rr2 =>
     have hd':A.units + max d.depth (PyData.depthAll ds) < cLine:=hd
     cases j with
     | zero=>simpa using dq_eq I hx hy r1 r2 (A:=A) (by omega)
     | succ j =>
      have z:=dqs_eq I tx ty rr1 rr2 (A:=A) (by omega) j (by simpa using h1) (by simpa using h2)
      simpa using z
end
variable {K:FG7}
end
def xN (k st a:Nat):Nat:=a ^^^ 2 ^ (k - st)
def nN (k st a:Nat):Nat:=(vf k a st).toNat
def lN (k h g n:Nat):Nat:=(zD k h g n).toNat
theorem ZB:∀ k:Fin 5,∀ st:Fin 5,1 <= st.val -> st.val <= k.val -> ∀ a:Fin 16,a.val < 2 ^ k.val →
  (swI k.val st.val a.val = vf k.val a.val st.val /\ vf k.val a.val st.val = (nN k.val st.val a.val:Int) /\ nN k.val st.val a.val < 2 ^ (k.val - 1) /\ nN k.val st.val (xN k.val st.val a.val) = nN k.val st.val a.val) ∧
  (xN k.val st.val (xN k.val st.val a.val) = a.val /\ xN k.val st.val a.val ≠ a.val /\ xN k.val st.val a.val < 2 ^ k.val) ∧
  (wfI k.val st.val a.val (Builtin.bitXor (figI k.val st.val a.val) 0) = (a.val:Int) /\ wfI k.val st.val a.val (Builtin.bitXor (figI k.val st.val a.val) 1) = (xN k.val st.val a.val:Int)) ∧
  (Builtin.bitXor (figI k.val st.val a.val) (figI k.val st.val (xN k.val st.val a.val)) = 1 /\ Builtin.bitXor (figI k.val st.val a.val) (figI k.val st.val a.val) = 0) ∧
  ((Builtin.bitXor (figI k.val st.val a.val) 0 = 0 \/ Builtin.bitXor (figI k.val st.val a.val) 0 = 1) /\ (Builtin.bitXor (figI k.val st.val a.val) 1 = 0 \/ Builtin.bitXor (figI k.val st.val a.val) 1 = 1)):=by
 decide +kernel
theorem ZC:∀ k:Fin 5,∀ st:Fin 5,1 <= st.val -> st.val <= k.val -> ∀ a:Fin 16,a.val < 2 ^ k.val -> ∀ b:Fin 16,b.val < 2 ^ k.val -> nN k.val st.val a.val = nN k.val st.val b.val -> b.val = a.val \/ b.val = xN k.val st.val a.val:=by
 decide +kernel
theorem yS:∀ k:Fin 5,∀ h:Fin 16,∀ g:Fin 16,h.val < 2 ^ k.val -> g.val < 2 ^ k.val →
  lN k.val h.val g.val 0 = h.val /\ lN k.val h.val g.val k.val = g.val /\ ∀ n:Fin 5,n.val <= k.val -> (zD k.val h.val g.val n.val = (lN k.val h.val g.val n.val:Int) /\ lN k.val h.val g.val n.val < 2 ^ k.val) ∧
   (n.val + 1 <= k.val -> lN k.val h.val g.val (n.val + 1) = lN k.val h.val g.val n.val \/ lN k.val h.val g.val (n.val + 1) = xN k.val (n.val + 1) (lN k.val h.val g.val n.val)):=by
 decide +kernel
structure OneF (k st a:Nat):Prop where
 sw:swI k st a = vf k a st
 num:vf k a st = (nN k st a:Int)
 lt:nN k st a < 2 ^ (k - 1)
 nx:nN k st (xN k st a) = nN k st a
 xx:xN k st (xN k st a) = a
 xne:xN k st a ≠ a
 xlt:xN k st a < 2 ^ k
 w0:wfI k st a (Builtin.bitXor (figI k st a) 0) = (a:Int)
 w1:wfI k st a (Builtin.bitXor (figI k st a) 1) = (xN k st a:Int)
 c1:Builtin.bitXor (figI k st a) (figI k st (xN k st a)) = 1
 c0:Builtin.bitXor (figI k st a) (figI k st a) = 0
 b0:Builtin.bitXor (figI k st a) 0 = 0 \/ Builtin.bitXor (figI k st a) 0 = 1
 b1:Builtin.bitXor (figI k st a) 1 = 0 \/ Builtin.bitXor (figI k st a) 1 = 1
theorem oneF {k st a:Nat} (k4:k <= 4) (s1:1 <= st) (s2:st <= k) (ha:a < 2 ^ k):OneF k st a:=by
 have p:=z8 k4
 obtain ⟨⟨a1,a2,a3,a4⟩,⟨b1,b2,b3⟩,⟨c1,c2⟩,⟨d1,d2⟩,e1,e2⟩:=ZB ⟨k,by omega⟩ ⟨st,by omega⟩ s1 s2 ⟨a,by omega⟩ ha
 exact ⟨a1,a2,a3,a4,b1,b2,b3,c1,c2,d1,d2,e1,e2⟩
theorem twoF {k st a b:Nat} (k4:k <= 4) (s1:1 <= st) (s2:st <= k) (ha:a < 2 ^ k) (hb:b < 2 ^ k) (e:nN k st a = nN k st b):b = a \/ b = xN k st a:=by
 have p:=z8 k4
 exact ZC ⟨k,by omega⟩ ⟨st,by omega⟩ s1 s2 ⟨a,by omega⟩ ha ⟨b,by omega⟩ hb e
def plOf (gs:List Nat):List (Nat × Nat):=(List.range gs.length).map fun h=>(h,gs.getD h 0)
def vk (k:Nat) (gs:List Nat):Prop:=gs.length = 2 ^ k /\ ∀ g ∈ gs,g < 2 ^ k
theorem vk.get {k:Nat} {gs:List Nat} (h:vk k gs) {i:Nat} (hi:i < 2 ^ k):gs.getD i 0 < 2 ^ k:=by
 rw [List.getD_eq_getElem?_getD,List.getElem?_eq_getElem (by rw [h.1]; exact hi)]
 exact h.2 _ (List.getElem_mem _)
def Vo (k st:Nat) (q:Nat × Nat):Int:=Builtin.bitXor (figI k st (zD k q.1 q.2 (st - 1))) (figI k st (zD k q.1 q.2 st))
def Vp (k st:Nat) (m:List Int) (q:Nat × Nat):List Int:=m.set (nN k st (lN k q.1 q.2 st)) (Vo k st q)
def Vq (k st:Nat) (pl:List (Nat × Nat)):List Int:=pl.foldl (Vp k st) (List.replicate (2 ^ k / 2) 0)
def Uf (k:Nat) (gs:List Nat):List (List Int):=(List.range k).map fun n=>Vq k (n + 1) (plOf gs)
theorem Wi {k:Nat} (h:k <= 4):(1:Int) * 2 ^ ((k:Int)).toNat / 2 ^ (1:Int).toNat = ((2 ^ k / 2:Nat):Int):=by
 have key:∀ k:Fin 5,(1:Int) * 2 ^ ((k.val:Int)).toNat / 2 ^ (1:Int).toNat = ((2 ^ k.val / 2:Nat):Int):=by decide
 exact key ⟨k,by omega⟩
def Bits (r:List Int):Prop:=∀ b ∈ r,b = 0 \/ b = 1
def xG (_:FG7):Sp:=sp1 fun x H Q=>∃ k:Nat,x = .int k /\ k <= 4 /\ Q (.int (2 ^ k / 2:Nat)) H
def Wj (gs:List Nat):List V:=gs.map fun g:Nat=>V.int g
def Vr (K:FG7) (H:Hp) (x:V) (k:Nat) (gs:List Nat) (o:Option (Nat × Int)):Prop:=∃ (r:Addr) (s:Str) (y:V),x = .ref r /\ SqT K H r [.str s,y] /\ match o with
 | none=>s = "settings" /\ yf K H y (Uf k gs)
 | some (l,v)=>s = "clash" /\ ∃ c,y = .ref c /\ SqT K H c [.int l,.int v]
theorem Grow.ans {m:List Addr} {H H':Hp} (g:Grow m H H') {K:FG7} {x:V} {k:Nat} {gs:List Nat} {o:Option (Nat × Int)} (h:Vr K H x k gs o):Vr K H' x k gs o:=by
 obtain ⟨r,s,y,e,z,w⟩:=h
 refine ⟨r,s,y,e,g.sqT z,?_⟩
 cases o with
 | none=>exact ⟨w.1,g.rows w.2⟩
 | some p =>
  obtain ⟨l,v⟩:=p
  obtain ⟨w1,c,e,z⟩:=w
  exact ⟨w1,c,e,g.sqT z⟩
theorem yh.bits {k n:Nat} {rows:List (List Int)} (h:yh k rows) (hn:n < k):(rows.getD n []).length = 2 ^ (k - 1) /\ Bits (rows.getD n []):=by
 have e:rows[n]? = some (rows.getD n []):=by rw [List.getD_eq_getElem?_getD,List.getElem?_eq_getElem (by rw [h.1]; exact hn)]; rfl
 exact h.2 _ (List.mem_of_getElem? e)
theorem AllR.of_get {α:Type} {R:V -> α -> Prop}:∀ {xs:List V} {ks:List α},xs.length = ks.length -> (∀ (i:Nat) (x:V),xs[i]? = some x -> ∃ k,ks[i]? = some k /\ R x k) -> AllR R xs ks
 | [],[],_,_=>trivial
 | x :: xs,k :: ks,hl,h=>by
  refine ⟨?_,AllR.of_get (by simpa using hl) fun i y hy=>by simpa using h (i + 1) y (by simpa using hy)⟩
  obtain ⟨k',e,r⟩:=h 0 x rfl
  cases e
  exact r
 | [],_ :: _,hl,_=>by simp at hl
 | _ :: _,[],hl,_=>by simp at hl
theorem vk.set {k:Nat} {gs:List Nat} (h:vk k gs) {j n:Nat} (hn:n < 2 ^ k):vk k (gs.set j n):=by
 refine ⟨by rw [List.length_set,h.1],fun g hg=>?_⟩
 rcases List.mem_or_eq_of_mem_set hg with z | rfl
 ·exact h.2 g z
 ·exact hn
def wfN (k s l:Nat) (w:Int):Nat:=(wfI k s l w).toNat
theorem ZD:∀ k:Fin 5,∀ s:Fin 5,1 <= s.val -> s.val <= k.val -> ∀ l:Fin 16,l.val < 2 ^ k.val -> ∀ w:Fin 2,
  (wfI k.val s.val l.val w.val = (wfN k.val s.val l.val w.val:Int) /\ wfN k.val s.val l.val w.val < 2 ^ k.val /\ figI k.val s.val (wfN k.val s.val l.val w.val) = w.val) /\ ∀ t:Fin 5,t.val <= k.val -> t.val ≠ s.val -> figI k.val t.val (wfN k.val s.val l.val w.val) = figI k.val t.val l.val:=by
 decide +kernel
theorem ud:∀ k:Fin 5,∀ l:Fin 16,l.val < 2 ^ k.val -> (∀ t:Fin 5,figI k.val t.val l.val = 0 \/ figI k.val t.val l.val = 1) /\ ∀ m:Fin 16,m.val < 2 ^ k.val -> (∀ t:Fin 5,1 <= t.val -> t.val <= k.val -> figI k.val t.val l.val = figI k.val t.val m.val) -> l = m:=by
 decide +kernel
structure WfF (k s l:Nat) (w:Int):Prop where
 eq:wfI k s l w = (wfN k s l w:Int)
 lt:wfN k s l w < 2 ^ k
 at_:figI k s (wfN k s l w) = w
 off:∀ t:Nat,t <= k -> t ≠ s -> figI k t (wfN k s l w) = figI k t l
theorem wfF {k s l:Nat} {w:Int} (k4:k <= 4) (s1:1 <= s) (s2:s <= k) (hl:l < 2 ^ k) (hw:w = 0 \/ w = 1):WfF k s l w:=by
 have p:=z8 k4
 have z:=ZD ⟨k,by omega⟩ ⟨s,by omega⟩ s1 s2 ⟨l,by omega⟩ hl
 rcases hw with rfl | rfl
 ·exact ⟨(z 0).1.1,(z 0).1.2.1,(z 0).1.2.2,fun t ht hn=>(z 0).2 ⟨t,by omega⟩ ht hn⟩
 ·exact ⟨(z 1).1.1,(z 1).1.2.1,(z 1).1.2.2,fun t ht hn=>(z 1).2 ⟨t,by omega⟩ ht hn⟩
theorem Wl {k t l:Nat} (k4:k <= 4) (ht:t <= k) (hl:l < 2 ^ k):figI k t l = 0 \/ figI k t l = 1:=by
 have p:=z8 k4
 exact (ud ⟨k,by omega⟩ ⟨l,by omega⟩ hl).1 ⟨t,by omega⟩
theorem vm {k l m:Nat} (k4:k <= 4) (hl:l < 2 ^ k) (hm:m < 2 ^ k) (h:∀ t:Nat,1 <= t -> t <= k -> figI k t l = figI k t m):l = m:=by
 have p:=z8 k4
 have z:=(ud ⟨k,by omega⟩ ⟨l,by omega⟩ hl).2 ⟨m,by omega⟩ hm fun t h1 h2=>h t.val h1 h2
 exact congrArg Fin.val z
theorem uz {k i:Nat} {n:Int} (hi:i < k):(xW k n)[i]? = some (figI k ((i + 1:Nat):Int) n):=by
 unfold xW figI
 rw [List.getElem?_map,List.getElem?_range (by rw [Int.toNat_natCast]; exact hi)]
 show some (Builtin.bitAnd (n / 2 ^ _) 1) = _
 congr 4
 omega
theorem qt {k:Nat} {n:Int}:(xW k n).length = k:=by unfold xW; rw [List.length_map,List.length_range,Int.toNat_natCast]
def mixN (k e x t:Nat):Nat:=(numL ((xW k e).take (t - 1) ++ (xW k x).drop t)).toNat
theorem XO {k e x l t:Nat} (t1:1 <= t) (tk:t <= k) (h1:∀ u:Nat,1 <= u -> u < t -> figI k u l = figI k u e) (h2:∀ u:Nat,t < u -> u <= k -> figI k u l = figI k u x):nN k t l = mixN k e x t:=by
 unfold nN vf mixN
 have a:(xW k (l:Int)).take (t - 1) = (xW k (e:Int)).take (t - 1):=by
  refine List.ext_getElem? fun i=>?_
  by_cases hi:i < t - 1
  ·rw [List.getElem?_take_of_lt hi,List.getElem?_take_of_lt hi,uz (by omega),uz (by omega),h1 (i + 1) (by omega) (by omega)]
  ·rw [List.getElem?_eq_none (by rw [List.length_take]; omega),List.getElem?_eq_none (by rw [List.length_take]; omega)]
 have b:(xW k (l:Int)).drop t = (xW k (x:Int)).drop t:=by
  refine List.ext_getElem? fun i=>?_
  rw [List.getElem?_drop,List.getElem?_drop]
  by_cases hi:t + i < k
  ·rw [uz hi,uz hi,h2 (t + i + 1) (by omega) (by omega)]
  ·rw [List.getElem?_eq_none (by rw [qt]; omega),List.getElem?_eq_none (by rw [qt]; omega)]
 rw [a,b]
def fstI (rows:List (List Int)) (t n:Nat):Int:=(rows.getD (t - 1) []).getD n 0
def inO (k:Nat) (rows:List (List Int)) (s l:Nat):List Nat:=[wfN k s l (fstI rows s (nN k s l)),wfN k s l (1 - fstI rows s (nN k s l))]
def Ug (k:Nat) (rows:List (List Int)) (e m x y:Nat):Prop:=∃ t:Nat,m < t /\ t <= k /\ figI k t x ≠ figI k t y /\ (∀ u:Nat,t < u -> u <= k -> figI k u x = figI k u y) /\ figI k t x = fstI rows t (mixN k e x t)
theorem ZE {k t l:Nat} {rows:List (List Int)} (k4:k <= 4) (hs:yh k rows) (t1:1 <= t) (tk:t <= k) (hl:l < 2 ^ k):fstI rows t (nN k t l) = 0 \/ fstI rows t (nN k t l) = 1:=by
 have b:=hs.bits (show t - 1 < k by omega)
 have O:=oneF k4 t1 tk hl
 exact b.2 _ (List.mem_of_getElem? (Zm (by rw [b.1]; exact O.lt)))
structure OrdF (k:Nat) (rows:List (List Int)) (e n:Nat) (L:List Nat):Prop where
 len:L.length = 2 ^ n
 mem:∀ x ∈ L,x < 2 ^ k /\ ∀ t:Nat,1 <= t -> t <= k - n -> figI k t x = figI k t e
 all:∀ x:Nat,x < 2 ^ k -> (∀ t:Nat,1 <= t -> t <= k - n -> figI k t x = figI k t e) -> x ∈ L
 row:L.Pairwise (Ug k rows e (k - n))
def Vs (K:FG7) (H:Hp) (x:V) (gs:List Nat):Prop:=∃ r,x = .ref r /\ SqT K H r (Wj gs)
def vn (K:FG7):Sp:=sp4 fun x y z u H Q=>∃ (k st l:Nat) (rows:List (List Int)),x = .int k /\ y = .int st /\ z = .int l /\ yf K H u rows /\ k <= 4 /\ 1 <= st /\ st <= k /\ l < 2 ^ k /\ yh k rows /\ ∀ y H',Grow [] H H' -> Vs K H' y (inO k rows st l) -> Q y H'
def LsR (H:Hp) (x:V) (row:List Int):Prop:=∃ r,x = .ref r /\ H r = some (.lst (row.map V.int))
def LsB (H:Hp) (x:V) (rows:List (List Int)):Prop:=∃ l xs,x = .ref l /\ H l = some (.lst xs) /\ AllR (LsR H) xs rows
def LsN (a:Addr) (H:Hp) (x:V) (row:List Int):Prop:=∃ r,x = .ref r /\ r ∉ [a] /\ H r = some (.lst (row.map V.int))
def LsA (a:Addr) (H:Hp) (x:V) (rows:List (List Int)):Prop:=∃ l xs,x = .ref l /\ l ∉ [a] /\ H l = some (.lst xs) /\ AllR (LsN a H) xs rows
theorem LsA.b {a:Addr} {H:Hp} {x:V} {rows:List (List Int)} (h:LsA a H x rows):LsB H x rows:=by
 obtain ⟨l,xs,e,n,z,w⟩:=h
 exact ⟨l,xs,e,z,w.imp fun _ _ ⟨r,e,_,z⟩=>⟨r,e,z⟩⟩
def vo (K:FG7) (H:Hp) (f:Addr) (rows:List (List Int)):Prop:=∃ xs,H f = some (.lst xs) /\ AllR (zr K H) xs rows
theorem vo.grow {K:FG7} {H H':Hp} {f:Addr} {rows:List (List Int)} (h:vo K H f rows) (g:Grow [] H H'):vo K H' f rows:=by
 obtain ⟨xs,e,a⟩:=h
 exact ⟨xs,g.keep _ _ (by simp) e,g.boardsR a⟩
theorem vo.ne {K:FG7} {H:Hp} {f r:Addr} {rows:List (List Int)} (h:vo K H f rows) (e:H r = none):r ≠ f:=by
 obtain ⟨xs,e',_⟩:=h
 intro z; rw [z,e'] at e; cases e
theorem vo.set {K:FG7} {H:Hp} {f:Addr} {rows:List (List Int)} {xs:List V} (e:H f = some (.lst xs)) (a:AllR (zr K H) xs rows):vo K H f rows:=⟨xs,e,a⟩
abbrev cxO (X:Cx) (N':List Str) (scope:Scope) (cl:List (Str × Addr)) (C D:Addr) (fp:List Addr) (s:Shared) (H:Hp):Cx :=
 { X with N:=N',s₀:=s,H₀:=H,env:=compEnvC scope cl C X.env,outer:=X.stack,ex:=D :: fp,fn:=fun x=>scope.names.lookup x == some .cell,xe:=fun _ _=>False }
structure CScC (X:Cx) (scope:Scope) (N':List Str) (sub:List (Option Nat)):Prop where
 free:∀ y ∈ scope.names,y.2 = .free -> X.env.kindOf y.1 = some .cell
 nd:(scope.names.map (·.1)).Nodup
 kind:scope.kind = .function
 names:∀ y ∈ scope.names,y.2 = .local -> scope.names.lookup y.1 = some .local
 len:sub.length = N'.length
 cap:∀ (j:Nat) (y:Str) (i:Nat),N'[j]? = some y -> sub[j]? = some (some i) -> X.N[i]? = some y /\ X.env.scope.names.lookup y = some .cell /\ scope.names.lookup y = some .free
theorem xt {α:Type} {x:Str} {c:α}:∀ {a b:List (Str × α)},(a ++ b).lookup x = some c -> a.lookup x = some c \/ (a.lookup x = none /\ b.lookup x = some c)
 | [],b,h=>.inr ⟨rfl,h⟩
 | (k,v) :: r,b,h=>by
  rw [List.cons_append,List.lookup_cons] at h
  rw [List.lookup_cons]
  cases hb:x == k with
  | true=>rw [hb] at h; exact .inl h
  | false=>rw [hb] at h; exact xt h
theorem jh {α:Type} {x:Str} {a b:List (Str × α)} (h:∃ c,a.lookup x = some c):∃ c,(a ++ b).lookup x = some c:=by
 induction a with
 | nil=>obtain ⟨c,h⟩:=h; cases h
 | cons p r ih =>
  obtain ⟨k,v⟩:=p
  rw [List.lookup_cons] at h
  rw [List.cons_append,List.lookup_cons]
  cases hb:x == k with
  | true=>exact ⟨v,rfl⟩
  | false=>rw [hb] at h; exact ih h
theorem vp {α:Type} {x:Str} {a b:List (Str × α)} (h:∃ c,b.lookup x = some c):∃ c,(a ++ b).lookup x = some c:=by
 induction a with
 | nil=>exact h
 | cons p r ih =>
  obtain ⟨k,v⟩:=p
  rw [List.cons_append,List.lookup_cons]
  cases hb:x == k with
  | true=>exact ⟨v,rfl⟩
  | false=>exact ih
theorem sQ {α:Type} {x:Str} {c:α} {a b:List (Str × α)} (h:a.lookup x = none) (e:b.lookup x = some c):(a ++ b).lookup x = some c:=by
 induction a with
 | nil=>exact e
 | cons p r ih =>
  obtain ⟨k,v⟩:=p
  rw [List.lookup_cons] at h
  rw [List.cons_append,List.lookup_cons]
  cases hb:x == k with
  | true=>rw [hb] at h; cases h
  | false=>rw [hb] at h; exact ih h
theorem vq:∀ (names:List (Str × NameKind)) (n:Nat) (acc more:List (Str × Addr)),cellsFrom n names (acc ++ more) = cellsFrom n names acc ++ more
 | [],_,_,_=>rfl
 | (x,k) :: r,n,acc,more=>by
  unfold cellsFrom
  split
  ·exact vq r (n + 1) ((x,n) :: acc) more
  ·exact vq r n acc more
theorem vt:∀ {names:List (Str × NameKind)} {n:Nat} {acc:List (Str × Addr)} {x:Str} {c:Addr},(x,c) ∈ cellsFrom n names acc -> (x,c) ∈ acc \/ (x,NameKind.cell) ∈ names
 | [],_,_,_,_,h=>.inl h
 | (y,k) :: r,n,acc,x,c,h=>by
  unfold cellsFrom at h
  split at h
  ·rename_i hk
   have hk':k = .cell:=by simpa using hk
   rcases vt h with z | z
   ·rcases List.mem_cons.mp z with e | z
    ·cases e; exact .inr (by rw [hk']; simp)
    ·exact .inl z
   ·exact .inr (List.mem_cons_of_mem _ z)
  ·rcases vt h with z | z
   ·exact .inl z
   ·exact .inr (List.mem_cons_of_mem _ z)
theorem xZ {α:Type} {x:Str}:∀ {a:List (Str × α)},x ∈ a.map (·.1) -> ∃ c,a.lookup x = some c
 | (k,v) :: r,h=>by
  rw [List.lookup_cons]
  cases hb:x == k with
  | true=>exact ⟨v,rfl⟩
  | false =>
   rcases List.mem_cons.mp h with e | h
   ·rw [e] at hb; simp at hb
   ·exact xZ h
theorem wv:∀ {names:List (Str × NameKind)} {n:Nat} {acc:List (Str × Addr)} {x:Str},x ∈ acc.map (·.1) -> x ∈ (cellsFrom n names acc).map (·.1)
 | [],_,_,_,h=>h
 | (y,k) :: r,n,acc,x,h=>by
  unfold cellsFrom
  split
  ·exact wv (by rw [List.map_cons]; exact List.mem_cons_of_mem _ h)
  ·exact wv h
theorem qu:∀ {names:List (Str × NameKind)} {n:Nat} {acc:List (Str × Addr)} {x:Str},(x,NameKind.cell) ∈ names -> x ∈ (cellsFrom n names acc).map (·.1)
 | (y,k) :: r,n,acc,x,h=>by
  unfold cellsFrom
  rcases List.mem_cons.mp h with e | h
  ·cases e
   rw [if_pos (by decide)]
   exact wv (by rw [List.map_cons]; exact List.mem_cons_self)
  ·split <;> exact qu h
theorem tR {names:List (Str × NameKind)} {n:Nat} {x:Str} (h:(x,NameKind.cell) ∈ names):∃ c,(cellsFrom n names []).lookup x = some c:=xZ (qu h)
theorem ZF {names:List (Str × NameKind)} {n:Nat} {x:Str} (nd:(names.map (·.1)).Nodup) (h:(x,NameKind.free) ∈ names):(cellsFrom n names []).lookup x = none:=by
 cases e:(cellsFrom n names []).lookup x with
 | none=>rfl
 | some c =>
  rcases vt (PySem.mem_of_lookup e) with z | z
  ·cases z
  ·have key:∀ {l:List (Str × NameKind)},(l.map (·.1)).Nodup -> (x,NameKind.free) ∈ l -> (x,NameKind.cell) ∈ l -> False:=by
    intro l
    induction l with
    | nil=>intro _ h; cases h
    | cons p r ih =>
     intro nd h1 h2
     rw [List.map_cons,List.nodup_cons] at nd
     rcases List.mem_cons.mp h1 with e1 | h1 <;> rcases List.mem_cons.mp h2 with e2 | h2
     ·rw [← e1] at e2; cases e2
     ·exact nd.1 (by rw [← e1]; exact List.mem_map.mpr ⟨_,h2,rfl⟩)
     ·exact nd.1 (by rw [← e2]; exact List.mem_map.mpr ⟨_,h1,rfl⟩)
     ·exact ih nd.2 h1 h2
   exact (key nd h z).elim
section
variable {X:Cx} {pins:List (Addr × Obj)} {σ:L2.St} {H2:Hp} {s₂:Shared} {it:Addr} {fp:List Addr} {tn:Nat -> Heap -> Prop} {J:It} {scope:Scope} {cl:List (Str × Addr)} {N':List Str} {sub:List (Option Nat)}
theorem sR {h₁:Heap} {tk:Nat} (I:Inv X pins σ H2 s₂) (S:CScC X scope N' sub) (hcl1:∀ x c,cl.lookup x = some c -> X.env.cells.lookup x = some c) (hcl2:∀ y ∈ scope.names,y.2 = .free -> ∃ c,cl.lookup y.1 = some c)
    (hcc:CellsOk h₁ (s₂.heap.objs.size + 2) (cellsFrom (s₂.heap.objs.size + 2) scope.names []))
    (f2:∀ b ∈ fp,FpOk X pins H2 b) (hfp:∀ b ∈ fp,b < s₂.heap.objs.size) {m:Str -> Option Value} {ob:Obj}
    (hns:h₁.Ns (s₂.heap.objs.size + 1) m) (hk:∀ b o,(s₂.heap.push ob).get? b = some o -> h₁.get? b = some o) :
    Inv (cxO X N' scope (cellsFrom (s₂.heap.objs.size + 2) scope.names [] ++ cl) (s₂.heap.objs.size + 1) s₂.heap.objs.size fp { s₂ with heap:=s₂.heap.push ob } H2) pins (capt sub σ) H2 { s₂ with heap:=h₁,toks:=tk }:=by
  have old:∀ b o,s₂.heap.get? b = some o -> (s₂.heap.push ob).get? b = some o:=fun b o e=>Heap.get?_push_of_some _ e
  have old2:∀ b o,s₂.heap.get? b = some o -> h₁.get? b = some o:=fun b o e=>hk b o (old b o e)
  have sz:(s₂.heap.push ob).objs.size = s₂.heap.objs.size + 1:=Heap.size_push ..
  have lk:∀ x c,(cellsFrom (s₂.heap.objs.size + 2) scope.names [] ++ cl).lookup x = some c -> ((x,c) ∈ cellsFrom (s₂.heap.objs.size + 2) scope.names [] /\ h₁.IsCell c none /\ s₂.heap.objs.size + 2 <= c) \/ X.env.cells.lookup x = some c:=fun x c e=>by
    rcases xt e with e | ⟨_,e⟩
    · exact .inl ⟨PySem.mem_of_lookup e,hcc.empty x c (PySem.mem_of_lookup e)⟩
    · exact .inr (hcl1 x c e)
  have cells:∀ x c,X.env.cells.lookup x = some c -> c < s₂.heap.objs.size:=fun x c e=>let ⟨v,q⟩:=I.cell x c e; q.lt
  have has:∀ x,((relabel scope X.env).names.lookup x = some .cell \/ (relabel scope X.env).names.lookup x = some .free) -> ∃ c,(cellsFrom (s₂.heap.objs.size + 2) scope.names [] ++ cl).lookup x = some c:=fun x hx=>by
    rcases hx with hx | hx
    · obtain ⟨k',e,z⟩:=yo hx
      rcases z with z | ⟨_,z⟩
      · subst z; exact jh (tR (PySem.mem_of_lookup e))
      · subst z; exact vp (hcl2 _ (PySem.mem_of_lookup e) rfl)
    · obtain ⟨k',e,z⟩:=yo hx
      rcases z with z | ⟨z,_⟩
      · subst z; exact vp (hcl2 _ (PySem.mem_of_lookup e) rfl)
      · cases z
  have frsz:∀ b ∈ frs X.stack,b < s₂.heap.objs.size:=fun b hb=>by
    rcases List.mem_cons.mp (I.stkSub b hb) with z | z
    · rw [z]; exact I.lt
    · exact Nat.lt_of_not_le fun q=>I.nofs q z
  refine
    { ok :=
      { mod:=I.ok.mod,kind:=S.kind,glob:=I.ok.glob,blt:=I.ok.blt
        above:=by show (s₂.heap.push ob).objs.size <= s₂.heap.objs.size + 1; rw [sz]; exact Nat.le_refl _
        inj:=fun x y c h1 h2=>?inj
        has:=has
        cab:=fun x c z e=>?cab
        hd:=I.ok.hd,frames:=I.ok.frames,stk:=.inl rfl
        exf:=fun b hb=>?exf
        bs:=fun b o e=>⟨old b o (I.bk b o e),(I.bs b o e).2⟩
        bsz:=by show X.base.objs.size <= (s₂.heap.push ob).objs.size; rw [sz]; exact Nat.le_succ_of_le (Nat.le_trans I.ok.bsz I.sz)
        noex:=fun b o e hb=>?noex
        exfs:=fun b hb=>?exfs
        funs:=?funs
        frf:=I.stkFree }
      os:=rfl,bare:=I.bare,base:=Un.kept fun b u e=>hk b u e
      loc:=⟨m,hns,?loc⟩
      cell:=fun x c e=>?cell
      free:=I.hok.fresh (Nat.le_succ _)
      freeC:=fun x c e=>?freeC
      pin:=fun p hp=>?pin
      hok:=I.hok.kept old2
      len:=?len }
  case exf =>
    rcases List.mem_cons.mp hb with rfl | hb
    · exact ⟨Nat.ne_of_lt (Nat.lt_succ_self _),fun x c e=>(lk x c e).elim (fun z=>Nat.ne_of_gt (Nat.lt_of_lt_of_le (Nat.lt_succ_of_lt (Nat.lt_succ_self _)) z.2.2)) (fun z=>Nat.ne_of_lt (cells x c z))⟩
    · exact ⟨Nat.ne_of_lt (Nat.lt_succ_of_lt (hfp b hb)),fun x c e=>(lk x c e).elim (fun z=>Nat.ne_of_gt (Nat.lt_of_lt_of_le (hfp b hb) (Nat.le_trans (Nat.le_add_right _ 2) z.2.2))) (fun z=>(f2 b hb).2.2.2.2.1 x c z)⟩
  case noex =>
    have hl:b < X.s₀.heap.objs.size:=Nat.lt_of_lt_of_le (Heap.lt_size e) I.ok.bsz
    rcases List.mem_cons.mp hb with rfl | hb
    · exact absurd (Nat.lt_of_lt_of_le hl I.sz) (Nat.lt_irrefl _)
    · rcases (f2 b hb).2.2.2.1 with z | z
      · exact I.ok.noex b o e z
      · exact absurd (Nat.lt_of_lt_of_le hl z) (Nat.lt_irrefl _)
  case exfs =>
    intro hs
    rcases List.mem_cons.mp hb with rfl | hb
    · exact absurd (frsz _ hs) (Nat.lt_irrefl _)
    · rcases List.mem_cons.mp (I.stkSub b hs) with z | z
      · exact (f2 b hb).2.1 z
      · exact (f2 b hb).2.2.1 z
  case funs=>exact Heap.FunFrames.of_keeps (fun b o e _=>⟨o,old b o e,rfl⟩) I.stack
  case loc =>
    intro j y v hj hv hvis
    obtain ⟨mX,_,lX⟩:=I.loc
    unfold capt at hv
    rw [List.getElem?_map] at hv
    cases hs:sub[j]? with
    | none=>rw [hs] at hv; cases hv
    | some o =>
      rw [hs] at hv
      cases o with
      | none=>cases hv
      | some i =>
        obtain ⟨hN,hc,hf⟩:=S.cap j y i hj hs
        have hv':σ[i]? = some (some v):=by
          have z:(match σ[i]? with | some v=>v | none=>none) = some v:=Option.some.inj hv
          cases q:σ[i]? with
          | none=>rw [q] at z; cases z
          | some w=>rw [q] at z; rw [show w = some v from z]
        obtain ⟨u,ru,hl⟩:=lX i y v hN hv' (.inr (.inl hc))
        refine ⟨u,ru,?_⟩
        have kc:(relabel scope X.env).names.lookup y = some .cell:=yM I.ok.kind hc hf
        rcases hl with ⟨z,_⟩ | ⟨_,c,e,ic⟩
        · have z':X.env.scope.names.lookup y = some .local :=z
          rw [hc] at z'; cases z'
        · obtain ⟨c',e'⟩:=hcl2 _ (PySem.mem_of_lookup hf) rfl
          have:=hcl1 _ _ e'
          rw [e] at this; cases this
          have e3:(cellsFrom (s₂.heap.objs.size + 2) scope.names [] ++ cl).lookup y = some c:=sQ (ZF S.nd (PySem.mem_of_lookup hf)) e'
          refine .inr ⟨.inl kc,c,e3,?_⟩
          obtain ⟨oc,h1,h2⟩:=ic
          exact ⟨oc,old2 _ _ h1,h2⟩
  case cell =>
    rcases lk x c e with ⟨_,z,_⟩ | z
    · exact ⟨none,z⟩
    · obtain ⟨v,oc,h1,h2⟩:=I.cell x c z
      exact ⟨v,oc,old2 _ _ h1,h2⟩
  case inj =>
    rcases lk x c h1 with ⟨m1,_,z1⟩ | z1 <;> rcases lk y c h2 with ⟨m2,_,z2⟩ | z2
    · exact name_of_addr hcc.apart m1 m2
    · exact absurd (Nat.lt_of_lt_of_le (cells y c z2) (Nat.le_trans (Nat.le_add_right _ 2) z1)) (Nat.lt_irrefl _)
    · exact absurd (Nat.lt_of_lt_of_le (cells x c z1) (Nat.le_trans (Nat.le_add_right _ 2) z2)) (Nat.lt_irrefl _)
    · exact I.ok.inj x y c z1 z2
  case cab =>
    show (s₂.heap.push ob).objs.size <= c
    rw [sz]
    have hz:scope.names.lookup x = some .cell:=by simpa using z
    rcases xt e with e | ⟨e,_⟩
    · have:=(hcc.empty x c (PySem.mem_of_lookup e)).2; omega
    · obtain ⟨c',e'⟩:=tR (n:=s₂.heap.objs.size + 2) (PySem.mem_of_lookup hz)
      rw [e'] at e; cases e
  case freeC =>
    rcases lk x c e with ⟨_,_,z⟩ | z
    · exact I.hok.fresh (by omega)
    · exact I.freeC x c z
  case pin =>
    obtain ⟨p1,p2,p3,p4,p5⟩:=I.pin p hp
    refine ⟨old2 _ _ p1,p2,Nat.ne_of_lt (Nat.lt_succ_of_lt (Heap.lt_size p1)),fun hs=>?_,p5⟩
    rcases List.mem_cons.mp (I.stkSub _ hs) with z | z
    · exact p3 z
    · exact p4 z
  case len =>
    show (capt sub σ).length = N'.length
    unfold capt
    rw [List.length_map]; exact S.len
theorem ZG {C D:Addr} {s₀:Shared} {s':Shared} {σ':L2.St} {H':Hp} {ys:List V} {us:List Value} {k:Nat} {oC:Obj} (I:Inv X pins σ H2 s₂)
    (hs₀:∀ b o,s₂.heap.get? b = some o -> s₀.heap.get? b = some o) (hos:s₀.os = s₂.os) (hD:s₂.heap.objs.size <= D) (hC:s₂.heap.objs.size <= C) (hDC:D ≠ C) (f2:∀ b ∈ fp,FpOk X pins H2 b)
    (I':Inv (cxO X N' scope cl C D fp s₀ H2) pins σ' H' s') (hn:H' D = none) (hy:s'.heap.get? D = some { cls:=.type "list",data:=.seq us.toArray k }) (rv:Vals ys us) (hz:ys.length <= sizeLine)
    (ho:s'.heap.get? C = some oC) (hd:∀ v,oC.data ≠ .cell v):Inv X (pins ++ [(C,oC)]) σ (upd H' D (.lst ys)) s' /\ FpOk X pins (upd H' D (.lst ys)) C:=by
  have neD:∀ b o,s₂.heap.get? b = some o -> b ≠ D:=fun b o e=>Nat.ne_of_lt (Nat.lt_of_lt_of_le (Heap.lt_size e) hD)
  have nm:∀ b o,s₂.heap.get? b = some o -> b ∉ fp -> b ∉ D :: fp:=fun b o e h z=>(List.mem_cons.mp z).elim (neD b o e) h
  have U:=I'.base
  have HC:upd H' D (.lst ys) C = none:=by rw [zk (Ne.symm hDC)]; exact I'.free
  have fpc:FpOk X pins (upd H' D (.lst ys)) C:=I.fpOk hC HC
  have un:Un (frs X.stack) fp H2 (upd H' D (.lst ys)) s₂.heap s'.heap :=
    { keep:=fun b o e n h1 h2=>U.keep b o (hs₀ b o e) n h1 (nm b o e h2)
      slot:=fun b o e n h1 h2=>U.slot b o (hs₀ b o e) n h1 (nm b o e h2)
      free:=fun b o e n h2=>by rw [zk (neD b o e)]; exact U.free b o (hs₀ b o e) n (nm b o e h2)
      there:=fun b o e h2=>U.there b o (hs₀ b o e) (nm b o e h2)
      tups:=fun b xs e=>by have z:=U.tups b xs e; rw [zk (zm z hn)]; exact z
      frzs:=fun b o u e=>by have z:=U.frzs b o u e; rw [zk (zm z hn)]; exact z
      tbls:=fun b ps e=>by obtain ⟨more,z⟩:=U.tbls b ps e; exact ⟨more,by rw [zk (zm z hn)]; exact z⟩ }
  have hok:HOk X.prog X.w (upd H' D (.lst ys)) s'.heap:=HOk.track I'.hok hn ⟨hz,us,k,rv,hy⟩
  have IX:Inv X pins σ (upd H' D (.lst ys)) s':=I.call' (I'.os.trans hos) un hok I'.bare fun b hb=>⟨(f2 b hb).2.2.2.1,(f2 b hb).2.1,(f2 b hb).2.2.2.2.1,(f2 b hb).2.2.2.2.2⟩
  refine ⟨IX.pins_of fun p hp=>?_,fpc⟩
  rcases List.mem_append.mp hp with hp | hp
  · exact IX.pin p (List.mem_append_right _ hp)
  · rw [List.mem_singleton.mp hp]
    exact ⟨ho,HC,fpc.2.1,fpc.2.2.1,hd⟩
theorem ZH {C D:Addr} {s₀:Shared} {tg:Expr} {pos:Pos} {elt iter:Expr} {ifs:List Expr} {g:TG} {tt:TT} {te:TE} {Q:VK} {RR:Value -> Addr -> Result -> Shared -> Prop} {W:Nat -> Nat -> List V -> L2.St -> Hp -> Prop}
  (I:Inv X pins σ H2 s₂) (hcalm:X.calm = true) (T:Turn X.prog X.w X.K tg J fp it tn) (f2:∀ b ∈ fp,FpOk X pins H2 b) (hfp:∀ b ∈ fp,b < s₂.heap.objs.size)
  (hs₀:∀ b o,s₂.heap.get? b = some o -> s₀.heap.get? b = some o) (hos:s₀.os = s₂.os) (hD:s₂.heap.objs.size <= D) (hC:s₂.heap.objs.size <= C) (hDC:D ≠ C)
  (hcl1:∀ x c,cl.lookup x = some c -> X.env.cells.lookup x = some c \/ (s₂.heap.objs.size <= c /\ D ≠ c))
  (hg:PG (cxO X N' scope cl C D fp s₀ H2) tg g) (ht:PIfs (cxO X N' scope cl C D fp s₀ H2) ifs tt) (he:PE (cxO X N' scope cl C D fp s₀ H2) elt te)
  (turn:∀ i m ys σ' H',W i m ys σ' H' →
   (J.stop i H' /\ ∀ l,H' l = none -> Q (.ref l) (upd H' l (.lst ys))) ∨
   (J.go i H' /\ ∃ Nn:List V -> L2.St -> Hp -> Prop,(∀ zs σ2 H2,Nn zs σ2 H2 -> ∃ m',m' < m /\ W (i + 1) m' zs σ2 H2) ∧
    ∀ x H2,J.yld i H' x H2 -> g x σ' H2 fun σ2 H3=>tt σ2 H3 fun b H4=>if b = true then te σ2 H4 fun y H5=>ys.length < sizeLine /\ Nn (ys ++ [y]) σ2 H5 else Nn ys σ2 H4))
  (hRR:∀ (D C:Addr) (oC:Obj) (m:Str -> Option Value) (s':Shared) (Hf:Hp),Inv X (pins ++ [(C,oC)]) σ Hf s' -> s'.heap.Ns C m -> FpOk X pins Hf C -> Q (.ref D) Hf -> RR (.ref D) C (.ok .next) s')
  (n:Nat) (s:Shared) (h:∃ i ys us k σ' H',Inv (cxO X N' scope cl C D fp s₀ H2) pins σ' H' s /\ tn i s.heap /\ (∀ b ∈ fp,H' b = none) /\ H' D = none ∧
   s.heap.get? D = some { cls:=.type "list",data:=.seq (us:List Value).toArray k } /\ Vals ys us /\ ys.length <= sizeLine /\ W i n ys σ' H') :
  codeAny (model X.prog X.w) X.A (.compLoop (.ListComp elt [⟨tg,iter,ifs,0⟩] scope pos) 0 (.ref it) (.ref D) (compEnvC scope cl C X.env)) (RR (.ref D) C) s:=by
 have frsz:∀ b ∈ frs X.stack,b < s₂.heap.objs.size:=fun b hb=>by
  rcases List.mem_cons.mp (I.stkSub b hb) with z | z
  ·rw [z]; exact I.lt
  ·exact Nat.lt_of_not_le fun q=>I.nofs q z
 have cells:∀ x c,cl.lookup x = some c -> D ≠ c:=fun x c e=>by
  rcases hcl1 x c e with z | z
  ·obtain ⟨v,q⟩:=I.cell x c z
   exact Nat.ne_of_gt (Nat.lt_of_lt_of_le q.lt hD)
  ·exact z.2
 have pinsz:∀ p ∈ X.pn ++ pins,p.1 < s₂.heap.objs.size:=fun p hp=>Heap.lt_size (I.pin p hp).1
 refine tD (fun n s=>∃ i ys us k σ' H',Inv (cxO X N' scope cl C D fp s₀ H2) pins σ' H' s /\ tn i s.heap /\ (∀ b ∈ fp,H' b = none) /\ H' D = none ∧
   s.heap.get? D = some { cls:=.type "list",data:=.seq (us:List Value).toArray k } /\ Vals ys us /\ ys.length <= sizeLine /\ W i n ys σ' H') ?_ n h
 rintro n s ⟨i,ys,us,k,σ',H',I',st',fr,hn,hy,rv,hz,w'⟩
 have pD:Inv (cxO X N' scope cl C D fp s₀ H2) (pins ++ [(D,{ cls:=.type "list",data:=.seq us.toArray k })]) σ' H' s:=I'.pins_of fun p hp=>by
  rcases List.mem_append.mp hp with hp | hp
  ·exact I'.pin p (List.mem_append_right _ hp)
  ·rw [List.mem_singleton.mp hp]
   exact ⟨hy,hn,hDC,fun z=>absurd (Nat.lt_of_lt_of_le (frsz _ z) hD) (Nat.lt_irrefl _),fun v z=>by cases z⟩
 have fpok:∀ {H'':Hp},(∀ b ∈ fp,H'' b = none) -> ∀ b ∈ fp,FpOk (cxO X N' scope cl C D fp s₀ H2) (pins ++ [(D,{ cls:=.type "list",data:=.seq us.toArray k })]) H'' b:=fun hz b hb=>by
  refine ⟨hz b hb,Nat.ne_of_lt (Nat.lt_of_lt_of_le (hfp b hb) hC),fun z=>?_,.inl (List.mem_cons_of_mem _ hb),fun x c e=>(hcl1 x c e).elim (fun z=>(f2 b hb).2.2.2.2.1 x c z) (fun z q=>absurd (Nat.lt_of_lt_of_le (q ▸ hfp b hb) z.1) (Nat.lt_irrefl _)),fun p hp=>?_⟩
  ·rcases List.mem_cons.mp (I.stkSub b z) with z | z
   ·exact (f2 b hb).2.1 z
   ·exact (f2 b hb).2.2.1 z
  ·rcases List.mem_append.mp hp with hp | hp
   ·exact (f2 b hb).2.2.2.2.2 p (List.mem_append_left _ hp)
   ·rcases List.mem_append.mp hp with hp | hp
    ·exact (f2 b hb).2.2.2.2.2 p (List.mem_append_right _ hp)
    ·rw [List.mem_singleton.mp hp]
     exact Nat.ne_of_gt (Nat.lt_of_lt_of_le (hfp b hb) hD)
 rcases turn i n ys σ' H' w' with ⟨stop,q⟩ | ⟨go,Nn,hN,step⟩
 ·refine thn (T.done (cxO X N' scope cl C D fp s₀ H2) rfl rfl rfl hcalm i _ s σ' H' (fun _ _=>False) pD (fpok fr) st' stop) fun r s1 ⟨hr,I1⟩=>?_
  subst hr
  have hy1:=(I1.pin (D,{ cls:=.type "list",data:=.seq us.toArray k }) (by simp)).1
  obtain ⟨m,hm,_⟩:=I1.loc
  obtain ⟨oC,es,ep,hoC,hdC,_⟩:=id hm
  obtain ⟨IX,fpc⟩:=ZG I hs₀ hos hD hC hDC f2 I1.unpinned hn hy1 rv hz hoC (by intro v z; rw [hdC] at z; cases z)
  exact hRR D C oC m s1 _ IX hm fpc (q D hn)
 ·refine thn (T.item (cxO X N' scope cl C D fp s₀ H2) rfl rfl rfl hcalm i _ s σ' H' (fun _ _=>False) pD (fpok fr) st' go) fun r s1 ⟨u,hr,h4⟩=>?_
  subst hr
  refine thn h4 fun _ s2 ⟨x5,H5,I5,r5,y5,st5,fr5⟩=>?_
  have I5':=I5.pinned (fpok fr5) (T.obj _ _ st5)
  refine thn (hg _ s2 σ' H5 x5 u _ I5' r5 (step x5 H5 y5)) fun _ s3 ⟨σ6,H6,I6,q6⟩=>?_
  refine thn (ht _ s3 σ6 H6 _ I6 q6) fun ok s4 ⟨H7,I7,q7⟩=>?_
  have stay:∀ {σ7:L2.St} {H7:Hp} {s7:Shared},Inv (cxO X N' scope cl C D fp s₀ H2) (pins ++ [(D,{ cls:=.type "list",data:=.seq us.toArray k })] ++ wX fp s2.heap) σ7 H7 s7 →
    (∀ b ∈ fp,∀ o,s2.heap.get? b = some o -> s7.heap.get? b = some o) /\ (∀ b ∈ fp,H7 b = none) /\ H7 D = none /\ s7.heap.get? D = some { cls:=.type "list",data:=.seq us.toArray k }:=fun {σ7 H7 s7} I7=>by
   have d:=I7.pin (D,{ cls:=.type "list",data:=.seq us.toArray k }) (by simp)
   refine ⟨fun b hb o e=>(I7.pin (b,o) (List.mem_append_right _ (List.mem_append_right _ (z9 hb e)))).1,fun b hb=>?_,d.2.1,d.1⟩
   obtain ⟨o,e,_⟩:=T.obj _ _ st5 b hb
   exact (I7.pin (b,o) (List.mem_append_right _ (List.mem_append_right _ (z9 hb e)))).2.1
  cases ok with
  | false =>
   rw [if_neg (by decide)] at q7 ⊢
   obtain ⟨k1,k2,k3,k4⟩:=stay I7
   obtain ⟨m',hm,w7⟩:=hN ys σ6 H7 q7
   exact ⟨m',hm,i + 1,ys,us,k,σ6,H7,I7.unpinned.unpinned,T.keep _ _ _ st5 k1,k2,k3,k4,rv,hz,w7⟩
  | true =>
   rw [if_pos rfl] at q7 ⊢
   refine thn (he _ s4 σ6 H7 _ I7 q7) fun v s5 ⟨y,H8,I8,r8,hl8,n8⟩=>?_
   obtain ⟨k1,k2,k3,k4⟩:=stay I8
   refine wpAny_list_append_plain (l:=D) ⟨k,k4⟩ (fun h' pl sb=>?_) (by rw [List.size_toArray,← rv.length]; exact hz)
   obtain ⟨k',e'⟩:=pl
   obtain ⟨m',hm,w8⟩:=hN _ σ6 H8 n8
   refine ⟨m',hm,i + 1,ys ++ [y],us ++ [v],k',σ6,H8,?_,T.keep _ _ _ (T.keep _ _ _ st5 k1) fun b hb o e=>sb.extBut b o (Nat.ne_of_lt (Nat.lt_of_lt_of_le (hfp b hb) hD)) e,k2,k3,?_,rv.append (.cons r8 .nil),?_,w8⟩
   ·exact (I8.unpinned.unpinned).turned (it:=D) (t':=s5.toks) (h':=h') (fun b o hb e=>sb.extBut b o hb e) k3 hDC (.inl (by simp)) (fun x c e=>(cells x c e).symm) (fun p hp=>Nat.ne_of_lt (Nat.lt_of_lt_of_le (pinsz p hp) hD))
   ·rw [e']; simp
   ·rw [List.length_append]; exact hl8
theorem ZI {M:Model} {A:Around} {E:VS7} {s:Shared} {scope:Scope} {globals:Addr} {closure:List (Str × Addr)} {qual:Str} {around:Env} {Q:Env -> Shared -> Prop} (hk:scope.kind = .function)
  (hQ:∀ h',h'.Ns s.heap.objs.size (fun _=>none) -> (∀ b o,s.heap.get? b = some o -> h'.get? b = some o) -> CellsOk h' (s.heap.objs.size + 1) (cellsFrom (s.heap.objs.size + 1) scope.names []) →
   Q (newEnv scope s.heap.objs.size globals (cellsFrom (s.heap.objs.size + 1) scope.names [] ++ closure) qual none .none (some around) builtinsNs) { s with heap:=h' }) :
  wpAny M A (newFunctionEnv scope globals closure [] qual none .none (some around)) Q E s:=by
 simp only [newFunctionEnv,Option.isSome_some,if_true]
 refine wpAny_bind (wpAny_alloc (wpAny_bind (wpAny_layCells _ (fun nm kd cs=>by cases h:kd == NameKind.cell <;> simp [h]) scope.names closure _ _ ?_)))
 have own:=cellsFrom_ok scope.names (s.heap.push ⟨.type "dict",none,.dict #[],#[]⟩) (s.heap.objs.size + 1) [] ⟨fun _ _ z=>(nomatch z),.nil⟩ (Nat.le_of_eq (Heap.size_push ..).symm)
 have sz:(s.heap.push ⟨.type "dict",none,.dict #[],#[]⟩).objs.size = s.heap.objs.size + 1:=Heap.size_push ..
 rw [sz] at own
 have ea:=vq scope.names (s.heap.objs.size + 1) [] closure
 rw [List.nil_append] at ea
 show wpAny _ _ _ _ _ { s with heap:=pushCells (s.heap.push ⟨.type "dict",none,.dict #[],#[]⟩) scope.names }
 dsimp only
 rw [sz,ea]
 exact wpAny_bind (wpAny_pure (wpAny_pure (hQ _ ((Heap.Ns.new s.heap (.type "dict")).keeps (pushCells_keeps _ _)) (fun b o e=>pushCells_keeps _ _ b o (Heap.get?_push_of_some _ e)) own)))
theorem sS {tg:Expr} {pos:Pos} {elt iter:Expr} {ifs:List Expr} {g:TG} {tt:TT} {te:TE} {E:VS7} {Q:VK} {RR:Value -> Addr -> Result -> Shared -> Prop}
  (I:Inv X pins σ H2 s₂) (hcalm:X.calm = true) (T:Turn X.prog X.w X.K tg J fp it tn) (st:tn 0 s₂.heap) (f2:∀ b ∈ fp,FpOk X pins H2 b)
  (S:CScC X scope N' sub) (hcl1:∀ x c,cl.lookup x = some c -> X.env.cells.lookup x = some c) (hcl2:∀ y ∈ scope.names,y.2 = .free -> ∃ c,cl.lookup y.1 = some c)
  (hg:∀ cl C D fp s H,PG (cxO X N' scope cl C D fp s H) tg g) (ht:∀ cl C D fp s H,PIfs (cxO X N' scope cl C D fp s H) ifs tt) (he:∀ cl C D fp s H,PE (cxO X N' scope cl C D fp s H) elt te)
  (hW:xC J (capt sub σ) H2 g tt te Q)
  (hRR:∀ (D C:Addr) (oC:Obj) (m:Str -> Option Value) (s':Shared) (Hf:Hp),Inv X (pins ++ [(C,oC)]) σ Hf s' -> s'.heap.Ns C m -> FpOk X pins Hf C -> Q (.ref D) Hf -> RR (.ref D) C (.ok .next) s') :
  wpAny (model X.prog X.w) X.A (newList []) (fun acc s₃=>wpAny (model X.prog X.w) X.A (newFunctionEnv scope X.env.globals cl [] X.env.qual none .none (some X.env)) (fun cenv s₄ =>
   codeAny (model X.prog X.w) X.A (.compStart (.ListComp elt [⟨tg,iter,ifs,0⟩] scope pos) 0 (.ref it) acc { cenv with scope:=relabel scope X.env }) (RR acc cenv.locals) s₄) E s₃) E s₂:=by
 obtain ⟨W,⟨m0,w0⟩,turn⟩:=hW
 refine wpAny_newObj_type (ZI S.kind fun h₁ hns₁ hk0 hcc=>?_)
 dsimp only at hns₁ hk0 hcc ⊢
 have hC:(s₂.heap.push { cls:=.type "list",dict:=none,data:=.seq ([]:List Value).toArray }).objs.size = s₂.heap.objs.size + 1:=Heap.size_push ..
 rw [hC] at hns₁ hcc ⊢
 have hk:∀ b o,(s₂.heap.push { cls:=.type "list",dict:=none,data:=.seq ([]:List Value).toArray }).get? b = some o -> h₁.get? b = some o:=hk0
 have hfp:∀ b ∈ fp,b < s₂.heap.objs.size:=fun b hb=>by
  obtain ⟨o,e,_⟩:=T.obj _ _ st b hb
  exact Heap.lt_size e
 have I0:=sR (tk:=s₂.toks) I S hcl1 hcl2 hcc f2 hfp hns₁ hk
 have hD0:h₁.get? s₂.heap.objs.size = some { cls:=.type "list",data:=.seq ([]:List Value).toArray 0 }:=hk _ _ (Heap.get?_push_size _ rfl)
 have hcl3:∀ x c,(cellsFrom (s₂.heap.objs.size + 2) scope.names [] ++ cl).lookup x = some c -> X.env.cells.lookup x = some c \/ (s₂.heap.objs.size <= c /\ s₂.heap.objs.size ≠ c):=fun x c e=>by
  rcases xt e with e | ⟨_,e⟩
  ·have z:=(hcc.empty x c (PySem.mem_of_lookup e)).2
   exact .inr ⟨Nat.le_trans (Nat.le_add_right _ 2) z,Nat.ne_of_lt (Nat.lt_of_lt_of_le (Nat.lt_succ_of_lt (Nat.lt_succ_self _)) z)⟩
  ·exact .inl (hcl1 x c e)
 have loop:codeAny (model X.prog X.w) X.A (.compLoop (.ListComp elt [⟨tg,iter,ifs,0⟩] scope pos) 0 (.ref it) (.ref s₂.heap.objs.size) (compEnvC scope (cellsFrom (s₂.heap.objs.size + 2) scope.names [] ++ cl) (s₂.heap.objs.size + 1) X.env)) (RR (.ref s₂.heap.objs.size) (s₂.heap.objs.size + 1)) { s₂ with heap:=h₁,toks:=s₂.toks } :=
  ZH (s₀:={ s₂ with heap:=s₂.heap.push { cls:=.type "list",dict:=none,data:=.seq ([]:List Value).toArray } }) (C:=s₂.heap.objs.size + 1) (D:=s₂.heap.objs.size) I hcalm T f2 hfp (fun b o e=>Heap.get?_push_of_some _ e) rfl (Nat.le_refl _) (Nat.le_succ _) (Nat.ne_of_lt (Nat.lt_succ_self _)) hcl3 (hg _ _ _ _ _ _) (ht _ _ _ _ _ _) (he _ _ _ _ _ _) turn hRR m0 _
   ⟨0,[],[],0,capt sub σ,H2,I0,T.keep _ _ _ st fun b hb o e=>hk b o (Heap.get?_push_of_some _ e),fun b hb=>(f2 b hb).1,I.hok.fresh (Nat.le_refl _),hD0,.nil,Nat.zero_le _,w0⟩
 exact codeAny_compStart_list loop (T.self _ _ _ _ _ (T.keep _ _ _ st fun b hb o e=>hk b o (Heap.get?_push_of_some _ e)) loop)
end
section
variable {X:Cx} {scope:Scope} {N':List Str} {sub:List (Option Nat)} {tg:Expr} {pos:Pos} {elt iter:Expr} {ifs:List Expr} {wi:TI} {g:TG} {tt:TT} {te:TE}
theorem CScC.clos {pins:List (Addr × Obj)} {σ:L2.St} {H:Hp} {s:Shared} (S:CScC X scope N' sub) (I:Inv X pins σ H s):∃ cl,closureFor scope X.env = pure cl /\ (∀ x c,cl.lookup x = some c -> X.env.cells.lookup x = some c) /\ ∀ y ∈ scope.names,y.2 = .free -> ∃ c,cl.lookup y.1 = some c :=
 v6 fun y hy hf=>I.ok.has y.1 (.inl (S.free y hy hf))
theorem qv (S:CScC X scope N' sub) (hcalm:X.calm = true) (hi:PI X tg iter wi)
  (hg:∀ cl C D fp s H,PG (cxO X N' scope cl C D fp s H) tg g) (ht:∀ cl C D fp s H,PIfs (cxO X N' scope cl C D fp s H) ifs tt) (he:∀ cl C D fp s H,PE (cxO X N' scope cl C D fp s H) elt te)
  (hs:∀ x,foldedSetIterable iter X.env x = pure x:=by intro _; rfl):PE X (.ListComp elt [⟨tg,iter,ifs,0⟩] scope pos) (X9 wi sub g tt te):=by
 intro pins s σ H Q I h
 obtain ⟨cl,hclos,hcl1,hcl2⟩:=S.clos I
 rw [eval_ListComp]
 refine wpAny_comprehension_free (use:=none) rfl hs hclos S.kind S.names (thn (hi pins s σ H _ I h) fun v s1 h1=>thn h1 fun itv s2 h2=>?_)
 obtain ⟨it,fp,tn,J,H2,e,I2,T,st2,f2,hW⟩:=h2
 subst e
 refine sS (RR:=fun acc C=>compPost (model X.prog X.w) X.A X.xe none (EP X pins σ Q) acc C) I2 hcalm T st2 f2 S hcl1 hcl2 hg ht he hW ?_
 intro D C oC m s' Hf IX hm fpc q
 refine ⟨m,hm,fun h' sb=>⟨.ref D,Hf,?_,rfl,q⟩⟩
 exact (IX.unpinned).turned (it:=C) (t':=s'.toks) (h':=h') (fun b o hb e=>sb.extBut b o hb e) fpc.1 fpc.2.1 fpc.2.2.2.1 fpc.2.2.2.2.1 fpc.2.2.2.2.2
end
theorem CScC.of {X:Cx} {scope:Scope} {N':List Str} {sub:List (Option Nat)} (sc:Scope) (NN:List Str) (e:X.env.scope = sc) (en:X.N = NN)
  (h:((scope.names.all fun y=>(y.2 != .free || sc.names.lookup y.1 == some .cell) && (y.2 != .local || scope.names.lookup y.1 == some .local)) && (sub.length == N'.length) &&
   ((N'.zip sub).all fun p=>match p.2 with | none=>true | some i=>NN[i]? == some p.1 && sc.names.lookup p.1 == some .cell && scope.names.lookup p.1 == some .free)) = true)
  (nd:(scope.names.map (·.1)).Nodup) (hk:scope.kind = .function):CScC X scope N' sub:=by
 rw [Bool.and_eq_true,Bool.and_eq_true] at h
 obtain ⟨⟨h1,h2⟩,h3⟩:=h
 have k1:=fun y hy=>List.all_eq_true.mp h1 y hy
 refine ⟨fun y hy hf=>?_,nd,hk,fun y hy hl=>?_,by simpa using h2,fun j y i hj hs=>?_⟩
 ·have:=k1 y hy
  simp only [hf,Bool.and_eq_true] at this
  have z:=this.1
  show X.env.scope.names.lookup y.1 = _
  rw [e]; simpa using z
 ·have:=k1 y hy
  simp only [hl,Bool.and_eq_true] at this
  simpa using this.2
 ·have hm:(y,some i) ∈ N'.zip sub:=by
   have:(N'.zip sub)[j]? = some (y,some i):=by
    rw [List.getElem?_zip_eq_some]; exact ⟨hj,hs⟩
   exact List.mem_of_getElem? this
  have:=List.all_eq_true.mp h3 _ hm
  simp only [Bool.and_eq_true,beq_iff_eq] at this
  rw [e,en]
  exact ⟨this.1.1,this.1.2,this.2⟩
theorem sT {scope:Scope} {env:Env} {y:Str} (h:scope.names.lookup y = some .cell):(relabel scope env).names.lookup y = some .cell:=by
 have key:∀ l:List (Str × NameKind),l.lookup y = some .cell -> (l.map fun (n,k)=>if (k == NameKind.free && env.scope.kind == .function && env.kindOf n == some .cell) then (n,NameKind.cell) else (n,k)).lookup y = some .cell:=by
  intro l
  induction l with
  | nil=>intro h; cases h
  | cons p r ih =>
   obtain ⟨n,k0⟩:=p
   intro h
   rw [List.map_cons]
   rw [List.lookup_cons] at h
   dsimp only
   cases hx:y == n with
   | true =>
    rw [hx] at h
    cases h
    rw [if_neg (by simp),List.lookup_cons,hx]
   | false =>
    rw [hx] at h
    by_cases hc2:(k0 == NameKind.free && env.scope.kind == .function && env.kindOf n == some .cell) = true
    ·rw [if_pos hc2,List.lookup_cons,hx]; exact ih h
    ·rw [if_neg hc2,List.lookup_cons,hx]; exact ih h
 exact key scope.names h
theorem CSc.nestO {X0:Cx} {scope scope2:Scope} {N' N2:List Str} {sub sub2:List (Option Nat)} {cl:List (Str × Addr)} {C D:Addr} {fp:List Addr} {s:Shared} {H:Hp} (S:CScC X0 scope N' sub) (hk0:X0.env.scope.kind = .function)
  (h:((scope2.names.all fun y=>(y.2 != .free || (scope.names.lookup y.1 == some .free || scope.names.lookup y.1 == some .cell)) && (y.2 != .cell) && (y.2 != .local || scope2.names.lookup y.1 == some .local)) && (sub2.length == N2.length) &&
   ((N2.zip sub2).all fun p=>match p.2 with | none=>true | some i=>N'[i]? == some p.1 && (scope.names.lookup p.1 == some .free || scope.names.lookup p.1 == some .cell) && scope2.names.lookup p.1 == some .free)) = true)
  (hk:scope2.kind = .function):CSc (cxO X0 N' scope cl C D fp s H) scope2 N2 sub2:=by
 rw [Bool.and_eq_true,Bool.and_eq_true] at h
 obtain ⟨⟨h1,h2⟩,h3⟩:=h
 have k1:=fun y hy=>List.all_eq_true.mp h1 y hy
 have cellOf:∀ y:Str,(scope.names.lookup y = some .free \/ scope.names.lookup y = some .cell) -> (relabel scope X0.env).names.lookup y = some .cell:=fun y hy=>by
  rcases hy with hy | hy
  ·exact yM hk0 (S.free (y,.free) (PySem.mem_of_lookup hy) rfl) hy
  ·exact sT hy
 refine ⟨fun y hy hf=>?_,fun y hy hc=>?_,hk,fun y hy hl=>?_,by simpa using h2,fun j y i hj hs=>?_⟩
 ·have:=k1 y hy
  simp only [hf,Bool.and_eq_true] at this
  have z:=this.1.1
  exact cellOf y.1 (by simpa using z)
 ·have:=k1 y hy
  simp only [hc,Bool.and_eq_true] at this
  simp at this
 ·have:=k1 y hy
  simp only [hl,Bool.and_eq_true] at this
  simpa using this.2
 ·have hm:(y,some i) ∈ N2.zip sub2:=by
   have:(N2.zip sub2)[j]? = some (y,some i):=by
    rw [List.getElem?_zip_eq_some]; exact ⟨hj,hs⟩
   exact List.mem_of_getElem? this
  have:=List.all_eq_true.mp h3 _ hm
  simp only [Bool.and_eq_true,Bool.or_eq_true,beq_iff_eq] at this
  exact ⟨this.1.1,cellOf y this.1.2,this.2⟩
theorem Vi.at {ds:List Deed} (h:Vi ds) {i:Nat} (hi:i < ds.length):(ds.getD i look).Ok:=h _ (List.mem_of_getElem? (Ua hi))
structure MixOk (m:List Nat):Prop where
 nd:m.Nodup
 lt:∀ j ∈ m,j < m.length
 has:∀ j,j < m.length -> j ∈ m
theorem MixOk.of {m:List Nat} {n:Nat} (h:m.Perm (List.range n)):MixOk m /\ m.length = n:=by
 have hl:m.length = n:=by rw [h.length_eq,List.length_range]
 refine ⟨⟨(h.nodup_iff).mpr List.nodup_range,fun j hj=>?_,fun j hj=>?_⟩,hl⟩
 ·rw [hl]; exact List.mem_range.mp (h.mem_iff.mp hj)
 ·exact h.mem_iff.mpr (List.mem_range.mpr (by omega))
theorem MixOk.at {m:List Nat} (h:MixOk m) {j:Nat} (hj:j < m.length):m.idxOf j < m.length /\ m.getD (m.idxOf j) 0 = j:=by
 have hl:=List.idxOf_lt_length_of_mem (h.has j hj)
 refine ⟨hl,?_⟩
 rw [List.getD_eq_getElem?_getD,List.getElem?_eq_getElem hl]
 exact List.getElem_idxOf hl
section
variable {X:Cx} {K:FG7}
theorem ZJ:MtM X "list.insert" (fun x vs H Q=>∃ (l:Addr) (xs:List V) (i:Nat) (y:V),x = .ref l /\ vs = [.int i,y] /\ H l = some (.lst xs) /\ i <= xs.length /\ xs.length < sizeLine /\ Q .non (upd H l (.lst (xs.take i ++ [y] ++ xs.drop i)))):=by
 intro pins s σ H x vs v us Q I rx rv h
 obtain ⟨l,xs,i,y,rfl,rfl,hH,hi,hz,q⟩:=h
 cases rx
 obtain ⟨u,u2,rfl,⟨t,rfl⟩,ru⟩:=qZ rv
 obtain ⟨z,its,n,r,hl,e⟩:=I.lstM hH
 have hn:=uV
 have sz:its.toArray.size <= sizeLine:=by rw [List.size_toArray]; omega
 have key:∀ (x:Int),x = (i:Int) -> wpAny (model X.prog X.w) X.A (call (.builtin "list.insert") (.ref l :: [.int x t,u2])) (EP X pins σ Q) X.xe s:=by
  intro x hx
  have hfit:¬ (!Builtin.List.listFitsIndex x) = true:=by
   unfold Builtin.List.listFitsIndex
   simp only [Bool.not_eq_true',Bool.not_eq_false,Bool.and_eq_true,decide_eq_true_eq]
   omega
  refine call_meets F.slot_list_insert ⟨_,e,rfl⟩ F.entry_list_insert (F.args_list_insert_3 _ _ _) (PySem.AutoListH.list_insert_list_int_val_1 l its.toArray n x t u2 hfit sz) ⟨e,?_⟩
  refine ⟨.non,_,I.lset (its':=its.take i ++ [u2] ++ its.drop i) hH e ?_ ?_ ?_,rfl,q⟩
  ·rw [if_neg (by omega),hx,Int.toNat_natCast,List.size_toArray,Nat.min_eq_left (by omega)]
   apply Array.ext'
   simp [List.take_of_length_le]
  ·exact ((r.take i).append (.cons ru .nil)).append (r.drop i)
  ·rw [List.length_append,List.length_append,List.length_take,List.length_drop,List.length_singleton]
   omega
 exact key _ rfl
end
theorem Vt {X:Cx} {K:FG7} {T:String} {name:Str} {id:String} {r:V -> List V -> Hp -> VK -> Prop} {o e:Expr} {es:List Expr} {to:TE} {t:TA} {apos cpos:Pos} (hK:X.K = K) (pa:PlainAttrs T) (slot:Slot T name id) (hty:typeOf (.builtin id) = pure (.type "method_descriptor")) (hm:MtR X id r) (ho:PE X o to) (ha:PA X (e :: es) t)
  (hbase:attributeBase o name X.env (eval o X.env) = eval o X.env:=by rfl)
  (hfew:((backTo cpos (starEach (e :: es) X.env)).all (fun x=>!x.1) && (backToKw cpos (keywordEach [] X.env)).all (fun x=>x.1.isSome)
   && decide ((e :: es).length + ([]:List Keyword).length + (if ([]:List Keyword).isEmpty then 0 else 1) < 30)) = true:=by rfl)
  (hline:(apos.endLine == cpos.line) = true:=by rfl) (hs:starEach (e :: es) X.env = (false,eval e X.env) :: starEach es X.env:=by rfl) (hplain:(backTo cpos (starEach es X.env)).any (·.1) = false:=by rfl) :
  PE X (.Call (.Attribute o name apos) (e :: es) [] cpos) (tBM K T r to t):=by
 subst hK
 exact sI pa slot hty hm ho ha hbase hfew hline hs hplain
structure WkD (prog:Program) (w:World) (A:Around) (T:String) (I:Addr) (n:Nat) (Fr:Addr -> Prop) (J:List Value -> Shared -> Prop) (Fn:List Value -> Shared -> Prop):Prop where
 ty:∀ acc s,J acc s -> s.TypeIs (.ref I) T
 self:∀ acc s (Q:VS7) (E:VS7),J acc s -> Q (.ref I) s -> wpAny (model prog w) A (pyIter (.ref I)) Q E s
 stay:∀ acc s (S:Addr) (ob:Obj) (h':Heap),J acc s -> Fr S -> s.heap.get? S = some ob -> (ob.cls = .type "list" /\ ∀ v,ob.data ≠ .cell v) -> (∀ b o,b ≠ S -> s.heap.get? b = some o -> h'.get? b = some o) -> h'.objs.size = s.heap.objs.size -> J acc { s with heap:=h' }
 next:∀ acc s (S:Addr) (ob:Obj) (Q:Option Value -> Shared -> Prop) (E:VS7),J acc s -> Fr S -> s.heap.get? S = some ob -> (ob.cls = .type "list" /\ ∀ v,ob.data ≠ .cell v) →
  (∀ v s',acc.length < n -> J (acc ++ [v]) s' -> s'.heap.get? S = some ob -> Q (some v) s') -> (∀ s',Fn acc s' -> s'.heap.get? S = some ob -> Q none s') -> wpAny (model prog w) A (pyNext (.ref I)) Q E s
 push:∀ acc s (o:Obj),J acc s -> J acc { s with heap:=s.heap.push o }
section
variable {X:Cx} {K:FG7} {a b:Expr} {ta:TA} {p p2 pos pos2:Pos}
theorem SqC.grow {c:Bool} {H H':Hp} {a:Addr} {xs:List V} (g:Grow [] H H') (h:SqC c K H a xs):SqC c K H' a xs:=by
 cases c
 ·exact g.sqL h
 ·exact g.sqT h
end
open PySem PySem.Spec PyProof.Rows L2 HT
def sU (P:Program) (w:World) (K:FG7) (mg:Str -> Option Value) (base:Heap) (C:Addr) (k:Nat) (m:Str) (ps:List Str) (sp:Sp):Prop :=
 ∃ (f:Addr) (fd:FuncData),FnOk P w K mg base CX0 k f fd ps sp /\ wZ K fd ps [] /\ Meth K C m f
def uA (P:Program) (w:World) (K:FG7) (mg:Str -> Option Value) (base:Heap) (C:Addr) (k:Nat) (ps:List Str) (sp:Sp):Prop :=
 ∃ (j:Nat) (f:Addr) (fd:FuncData),j + 1 = k /\ FnOk P w K mg base CX0 j f fd ps sp /\ wZ K fd ps [] /\ Mk K C f
section
variable {P:Program} {w:World} {K:FG7} {mg:Str -> Option Value} {base:Heap} {C:Addr} {j k:Nat} {m:Str} {ps:List Str} {sp:Sp}
theorem sU.mono (c:sU P w K mg base C j m ps sp) (h:j <= k):sU P w K mg base C k m ps sp:=by
 obtain ⟨f,fd,F,b,mt⟩:=c
 exact ⟨f,fd,F.mono h,b,mt⟩
theorem uA.mono (c:uA P w K mg base C j ps sp) (h:j <= k):uA P w K mg base C k ps sp:=by
 obtain ⟨i,f,fd,e,F,b,mt⟩:=c
 exact ⟨k - 1,f,fd,by omega,F.mono (by omega),b,mt⟩
end
structure CTxt (K:FG7) (mg:Str -> Option Value) (C:Addr):Prop where
 cl:Cls K C
 n1:wY K C "depth"
 n2:wY K C "gates"
 n3:wY K C "out_lines"
 n4:wY K C "ups"
 n5:wY K C "tokens"
 n6:wY K C "came_out"
 n7:wY K C "given"
 mgC:mg "Counter" = some (.ref C)
section
variable {X:Cx} {K:FG7}
def FrT (H:Hp) (r:Addr) (xs:List V):Prop:=∃ o:Obj,H r = some (.frz o (.tup xs)) /\ o.cls = .type "tuple" /\ o.dict = none
theorem FrT.sqT {H:Hp} {r:Addr} {xs:List V} (h:FrT H r xs):SqT K H r xs:=by
 obtain ⟨o,e,_⟩:=h
 exact .inl (.inr ⟨o,e⟩)
end
def Trc (h:Heap) (e T:Addr) (cls:Value):Prop :=
 ∃ oe vs oT ts,h.get? e = some oe /\ oe.cls = cls /\ oe.data = .fields vs /\ vs[1]? = some (.ref T) /\ T ≠ e /\ h.get? T = some oT /\ oT.data = .fields ts /\ ts[3]? = some .none /\ vs[2]? = some .none
structure Lft (fr:List Addr) (e T0 T:Addr) (cls:Value) (h h':Heap):Prop where
 keep:∀ b o,b ∉ fr -> b ≠ e -> b ≠ T0 -> h.get? b = some o -> h'.get? b = some o
 slot:∀ b o,b ∈ fr -> b ≠ e -> b ≠ T0 -> h.get? b = some o -> ∃ sl,h'.get? b = some { o with slots:=sl }
 new:h.get? T = none
 trc:Trc h' e T cls
def CX1 (P:Program) (w:World):CXT:=fun outer H s E e s'=>∃ (a T C:Addr) (H':Hp),e = .ref a /\ s'.os = s.os /\ AllBare s'.gens /\ Un (frs outer) [] H H' s.heap s'.heap /\ HOk P w H' s'.heap ∧
 Trc s'.heap a T (.ref C) /\ H' a = none /\ H' T = none /\ s.heap.get? a = none /\ s.heap.get? T = none /\ E e (some C) H'
theorem zK.at {P:Program} {w:World} {H:Hp} {h:Heap} {a:Addr} {o:HO} (x:zK P w H h a o):∃ ob,h.get? a = some ob:=by
 induction o with
 | lst xs=>obtain ⟨z,its,n,r,e⟩:=x; exact ⟨_,e⟩
 | tup xs=>obtain ⟨z,its,r,ob,e,c⟩:=x; exact ⟨_,e⟩
 | dK kvs=>obtain ⟨z,y,vs,r,ob,es,ep,e,c⟩:=x; exact ⟨_,e⟩
 | dT kvs=>obtain ⟨z,y,xs,r,ob,es,ep,e,c⟩:=x; exact ⟨_,e⟩
 | set S n=>obtain ⟨ob,es,ep,t,e,c⟩:=x; exact ⟨_,e⟩
 | ins C dx fs=>obtain ⟨d,z,ne,e,_⟩:=x; exact ⟨_,e⟩
 | own y=>exact x
 | xd fs=>obtain ⟨mA,⟨od,es,ep,e,c⟩,r⟩:=x; exact ⟨_,e⟩
 | rng lo hi=>obtain ⟨t,u,v,e⟩:=x; exact ⟨_,e⟩
 | frz ob u ih=>exact ⟨_,x.1⟩
 | tbl ps=>exact ⟨_,x⟩
 | met f y=>exact ⟨_,x⟩
 | ext φ=>exact x.2.1
section
variable {P:Program} {w:World} {K:FG7} {mg:Str -> Option Value} {base:Heap} {N:List Str} {qual:Str} {scope:Scope} {f:Addr} {cd:Value} {A:Around} {outer:List Env} {s0:Shared} {H0:Hp} {E:XK}
 {pins:List (Addr × Obj)} {σ:L2.St} {H:Hp} {s:Shared}
end
abbrev veM:List Value:=[.type "ValueError",.type "Exception",.type "BaseException",.type "object"]
def ExcC (K:FG7) (mg:Str -> Option Value) (x:Str) (C:Addr):Prop:=∀ h:Heap,K.In h -> OwnCls x C veM "ValueError.__new__" mg h
structure ApX (X:Cx) (pins:List (Addr × Obj)) (H:Hp) (a T:Addr):Prop where
 s0:∀ b o,X.s₀.heap.get? b = some o -> b ≠ a /\ b ≠ T
 loc:X.env.locals ≠ a /\ X.env.locals ≠ T
 cel:∀ x c,X.env.cells.lookup x = some c -> c ≠ a /\ c ≠ T
 pin:∀ p ∈ X.pn ++ pins,p.1 ≠ a /\ p.1 ≠ T
 ha:H a = none
 hT:H T = none
theorem ApX.of {X:Cx} {pins:List (Addr × Obj)} {σ:L2.St} {H H':Hp} {s:Shared} {a T:Addr} (I:Inv X pins σ H s) (hx:X.ex = []) (na:s.heap.get? a = none) (nT:s.heap.get? T = none) (ha:H' a = none) (hT:H' T = none):ApX X pins H' a T:=by
 have ne:∀ b o,s.heap.get? b = some o -> b ≠ a /\ b ≠ T:=fun b o hb=>⟨fun z=>(by rw [z,na] at hb; cases hb),fun z=>(by rw [z,nT] at hb; cases hb)⟩
 refine ⟨fun b o hb=>?_,?_,fun x c hc=>?_,fun p hp=>ne _ _ (I.pin p hp).1,ha,hT⟩
 ·obtain ⟨o',h1⟩:=I.base.there b o hb (by rw [hx]; simp)
  exact ne b o' h1
 ·obtain ⟨m,⟨o,es,ep,ho,_⟩,_⟩:=I.loc
  exact ne _ _ ho
 ·obtain ⟨v,hv⟩:=I.cell x c hc
  obtain ⟨o,ho,_⟩:=hv
  exact ne _ _ ho
theorem Inv.leftK {X:Cx} {pins:List (Addr × Obj)} {σ:L2.St} {H:Hp} {s:Shared} {a T0:Addr} {h2:Heap} (I:Inv X pins σ H s) (hx:X.ex = []) (ap:ApX X pins H a T0)
  (lk:∀ b o,b ∉ frs X.stack -> b ≠ a -> b ≠ T0 -> s.heap.get? b = some o -> h2.get? b = some o) (ls:∀ b o,b ∈ frs X.stack -> b ≠ a -> b ≠ T0 -> s.heap.get? b = some o -> ∃ sl,h2.get? b = some { o with slots:=sl }):Inv X pins σ H { s with heap:=h2 }:=by
 have stk:∀ b,b ∈ frs X.stack -> b = X.env.locals \/ b ∈ X.fs:=fun b hb=>List.mem_cons.mp (I.stkSub b hb)
 have any:∀ b o,b ≠ a -> b ≠ T0 -> s.heap.get? b = some o -> ∃ sl,h2.get? b = some { o with slots:=sl }:=fun b o n1 n2 ho=>by
  by_cases z:b ∈ frs X.stack
  ·exact ls b o z n1 n2 ho
  ·exact ⟨o.slots,lk b o z n1 n2 ho⟩
 have cellK:∀ x c,X.env.cells.lookup x = some c -> ∀ v,s.heap.IsCell c v -> h2.IsCell c v:=fun x c e v ⟨o,ho,hd⟩=>by
  obtain ⟨n1,n2⟩:=ap.cel x c e
  obtain ⟨sl,h1⟩:=any c o n1 n2 ho
  exact ⟨_,h1,hd⟩
 refine ⟨I.ok,I.os,I.bare,⟨fun b o hb hn hf hx'=>?_,fun b o hb hn hf hx'=>?_,I.base.free,fun b o hb hx'=>?_,I.base.tups,I.base.frzs,I.base.tbls⟩,?_,fun x c hc=>?_,I.free,I.freeC,fun p hp=>?_,fun b u q=>?_,I.len⟩
 ·obtain ⟨n1,n2⟩:=ap.s0 b o hb
  refine lk b o (fun z=>?_) n1 n2 (I.base.keep b o hb hn hf hx')
  rcases stk b z with z | z
  ·exact absurd (Nat.lt_of_lt_of_le (Heap.lt_size hb) I.ok.above) (by rw [z]; exact Nat.lt_irrefl _)
  ·exact hf z
 ·obtain ⟨n1,n2⟩:=ap.s0 b o hb
  obtain ⟨sl,h1⟩:=I.base.slot b o hb hn hf hx'
  obtain ⟨sl',h3⟩:=any b _ n1 n2 h1
  exact ⟨sl',h3⟩
 ·obtain ⟨n1,n2⟩:=ap.s0 b o hb
  obtain ⟨o',h1⟩:=I.base.there b o hb hx'
  obtain ⟨sl,h3⟩:=any b o' n1 n2 h1
  exact ⟨_,h3⟩
 ·obtain ⟨m,⟨o,es,ep,ho,r⟩,hl⟩:=I.loc
  obtain ⟨sl,h1⟩:=any _ o ap.loc.1 ap.loc.2 ho
  refine ⟨m,⟨_,es,ep,h1,r⟩,fun i x v e1 e2 e3=>?_⟩
  obtain ⟨u,ru,lk⟩:=hl i x v e1 e2 e3
  refine ⟨u,ru,?_⟩
  rcases lk with lk | ⟨k1,c,k2,k3⟩
  ·exact .inl lk
  ·exact .inr ⟨k1,c,k2,cellK x c k2 _ k3⟩
 ·obtain ⟨v,hv⟩:=I.cell x c hc
  exact ⟨v,cellK x c hc v hv⟩
 ·obtain ⟨p1,p2,p3,p4,p5⟩:=I.pin p hp
  obtain ⟨n1,n2⟩:=ap.pin p hp
  refine ⟨lk _ _ (fun z=>?_) n1 n2 p1,p2,p3,p4,p5⟩
  rcases stk _ z with z | z
  ·exact p3 z
  ·exact p4 z
 ·refine (I.hok b u q).stay (fun c v hc r=>?_) (fun _ r=>r) fun _ _ r=>r
  have hn:H c ≠ none:=by
   rcases hc with rfl | hc
   ·rw [q]; exact fun z=>nomatch z
   ·rw [hc]; exact fun z=>nomatch z
  exact lk c v (fun z=>hn (I.stkFree c z)) (fun z=>hn (by rw [z]; exact ap.ha)) (fun z=>hn (by rw [z]; exact ap.hT)) r
theorem Inv.left {X:Cx} {pins:List (Addr × Obj)} {σ:L2.St} {H:Hp} {s:Shared} {a T0 T:Addr} {cls:Value} {h2:Heap} (I:Inv X pins σ H s) (hx:X.ex = []) (ap:ApX X pins H a T0)
  (l:Lft (frs X.stack) a T0 T cls s.heap h2):Inv X pins σ H { s with heap:=h2 }:=Inv.leftK I hx ap l.keep l.slot
open PySem.W in
/-- an exception class as the text's constants show it -/
theorem excC_of {K:FG7} {mg:Str -> Option Value} {x:Str} {C:Addr} (b:mg x = some (.ref C)) (q:PySem.W.excIn K C veM "ValueError.__new__" = true):ExcC K mg x C:=by
 intro h X
 refine ⟨b,?_⟩
 unfold PySem.W.excIn at q
 cases ho:K.lookup C with
 | none=>rw [ho] at q; cases q
 | some ob =>
  rw [ho] at q
  obtain ⟨oc,od,oda,osl⟩:=ob
  split at q
  ·rename_i dd cd sl e
   obtain ⟨rfl,rfl,rfl,rfl⟩:=Obj.mk.inj (Option.some.inj e)
   split at q
   ·rename_i C' bm k0 k1 k2 k3 n k5 hm hs
    simp only [Bool.and_eq_true,beq_iff_eq,Bool.not_eq_true'] at q
    obtain ⟨⟨⟨⟨⟨rfl,rfl⟩,hdel⟩,ht⟩,hok⟩,hni⟩:=q
    obtain ⟨nm,bs,mro,ns,qn,hd,sn,sub,ab,col,del⟩:=cd
    dsimp only at hm hdel hok hni
    subst hm hdel
    obtain ⟨l⟩:=osl
    have hl:l = [k0,k1,k2,k3,some (.builtin "ValueError.__new__"),k5]:=hs
    subst hl
    exact ⟨bm,ns,nm,qn,bs,hd,sn,sub,ab,col,od,k0,k1,k2,k3,k5,_,X _ _ ho,.of_isNs (PySem.W.isNs_of_in X hok),PySem.W.nsMap_none_of_in X hok hni,PySem.W.tail_of_in X ht⟩
   ·cases q
  ·cases q
def uB (P:Program) (w:World) (K:FG7) (mg:Str -> Option Value) (base:Heap) (C:Addr) (k:Nat) (m:Str) (ps:List Str) (sp:Sp):Prop :=
 ∃ (f:Addr) (fd:FuncData),FnOk P w K mg base (CX1 P w) k f fd ps sp /\ wZ K fd ps [] /\ Meth K C m f
def sV (P:Program) (w:World) (K:FG7) (mg:Str -> Option Value) (base:Heap) (k:Nat) (x:Str) (ps:List Str) (sp:Sp):Prop :=
 ∃ (f:Addr) (fd:FuncData),FnOk P w K mg base (CX1 P w) k f fd ps sp /\ wZ K fd ps [] /\ PySem.W.keepIn K (.ref f) = true /\ mg x = some (.ref f)
section
variable {P:Program} {w:World} {K:FG7} {mg:Str -> Option Value} {base:Heap} {C:Addr} {j k:Nat} {m x:Str} {ps:List Str} {sp:Sp}
theorem uB.mono (c:uB P w K mg base C j m ps sp) (h:j <= k):uB P w K mg base C k m ps sp:=by
 obtain ⟨f,fd,F,b,mt⟩:=c
 exact ⟨f,fd,F.mono h,b,mt⟩
theorem sV.mono (c:sV P w K mg base j x ps sp) (h:j <= k):sV P w K mg base k x ps sp:=by
 obtain ⟨f,fd,F,b,mt⟩:=c
 exact ⟨f,fd,F.mono h,b,mt⟩
end
open PySem PySem.Spec PyProof.Rows L2 PySem.W
open PySem.Builtin PySem.Builtin.ObjectAttr PySem.Builtin.Getset_descriptor in
theorem exc_class_get {prog:Program} {w:World} {A:Around} {s:Shared} {K:FG7} {a C:Addr} {o:Obj} {R:Result -> Shared -> Prop} {tp:Value} (X:K.In s.heap) (hx:s.heap.get? a = some o) (hc:o.cls = .ref C) (hm:PySem.W.mroIn K C (.type "object") = some true)
  (h:R (.ok (.ret (.ref C))) s):codeAny (model prog w) A (.call (.builtin "getset_descriptor.__get__") ⟨[.builtin "object.__class__",.ref a,tp],[]⟩) R s:=by
 obtain ⟨hh,g,dr,t,os⟩:=s
 have L0:Looks (model prog w) hh (typeOf (.ref a)) (.ref C):=hc ▸ (Looks.ld hx).andThen .now
 have L1:=looks_mroIn (M:=model prog w) X hm
 refine codeAny_call_builtin KF.slot_gs.plain KF.entry_gs (KF.slot_gs.check _ _ _ _ _ _ _ _ KF.type_class (KF.args_gs _ _ _) ?_)
 unfold Builtin.«getset_descriptor.__get__» descrGet
 rw [dga_obj]
 refine wpAny_bind (wpAny_pure ?_)
 unfold descrGetter descrCheckInstance descrNameAndClass isInstance
 simp only [KF.owner_class]
 repeat lk
 refine ⟨Code.quiet_builtin _ (by decide +kernel),codeAny_builtin KF.entry_class ?_⟩
 unfold Builtin.«object.__class__» shownTypeOf
 repeat lk
 exact h
section
variable {prog:Program} {w:World} {A:Around} {E:VS7} {K:FG7} {a C:Addr} {o:Obj} {h:Heap} {g:Array GenState} {d:Drawn} {t:Nat} {os:OsState}
theorem ZK {tk:Tok} {Q:PySem.Fin -> Shared -> Prop} (X:K.In h) (hx:h.get? a = some o) (hc:o.cls = .ref C) (ha:findIn K (.ref C) "__class__" = some (some (.builtin "object.__class__"))) (hm:PySem.W.mroIn K C (.type "object") = some true)
  (hq:Q (.done (.ret (.ref C))) ⟨h,g,d,t,os⟩):wpAny (model prog w) A (Builtin.«object.__getattribute__» ⟨[.ref a,.str "__class__" tk],[]⟩) Q E ⟨h,g,d,t,os⟩:=by
 have L0:Looks (model prog w) h (typeOf (.ref a)) (.ref C):=hc ▸ (Looks.ld hx).andThen .now
 have L1:=looks_findIn (M:=model prog w) X ha
 have f5:=PySem.F.typeOf_object_class
 have f6:=PySem.F.slot_gs_get.lookup
 have f7:=PySem.F.slot_gs_set.lookup
 repeat (any_goals (first | assumption | with_reducible refine L0.at ?_ | with_reducible refine L1.at ?_ | (with_reducible refine wpAny_loadPart_at hx ?_; rw [hc]) | wp_step))
 refine exc_class_get X hx hc hm ?_
 repeat (any_goals (first | assumption | wp_step))
end
structure ExcK (K:FG7) (C:Addr):Prop where
 ga:findIn K (.ref C) "__getattribute__" = some (some (.builtin "BaseException.__getattribute__"))
 gt:findIn K (.ref C) "__getattr__" = some none
 cl:findIn K (.ref C) "__class__" = some (some (.builtin "object.__class__"))
 ob:mroIn K C (.type "object") = some true
 be:mroIn K C (.type "BaseException") = some true
def ExO (a C:Addr):HO:=.ext fun h=>∃ o,h.get? a = some o /\ o.cls = .ref C /\ ∃ vs,o.data = .fields vs /\ vs[2]? = some .none
theorem ExO.cl {h:Heap} {a C:Addr} (p:∃ o,h.get? a = some o /\ o.cls = .ref C /\ ∃ vs,o.data = .fields vs /\ vs[2]? = some .none):∃ o,h.get? a = some o /\ o.cls = .ref C:=p.imp fun _ z=>⟨z.1,z.2.1⟩
end L3
namespace L2
open PySem PySem.Spec PyProof.Rows
end L2
namespace L2
open PySem PySem.Spec PyProof.Rows
end L2
namespace L2
open PySem PySem.Spec PyProof.Rows
end L2
namespace L2
open PySem PySem.Spec PyProof.Rows
end L2
namespace L2
open PySem PySem.Spec PyProof.Rows
end L2
namespace L2
open PySem PySem.Spec PyProof.Rows
end L2
namespace L2
open PySem PySem.Spec PyProof.Rows
section
variable {κ:Type} [DecidableEq κ]
def valV (kvs:List (κ × V)) (k:κ):Option V:=(kvs.find? fun kv=>decide (kv.1 = k)).map (·.2)
def putK (kvs:List (κ × V)) (k:κ) (v:V):List (κ × V) :=
 if (kvs.any fun kv=>decide (kv.1 = k)) = true then kvs.map (fun kv=>if kv.1 = k then (kv.1,v) else kv) else kvs ++ [(k,v)]
def Vu (kvs:List (κ × V)) (k:κ):List (κ × V):=kvs.filter fun kv=>decide (kv.1 ≠ k)
theorem zY {p:κ × V} {r:List (κ × V)} {k:κ} (e:p.1 = k):valV (p :: r) k = some p.2:=by simp [valV,List.find?_cons,e]
theorem zZ {p:κ × V} {r:List (κ × V)} {k:κ} (e:¬ p.1 = k):valV (p :: r) k = valV r k:=by simp [valV,List.find?_cons,e]
theorem yU (k:κ):∀ kvs:List (κ × V),(kvs.any fun kv=>decide (kv.1 = k)) = (valV kvs k).isSome
 | []=>rfl
 | p :: r=>by
  rw [List.any_cons]
  by_cases e:p.1 = k
  ·simp only [zY e,decide_eq_true e,Bool.true_or,Option.isSome_some]
  ·rw [zZ e,decide_eq_false e,Bool.false_or]; exact yU k r
theorem qw (k j:κ) (y:V):∀ kvs:List (κ × V),valV (kvs.map fun kv=>if kv.1 = k then (kv.1,y) else kv) j = (valV kvs j).map fun x=>if j = k then y else x
 | []=>rfl
 | p :: r=>by
  have ih:=qw k j y r
  rw [List.map_cons]
  by_cases h:p.1 = k
  ·rw [if_pos h]
   by_cases e:p.1 = j
   ·rw [zY (p:=(p.1,y)) e,zY e,Option.map_some,if_pos (e.symm.trans h)]
   ·rw [zZ (p:=(p.1,y)) e,zZ e,ih]
  ·rw [if_neg h]
   by_cases e:p.1 = j
   ·rw [zY (p:=p) e,zY e,Option.map_some,if_neg (fun z=>h (e.trans z))]
   ·rw [zZ (p:=p) e,zZ e,ih]
theorem tS (k j:κ) (y:V):∀ kvs:List (κ × V),valV kvs k = none -> valV (kvs ++ [(k,y)]) j = if j = k then some y else valV kvs j
 | [],_=>by
  by_cases e:k = j
  ·rw [if_pos e.symm]; exact zY (p:=(k,y)) e
  ·rw [if_neg (fun z=>e z.symm)]; exact zZ (p:=(k,y)) e
 | p :: r,hn=>by
  rw [List.cons_append]
  have hk:¬ p.1 = k:=fun z=>by rw [zY z] at hn; cases hn
  rw [zZ hk] at hn
  have ih:=tS k j y r hn
  by_cases e:p.1 = j
  ·rw [zY e,zY e,if_neg (fun z=>hk (e.trans z))]
  ·rw [zZ e,zZ e,ih]
theorem yy (kvs:List (κ × V)) (k j:κ) (y:V):valV (putK kvs k y) j = if j = k then some y else valV kvs j:=by
 unfold putK
 by_cases a:(kvs.any fun kv=>decide (kv.1 = k)) = true
 ·rw [if_pos a,qw]
  rw [yU] at a
  by_cases e:j = k
  ·obtain ⟨x,hx⟩:=Option.isSome_iff_exists.mp a
   rw [if_pos e,e,hx,Option.map_some,if_pos rfl]
  ·rw [if_neg e]
   cases valV kvs j with
   | none=>rfl
   | some x=>rw [Option.map_some,if_neg e]
 ·rw [if_neg a]
  refine tS k j y kvs ?_
  rw [yU] at a
  cases q:valV kvs k with
  | none=>rfl
  | some x=>rw [q] at a; exact (a rfl).elim
theorem zQ (kvs:List (κ × V)) (k:κ) (v:V):(putK kvs k v).length <= kvs.length + 1:=by
 unfold putK
 split
 ·rw [List.length_map]; omega
 ·rw [List.length_append,List.length_cons,List.length_nil]; omega
theorem qz {kvs:List (κ × V)} {k:κ} (v:V) (h:valV kvs k = none):putK kvs k v = kvs ++ [(k,v)]:=by
 unfold putK
 rw [yU,h]
 exact if_neg (by decide)
theorem RelO.isSome_eq {o:Option V} {u:Option Value} (r:RelO o u):o.isSome = u.isSome:=by
 cases o with
 | none=>cases u with
  | none=>rfl
  | some _=>exact (show False from r).elim
 | some _=>cases u with
  | none=>exact (show False from r).elim
  | some _=>rfl
theorem RelO.getD {o:Option V} {u:Option Value} {d:V} {d':Value} (r:RelO o u) (rd:RelV d d'):RelV (o.getD d) (u.getD d'):=by
 cases o with
 | none=>cases u with
  | none=>exact rd
  | some _=>exact (show False from r).elim
 | some _=>cases u with
  | none=>exact (show False from r).elim
  | some _=>exact r
theorem KV.val {kvs:List (κ × V)} {vs:List (κ × Value)} (r:KV kvs vs) (k:κ):RelO (valV kvs k) (valueAt vs k):=by
 unfold KV at r
 induction r with
 | nil=>exact True.intro
 | @cons p q ps qs h t ih =>
  obtain ⟨h1,h2⟩:=h
  by_cases e:p.1 = k
  ·have e':q.1 = k:=h1.symm.trans e
   have b:valueAt (q :: qs) k = some q.2:=by simp [valueAt,List.find?_cons,e']
   rw [zY e,b]; exact h2
  ·have e':¬ q.1 = k:=fun z=>e (h1.trans z)
   have b:valueAt (q :: qs) k = valueAt qs k:=by simp [valueAt,List.find?_cons,e']
   rw [zZ e,b]; exact ih
theorem KV.any {kvs:List (κ × V)} {vs:List (κ × Value)} (r:KV kvs vs) (k:κ):(kvs.any fun kv=>decide (kv.1 = k)) = vs.any fun kv=>decide (kv.1 = k):=by
 unfold KV at r
 induction r with
 | nil=>rfl
 | cons h t ih=>rw [List.any_cons,List.any_cons,ih,h.1]
theorem KV.repl {kvs:List (κ × V)} {vs:List (κ × Value)} (r:KV kvs vs) (k:κ) {y:V} {u:Value} (ry:RelV y u) :
  KV (kvs.map fun kv=>if kv.1 = k then (kv.1,y) else kv) (vs.map fun kv=>if kv.1 = k then (kv.1,u) else kv):=by
 unfold KV at r ⊢
 induction r with
 | nil=>exact .nil
 | @cons p q ps qs h t ih =>
  rw [List.map_cons,List.map_cons]
  refine .cons ?_ ih
  obtain ⟨h1,h2⟩:=h
  by_cases e:p.1 = k
  ·rw [if_pos e,if_pos (h1.symm.trans e)]; exact ⟨h1,ry⟩
  ·rw [if_neg e,if_neg (fun z=>e (h1.trans z))]; exact ⟨h1,h2⟩
theorem KV.put {kvs:List (κ × V)} {vs:List (κ × Value)} (r:KV kvs vs) (k:κ) {y:V} {u:Value} (ry:RelV y u):KV (putK kvs k y) (stored vs k u):=by
 unfold putK stored
 rw [r.any k]
 by_cases e:(vs.any fun kv=>decide (kv.1 = k)) = true
 ·rw [if_pos e,if_pos e]; exact r.repl k ry
 ·rw [if_neg e,if_neg e]; exact Paired.snoc r ⟨rfl,ry⟩
theorem KV.drop {kvs:List (κ × V)} {vs:List (κ × Value)} (r:KV kvs vs) (k:κ):KV (Vu kvs k) (without vs k):=by
 unfold KV at r ⊢
 unfold Vu without
 induction r with
 | nil=>exact .nil
 | @cons p q ps qs h t ih =>
  obtain ⟨h1,h2⟩:=h
  rw [List.filter_cons,List.filter_cons]
  by_cases e:p.1 = k
  ·have a:¬ decide (p.1 ≠ k) = true:=by simp [e]
   have b:¬ decide (q.1 ≠ k) = true:=by simp [h1.symm.trans e]
   rw [if_neg a,if_neg b]; exact ih
  ·have e':¬ q.1 = k:=fun z=>e (h1.trans z)
   have a:decide (p.1 ≠ k) = true:=by simp [e]
   have b:decide (q.1 ≠ k) = true:=by simp [e']
   rw [if_pos a,if_pos b]; exact .cons ⟨h1,h2⟩ ih
theorem KV.keys {kvs:List (κ × V)} {vs:List (κ × Value)} (r:KV kvs vs):kvs.map (·.1) = vs.map (·.1):=by
 unfold KV at r
 induction r with
 | nil=>rfl
 | cons h t ih=>rw [List.map_cons,List.map_cons,ih,h.1]
theorem KV.length {kvs:List (κ × V)} {vs:List (κ × Value)} (r:KV kvs vs):kvs.length = vs.length:=Paired.length r
end
theorem YW {P:Program} {w:World} {k:Key} {u:Value} (r:RelV (kV k) u):(zM P w).is k u = true:=by
 cases k with
 | inl i=>obtain ⟨t,e⟩:=(show ∃ t,u = Value.int i t from r); subst e; exact sD P w i t
 | inr x=>obtain ⟨t,e⟩:=(show ∃ t,u = Value.str x t from r); subst e; exact sE P w x t
theorem tT {P:Program} {w:World}:∀ {ks:List Key} {us:List Value},Vals (ks.map kV) us -> ItemsAre (zM P w) ks us
 | [],_,r=>by rw [List.map_nil] at r; cases r; exact .nil
 | k :: ks,_,r=>by
  rw [List.map_cons] at r
  cases r with
  | cons h t=>exact .cons (YW h) (tT t)
abbrev KT (H:Hp):List (List Key × V) -> List (List Key × Addr × Value) -> Prop:=Paired fun p q=>p.1 = q.1 /\ H q.2.1 = some (.tup (p.1.map kV)) /\ RelV p.2 q.2.2
theorem KT.val {H:Hp} {kvs:List (List Key × V)} {xs:List (List Key × Addr × Value)} (r:KT H kvs xs) (k:List Key):RelO (valV kvs k) ((atKey xs k).map (·.2)):=by
 induction r with
 | nil=>exact True.intro
 | @cons p q ps qs h t ih =>
  obtain ⟨h1,_,h2⟩:=h
  by_cases e:p.1 = k
  ·have e':q.1 = k:=h1.symm.trans e
   have b:atKey (q :: qs) k = some q.2:=by simp [atKey,List.find?_cons,e']
   rw [zY e,b]; exact h2
  ·have e':¬ q.1 = k:=fun z=>e (h1.trans z)
   have b:atKey (q :: qs) k = atKey qs k:=by simp [atKey,List.find?_cons,e']
   rw [zZ e,b]; exact ih
theorem KT.repl {H:Hp} {kvs:List (List Key × V)} {xs:List (List Key × Addr × Value)} (r:KT H kvs xs) (k:List Key) {y:V} {u:Value} (ry:RelV y u) :
  KT H (kvs.map fun kv=>if kv.1 = k then (kv.1,y) else kv) (xs.map (putAt k u)):=by
 induction r with
 | nil=>exact .nil
 | @cons p q ps qs h t ih =>
  rw [List.map_cons,List.map_cons]
  refine .cons ?_ ih
  obtain ⟨h1,h2,h3⟩:=h
  unfold putAt
  by_cases e:p.1 = k
  ·rw [if_pos e,if_pos (h1.symm.trans e)]; exact ⟨h1,h2,ry⟩
  ·rw [if_neg e,if_neg (fun z=>e (h1.trans z))]; exact ⟨h1,h2,h3⟩
theorem KT.put {H:Hp} {kvs:List (List Key × V)} {xs:List (List Key × Addr × Value)} (r:KT H kvs xs) (k:List Key) {b:Addr} {y:V} {u:Value} (hb:H b = some (.tup (k.map kV))) (ry:RelV y u) :
  KT H (putK kvs k y) (storedH xs k b u):=by
 have e:(kvs.any fun kv=>decide (kv.1 = k)) = (atKey xs k).isSome:=by
  rw [yU,(r.val k).isSome_eq,Option.isSome_map]
 unfold putK storedH
 rw [e]
 by_cases q:(atKey xs k).isSome = true
 ·rw [if_pos q,if_pos q]; exact r.repl k ry
 ·rw [if_neg q,if_neg q]; exact Paired.snoc r ⟨rfl,hb,ry⟩
theorem KT.keeps {H H':Hp} {kvs:List (List Key × V)} {xs:List (List Key × Addr × Value)} (r:KT H kvs xs) (ht:∀ b ys,H b = some (.tup ys) -> H' b = some (.tup ys)):KT H' kvs xs :=
 Paired.mapP r fun _ _ z=>⟨z.1,ht _ _ z.2.1,z.2.2⟩
section
variable {P:Program} {w:World} {H:Hp} {h:Heap} {a:Addr}
theorem Vv {u:HO} (ok:HOk P w H h) (e:Rd H a u):zK P w H h a u:=e.ok ok
theorem YX {kvs:List (Key × V)} (ok:HOk P w H h) (e:Rd H a (.dK kvs)):kvs.length <= sizeLine /\ (a == sysModules) = false /\ ∃ vs,KV kvs vs /\ h.DictOf (zM P w) a vs :=
 show zK P w H h a (.dK kvs) from Vv ok e
theorem Uh {kvs:List (Key × V)} (ok:HOk P w H h) (e:H a = some (.dK kvs)):kvs.length <= sizeLine /\ (a == sysModules) = false /\ ∃ vs,KV kvs vs /\ h.DictOf (zM P w) a vs:=YX ok (.inl e)
theorem ue {ks:List Key} (ok:HOk P w H h) (e:H a = some (.tup (ks.map kV))):(tupleKind (zM P w)).is h ks a:=by
 obtain ⟨_,its,r,o,h1,h2,n,h3⟩:=(show zK P w H h a (.tup (ks.map kV)) from ok a _ e)
 exact ⟨o,its.toArray,n,h1,h2,h3,by simpa using tT r⟩
theorem YY {kvs:List (List Key × V)} (ok:HOk P w H h) (e:Rd H a (.dT kvs)):kvs.length <= sizeLine /\ (a == sysModules) = false ∧
  ∃ xs,KT H kvs xs /\ h.DictOfH (tupleKind (zM P w)) a xs:=by
 obtain ⟨z,y,xs,r,o,es,ep,h1,h2,h3,h4,h5⟩:=(show zK P w H h a (.dT kvs) from Vv ok e)
 refine ⟨z,y,xs,r,o,es,ep,h1,h2,h3,h4,fun x hx=>?_,h5⟩
 have all:∀ {l:List (List Key × V)} {m:List (List Key × Addr × Value)},KT H l m -> ∀ x ∈ m,(tupleKind (zM P w)).is h x.1 x.2.1:=by
  intro l m q
  induction q with
  | nil=>intro x hx; exact nomatch hx
  | @cons p q ps qs hq t ih =>
   intro x hx
   rcases List.mem_cons.mp hx with e | hx
   ·subst e
    exact ue ok (by rw [← hq.1]; exact hq.2.1)
   ·exact ih x hx
 exact all r x hx
theorem Ui {kvs:List (List Key × V)} (ok:HOk P w H h) (e:H a = some (.dT kvs)):kvs.length <= sizeLine /\ (a == sysModules) = false ∧
  ∃ xs,KT H kvs xs /\ h.DictOfH (tupleKind (zM P w)) a xs:=YY ok (.inl e)
end
def DGet (H:Hp) (a:Addr) (y:V) (r:Option V):Prop :=
 (∃ kvs k,Rd H a (.dK kvs) /\ y = kV k /\ r = valV kvs k) \/ ∃ kvs k b,Rd H a (.dT kvs) /\ y = .ref b /\ H b = some (.tup (k.map kV)) /\ r = valV kvs k
def DPut (H:Hp) (a:Addr) (y v:V) (H':Hp):Prop :=
 (∃ kvs k,H a = some (.dK kvs) /\ y = kV k /\ kvs.length < sizeLine /\ H' = upd H a (.dK (putK kvs k v))) ∨
 ∃ kvs k b,H a = some (.dT kvs) /\ y = .ref b /\ H b = some (.tup (k.map kV)) /\ kvs.length < sizeLine /\ H' = upd H a (.dT (putK kvs k v))
theorem DGet.k {H:Hp} {a:Addr} {kvs:List (Key × V)} {k:Key} (e:H a = some (.dK kvs)):DGet H a (kV k) (valV kvs k):=.inl ⟨kvs,k,.inl e,rfl,rfl⟩
theorem DGet.t {H:Hp} {a b:Addr} {kvs:List (List Key × V)} {k:List Key} (e:H a = some (.dT kvs)) (eb:H b = some (.tup (k.map kV))):DGet H a (.ref b) (valV kvs k):=.inr ⟨kvs,k,b,.inl e,rfl,eb,rfl⟩
theorem DPut.k {H:Hp} {a:Addr} {kvs:List (Key × V)} {k:Key} {v:V} (e:H a = some (.dK kvs)) (hl:kvs.length < sizeLine):DPut H a (kV k) v (upd H a (.dK (putK kvs k v))):=.inl ⟨kvs,k,e,rfl,hl,rfl⟩
theorem DPut.t {H:Hp} {a b:Addr} {kvs:List (List Key × V)} {k:List Key} {v:V} (e:H a = some (.dT kvs)) (eb:H b = some (.tup (k.map kV))) (hl:kvs.length < sizeLine) :
  DPut H a (.ref b) v (upd H a (.dT (putK kvs k v))):=.inr ⟨kvs,k,b,e,rfl,eb,hl,rfl⟩
section
variable {X:Cx} {pins:List (Addr × Obj)} {σ:St} {H:Hp} {s:Shared} {a:Addr} {y v:V} {u r:Value} {o:Option V} {A:Around} {E:VS7}
theorem Inv.big (I:Inv X pins σ H s):sysModules < s.heap.objs.size:=by
 have h:mainGlobals < s.heap.objs.size:=(I.mod.glob.keeps I.bk).lt
 exact Nat.lt_trans (by decide) h
theorem ZL {Q:VS7} (hu:A.units + 1 < cLine) (I:Inv X pins σ H s) (g:DGet H a y (some v)) (ry:RelV y u) (h:∀ w' s',Inv X pins σ H s' -> RelV v w' -> Q w' s') :
  wpAny (model X.prog X.w) A (getItem (.ref a) u) Q E s:=by
 rcases g with ⟨kvs,k,e,ey,l⟩ | ⟨kvs,k,b,e,ey,eb,l⟩
 ·subst ey
  obtain ⟨z,hd,vs,rel,dd⟩:=YX I.hok e
  obtain ⟨w',hw,rw'⟩:=RelO.some_of (v:=v) (o:=valueAt vs k) (by rw [l]; exact rel.val k)
  exact wpAny_getItem_of (YW ry) dd.mapOf hw (h w' _ (I.tok _) rw')
 ·subst ey
  cases (show u = Value.ref b from ry)
  obtain ⟨z,hd,xs,rel,dd⟩:=YY I.hok e
  obtain ⟨w',hw,rw'⟩:=RelO.some_of (v:=v) (o:=(atKey xs k).map (·.2)) (by rw [l]; exact rel.val k)
  obtain ⟨p,hp,hp2⟩:=Option.map_eq_some_iff.mp hw
  refine wpAny_getItem_heap (tupleKind_room_in1 hu) (ue I.hok eb) dd hp ?_
  rw [hp2]
  exact h w' _ (I.tok _) rw'
theorem d_in {Q:VS7} (hu:A.units + 1 < cLine) (I:Inv X pins σ H s) (g:DGet H a y o) (ry:RelV y u) (h:∀ s',Inv X pins σ H s' -> Q (.bool o.isSome) s') :
  wpAny (model X.prog X.w) A (compareOp .In u (.ref a)) Q E s:=by
 rcases g with ⟨kvs,k,e,ey,l⟩ | ⟨kvs,k,b,e,ey,eb,l⟩
 ·subst ey
  obtain ⟨z,hd,vs,rel,dd⟩:=YX I.hok e
  refine wpAny_in_of (YW ry) hd dd.mapOf ?_
  rw [← (rel.val k).isSome_eq,← l]
  exact h _ (I.tok _)
 ·subst ey
  cases (show u = Value.ref b from ry)
  obtain ⟨z,hd,xs,rel,dd⟩:=YY I.hok e
  refine wpAny_in_heap (tupleKind_room_in1 hu) (ue I.hok eb) hd dd ?_
  have q:=(rel.val k).isSome_eq
  rw [Option.isSome_map] at q
  rw [← q,← l]
  exact h _ (I.tok _)
theorem sW {h':Heap} {t':Nat} {ob:HO} (I:Inv X pins σ H s) (mu:Mut (H a)) (hs:Heap.SameBut a s.heap h') (he:∃ q,h'.get? a = some q) (new:zK X.prog X.w (upd H a ob) h' a ob) :
  Inv X pins σ (upd H a ob) { s with heap:=h',toks:=t' } :=
 I.write (x:=a) (e:=a) mu (.inl rfl) (fun b q hb z=>(hs.2 b hb).trans z) he new
theorem Vw {P:Program} {w:World} {H':Hp} {h':Heap} {kvs:List (Key × V)} {vs:List (Key × Value)} (z:kvs.length <= sizeLine) (hd:(a == sysModules) = false) (rel:KV kvs vs) (dd:h'.DictOf (zM P w) a vs) :
  zK P w H' h' a (.dK kvs):=⟨z,hd,vs,rel,dd⟩
theorem ZM {H':Hp} {Q:Unit -> Shared -> Prop} (hu:A.units + 1 < cLine) (I:Inv X pins σ H s) (g:DPut H a y v H') (ry:RelV y u) (rv:RelV v r) (h:∀ s',Inv X pins σ H' s' -> Q () s') :
  wpAny (model X.prog X.w) A (setItem (.ref a) u r) Q E s:=by
 rcases g with ⟨kvs,k,e,ey,l,eH⟩ | ⟨kvs,k,b,e,ey,eb,l,eH⟩
 ·subst ey eH
  obtain ⟨z,hd,vs,rel,dd⟩:=Uh I.hok e
  have hz:vs.length <= sizeLine:=by rw [← rel.length]; exact z
  have hl:(putK kvs k v).length <= sizeLine:=by have:=zQ kvs k v; omega
  refine wpAny_setItem_pairs (hsz:=hz) (YW ry) dd fun h' dd' hs=>h _ ?_
  have he:∃ q,h'.get? a = some q:=let ⟨q,_,_,hq,_⟩:=dd'; ⟨q,hq⟩
  exact sW I (by rw [e]; exact True.intro) hs he (Vw hl hd (rel.put k rv) dd')
 ·subst ey eH
  cases (show u = Value.ref b from ry)
  obtain ⟨z,hd,xs,rel,dd⟩:=Ui I.hok e
  have hz:xs.length <= sizeLine:=by rw [← Paired.length rel]; exact z
  have hl:(putK kvs k v).length <= sizeLine:=by have:=zQ kvs k v; omega
  refine wpAny_setItem_heap (hsz:=hz) (tupleKind_room_in1 hu) (ue I.hok eb) dd fun h' dd' hs=>h _ ?_
  obtain ⟨q,es,ep,hq,h2,h3,h4,_,h5⟩:=dd'
  refine sW I (by rw [e]; exact True.intro) hs ⟨q,hq⟩ ⟨hl,hd,_,(rel.put k eb rv).keeps fun c ys ec=>?_,q,es,ep,hq,h2,h3,h4,h5⟩
  rw [zk (XY ec e (fun z=>nomatch z))]
  exact ec
end
def NoSl (i:Expr):Prop:=∀ ov iv,subscripted i false ov iv = operate [ov,iv] (getItem ov iv)
theorem Wm {prog:Program} {w:World} {A:Around} {E:VS7} {s:Shared} {env:Env} {value slice:Expr} {pos:Pos} {T id:String} {Q:VS7}
  (hl:typeLookup (.type T) "__getitem__" = pure (some (.builtin id))) (hs:NoSl slice)
  (h:wpAny (model prog w) A (eval value env) (fun o s₁=>wpAny (model prog w) A (eval slice env) (fun i s₂=>s₂.TypeIs o T /\ wpAny (model prog w) A (getItem o i) Q E s₂) E s₁) E s) :
  wpAny (model prog w) A (eval (.Subscript value slice pos) env) Q E s:=by
 refine Subscript_ (wpAny_mono h (fun o s₁ h₁=>wpAny_mono h₁ (fun i s₂ h₂=>?_) fun _ _ x=>x) fun _ _ x=>x)
 obtain ⟨hT,h₂⟩:=h₂
 unfold subscriptTail
 refine wpAny_bind ?_
 rw [getitemInPython_of_ne hT.not_modules]
 refine wpAny_bind (wpAny_specialOf hT hl ?_)
 have fin:wpAny (model prog w) A (subscripted slice false o i) (fun r s₃=>wpAny (model prog w) A (letTemporaryGo value o r >>= fun _=>pure r) Q E s₃) E s₂:=by
  rw [hs o i]
  exact wpAny_operating (wpAny_mono h₂ (fun r s₃ h₃=>wpAny_bind (wpAny_letTemporaryGo (wpAny_pure h₃))) fun _ _ x=>x)
 first
  | exact wpAny_pure (wpAny_bind fin)
  | exact wpAny_bind (wpAny_pure (wpAny_bind fin))
  | exact wpAny_bind fin
theorem sX {X:Cx} {pins:List (Addr × Obj)} {σ:St} {H:Hp} {s:Shared} {a:Addr} {y:V} {o:Option V} (I:Inv X pins σ H s) (g:DGet H a y o):s.TypeIs (.ref a) "dict":=by
 rcases g with ⟨kvs,k,e,_,_⟩ | ⟨kvs,k,b,e,_,_,_⟩
 ·obtain ⟨_,_,vs,_,dd⟩:=YX I.hok e
  exact dd.typeIs
 ·obtain ⟨_,_,xs,_,dd⟩:=YY I.hok e
  exact dd.typeIs
def Vx (td ty:TE):TE:=fun σ H Q=>td σ H fun x H1=>ty σ H1 fun y H2=>∃ a v,x = .ref a /\ DGet H2 a y (some v) /\ Q v H2
def tDIn (ty td:TE):TE:=fun σ H Q=>ty σ H fun y H1=>td σ H1 fun x H2=>∃ a o,x = .ref a /\ DGet H2 a y o /\ Q (.bl o.isSome) H2
def Uj (td ty tv:TE):TS:=fun D σ H=>tv σ H fun v H1=>td σ H1 fun x H2=>ty σ H2 fun y H3=>∃ a H4,x = .ref a /\ DPut H3 a y v H4 /\ D.nx σ H4
section
variable {X:Cx} {o i e value:Expr} {pos pos' tpos:Pos} {td ty tv:TE}
theorem Wn (hu:X.A.units + 1 < cLine) (ho:PE X o td) (hi:PE X i ty) (hs:NoSl i):PE X (.Subscript o i pos) (Vx td ty):=by
 intro pins s σ H Q I h
 refine Wm PySem.F.slot_dict_getitem.lookup hs (thn (ho pins s σ H _ I h) fun u s1 ⟨x,H1,I1,rx,q1⟩=>thn (hi pins s1 σ H1 _ I1 q1) fun iv s2 ⟨y,H2,I2,ry,a,v,ex,g,q2⟩=>?_)
 subst ex
 obtain rfl:u = Value.ref a:=rx
 exact ⟨sX I2 g,ZL hu I2 g ry fun w' s3 I3 rw'=>⟨v,H2,I3,rw',q2⟩⟩
theorem Vy (hu:X.A.units + 1 < cLine) (hi:PE X i ty) (ho:PE X o td):PC X .In i o (tDIn ty td):=by
 intro pins s σ H Q I h
 refine thn (hi pins s σ H _ I h) fun iv s1 ⟨y,H1,I1,ry,q1⟩=>thn (ho pins s1 σ H1 _ I1 q1) fun u s2 ⟨x,H2,I2,rx,a,ov,ex,g,q2⟩=>?_
 subst ex
 obtain rfl:u = Value.ref a:=rx
 exact d_in hu I2 g ry fun s3 I3=>⟨.bl ov.isSome,H2,I3,rfl,q2⟩
theorem sY (hu:X.A.units + 1 < cLine) (ho:PE X o td) (hi:PE X i ty) (hv:PE X value tv) (hs:swapsWith value (some (.Subscript o i pos')) pos.line X.env = pure false) :
  PS X (.Assign [.Subscript o i pos'] value pos) (Uj td ty tv):=by
 intro pins s σ H D I h
 refine wpAny_Assign_Subscript (thn (hv pins s σ H _ I h) fun r s1 ⟨v,H1,I1,rv,q1⟩=>thn (ho pins s1 σ H1 _ I1 q1) fun u s2 ⟨x,H2,I2,rx,q2⟩=>thn (hi pins s2 σ H2 _ I2 q2) fun iv s3 ⟨y,H3,I3,ry,a,H4,ex,g,q3⟩=>?_) hs
 subst ex
 obtain rfl:u = Value.ref a:=rx
 exact ZM hu I3 g ry rv fun s4 I4=>⟨σ,H4,I4,q3⟩
end
theorem qA {P:Program} {w:World} {H:Hp} (h:Heap) (hb:sysModules < h.objs.size):zK P w H (h.push { cls:=.type "dict",data:=.dict #[] }) h.objs.size (.dT []) :=
 ⟨Nat.zero_le _,beq_eq_false_iff_ne.mpr (Ne.symm (Nat.ne_of_lt hb)),[],.nil,_,#[],0,Heap.get?_push_size _ rfl,⟨rfl,rfl,rfl⟩,rfl,rfl,List.nodup_nil⟩
def Vz:TE:=fun _ H Q=>∀ p,H p = none -> Q (.ref p) (upd H p (.dT []))
section
variable {X:Cx} {pos:Pos}
theorem qB:PE X (.Dict [] [] pos) Vz:=fun pins s σ H Q I h =>
 wpAny_Dict_empty ⟨.ref s.heap.objs.size,_,I.laid (a:=s.heap.objs.size) (o:=.dT []) (t':=s.toks) (fun _ _ q=>Heap.get?_push_of_some _ q) (Nat.le_refl _) (qA s.heap I.big),rfl,h _ (I.hok.fresh (Nat.le_refl _))⟩
end
structure M1 (X:Cx) (o:Expr) (m:Str) (apos:Pos) (e:Expr) (cpos:Pos):Prop where
 base:attributeBase o m X.env (eval o X.env) = eval o X.env
 few:((backTo cpos (starEach [e] X.env)).all (fun x=>!x.1) && (backToKw cpos (keywordEach [] X.env)).all (fun x=>x.1.isSome)
  && decide (([e]:List Expr).length + ([]:List Keyword).length + (if ([]:List Keyword).isEmpty then 0 else 1) < 30)) = true
 line:(apos.endLine == cpos.line) = true
 trees:backTo cpos (starEach [e] X.env) = [(false,eval e X.env)]
structure M2 (X:Cx) (o:Expr) (m:Str) (apos:Pos) (e f:Expr) (cpos:Pos):Prop where
 base:attributeBase o m X.env (eval o X.env) = eval o X.env
 few:((backTo cpos (starEach [e,f] X.env)).all (fun x=>!x.1) && (backToKw cpos (keywordEach [] X.env)).all (fun x=>x.1.isSome)
  && decide (([e,f]:List Expr).length + ([]:List Keyword).length + (if ([]:List Keyword).isEmpty then 0 else 1) < 30)) = true
 line:(apos.endLine == cpos.line) = true
 trees:backTo cpos (starEach [e,f] X.env) = [(false,eval e X.env),(false,eval f X.env)]
end L2
namespace Att
open PySem PySem.W PySem.Calls PyProof.Rows
end Att
namespace L2
open PySem PySem.Spec PyProof.Rows
section
variable {κ:Type} [DecidableEq κ]
theorem qC {kvs:List (κ × V)} {k:κ} (h:valV kvs k = none):¬ k ∈ kvs.map (·.1):=by
 intro m
 obtain ⟨p,hp,e⟩:=List.mem_map.mp m
 have q:(kvs.any fun kv=>decide (kv.1 = k)) = true:=List.any_eq_true.mpr ⟨p,hp,decide_eq_true e⟩
 rw [yU,h] at q
 exact absurd q (by simp)
theorem ZN:∀ {l:List κ} {k:κ},l.Nodup -> ¬ k ∈ l -> (l ++ [k]).Nodup
 | [],k,_,_=>by simp
 | a :: r,k,h,hk=>by
  obtain ⟨h1,h2⟩:=List.nodup_cons.mp h
  show (a :: (r ++ [k])).Nodup
  refine List.nodup_cons.mpr ⟨fun m=>?_,ZN h2 fun m=>hk (List.mem_cons.mpr (Or.inr m))⟩
  rcases List.mem_append.mp m with q | q
  ·exact h1 q
  ·exact hk (List.mem_cons.mpr (Or.inl (List.mem_singleton.mp q).symm))
theorem Wo {kvs:List (κ × V)} {k:κ} (v:V) (hn:(kvs.map (·.1)).Nodup) (h:valV kvs k = none):((putK kvs k v).map (·.1)).Nodup:=by
 rw [qz v h,List.map_append]
 exact ZN hn (qC h)
end
end L2
namespace L3
open PySem PySem.Spec PyProof.Rows L2
open PySem PySem.Spec PyProof.Rows L2 PySem.W
def tU (es:Array DictEntry) (d:Addr) (ep:Nat) (h:Heap):Prop:=∃ o,h.get? d = some o /\ o.ExactDict /\ o.data = .dict es ep
section
variable {prog:Program} {w:World} {A:Around} {E:VS7} {s:Shared} {es:Array DictEntry} {d it:Addr} {ep i:Nat}
theorem tU.typeIs (h:tU es d ep s.heap):s.TypeIs (.ref d) "dict":=let ⟨o,ho,hc,_⟩:=h; ⟨o,ho,hc.1⟩
theorem tU.keep {h h':Heap} (x:tU es d ep h) (e:∀ o,h.get? d = some o -> h'.get? d = some o):tU es d ep h':=let ⟨o,ho,r⟩:=x; ⟨o,e o ho,r⟩
theorem YZ {Q:VS7} (hd:(d == sysModules) = false) (hm:tU es d ep s.heap)
  (hQ:Q (.ref s.heap.objs.size) { s with heap:=s.heap.push { cls:=.type "dict_keyiterator",data:=.fields #[.ref d,.int 0 0,.int es.size 0,.int ep 0] } }) :
  wpAny (model prog w) A (pyIter (.ref d)) Q E s:=by
 obtain ⟨o,ho,hc,hdat⟩:=id hm
 have hT:s.TypeIs (.ref d) "dict":=hm.typeIs
 refine wpAny_pyIter_slot hT PySem.F.slot_dict_iter (wpAny_call_entry PySem.F.slot_dict_iter hT PySem.F.entry_dict_iter ?_ (PySem.F.args_dict_iter_1 _))
 unfold Builtin.«dict.__iter__»
 refine wpAny_bind ?_
 unfold Builtin.Dict.dictSlotNone
 refine wpAny_bind (wpAny_notOrdered_dict hT ?_)
 show wpAny _ _ (pure (Value.ref d)) _ _ s
 refine wpAny_pure ?_
 show wpAny _ _ (Builtin.Dict.showsAll d >>= _) _ _ s
 unfold Builtin.Dict.showsAll
 rw [if_neg (by rw [hd]; exact Bool.false_ne_true)]
 refine wpAny_bind (wpAny_pure ?_)
 refine wpAny_bind (wpAny_dictEntries ho hdat ?_)
 refine wpAny_bind (wpAny_dictEpoch ho hdat ?_)
 refine wpAny_bind (wpAny_newObj_type (wpAny_pure ⟨_,rfl,"dict_keyiterator",_,⟨_,Heap.get?_push_size _ rfl,rfl⟩,PySem.F.slot_dict_keyiterator_next.lookup,?_⟩))
 simpa [rawInt] using hQ
theorem Y0 {Q:Option Value -> Shared -> Prop} (hit:s.heap.IsKeyIter it d i es.size ep) (hm:tU es d ep s.heap) (hlt:i < es.size)
  (hQ:∀ h',h'.IsKeyIter it d (i + 1) es.size ep -> Heap.SameBut it s.heap h' -> Q (some es[i].key) { s with heap:=h' }) :
  wpAny (model prog w) A (pyNext (.ref it)) Q E s:=by
 obtain ⟨o,ho,hc,hd⟩:=id hit
 obtain ⟨od,hod,hcd,hdd⟩:=id hm
 unfold pyNext
 refine wpAny_bind (wpAny_attempt (wpAny_callSpecial?_slot (name:=Str.ofString "__next__") hit.typeIs PySem.F.slot_dict_keyiterator_next
  (wpAny_call_entry PySem.F.slot_dict_keyiterator_next hit.typeIs PySem.F.entry_dict_keyiterator_next ?_ (PySem.F.args_dict_keyiterator_next_1 _))))
 refine wpAny_bind (wpAny_pure ?_)
 refine wpAny_bind ?_
 refine wpAny_bind ?_
 first | refine wpAny_bind (wpAny_typeNameOfWhole_keyiter hit.typeIs (wpAny_pure ?_)) | refine wpAny_bind (wpAny_typeNameOf_keyiter hit.typeIs (wpAny_pure ?_))
 refine wpAny_bind (wpAny_fieldsOf ho hd ?_)
 have hown:Builtin.Dict_items.ownsTuple "dict_keyiterator" = false:=by decide
 simp only [hown,Bool.false_eq_true,if_false]
 show wpAny _ _ (if (Value.ref d == Value.none) = true then _ else _) _ _ s
 rw [if_neg (show ¬ ((Value.ref d == Value.none) = true) from Bool.false_ne_true)]
 refine wpAny_bind (wpAny_pure ?_)
 refine wpAny_bind (wpAny_dictEntries hod hdd ?_)
 rw [if_neg (by simp)]
 refine wpAny_bind (wpAny_pure ?_)
 refine wpAny_bind (wpAny_dictEpoch hod hdd ?_)
 rw [if_neg (by simp)]
 refine wpAny_pure ?_
 simp only [show ¬ ((i:Int) < 0) from by omega,if_false,Int.toNat_natCast,Array.getElem?_eq_getElem hlt]
 refine wpAny_bind ?_
 first | refine wpAny_bind (wpAny_typeNameOfWhole_keyiter hit.typeIs (wpAny_pure ?_)) | refine wpAny_bind (wpAny_typeNameOf_keyiter hit.typeIs (wpAny_pure ?_))
 refine wpAny_bind (wpAny_isOneOf_keyiter hit.typeIs ?_)
 show wpAny _ _ (setField (.ref it) 1 (rawInt ((i:Int) + 1)) >>= _) _ _ s
 refine wpAny_bind (wpAny_setField ho hd (by simp) ?_)
 have hit':(s.heap.update it (Obj.mapFields (·.setIfInBounds 1 (rawInt ((i:Int) + 1))))).IsKeyIter it d (i + 1) es.size ep :=
  ⟨_,Heap.get?_update_self _ ho (Obj.isFreed_of_fields (Obj.data_mapFields hd _)),(Obj.cls_mapFields ..).trans hc,by rw [Obj.data_mapFields hd]; simp [rawInt]⟩
 refine wpAny_bind (wpAny_holding ?_)
 refine wpAny_bind (wpAny_isOneOf_keyiter (s:={ s with heap:=s.heap.update it (Obj.mapFields (·.setIfInBounds 1 (rawInt ((i:Int) + 1)))) }) hit'.typeIs ?_)
 show wpAny _ _ (pure es[i].key) _ _ _
 exact wpAny_pure (wpAny_pure ⟨_,rfl,wpAny_pure (hQ _ hit' (Heap.SameBut.update ..))⟩)
theorem Wp {Q:Option Value -> Shared -> Prop} (hh:A.handled = none) (hit:s.heap.IsKeyIter it d es.size es.size ep) (hm:tU es d ep s.heap)
  (hQ:∀ h',Heap.ExtBut it s.heap h' -> Q none { s with heap:=h' }):wpAny (model prog w) A (pyNext (.ref it)) Q E s:=by
 obtain ⟨o,ho,hc,hd⟩:=id hit
 obtain ⟨od,hod,hcd,hdd⟩:=id hm
 unfold pyNext
 refine wpAny_bind (wpAny_attempt (wpAny_callSpecial?_slot (name:=Str.ofString "__next__") hit.typeIs PySem.F.slot_dict_keyiterator_next
  (wpAny_call_entry PySem.F.slot_dict_keyiterator_next hit.typeIs PySem.F.entry_dict_keyiterator_next ?_ (PySem.F.args_dict_keyiterator_next_1 _))))
 refine wpAny_bind (wpAny_pure ?_)
 refine wpAny_bind ?_
 refine wpAny_bind ?_
 first | refine wpAny_bind (wpAny_typeNameOfWhole_keyiter hit.typeIs (wpAny_pure ?_)) | refine wpAny_bind (wpAny_typeNameOf_keyiter hit.typeIs (wpAny_pure ?_))
 refine wpAny_bind (wpAny_fieldsOf ho hd ?_)
 have hown:Builtin.Dict_items.ownsTuple "dict_keyiterator" = false:=by decide
 simp only [hown,Bool.false_eq_true,if_false]
 show wpAny _ _ (if (Value.ref d == Value.none) = true then _ else _) _ _ s
 rw [if_neg (show ¬ ((Value.ref d == Value.none) = true) from Bool.false_ne_true)]
 refine wpAny_bind (wpAny_pure ?_)
 refine wpAny_bind (wpAny_dictEntries hod hdd ?_)
 rw [if_neg (by simp)]
 refine wpAny_bind (wpAny_pure ?_)
 refine wpAny_bind (wpAny_dictEpoch hod hdd ?_)
 rw [if_neg (by simp)]
 refine wpAny_pure ?_
 simp only [show ¬ ((es.size:Int) < 0) from by omega,if_false,Int.toNat_natCast,Array.getElem?_eq_none (Nat.le_refl es.size)]
 refine wpAny_bind ?_
 first | refine wpAny_bind (wpAny_typeNameOfWhole_keyiter hit.typeIs (wpAny_pure ?_)) | refine wpAny_bind (wpAny_typeNameOf_keyiter hit.typeIs (wpAny_pure ?_))
 show wpAny _ _ (setField (.ref it) 0 .none >>= _) _ _ s
 refine wpAny_bind (wpAny_setField ho hd (by simp) ?_)
 show wpAny _ _ (newExc (.type "StopIteration") [] >>= _) _ _ _
 refine wpAny_bind ?_
 simp only [newExc,newTuple]
 refine wpAny_bind (wpAny_newObj_type ?_ (by size_fits))
 refine wpAny_bind (m:=firstArgMember _ _) (wpAny_of_eq (a:=Value.none) (by first | rfl | (simp only [firstArgMember]; rfl)) ?_)
 refine wpAny_newObj_type ?_ (by size_fits)
 simp only [raiseNew]
 refine wpAny_bind (wpAny_handled ?_)
 rw [show A.in1.handled = none from hh]
 refine wpAny_bind (wpAny_pure (wpAny_throw ?_))
 refine wpAny_bind (wpAny_isInstance (T:="StopIteration") (b:=true) ⟨_,Heap.get?_push_size _ rfl,rfl⟩ isSubtype_stop ?_)
 exact wpAny_pure (hQ _ (((Heap.SameBut.update ..).extBut.push _).push _))
end
def VA (H:Hp) (z:V) (p:List Key × V):Prop:=∃ b,z = .ref b /\ H b = some (.tup (p.1.map kV))
theorem qD {H:Hp}:∀ {kvs:List (List Key × V)} {xs:List (List Key × Addr × Value)},KT H kvs xs -> AllR (VA H) (xs.map fun q=>V.ref q.2.1) kvs
 | _,_,.nil=>trivial
 | _,_,.cons h t=>⟨⟨_,rfl,h.2.1⟩,qD t⟩
open PySem PySem.Spec PyProof.Rows L2 HT
theorem wN:fillsNumberSlot (.type "tuple") "mul" = pure false :=
 PySem.fillsNumberSlot_seq (id:="tuple.__mul__") (r:=some (.builtin "tuple.__rmul__")) PySem.F.slot_tuple_mul.lookup (by decide +kernel) (by rw [typeLookup_type,builtinLookup_eq_fast]; kernel_rfl) (by decide +kernel)
theorem tV:seqRepeat? (.type "tuple") = pure (some (.builtin "tuple.__mul__")):=by
 unfold seqRepeat?
 rw [PySem.seqSlot_of (T:="tuple") (name:="__mul__") (id:="tuple.__mul__") PySem.F.slot_tuple_mul.lookup (by decide +kernel),PySem.seqSlot_of (T:="tuple") (name:="__rmul__") (id:="tuple.__rmul__") (by rw [typeLookup_type,builtinLookup_eq_fast]; kernel_rfl) (by decide +kernel)]
 rfl
theorem vU (a:Int) (t:Tok) (l:Addr) (us:Array Value) (n:Nat) (d1:Option Addr) (e1:Array (Option Value)) :
  Meets (Builtin.«int.__rmul__» ⟨[.int a t,.ref l],[]⟩) (fun _ R s=>s.heap.get? l = some ⟨.type "tuple",d1,.seq us n,e1⟩ /\ R (.ok (.ret Value.notImplemented)) s) :=
 .of_wp fun prog w A R s h=>by obtain ⟨hp,g,d,tk,os⟩:=s; obtain ⟨hl,h⟩:=h; wp_walk; exact ⟨_,rfl,h⟩
theorem ZO (l:Addr) (us:Array Value) (n:Nat) (d1:Option Addr) (e1:Array (Option Value)) (x:Int) (u:Tok) (h1:¬ x < -(2 ^ 63)) (h2:¬ x >= 2 ^ 63) (h0:us.isEmpty = false) (h3:(x == 1) = false) (h4:¬ x <= 0) (h5:¬ (us.size:Int) * x > (2 ^ 63 - 1) / 8) (h6:Builtin.Tuple.tupleTooMany ((us.size:Int) * x) = false) (h7:(List.foldl (fun x1 x2=>x1 ++ x2) #[] (List.replicate x.toNat us)).size <= sizeLine) :
  Meets (Builtin.«tuple.__mul__» ⟨[.ref l,.int x u],[]⟩) (fun _ R s=>s.heap.get? l = some ⟨.type "tuple",d1,.seq us n,e1⟩ /\ R (.ok (.ret (Value.ref s.heap.objs.size))) { s with heap:=s.heap.push { cls:=Value.type "tuple",data:=Data.seq (List.foldl (fun x1 x2=>x1 ++ x2) #[] (List.replicate x.toNat us)) },toks:=s.toks }) :=
 .of_wp fun prog w A R s h=>by
  obtain ⟨hp,g,d,tk,os⟩:=s; obtain ⟨hl,h⟩:=h
  wp_walk using PySem.AutoSeq1.wpAny_loadPart' hl
  rw [if_neg (by simp only [Bool.or_eq_true,decide_eq_true_eq]; omega)]
  wp_walk using PySem.AutoSeq1.wpAny_loadPart' hl
  rw [if_neg h5]
  rw [if_neg (by rw [h6]; decide)]
  unfold Builtin.Tuple.tupleExact
  refine wpAny_bind (wpAny_newObj_type ?_ h7)
  exact wpAny_pure ⟨_,rfl,h⟩
theorem ji (l:Addr) (us:Array Value) (n:Nat) (d1:Option Addr) (e1:Array (Option Value)) (u:Tok) :
  Meets (Builtin.«tuple.__mul__» ⟨[.ref l,.int 1 u],[]⟩) (fun _ R s=>s.heap.get? l = some ⟨.type "tuple",d1,.seq us n,e1⟩ /\ R (.ok (.ret (Value.ref l))) s) :=
 .of_wp fun prog w A R s h=>by
  obtain ⟨hp,g,d,tk,os⟩:=s; obtain ⟨hl,h⟩:=h
  wp_walk using PySem.AutoSeq1.wpAny_loadPart' hl
  exact ⟨_,rfl,h⟩
theorem jj (l:Addr) (us:Array Value) (n:Nat) (d1:Option Addr) (e1:Array (Option Value)) (u:Tok) (h0:us.isEmpty = false) :
  Meets (Builtin.«tuple.__mul__» ⟨[.ref l,.int 0 u],[]⟩) (fun _ R s=>s.heap.get? l = some ⟨.type "tuple",d1,.seq us n,e1⟩ /\ R (.ok (.ret (Value.ref s.heap.objs.size))) { s with heap:=s.heap.push { cls:=Value.type "tuple",data:=Data.seq #[] },toks:=s.toks }) :=
 .of_wp fun prog w A R s h=>by
  obtain ⟨hp,g,d,tk,os⟩:=s; obtain ⟨hl,h⟩:=h
  wp_walk using PySem.AutoSeq1.wpAny_loadPart' hl
  exact ⟨_,rfl,h⟩
section
variable {X:Cx} {K:FG7}
def Uk (K:FG7):R2:=fun x y H Q=>∃ (a:Addr) (k:Nat) (xs:List V),x = .ref a /\ y = .int k /\ SqT K H a xs /\ xs ≠ [] /\ xs.length * k <= sizeLine /\ ∀ p H',Grow [] H H' -> SqT K H' p (List.replicate k xs).flatten -> Q (.ref p) H'
theorem ZP (hK:X.K = K):OpR X (binaryOp .Mult) (Uk K):=by
 subst hK
 intro pins s σ H x y v u Q I rx ry h
 obtain ⟨a,k,xs,rfl,rfl,ha,hne,hz,q⟩:=h
 cases rx
 obtain ⟨t,rfl⟩:=ry
 obtain ⟨its,r,ht,hzz⟩:=I.tuple ha
 obtain ⟨⟨c1,d1,x1,l1⟩,ho,hc,n,hd⟩:=id ht
 cases hc
 cases hd
 have hl:=r.length
 have he:its.toArray.isEmpty = false:=by
  cases its with
  | nil=>exact absurd (r.nil_iff.mp rfl) hne
  | cons _ _=>rfl
 have hsl:(sizeLine:Nat) <= (2 ^ 63 - 1) / 8:=by decide
 have hpos:0 < xs.length:=List.length_pos_iff.mpr hne
 have hk:k <= xs.length * k:=Nat.le_mul_of_pos_left k hpos
 refine wpAny_binaryOp_repeat_ref (T:="tuple") (U:="int") (by decide) ⟨_,ho,rfl⟩ (fun s'=>typeIs_int s' k t) wN PySem.F.fills_int_mul PySem.F.slot_int_rmul tV PySem.F.slot_int_index.lookup
  (call_meets PySem.F.slot_int_rmul (typeIs_int s k t) PySem.F.entry_int_rmul (PySem.F.args_int_rmul_2 _ _) (vU k t a its.toArray n d1 l1)
   ⟨ho,rfl,⟨_,ho,rfl⟩,?_⟩)
 by_cases k1:k = 1
 ·subst k1
  refine call_meets PySem.F.slot_tuple_mul ⟨_,ho,rfl⟩ PySem.F.entry_tuple_mul (PySem.F.args_tuple_mul_2 _ _) (ji a its.toArray n d1 l1 t) ⟨ho,?_⟩
  exact ⟨.ref a,H,I,rfl,q a H (Grow.refl _ _) (by simpa using ha)⟩
 by_cases k0:k = 0
 ·subst k0
  refine call_meets PySem.F.slot_tuple_mul ⟨_,ho,rfl⟩ PySem.F.entry_tuple_mul (PySem.F.args_tuple_mul_2 _ _) (jj a its.toArray n d1 l1 t he) ⟨ho,?_⟩
  refine ⟨.ref s.heap.objs.size,_,I.laid (t':=s.toks) (o:=.tup []) (fun b ob q=>Heap.get?_push_of_some _ q) (Nat.le_refl _) ⟨Nat.zero_le _,[],.nil,IsTup.new _ _⟩,rfl,q _ _ (Grow.new (I.hok.fresh (Nat.le_refl _)) _) (by simpa using SqT.of zc)⟩
 have hnew:List.foldl (fun x1 x2=>x1 ++ x2) #[] (List.replicate (k:Int).toNat its.toArray) = (List.replicate k its).flatten.toArray:=by
  have:=tm its k []
  rw [List.nil_append] at this
  exact this
 have hsz:(List.replicate k its).flatten.length <= sizeLine:=by rw [Zc,← hl,Nat.mul_comm]; exact hz
 refine call_meets PySem.F.slot_tuple_mul ⟨_,ho,rfl⟩ PySem.F.entry_tuple_mul (PySem.F.args_tuple_mul_2 _ _) (ZO a its.toArray n d1 l1 k t (by omega) (by omega) he (beq_false_of_ne (by omega)) (by omega) ?_ ?_ (by rw [hnew,List.size_toArray]; exact hsz)) ⟨ho,?_⟩
 ·rw [List.size_toArray,← hl]
  have:((xs.length:Nat):Int) * (k:Int) = ((xs.length * k:Nat):Int):=by rw [Int.natCast_mul]
  rw [this]; omega
 ·rw [List.size_toArray,← hl]
  have:((xs.length:Nat):Int) * (k:Int) = ((xs.length * k:Nat):Int):=by rw [Int.natCast_mul]
  rw [this]
  exact decide_eq_false (by omega)
 ·rw [hnew]
  refine ⟨.ref s.heap.objs.size,_,I.laid (t':=s.toks) (o:=.tup (List.replicate k xs).flatten) (fun b ob q=>Heap.get?_push_of_some _ q) (Nat.le_refl _) ⟨by rw [Zc,Nat.mul_comm]; exact hz,_,r.rep k,IsTup.new _ _⟩,rfl,q _ _ (Grow.new (I.hok.fresh (Nat.le_refl _)) _) (SqT.of zc)⟩
end
def yu (a b:List Int):List Int:=a.map fun i=>b.getD i.toNat 0
theorem ZQ {a b:List Int}:(yu a b).length = a.length:=by unfold yu; rw [List.length_map]
theorem ZR {S:Nat} {a b:List Int} (ha:Rng S a) (hb:Rng S b) (hl:b.length = S):Rng S (yu a b):=by
 intro x hx
 obtain ⟨i,hi,rfl⟩:=List.mem_map.mp hx
 have h1:=ha i hi
 have h2:i.toNat < b.length:=by omega
 refine hb _ ?_
 rw [List.getD_eq_getElem?_getD,List.getElem?_eq_getElem h2,Option.getD_some]
 exact List.getElem_mem h2
def ZS (tab:List (List Int)) (i j:Int):Int:=(tab.getD i.toNat []).getD j.toNat 0
def misT (tab:List (List Int)) (i j l:Nat):Prop:=ZS tab (ZS tab i j) l ≠ ZS tab i (ZS tab j l)
def uf (tab:List (List Int)) (i j l:Nat):Prop:=(i < tab.length /\ j < tab.length /\ l < tab.length) /\ misT tab i j l ∧
 ∀ i' j' l':Nat,i' < tab.length -> j' < tab.length -> l' < tab.length -> (i' < i \/ (i' = i /\ (j' < j \/ (j' = j /\ l' < l)))) -> ¬ misT tab i' j' l'
theorem uf.eq {tab:List (List Int)} {i j l i' j' l':Nat} (a:uf tab i j l) (b:uf tab i' j' l'):i = i' /\ j = j' /\ l = l':=by
 have h1:¬ (i' < i \/ (i' = i /\ (j' < j \/ (j' = j /\ l' < l)))):=fun z=>a.2.2 i' j' l' b.1.1 b.1.2.1 b.1.2.2 z b.2.1
 have h2:¬ (i < i' \/ (i = i' /\ (j < j' \/ (j = j' /\ l < l')))):=fun z=>b.2.2 i j l a.1.1 a.1.2.1 a.1.2.2 z a.2.1
 omega
def jk (K:FG7) (H:Hp) (tab:List (List Int)) (y:V):Prop :=
 (y = .non /\ ∀ i j l:Nat,i < tab.length -> j < tab.length -> l < tab.length -> ¬ misT tab i j l) \/ ∃ i j l:Nat,uf tab i j l /\ zr K H y [(i:Int),(j:Int),(l:Int)]
def FamD (H:Hp) (x:V) (fam:List (List Int)):Prop:=∃ l kvs,x = .ref l /\ H l = some (.dT kvs) /\ kvs.map (·.1) = fam.map (List.map Sum.inl)
def brkD:Option (Nat × Nat × Nat) -> PyData
 | none=>.none
 | some t=>wM [(t.1:Int),(t.2.1:Int),(t.2.2:Int)]
def BrkO (tab:List (List Int)):Option (Nat × Nat × Nat) -> Prop
 | none=>∀ i j l:Nat,i < tab.length -> j < tab.length -> l < tab.length -> ¬ misT tab i j l
 | some t=>uf tab t.1 t.2.1 t.2.2
theorem BrkO.eq {tab:List (List Int)} {o o':Option (Nat × Nat × Nat)} (a:BrkO tab o) (b:BrkO tab o'):o = o':=by
 cases o with
 | none=>cases o' with
  | none=>rfl
  | some t=>exact absurd b.2.1 (a _ _ _ b.1.1 b.1.2.1 b.1.2.2)
 | some t=>cases o' with
  | none=>exact absurd a.2.1 (b _ _ _ a.1.1 a.1.2.1 a.1.2.2)
  | some t' =>
   obtain ⟨i,j,l⟩:=t
   obtain ⟨i',j',l'⟩:=t'
   obtain ⟨e1,e2,e3⟩:=uf.eq a b
   rw [show i = i' from e1,show j = j' from e2,show l = l' from e3]
theorem jk.o {K:FG7} {H:Hp} {tab:List (List Int)} {y:V} (h:jk K H tab y):∃ o,BrkO tab o /\ Dat K H y (brkD o) /\ ((o = none /\ y = .non) \/ ∃ a,y = .ref a):=by
 rcases h with ⟨rfl,h⟩ | ⟨i,j,l,h,hb⟩
 ·exact ⟨none,h,.non,.inl ⟨rfl,rfl⟩⟩
 ·exact ⟨some (i,j,l),h,hb.dat,.inr (let ⟨a,e,_⟩:=hb; ⟨a,e⟩)⟩
theorem jk.grow {K:FG7} {m:List Addr} {H H':Hp} {tab:List (List Int)} {y:V} (h:jk K H tab y) (g:Grow m H H'):jk K H' tab y:=by
 rcases h with h | ⟨i,j,l,h,hb⟩
 ·exact .inl h
 ·exact .inr ⟨i,j,l,h,g.board hb⟩
def TabG (K:FG7) (H:Hp) (y:V) (tab:List (List Int)):Prop:=yf K H y tab /\ 1 <= tab.length /\ tab.length <= 60 /\ YQ tab.length tab.length tab
def sZ (K:FG7) (H:Hp) (z:V):Prop:=∃ t y1 y2 tab,z = .ref t /\ SqT K H t [y1,y2] /\ TabG K H y1 tab /\ jk K H tab y2
theorem sZ.grow {K:FG7} {m:List Addr} {H H':Hp} {z:V} (h:sZ K H z) (g:Grow m H H'):sZ K H' z:=by
 obtain ⟨t,y1,y2,tab,e,h1,⟨h2,h3⟩,h4⟩:=h
 exact ⟨t,y1,y2,tab,e,g.sqT h1,⟨g.rows h2,h3⟩,h4.grow g⟩
theorem nd1 {α:Type} {a:α}:[a].Nodup:=List.nodup_cons.mpr ⟨(fun z=>nomatch z),List.nodup_nil⟩
def idL (S:Nat):List Int:=(List.range S).map fun i:Nat=>(i:Int)
abbrev FW:=List (List Int × List Int)
def zE (f:FW):List (List Int):=f.map (·.1)
def yx (f:FW) (d:List Int):Option (List Int):=(f.find? fun p=>decide (p.1 = d)).map (·.2)
theorem vw {d:List Int}:∀ {f:FW},d ∈ zE f -> ∃ w,yx f d = some w
 | [],h=>by cases h
 | p :: f,h=>by
  by_cases e:p.1 = d
  ·exact ⟨p.2,by simp [yx,List.find?_cons,e]⟩
  ·have:d ∈ zE f:=by
    rcases List.mem_cons.mp h with h | h
    ·exact absurd h.symm e
    ·exact h
   obtain ⟨w,hw⟩:=vw this
   exact ⟨w,by simpa [yx,List.find?_cons,e] using hw⟩
theorem tW {d w:List Int}:∀ {f:FW},yx f d = some w -> (d,w) ∈ f
 | [],h=>by cases h
 | p :: f,h=>by
  by_cases e:p.1 = d
  ·have h':p.2 = w:=by simpa [yx,List.find?_cons,e] using h
   exact List.mem_cons.mpr (.inl (by rw [← e,← h']))
  ·exact List.mem_cons.mpr (.inr (tW (by simpa [yx,List.find?_cons,e] using h)))
theorem jm {f:FW} {d w:List Int} (h:yx f d = some w):d ∈ zE f:=List.mem_map.mpr ⟨_,tW h,rfl⟩
theorem s8 {f:FW} {d:List Int} (h:¬ (yx f d).isSome = true):d ∉ zE f:=fun z=>by
 obtain ⟨w,hw⟩:=vw z
 rw [hw] at h; exact h rfl
def s9 (d:List Int) (fm:FW × List (List Int)) (n:Nat) (m:List Int):FW × List (List Int) :=
 if (yx fm.1 (yu d m)).isSome = true then fm else (fm.1 ++ [(yu d m,(yx fm.1 d).getD [] ++ [(n:Int)])],fm.2 ++ [yu d m])
def fRow (ms:List (List Int)) (d:List Int):Nat -> FW × List (List Int) -> FW × List (List Int)
 | 0,fm=>fm
 | i + 1,fm=>s9 d (fRow ms d i fm) i (ms.getD i [])
def vV (ms last:List (List Int)):Nat -> FW × List (List Int) -> FW × List (List Int)
 | 0,fm=>fm
 | j + 1,fm=>fRow ms (last.getD j []) ms.length (vV ms last j fm)
inductive FamR (ms:List (List Int)):FW -> List (List Int) -> FW -> Prop
 | done {f:FW} {last:List (List Int)}:last = [] \/ 60 < f.length -> FamR ms f last f
 | step {f r:FW} {last:List (List Int)}:last ≠ [] -> f.length <= 60 -> FamR ms (vV ms last last.length (f,[])).1 (vV ms last last.length (f,[])).2 r -> FamR ms f last r
theorem FamR.eq {ms:List (List Int)} {f r:FW} {last:List (List Int)} (a:FamR ms f last r):∀ {r'},FamR ms f last r' -> r = r':=by
 induction a with
 | done h =>
  intro r' b
  cases b with
  | done _=>rfl
  | step h1 h2 _ =>
   rcases h with h | h
   ·exact absurd h h1
   ·omega
 | step h1 h2 _ ih =>
  intro r' b
  cases b with
  | done h =>
   rcases h with h | h
   ·exact absurd h h1
   ·omega
  | step _ _ c=>exact ih c
inductive Word (ms:List (List Int)) (S:Nat):List Int -> Prop
 | id:Word ms S (idL S)
 | more {d m:List Int}:Word ms S d -> m ∈ ms -> Word ms S (yu d m)
def Mks (ms:List (List Int)) (S:Nat):Prop:=∀ m ∈ ms,m.length = S /\ Rng S m
def Dd (S:Nat) (d:List Int):Prop:=d.length = S /\ Rng S d
theorem VB (S:Nat):Dd S (idL S):=by
 refine ⟨by unfold idL; rw [List.length_map,List.length_range],fun v hv=>?_⟩
 obtain ⟨i,hi,rfl⟩:=List.mem_map.mp hv
 have:=List.mem_range.mp hi
 omega
theorem Y1 {S:Nat} {a b:List Int} (ha:Dd S a) (hb:Dd S b):Dd S (yu a b):=⟨ZQ.trans ha.1,ZR ha.2 hb.2 hb.1⟩
theorem Word.dd {ms:List (List Int)} {S:Nat} (hm:Mks ms S) {d:List Int} (h:Word ms S d):Dd S d:=by
 induction h with
 | id=>exact VB S
 | more _ h ih=>exact Y1 ih (hm _ h)
theorem Wq {S:Nat} {i:Int} (h0:0 <= i) (h1:i < S):(idL S).getD i.toNat 0 = i:=by
 have:i.toNat < S:=by omega
 unfold idL
 rw [List.getD_eq_getElem?_getD,List.getElem?_map,List.getElem?_range this]
 show ((i.toNat:Nat):Int) = i
 omega
theorem Y2 {S:Nat} {a:List Int} (ha:Dd S a):yu a (idL S) = a:=by
 unfold yu
 conv=>rhs; rw [← List.map_id a]
 refine List.map_congr_left fun i hi=>?_
 obtain ⟨h0,h1⟩:=ha.2 i hi
 exact Wq h0 h1
theorem rc {S:Nat} {a b c:List Int} (ha:Dd S a) (hb:b.length = S):yu a (yu b c) = yu (yu a b) c:=by
 unfold yu
 rw [List.map_map]
 refine List.map_congr_left fun i hi=>?_
 obtain ⟨h0,h1⟩:=ha.2 i hi
 have hi':i.toNat < b.length:=by omega
 show (b.map fun i=>c.getD i.toNat 0).getD i.toNat 0 = c.getD (b.getD i.toNat 0).toNat 0
 rw [List.getD_eq_getElem?_getD,List.getElem?_map,List.getElem?_eq_getElem hi',List.getD_eq_getElem?_getD (l:=b),List.getElem?_eq_getElem hi']
 rfl
theorem Word.mul {ms:List (List Int)} {S:Nat} (hm:Mks ms S) {a b:List Int} (ha:Word ms S a) (hb:Word ms S b):Word ms S (yu a b):=by
 induction hb with
 | id=>rw [Y2 (ha.dd hm)]; exact ha
 | more h1 h2 ih=>rw [rc (ha.dd hm) (h1.dd hm).1]; exact .more ih h2
def Ex (fm fm':FW × List (List Int)):Prop:=∃ g:FW,fm'.1 = fm.1 ++ g /\ fm'.2 = fm.2 ++ zE g
theorem Ex.refl (fm:FW × List (List Int)):Ex fm fm:=⟨[],by rw [List.append_nil],by show _ = _ ++ []; rw [List.append_nil]⟩
theorem Ex.trans {a b c:FW × List (List Int)} (h:Ex a b) (k:Ex b c):Ex a c:=by
 obtain ⟨g,h1,h2⟩:=h
 obtain ⟨g',k1,k2⟩:=k
 exact ⟨g ++ g',by rw [k1,h1,List.append_assoc],by rw [k2,h2,List.append_assoc]; unfold zE; rw [List.map_append]⟩
theorem Ex.keys {a b:FW × List (List Int)} (h:Ex a b) {d:List Int} (hd:d ∈ zE a.1):d ∈ zE b.1:=by
 obtain ⟨g,h1,_⟩:=h
 unfold zE at *
 rw [h1,List.map_append]
 exact List.mem_append.mpr (.inl hd)
theorem qE {d m:List Int} {fm:FW × List (List Int)} {n:Nat}:Ex fm (s9 d fm n m):=by
 unfold s9
 split
 ·exact Ex.refl fm
 ·exact ⟨[_],rfl,rfl⟩
theorem re {ms:List (List Int)} {d:List Int} {fm:FW × List (List Int)}:∀ i,Ex fm (fRow ms d i fm)
 | 0=>Ex.refl fm
 | i + 1=>(re i).trans qE
theorem qF {ms last:List (List Int)} {fm:FW × List (List Int)}:∀ j,Ex fm (vV ms last j fm)
 | 0=>Ex.refl fm
 | j + 1=>(qF j).trans (re _)
theorem Y3 {d m:List Int} {fm:FW × List (List Int)} {n:Nat}:yu d m ∈ zE (s9 d fm n m).1:=by
 unfold s9
 split
 ·rename_i h
  obtain ⟨w,hw⟩:=Option.isSome_iff_exists.mp h
  exact jm hw
 ·unfold zE; rw [List.map_append]; exact List.mem_append.mpr (.inr (List.mem_singleton.mpr rfl))
theorem ZT {ms:List (List Int)} {d:List Int} {fm:FW × List (List Int)}:∀ i,∀ k < i,yu d (ms.getD k []) ∈ zE (fRow ms d i fm).1
 | 0,_,h=>by cases h
 | i + 1,k,h=>by
  by_cases e:k = i
  ·rw [e]; exact Y3
  ·exact qE.keys (ZT i k (by omega))
theorem qG {ms last:List (List Int)} {fm:FW × List (List Int)}:∀ j,∀ k < j,∀ i < ms.length,yu (last.getD k []) (ms.getD i []) ∈ zE (vV ms last j fm).1
 | 0,_,h,_,_=>by cases h
 | j + 1,k,h,i,hi=>by
  by_cases e:k = j
  ·rw [e]; exact ZT _ i hi
  ·exact (re _).keys (qG j k (by omega) i hi)
structure GoodF (ms:List (List Int)) (S:Nat) (f:FW):Prop where
 nd:(zE f).Nodup
 wd:∀ d ∈ zE f,Word ms S d
theorem jn {ms:List (List Int)} {S:Nat} {d m:List Int} {fm:FW × List (List Int)} {n:Nat} (h:GoodF ms S fm.1) (hd:Word ms S d) (hm:m ∈ ms):GoodF ms S (s9 d fm n m).1:=by
 unfold s9
 split
 ·exact h
 ·rename_i c
  have hn:=s8 c
  refine ⟨?_,fun z hz=>?_⟩
  ·show (zE (fm.1 ++ [_])).Nodup
   unfold zE at hn ⊢
   rw [List.map_append]
   refine List.nodup_append.mpr ⟨h.nd,nd1,fun a ha b hb e=>?_⟩
   rw [e,List.mem_singleton.mp hb] at ha
   exact hn ha
  ·unfold zE at hz
   rw [List.map_append] at hz
   rcases List.mem_append.mp hz with hz | hz
   ·exact h.wd z hz
   ·rw [List.mem_singleton.mp hz]; exact .more hd hm
theorem qH {ms:List (List Int)} {i:Nat} (h:i < ms.length):ms.getD i [] ∈ ms:=by
 rw [List.getD_eq_getElem?_getD,List.getElem?_eq_getElem h]; exact List.getElem_mem h
theorem tX {ms:List (List Int)} {S:Nat} {d:List Int} {fm:FW × List (List Int)} (h:GoodF ms S fm.1) (hd:Word ms S d):∀ i,i <= ms.length -> GoodF ms S (fRow ms d i fm).1
 | 0,_=>h
 | i + 1,hi=>jn (tX h hd i (by omega)) hd (qH (by omega))
theorem ug {ms last:List (List Int)} {S:Nat} {fm:FW × List (List Int)} (h:GoodF ms S fm.1) (hd:∀ d ∈ last,Word ms S d):∀ j,j <= last.length -> GoodF ms S (vV ms last j fm).1
 | 0,_=>h
 | j + 1,hj=>tX (ug h hd j (by omega)) (hd _ (qH (by omega))) _ (Nat.le_refl _)
structure LI (ms:List (List Int)) (S:Nat) (f:FW) (last:List (List Int)):Prop where
 good:GoodF ms S f
 idk:idL S ∈ zE f
 sub:∀ d ∈ last,d ∈ zE f
 len:last.length <= f.length
 cl:∀ d ∈ zE f,d ∉ last -> ∀ m ∈ ms,yu d m ∈ zE f
 hd:f.head? = some (idL S,[])
theorem LI.init (ms:List (List Int)) (S:Nat):LI ms S [(idL S,[])] [idL S] where
 good:=⟨nd1,fun d hd=>by rw [List.mem_singleton.mp hd]; exact .id⟩
 idk:=List.mem_singleton.mpr rfl
 sub:=fun d hd=>hd
 len:=Nat.le_refl _
 cl:=fun d hd hn=>absurd hd hn
 hd:=rfl
theorem qI {l:List (List Int)} {d:List Int} (h:d ∈ l):∃ k < l.length,l.getD k [] = d:=by
 obtain ⟨k,hk,e⟩:=List.mem_iff_getElem.mp h
 exact ⟨k,hk,by rw [List.getD_eq_getElem?_getD,List.getElem?_eq_getElem hk]; exact e⟩
theorem LI.pass {ms last:List (List Int)} {S:Nat} {f:FW} (h:LI ms S f last):LI ms S (vV ms last last.length (f,[])).1 (vV ms last last.length (f,[])).2:=by
 have hE:Ex (f,[]) (vV ms last last.length (f,[])):=qF _
 have hI:=fun k hk i hi=>qG (ms:=ms) (last:=last) (fm:=(f,[])) last.length k hk i hi
 have hG:=ug (last:=last) (fm:=(f,[])) h.good (fun d hd=>h.good.wd d (h.sub d hd)) last.length (Nat.le_refl _)
 revert hE hI hG
 generalize vV ms last last.length (f,[]) = fm
 intro hE hI hG
 obtain ⟨g,e1,e2⟩:=id hE
 rw [List.nil_append] at e2
 have ek:zE fm.1 = zE f ++ zE g:=by rw [e1]; unfold zE; rw [List.map_append]
 refine ⟨hG,hE.keys h.idk,fun d hd=>?_,?_,fun d hd hn m hm=>?_,?_⟩
 ·rw [ek]; rw [e2] at hd; exact List.mem_append.mpr (.inr hd)
 ·rw [e2,e1,List.length_append]; unfold zE; rw [List.length_map]; omega
 ·rw [ek] at hd
  rcases List.mem_append.mp hd with hd | hd
  ·by_cases w:d ∈ last
   ·obtain ⟨k,hk,rfl⟩:=qI w
    obtain ⟨i,hi,rfl⟩:=qI hm
    exact hI k hk i hi
   ·exact hE.keys (h.cl d hd w m hm)
  ·rw [e2] at hn; exact absurd hd hn
 ·rw [e1,List.head?_append,h.hd]; rfl
structure FamOk (ms:List (List Int)) (S:Nat) (r:FW):Prop where
 good:GoodF ms S r
 idk:idL S ∈ zE r
 cl:r.length <= 60 -> ∀ d ∈ zE r,∀ m ∈ ms,yu d m ∈ zE r
 hd:r.head? = some (idL S,[])
theorem FamR.ok {ms last:List (List Int)} {S:Nat} {f r:FW} (a:FamR ms f last r) (h:LI ms S f last):FamOk ms S r:=by
 induction a with
 | done c =>
  refine ⟨h.good,h.idk,fun hl d hd m hm=>?_,h.hd⟩
  rcases c with rfl | c
  ·exact h.cl d hd (fun z=>by cases z) m hm
  ·omega
 | step _ _ _ ih=>exact ih h.pass
def FamL (ms:List (List Int)) (S:Nat) (r:FW):Prop:=FamR ms [(idL S,[])] [idL S] r
theorem FamL.ok {ms:List (List Int)} {S:Nat} {r:FW} (h:FamL ms S r):FamOk ms S r:=FamR.ok h (LI.init ms S)
def Few (ms:List (List Int)) (S:Nat):Prop:=∃ l:List (List Int),l.length <= 60 /\ ∀ d,Word ms S d -> d ∈ l
theorem FamOk.all {ms:List (List Int)} {S:Nat} {r:FW} (h:FamOk ms S r) (hl:r.length <= 60) {d:List Int} (hd:Word ms S d):d ∈ zE r:=by
 induction hd with
 | id=>exact h.idk
 | more _ hm ih=>exact h.cl hl _ ih _ hm
theorem FamOk.few {ms:List (List Int)} {S:Nat} {r:FW} (h:FamOk ms S r) (hl:r.length <= 60):Few ms S:=⟨zE r,by unfold zE; rw [List.length_map]; exact hl,fun _ hd=>h.all hl hd⟩
theorem uC:∀ {l l':List (List Int)},l.Nodup -> (∀ x ∈ l,x ∈ l') -> l.length <= l'.length
 | [],_,_,_=>Nat.zero_le _
 | a :: l,l',hn,h=>by
  have ha:a ∈ l':=h a (List.mem_cons.mpr (.inl rfl))
  obtain ⟨h1,h2⟩:=List.nodup_cons.mp hn
  have:=uC (l:=l) (l':=l'.erase a) h2 fun x hx=>(List.mem_erase_of_ne (fun e=>h1 (by rw [← e]; exact hx))).mpr (h x (List.mem_cons.mpr (.inr hx)))
  rw [List.length_erase_of_mem ha] at this
  have:0 < l'.length:=List.length_pos_of_mem ha
  rw [List.length_cons]; omega
theorem FamOk.le {ms:List (List Int)} {S:Nat} {r:FW} (h:FamOk ms S r) (hf:Few ms S):r.length <= 60:=by
 obtain ⟨l,hl,hw⟩:=hf
 have:=uC h.good.nd fun d hd=>hw d (h.good.wd d hd)
 unfold zE at this
 rw [List.length_map] at this
 omega
def KeyB (H:Hp) (y:V) (row:List Int):Prop:=∃ b,y = .ref b /\ H b = some (.tup (row.map V.int))
theorem KeyB.board {K:FG7} {H:Hp} {y:V} {row:List Int} (h:KeyB H y row):zr K H y row:=let ⟨b,e,hb⟩:=h; ⟨b,e,SqT.of hb⟩
theorem KeyB.grow {m:List Addr} {H H':Hp} {y:V} {row:List Int} (h:KeyB H y row) (g:Grow m H H'):KeyB H' y row:=let ⟨b,e,hb⟩:=h; ⟨b,e,g.tup _ _ hb⟩
def kI (d:List Int):List Key:=d.map Sum.inl
theorem XQ:∀ {a b:List Int},kI a = kI b -> a = b
 | [],[],_=>rfl
 | [],_ :: _,e=>by cases e
 | _ :: _,[],e=>by cases e
 | x :: a,y :: b,e=>by
  unfold kI at e
  rw [List.map_cons,List.map_cons] at e
  injection e with e1 e2
  rw [Sum.inl.inj e1,XQ e2]
def KvF (K:FG7) (H:Hp):List (List Key × V) -> FW -> Prop
 | [],[]=>True
 | p :: kvs,q :: f=>(p.1 = kI q.1 /\ zr K H p.2 q.2) /\ KvF K H kvs f
 | _,_=>False
section
variable {K:FG7} {H H':Hp} {m:List Addr}
theorem KvF.len:∀ {kvs:List (List Key × V)} {f:FW},KvF K H kvs f -> kvs.length = f.length
 | [],[],_=>rfl
 | _ :: _,_ :: _,h=>by rw [List.length_cons,List.length_cons,KvF.len h.2]
 | [],_ :: _,h=>h.elim
 | _ :: _,[],h=>h.elim
theorem KvF.keys:∀ {kvs:List (List Key × V)} {f:FW},KvF K H kvs f -> kvs.map (·.1) = (zE f).map (List.map Sum.inl)
 | [],[],_=>rfl
 | p :: kvs,q :: f,h=>by
  show p.1 :: kvs.map (·.1) = q.1.map Sum.inl :: (zE f).map (List.map Sum.inl)
  rw [KvF.keys h.2,h.1.1]; rfl
 | [],_ :: _,h=>h.elim
 | _ :: _,[],h=>h.elim
theorem KvF.grow (g:Grow m H H'):∀ {kvs:List (List Key × V)} {f:FW},KvF K H kvs f -> KvF K H' kvs f
 | [],[],_=>trivial
 | _ :: _,_ :: _,h=>⟨⟨h.1.1,g.board h.1.2⟩,KvF.grow g h.2⟩
 | [],_ :: _,h=>h.elim
 | _ :: _,[],h=>h.elim
theorem KvF.app:∀ {kvs:List (List Key × V)} {f:FW} {kvs':List (List Key × V)} {f':FW},KvF K H kvs f -> KvF K H kvs' f' -> KvF K H (kvs ++ kvs') (f ++ f')
 | [],[],_,_,_,k=>k
 | _ :: _,_ :: _,_,_,h,k=>⟨h.1,KvF.app h.2 k⟩
 | [],_ :: _,_,_,h,_=>h.elim
 | _ :: _,[],_,_,h,_=>h.elim
theorem KvF.val (d:List Int):∀ {kvs:List (List Key × V)} {f:FW},KvF K H kvs f -> (∃ v w,valV kvs (kI d) = some v /\ yx f d = some w /\ zr K H v w) \/ (valV kvs (kI d) = none /\ yx f d = none)
 | [],[],_=>.inr ⟨rfl,rfl⟩
 | p :: kvs,q :: f,h=>by
  by_cases e:q.1 = d
  ·exact .inl ⟨p.2,q.2,zY (by rw [h.1.1,e]),by simp [yx,List.find?_cons,e],h.1.2⟩
  ·have e':¬ p.1 = kI d:=fun z=>e (XQ (h.1.1.symm.trans z))
   have ew:yx (q :: f) d = yx f d:=by simp [yx,List.find?_cons,e]
   rw [zZ e',ew]
   exact KvF.val d h.2
 | [],_ :: _,h=>h.elim
 | _ :: _,[],h=>h.elim
end
theorem Mks.take {ms:List (List Int)} {S n:Nat} (h:Mks ms S):Mks (ms.take n) S:=fun m hm=>h m (List.mem_of_mem_take hm)
def FamW (K:FG7) (H:Hp) (y:V) (f:FW):Prop:=∃ l kvs,y = .ref l /\ H l = some (.dT kvs) /\ KvF K H kvs f
theorem FamW.d {K:FG7} {H:Hp} {y:V} {f:FW} (h:FamW K H y f):FamD H y (zE f):=let ⟨l,kvs,e,hl,hk⟩:=h; ⟨l,kvs,e,hl,hk.keys⟩
theorem Room.u1F {k:Nat} {A:Around} (r:Room k A):A.units + 1 < cLine:=by have:=r.un; omega
section
variable {prog:Program} {w:World} {A:Around} {R:Result -> Shared -> Prop} {s:Shared}
theorem jo {kx vx target iter:Expr} {ifs:List Expr} {scope:Scope} {pos:Pos} {it:Value} {D:Addr} {env:Env} (I:Nat -> Shared -> Prop)
  (turn:∀ n s,I n s -> wpAny (model prog w) A (pyNext it) (fun r s₁=>match r with
   | none=>R (.ok .next) s₁
   | some v=>wpAny (model prog w) A (letOwnedTupleGo target it v) (fun _ s₂=>wpAny (model prog w) A (assign target env v) (fun _ s₃ =>
     wpAny (model prog w) A (forIn ifs true fun c r=>if r = true then do let ok ← isTrue c env (eval c env); pure (ForInStep.yield ok) else pure (ForInStep.yield r)) (fun ok s₄ =>
      if ok = true then wpAny (model prog w) A (eval kx env) (fun kv s₅=>wpAny (model prog w) A (eval vx env) (fun vv s₆ =>
       wpAny (model prog w) A (dictSet D kv vv) (fun _ s₇=>∃ m,m < n /\ I m s₇) (fun _ _=>False) s₆) (fun _ _=>False) s₅) (fun _ _=>False) s₄
      else ∃ m,m < n /\ I m s₄) (fun _ _=>False) s₃) (fun _ _=>False) s₂) (fun _ _=>False) s₁) (fun _ _=>False) s)
  (n:Nat) (h:I n s) :
  codeAny (model prog w) A (.compLoop (.DictComp kx vx [⟨target,iter,ifs,0⟩] scope pos) 0 it (.ref D) env) R s:=by
 refine codeAny_loop rfl I (fun n s hI=>?_) n h
 show wpAny _ A ((compTurn (.DictComp kx vx [⟨target,iter,ifs,0⟩] scope pos) 0 it (.ref D) env).onRaise (fun x=>do noteFrame x env; theTreesLotGoes x)) _ _ s
 refine wpAny_noted ?_
 rw [compTurn_dict]
 have no:∀ (E:VS7) (e:Value) (s:Shared),(fun (_:Value) (_:Shared)=>False) e s -> E e s:=fun _ _ _ f=>f.elim
 refine wpAny_bind (wpAny_standAt (wpAny_bind (wpAny_mono (turn n s hI) (fun r s₁ h₁=>?_) (no _))))
 cases r with
 | none=>exact wpAny_pure h₁
 | some v =>
  refine wpAny_bind (wpAny_mono h₁ (fun _ s₂ h₂=>?_) (no _))
  refine wpAny_bind (wpAny_mono h₂ (fun _ s₃ h₃=>wpAny_bind (wpAny_mono h₃ (fun ok s₄ h₄=>?_) (no _))) (no _))
  cases ok with
  | false=>exact wpAny_pure ⟨rfl,h₄⟩
  | true =>
   exact wpAny_bind (wpAny_bind (wpAny_mono h₄ (fun kv s₅ h₅=>wpAny_bind (wpAny_holding (wpAny_mono h₅ (fun vv s₆ h₆=>wpAny_bind (wpAny_standAt (wpAny_holding (wpAny_mono h₆ (fun _ s₇ h₇=>wpAny_pure ⟨rfl,h₇⟩) (no _))))) (no _)))) (no _)))
end
def DRaw (prog:Program) (w:World) (Hb:Hp) (h:Heap) (D:Addr) (o:Obj) (kvs:List (List Key × V)):Prop :=
 kvs.length <= sizeLine /\ (D == sysModules) = false /\ ∃ xs:List (List Key × Addr × Value),KT Hb kvs xs /\ ∃ es ep,h.get? D = some o /\ o.ExactDict /\ o.data = .dict es ep /\ es.toList = xs.map (entryOfKey (tupleKind (zM prog w))) /\ (xs.map (·.1)).Nodup
theorem DRaw.at {prog:Program} {w:World} {Hb:Hp} {h h':Heap} {D:Addr} {o:Obj} {kvs:List (List Key × V)} (r:DRaw prog w Hb h D o kvs) (e:h'.get? D = some o):DRaw prog w Hb h' D o kvs :=
 let ⟨z,y,xs,k,es,ep,_,h2,h3,h4,h5⟩:=r; ⟨z,y,xs,k,es,ep,e,h2,h3,h4,h5⟩
theorem DRaw.obj {prog:Program} {w:World} {Hb H':Hp} {h:Heap} {D:Addr} {o:Obj} {kvs:List (List Key × V)} (r:DRaw prog w Hb h D o kvs) (hk:∀ b xs,Hb b = some (.tup xs) -> H' b = some (.tup xs)):zK prog w H' h D (.dT kvs) :=
 let ⟨z,y,xs,k,es,ep,h1,h2,h3,h4,h5⟩:=r; ⟨z,y,xs,k.keeps hk,o,es,ep,h1,h2,h3,h4,h5⟩
theorem DRaw.nocell {prog:Program} {w:World} {Hb:Hp} {h:Heap} {D:Addr} {o:Obj} {kvs:List (List Key × V)} (r:DRaw prog w Hb h D o kvs) (v:Option Value):o.data ≠ .cell v:=by
 obtain ⟨_,_,_,_,es,ep,_,_,h3,_⟩:=r
 rw [h3]; intro z; cases z
def ZU (J:It) (σ0:L2.St) (H1:Hp) (g:TG) (tt:TT) (tk tv:TE) (Q:VK):Prop :=
 ∃ W:Nat -> Nat -> List (List Key × V) -> Hp -> L2.St -> Hp -> Prop,(∃ m,W 0 m [] H1 σ0 H1) /\ ∀ i m kvs Hb σ' H',W i m kvs Hb σ' H' →
  (J.stop i H' /\ (∀ b xs,Hb b = some (.tup xs) -> H' b = some (.tup xs)) /\ ∀ l,H' l = none -> Q (.ref l) (upd H' l (.dT kvs))) ∨
  (J.go i H' /\ ∃ Nn:List (List Key × V) -> Hp -> L2.St -> Hp -> Prop,(∀ zs Hc σ2 H2,Nn zs Hc σ2 H2 -> ∃ m',m' < m /\ W (i + 1) m' zs Hc σ2 H2) ∧
   ∀ x H2,J.yld i H' x H2 -> g x σ' H2 fun σ2 H3=>tt σ2 H3 fun b H4=>if b = true then tk σ2 H4 fun y H5=>tv σ2 H5 fun v H6=>kvs.length < sizeLine /\ ∃ b ks,y = .ref b /\ H6 b = some (.tup (ks.map kV)) /\ (∀ c xs,Hb c = some (.tup xs) -> H6 c = some (.tup xs)) /\ Nn (putK kvs ks v) H6 σ2 H6 else Nn kvs Hb σ2 H4)
def VC (wi:TI) (sub:List (Option Nat)) (g:TG) (tt:TT) (tk tv:TE):TE:=fun σ H Q=>wi σ H fun J H1=>ZU J (capt sub σ) H1 g tt tk tv Q
section
variable {X:Cx} {pins:List (Addr × Obj)} {σ:L2.St} {H2:Hp} {s₂:Shared} {it:Addr} {fp:List Addr} {tn:Nat -> Heap -> Prop} {J:It} {scope:Scope} {cl:List (Str × Addr)} {N':List Str} {sub:List (Option Nat)}
theorem ZV {C D:Addr} {s₀:Shared} {s':Shared} {σ':L2.St} {H' Hb:Hp} {kvs:List (List Key × V)} {o oC:Obj} (I:Inv X pins σ H2 s₂)
    (hs₀:∀ b o,s₂.heap.get? b = some o -> s₀.heap.get? b = some o) (hos:s₀.os = s₂.os) (hD:s₂.heap.objs.size <= D) (hC:s₂.heap.objs.size <= C) (hDC:D ≠ C) (f2:∀ b ∈ fp,FpOk X pins H2 b)
    (I':Inv (cxC X N' scope cl C D fp s₀ H2) pins σ' H' s') (hn:H' D = none) (hb:∀ b xs,Hb b = some (.tup xs) -> H' b = some (.tup xs)) (rv:DRaw X.prog X.w Hb s'.heap D o kvs)
    (ho:s'.heap.get? C = some oC) (hd:∀ v,oC.data ≠ .cell v):Inv X (pins ++ [(C,oC)]) σ (upd H' D (.dT kvs)) s' /\ FpOk X pins (upd H' D (.dT kvs)) C:=by
  have neD:∀ b o,s₂.heap.get? b = some o -> b ≠ D:=fun b o e=>Nat.ne_of_lt (Nat.lt_of_lt_of_le (Heap.lt_size e) hD)
  have nm:∀ b o,s₂.heap.get? b = some o -> b ∉ fp -> b ∉ D :: fp:=fun b o e h z=>(List.mem_cons.mp z).elim (neD b o e) h
  have U:=I'.base
  have HC:upd H' D (.dT kvs) C = none:=by rw [zk (Ne.symm hDC)]; exact I'.free
  have fpc:FpOk X pins (upd H' D (.dT kvs)) C:=I.fpOk hC HC
  have tp:∀ b xs,H2 b = some (.tup xs) -> upd H' D (.dT kvs) b = some (.tup xs):=fun b xs e=>by have z:=U.tups b xs e; rw [zk (zm z hn)]; exact z
  have un:Un (frs X.stack) fp H2 (upd H' D (.dT kvs)) s₂.heap s'.heap :=
    { keep:=fun b o e n h1 h2=>U.keep b o (hs₀ b o e) n h1 (nm b o e h2)
      slot:=fun b o e n h1 h2=>U.slot b o (hs₀ b o e) n h1 (nm b o e h2)
      free:=fun b o e n h2=>by rw [zk (neD b o e)]; exact U.free b o (hs₀ b o e) n (nm b o e h2)
      there:=fun b o e h2=>U.there b o (hs₀ b o e) (nm b o e h2)
      tups:=tp
      frzs:=fun b o u e=>by have z:=U.frzs b o u e; rw [zk (zm z hn)]; exact z
      tbls:=fun b ps e=>by obtain ⟨more,z⟩:=U.tbls b ps e; exact ⟨more,by rw [zk (zm z hn)]; exact z⟩ }
  have hok:HOk X.prog X.w (upd H' D (.dT kvs)) s'.heap:=HOk.track I'.hok hn (rv.obj fun b xs e=>by have z:=hb b xs e; rw [zk (zm z hn)]; exact z)
  have IX:Inv X pins σ (upd H' D (.dT kvs)) s':=I.call' (I'.os.trans hos) un hok I'.bare fun b hb=>⟨(f2 b hb).2.2.2.1,(f2 b hb).2.1,(f2 b hb).2.2.2.2.1,(f2 b hb).2.2.2.2.2⟩
  refine ⟨IX.pins_of fun p hp=>?_,fpc⟩
  rcases List.mem_append.mp hp with hp | hp
  · exact IX.pin p (List.mem_append_right _ hp)
  · rw [List.mem_singleton.mp hp]
    exact ⟨ho,HC,fpc.2.1,fpc.2.2.1,hd⟩
theorem ZW {C D:Addr} {s₀:Shared} {tg:Expr} {pos:Pos} {kx vx iter:Expr} {ifs:List Expr} {g:TG} {tt:TT} {tk tv:TE} {Q:VK} {RR:Value -> Addr -> Result -> Shared -> Prop} {W:Nat -> Nat -> List (List Key × V) -> Hp -> L2.St -> Hp -> Prop}
  (hu:X.A.units + 1 < cLine) (I:Inv X pins σ H2 s₂) (hcalm:X.calm = true) (T:Turn X.prog X.w X.K tg J fp it tn) (f2:∀ b ∈ fp,FpOk X pins H2 b) (hfp:∀ b ∈ fp,b < s₂.heap.objs.size)
  (hs₀:∀ b o,s₂.heap.get? b = some o -> s₀.heap.get? b = some o) (hos:s₀.os = s₂.os) (hD:s₂.heap.objs.size <= D) (hC:s₂.heap.objs.size <= C) (hDC:D ≠ C)
  (hcl1:∀ x c,cl.lookup x = some c -> X.env.cells.lookup x = some c)
  (hg:PG (cxC X N' scope cl C D fp s₀ H2) tg g) (ht:PIfs (cxC X N' scope cl C D fp s₀ H2) ifs tt) (hk:PE (cxC X N' scope cl C D fp s₀ H2) kx tk) (he:PE (cxC X N' scope cl C D fp s₀ H2) vx tv)
  (turn:∀ i m kvs Hb σ' H',W i m kvs Hb σ' H' →
   (J.stop i H' /\ (∀ b xs,Hb b = some (.tup xs) -> H' b = some (.tup xs)) /\ ∀ l,H' l = none -> Q (.ref l) (upd H' l (.dT kvs))) ∨
   (J.go i H' /\ ∃ Nn:List (List Key × V) -> Hp -> L2.St -> Hp -> Prop,(∀ zs Hc σ2 H2,Nn zs Hc σ2 H2 -> ∃ m',m' < m /\ W (i + 1) m' zs Hc σ2 H2) ∧
    ∀ x H3,J.yld i H' x H3 -> g x σ' H3 fun σ2 H3=>tt σ2 H3 fun b H4=>if b = true then tk σ2 H4 fun y H5=>tv σ2 H5 fun v H6=>kvs.length < sizeLine /\ ∃ b ks,y = .ref b /\ H6 b = some (.tup (ks.map kV)) /\ (∀ c xs,Hb c = some (.tup xs) -> H6 c = some (.tup xs)) /\ Nn (putK kvs ks v) H6 σ2 H6 else Nn kvs Hb σ2 H4))
  (hRR:∀ (D C:Addr) (oC:Obj) (m:Str -> Option Value) (s':Shared) (Hf:Hp),Inv X (pins ++ [(C,oC)]) σ Hf s' -> s'.heap.Ns C m -> FpOk X pins Hf C -> Q (.ref D) Hf -> RR (.ref D) C (.ok .next) s')
  (n:Nat) (s:Shared) (h:∃ i kvs Hb o σ' H',Inv (cxC X N' scope cl C D fp s₀ H2) pins σ' H' s /\ tn i s.heap /\ (∀ b ∈ fp,H' b = none) /\ H' D = none ∧
   DRaw X.prog X.w Hb s.heap D o kvs /\ W i n kvs Hb σ' H') :
  codeAny (model X.prog X.w) X.A (.compLoop (.DictComp kx vx [⟨tg,iter,ifs,0⟩] scope pos) 0 (.ref it) (.ref D) (compEnvC scope cl C X.env)) (RR (.ref D) C) s:=by
 have frsz:∀ b ∈ frs X.stack,b < s₂.heap.objs.size:=fun b hb=>by
  rcases List.mem_cons.mp (I.stkSub b hb) with z | z
  ·rw [z]; exact I.lt
  ·exact Nat.lt_of_not_le fun q=>I.nofs q z
 have cells:∀ x c,cl.lookup x = some c -> c < s₂.heap.objs.size:=fun x c e=>let ⟨v,q⟩:=I.cell x c (hcl1 x c e); q.lt
 have pinsz:∀ p ∈ X.pn ++ pins,p.1 < s₂.heap.objs.size:=fun p hp=>Heap.lt_size (I.pin p hp).1
 refine jo (fun n s=>∃ i kvs Hb o σ' H',Inv (cxC X N' scope cl C D fp s₀ H2) pins σ' H' s /\ tn i s.heap /\ (∀ b ∈ fp,H' b = none) /\ H' D = none ∧
   DRaw X.prog X.w Hb s.heap D o kvs /\ W i n kvs Hb σ' H') ?_ n h
 rintro n s ⟨i,kvs,Hb,o,σ',H',I',st',fr,hn,rv,w'⟩
 have hy:s.heap.get? D = some o:=let ⟨_,_,_,_,_,_,e,_⟩:=rv; e
 have pD:Inv (cxC X N' scope cl C D fp s₀ H2) (pins ++ [(D,o)]) σ' H' s:=I'.pins_of fun p hp=>by
  rcases List.mem_append.mp hp with hp | hp
  ·exact I'.pin p (List.mem_append_right _ hp)
  ·rw [List.mem_singleton.mp hp]
   exact ⟨hy,hn,hDC,fun z=>absurd (Nat.lt_of_lt_of_le (frsz _ z) hD) (Nat.lt_irrefl _),rv.nocell⟩
 have fpok:∀ {H'':Hp},(∀ b ∈ fp,H'' b = none) -> ∀ b ∈ fp,FpOk (cxC X N' scope cl C D fp s₀ H2) (pins ++ [(D,o)]) H'' b:=fun hz b hb=>by
  refine ⟨hz b hb,Nat.ne_of_lt (Nat.lt_of_lt_of_le (hfp b hb) hC),fun z=>?_,.inl (List.mem_cons_of_mem _ hb),fun x c e=>(f2 b hb).2.2.2.2.1 x c (hcl1 x c e),fun p hp=>?_⟩
  ·rcases List.mem_cons.mp (I.stkSub b z) with z | z
   ·exact (f2 b hb).2.1 z
   ·exact (f2 b hb).2.2.1 z
  ·rcases List.mem_append.mp hp with hp | hp
   ·exact (f2 b hb).2.2.2.2.2 p (List.mem_append_left _ hp)
   ·rcases List.mem_append.mp hp with hp | hp
    ·exact (f2 b hb).2.2.2.2.2 p (List.mem_append_right _ hp)
    ·rw [List.mem_singleton.mp hp]
     exact Nat.ne_of_gt (Nat.lt_of_lt_of_le (hfp b hb) hD)
 rcases turn i n kvs Hb σ' H' w' with ⟨stop,hbt,q⟩ | ⟨go,Nn,hN,step⟩
 ·refine thn (T.done (cxC X N' scope cl C D fp s₀ H2) rfl rfl rfl hcalm i _ s σ' H' (fun _ _=>False) pD (fpok fr) st' stop) fun r s1 ⟨hr,I1⟩=>?_
  subst hr
  have hy1:=(I1.pin (D,o) (by simp)).1
  obtain ⟨m,hm,_⟩:=I1.loc
  obtain ⟨oC,es,ep,hoC,hdC,_⟩:=id hm
  obtain ⟨IX,fpc⟩:=ZV I hs₀ hos hD hC hDC f2 I1.unpinned hn hbt (rv.at hy1) hoC (by intro v z; rw [hdC] at z; cases z)
  exact hRR D C oC m s1 _ IX hm fpc (q D hn)
 ·refine thn (T.item (cxC X N' scope cl C D fp s₀ H2) rfl rfl rfl hcalm i _ s σ' H' (fun _ _=>False) pD (fpok fr) st' go) fun r s1 ⟨u,hr,h4⟩=>?_
  subst hr
  refine thn h4 fun _ s2 ⟨x5,H5,I5,r5,y5,st5,fr5⟩=>?_
  have I5':=I5.pinned (fpok fr5) (T.obj _ _ st5)
  refine thn (hg _ s2 σ' H5 x5 u _ I5' r5 (step x5 H5 y5)) fun _ s3 ⟨σ6,H6,I6,q6⟩=>?_
  refine thn (ht _ s3 σ6 H6 _ I6 q6) fun ok s4 ⟨H7,I7,q7⟩=>?_
  have stay:∀ {σ7:L2.St} {H7:Hp} {s7:Shared},Inv (cxC X N' scope cl C D fp s₀ H2) (pins ++ [(D,o)] ++ wX fp s2.heap) σ7 H7 s7 →
    (∀ b ∈ fp,∀ o,s2.heap.get? b = some o -> s7.heap.get? b = some o) /\ (∀ b ∈ fp,H7 b = none) /\ H7 D = none /\ s7.heap.get? D = some o:=fun {σ7 H7 s7} I7=>by
   have d:=I7.pin (D,o) (by simp)
   refine ⟨fun b hb o e=>(I7.pin (b,o) (List.mem_append_right _ (List.mem_append_right _ (z9 hb e)))).1,fun b hb=>?_,d.2.1,d.1⟩
   obtain ⟨o,e,_⟩:=T.obj _ _ st5 b hb
   exact (I7.pin (b,o) (List.mem_append_right _ (List.mem_append_right _ (z9 hb e)))).2.1
  cases ok with
  | false =>
   rw [if_neg (by decide)] at q7 ⊢
   obtain ⟨k1,k2,k3,k4⟩:=stay I7
   obtain ⟨m',hm,w7⟩:=hN kvs Hb σ6 H7 q7
   exact ⟨m',hm,i + 1,kvs,Hb,o,σ6,H7,I7.unpinned.unpinned,T.keep _ _ _ st5 k1,k2,k3,rv.at k4,w7⟩
  | true =>
   rw [if_pos rfl] at q7 ⊢
   refine thn (hk _ s4 σ6 H7 _ I7 q7) fun kv s5 ⟨y,H8,I8,ry,q8⟩=>?_
   refine thn (he _ s5 σ6 H8 _ I8 q8) fun vv s6 ⟨v,H9,I9,r9,hl9,b,ks,ey,eb,tp,n9⟩=>?_
   subst ey
   cases (show kv = Value.ref b from ry)
   obtain ⟨k1,k2,k3,k4⟩:=stay I9
   obtain ⟨z,hd,xs,rel,es,ep,h1,h2,h3,h4',h5⟩:=rv.at k4
   have dd:s6.heap.DictOfH (tupleKind (zM X.prog X.w)) D xs:=by
    refine ⟨o,es,ep,h1,h2,h3,h4',fun x hx=>?_,h5⟩
    have all:∀ {l:List (List Key × V)} {m:List (List Key × Addr × Value)},KT Hb l m -> ∀ x ∈ m,(tupleKind (zM X.prog X.w)).is s6.heap x.1 x.2.1:=by
     intro l m q
     induction q with
     | nil=>intro x hx; exact nomatch hx
     | @cons p q ps qs hq t ih =>
      intro x hx
      rcases List.mem_cons.mp hx with e | hx
      ·subst e
       exact ue I9.hok (by rw [← hq.1]; exact tp _ _ hq.2.1)
      ·exact ih x hx
    exact all rel x hx
   have xl:xs.length <= sizeLine:=by rw [← Paired.length rel]; exact z
   refine wpAny_dictSet_heap (hsz:=xl) (show (tupleKind (zM X.prog X.w)).room X.A from Nat.lt_of_succ_lt hu) (ue I9.hok eb) dd fun h' dd' sb=>?_
   obtain ⟨o',es',ep',hq1,hq2,hq3,hq4,_,hq5⟩:=dd'
   obtain ⟨m',hm,w9⟩:=hN _ _ σ6 H9 n9
   have pl:=zQ kvs ks v
   refine ⟨m',hm,i + 1,putK kvs ks v,H9,o',σ6,H9,?_,T.keep _ _ _ (T.keep _ _ _ st5 k1) fun b hb o e=>sb.extBut b o (Nat.ne_of_lt (Nat.lt_of_lt_of_le (hfp b hb) hD)) e,k2,k3,⟨by omega,hd,_,(KT.keeps rel tp).put ks eb r9,es',ep',hq1,hq2,hq3,hq4,hq5⟩,w9⟩
   exact (I9.unpinned.unpinned).turned (it:=D) (t':=_) (h':=h') (fun b o hb e=>sb.extBut b o hb e) k3 hDC (.inl (by simp)) (fun x c e=>Nat.ne_of_lt (Nat.lt_of_lt_of_le (cells x c e) hD)) (fun p hp=>Nat.ne_of_lt (Nat.lt_of_lt_of_le (pinsz p hp) hD))
theorem rf {tg:Expr} {pos:Pos} {kx vx iter:Expr} {ifs:List Expr} {g:TG} {tt:TT} {tk tv:TE} {E:VS7} {Q:VK} {RR:Value -> Addr -> Result -> Shared -> Prop}
  (hu:X.A.units + 1 < cLine) (I:Inv X pins σ H2 s₂) (hcalm:X.calm = true) (T:Turn X.prog X.w X.K tg J fp it tn) (st:tn 0 s₂.heap) (f2:∀ b ∈ fp,FpOk X pins H2 b)
  (S:CSc X scope N' sub) (hcl1:∀ x c,cl.lookup x = some c -> X.env.cells.lookup x = some c) (hcl2:∀ y ∈ scope.names,y.2 = .free -> ∃ c,cl.lookup y.1 = some c)
  (hg:∀ C D fp s H,PG (cxC X N' scope cl C D fp s H) tg g) (ht:∀ C D fp s H,PIfs (cxC X N' scope cl C D fp s H) ifs tt) (hk:∀ C D fp s H,PE (cxC X N' scope cl C D fp s H) kx tk) (he:∀ C D fp s H,PE (cxC X N' scope cl C D fp s H) vx tv)
  (hW:ZU J (capt sub σ) H2 g tt tk tv Q)
  (hRR:∀ (D C:Addr) (oC:Obj) (m:Str -> Option Value) (s':Shared) (Hf:Hp),Inv X (pins ++ [(C,oC)]) σ Hf s' -> s'.heap.Ns C m -> FpOk X pins Hf C -> Q (.ref D) Hf -> RR (.ref D) C (.ok .next) s') :
  wpAny (model X.prog X.w) X.A newDict (fun acc s₃=>wpAny (model X.prog X.w) X.A (newFunctionEnv scope X.env.globals cl [] X.env.qual none .none (some X.env)) (fun cenv s₄ =>
   codeAny (model X.prog X.w) X.A (.compStart (.DictComp kx vx [⟨tg,iter,ifs,0⟩] scope pos) 0 (.ref it) acc { cenv with scope:=relabel scope X.env }) (RR acc cenv.locals) s₄) E s₃) E s₂:=by
 obtain ⟨W,⟨m0,w0⟩,turn⟩:=hW
 refine wpAny_newObj_type (wpAny_newFunctionEnv S.nocell (by intro y hy; simp at hy) (fun h₁ hns₁ hsb₁=>?_) S.kind)
 dsimp only at hns₁ hsb₁ ⊢
 have hC:(s₂.heap.push { cls:=.type "dict",dict:=none,data:=.dict #[] }).objs.size = s₂.heap.objs.size + 1:=Heap.size_push ..
 rw [hC] at hns₁ hsb₁ ⊢
 have hk1:∀ b o,(s₂.heap.push { cls:=.type "dict",dict:=none,data:=.dict #[] }).get? b = some o -> h₁.get? b = some o:=fun b o e =>
  hsb₁.extBut b o (by have:=Heap.lt_size e; rw [hC] at this; exact Nat.ne_of_lt this) (Heap.get?_push_of_some _ e)
 have hfp:∀ b ∈ fp,b < s₂.heap.objs.size:=fun b hb=>by
  obtain ⟨o,e,_⟩:=T.obj _ _ st b hb
  exact Heap.lt_size e
 have I0:=v7 (tk:=s₂.toks + ([]:List (Str × Value)).length) I S hcl1 hcl2 f2 hfp hns₁ hk1
 have hD0:h₁.get? s₂.heap.objs.size = some { cls:=.type "dict",data:=.dict #[] }:=hk1 _ _ (Heap.get?_push_size _ rfl)
 obtain ⟨_,hd0,xs0,rel0,o0,es0,ep0,q1,q2,q3,q4,q5⟩:=(qA (P:=X.prog) (w:=X.w) (H:=H2) s₂.heap I.big)
 rw [Heap.get?_push_size _ rfl] at q1
 cases q1
 have loop:codeAny (model X.prog X.w) X.A (.compLoop (.DictComp kx vx [⟨tg,iter,ifs,0⟩] scope pos) 0 (.ref it) (.ref s₂.heap.objs.size) (compEnvC scope cl (s₂.heap.objs.size + 1) X.env)) (RR (.ref s₂.heap.objs.size) (s₂.heap.objs.size + 1)) { s₂ with heap:=h₁,toks:=s₂.toks + ([]:List (Str × Value)).length } :=
  ZW (s₀:={ s₂ with heap:=s₂.heap.push { cls:=.type "dict",dict:=none,data:=.dict #[] } }) (C:=s₂.heap.objs.size + 1) (D:=s₂.heap.objs.size) hu I hcalm T f2 hfp (fun b o e=>Heap.get?_push_of_some _ e) rfl (Nat.le_refl _) (Nat.le_succ _) (Nat.ne_of_lt (Nat.lt_succ_self _)) hcl1 (hg _ _ _ _ _) (ht _ _ _ _ _) (hk _ _ _ _ _) (he _ _ _ _ _) turn hRR m0 _
   ⟨0,[],H2,_,capt sub σ,H2,I0,T.keep _ _ _ st fun b hb o e=>hk1 b o (Heap.get?_push_of_some _ e),fun b hb=>(f2 b hb).1,I.hok.fresh (Nat.le_refl _),⟨Nat.zero_le _,hd0,[],.nil,es0,ep0,hD0,q2,q3,by cases rel0; exact q4,List.nodup_nil⟩,w0⟩
 exact codeAny_compStart_dict loop (T.self _ _ _ _ _ (T.keep _ _ _ st fun b hb o e=>hk1 b o (Heap.get?_push_of_some _ e)) loop)
end
section
variable {X:Cx} {scope:Scope} {N':List Str} {sub:List (Option Nat)} {tg:Expr} {pos:Pos} {kx vx iter:Expr} {ifs:List Expr} {wi:TI} {g:TG} {tt:TT} {tk tv:TE}
theorem Y4 (hu:X.A.units + 1 < cLine) (S:CSc X scope N' sub) (hcalm:X.calm = true) (hi:PI X tg iter wi)
  (hg:∀ cl C D fp s H,PG (cxC X N' scope cl C D fp s H) tg g) (ht:∀ cl C D fp s H,PIfs (cxC X N' scope cl C D fp s H) ifs tt) (hk:∀ cl C D fp s H,PE (cxC X N' scope cl C D fp s H) kx tk) (he:∀ cl C D fp s H,PE (cxC X N' scope cl C D fp s H) vx tv)
  (hs:∀ x,foldedSetIterable iter X.env x = pure x:=by intro _; rfl):PE X (.DictComp kx vx [⟨tg,iter,ifs,0⟩] scope pos) (VC wi sub g tt tk tv):=by
 intro pins s σ H Q I h
 obtain ⟨cl,hclos,hcl1,hcl2⟩:=S.clos I
 rw [arm_eval_DictComp]
 refine wpAny_comprehension_free (use:=none) rfl hs hclos S.kind S.names (thn (hi pins s σ H _ I h) fun v s1 h1=>thn h1 fun itv s2 h2=>?_)
 obtain ⟨it,fp,tn,J,H2,e,I2,T,st2,f2,hW⟩:=h2
 subst e
 refine rf (RR:=fun acc C=>compPost (model X.prog X.w) X.A X.xe none (EP X pins σ Q) acc C) hu I2 hcalm T st2 f2 S hcl1 hcl2 (hg cl) (ht cl) (hk cl) (he cl) hW ?_
 intro D C oC m s' Hf IX hm fpc q
 refine ⟨m,hm,fun h' sb=>⟨.ref D,Hf,?_,rfl,q⟩⟩
 exact (IX.unpinned).turned (it:=C) (t':=s'.toks) (h':=h') (fun b o hb e=>sb.extBut b o hb e) fpc.1 fpc.2.1 fpc.2.2.2.1 fpc.2.2.2.2.1 fpc.2.2.2.2.2
end
def Itd (a:Addr) (o:Obj) (kvs:List (List Key × V)):It :=
 ⟨fun i H=>i < kvs.length /\ H a = some (.frz o (.dT kvs)),fun i H x H'=>H' = H /\ ∃ p b,kvs[i]? = some p /\ x = .ref b /\ H b = some (.tup (p.1.map kV)),fun i H=>i = kvs.length /\ H a = some (.frz o (.dT kvs))⟩
theorem XR {P:Program} {w:World} {H:Hp} {h:Heap} {a:Addr} {o:Obj} {es:Array DictEntry} {ep:Nat} {kvs:List (List Key × V)} (x:zK P w H h a (.frz o (.dT kvs))) (hd:o.data = .dict es ep) :
  ∃ xs:List (List Key × Addr × Value),KT H kvs xs /\ h.get? a = some o /\ es.toList = xs.map (entryOfKey (tupleKind (zM P w))):=by
 obtain ⟨g,z,lo,xs,rel,o',es',ep',g',hx,hd',he,nd⟩:=x
 rw [g] at g'
 cases g'
 rw [hd] at hd'
 injection hd' with e1 e2
 subst e1
 exact ⟨xs,rel,g,he⟩
theorem Wr {P:Program} {w:World} {K:FG7} {tg:Expr} (a it:Addr) (o:Obj) (es:Array DictEntry) (ep:Nat) (kvs:List (List Key × V)) (hx:o.ExactDict) (hd:o.data = .dict es ep) (hes:es.size = kvs.length) :
  Turn P w K tg (Itd a o kvs) [it] it (fun i h=>h.IsKeyIter it a i es.size ep) where
 mem:=by simp
 obj:=fun i h st b hb=>by
  have e:b = it:=by simpa using hb
  subst e
  obtain ⟨o,e,c,d⟩:=st
  exact ⟨o,e,fun v z=>by rw [d] at z; cases z⟩
 keep:=fun i h h' st k=>st.at fun o e=>k it (by simp) o e
 item:=by
  intro X hP hw hK hc i pins s σ H E I hf st hg
  subst hP hw hK
  obtain ⟨hi,hH⟩:=hg
  obtain ⟨xs,rel,g,he⟩:=XR (I.hok a _ hH) hd
  have hl:kvs.length = xs.length:=Paired.length rel
  obtain ⟨f0,f1,f2,f3,f4,f5⟩:=hf it (by simp)
  refine Y0 st ⟨o,g,hx,hd⟩ (by omega) fun h' st' sb=>?_
  have I1:Inv X pins σ H { s with heap:=h' }:=I.turned (t':=s.toks) (fun b o hb e=>(sb.2 b hb).trans e) f0 f1 f3 f4 f5
  obtain ⟨oi,e,c,d⟩:=id st'
  have hy:i < xs.length:=by omega
  have ee:=entry_at he i
  rw [Array.getElem?_eq_getElem (by omega),List.getElem?_eq_getElem hy,Option.map_some] at ee
  have ek:es[i].key = Value.ref xs[i].2.1:=by rw [Option.some.inj ee]; rfl
  obtain ⟨p,hp,hr⟩:∃ p,kvs[i]? = some p /\ H xs[i].2.1 = some (.tup (p.1.map kV)):=by
   have hz:(xs.map fun q=>V.ref q.2.1)[i]? = some (V.ref xs[i].2.1):=by rw [List.getElem?_map,List.getElem?_eq_getElem hy]; rfl
   have hk:=qD rel
   have:∀ {zs:List V} {ps:List (List Key × V)} {j:Nat} {b:Addr},AllR (VA H) zs ps -> zs[j]? = some (V.ref b) -> ∃ p,ps[j]? = some p /\ H b = some (.tup (p.1.map kV)):=by
    intro zs
    induction zs with
    | nil=>intro ps j b _ h; cases h
    | cons z zs ih =>
     intro ps j b hA h
     cases ps with
     | nil=>exact hA.elim
     | cons p ps =>
      cases j with
      | zero =>
       obtain ⟨b',e',hb'⟩:=hA.1
       have:z = V.ref b:=Option.some.inj h
       rw [this] at e'
       cases e'
       exact ⟨p,rfl,hb'⟩
      | succ j =>
       obtain ⟨p',h1,h2⟩:=ih (ps:=ps) (j:=j) hA.2 (show zs[j]? = some (V.ref b) from h)
       exact ⟨p',h1,h2⟩
   exact this hk hz
  exact ⟨_,rfl,jT (s:={ s with heap:=h' }) e c d (by decide) ⟨V.ref xs[i].2.1,H,I1,ek,⟨rfl,p,_,hp,rfl,hr⟩,st',fun b hb=>(hf b hb).1⟩⟩
 done:=by
  intro X hP hw hK hc i pins s σ H E I hf st hg
  subst hP hw hK
  obtain ⟨hi,hH⟩:=hg
  obtain ⟨xs,rel,g,he⟩:=XR (I.hok a _ hH) hd
  obtain ⟨f0,f1,f2,f3,f4,f5⟩:=hf it (by simp)
  have ei:i = es.size:=by omega
  subst ei
  exact Wp (I.ok.hd hc) st ⟨o,g,hx,hd⟩ fun h' eb=>⟨rfl,I.turned (t':=s.toks) (fun b o hb e=>eb b o hb e) f0 f1 f3 f4 f5⟩
 self:=fun _ _ _ _ _ st h=>wpAny_pyIter_keyiter st h
section
variable {X:Cx} {tg:Expr}
theorem Grow.frzR {m:List Addr} {H:Hp} {d:Addr} {kvs:List (List Key × V)} {o:Obj} (h:H d = some (.dT kvs)) (hm:d ∈ m):Grow m H (upd H d (.frz o (.dT kvs))) :=
 ⟨fun b u hb q=>by rw [zk (show b ≠ d from fun z=>hb (by rw [z]; exact hm))]; exact q,fun b zs q=>by rw [zk (fun z=>by subst z; rw [h] at q; cases q)]; exact q,fun b u v q=>by rw [zk (fun z=>by subst z; rw [h] at q; cases q)]; exact q⟩
def iDT (tl:TE):TI:=fun σ H R=>tl σ H fun x H1=>∃ a kvs,x = .ref a /\ Rd H1 a (.dT kvs) /\ ∀ o H',H' a = some (.frz o (.dT kvs)) -> Grow [a] H1 H' -> (∀ b,b ≠ a -> H' b = H1 b) -> R (Itd a o kvs) H'
theorem VD {l:Expr} {tl:TE} (hl:PE X l tl):PI X tg l (iDT tl):=by
 intro pins s σ H R I h
 refine thn (hl pins s σ H _ I h) fun v s1 ⟨x,H1,I1,r1,q1⟩=>?_
 obtain ⟨a,kvs,e,hrd,q⟩:=q1
 subst e
 cases r1
 have key:∀ (H2:Hp) (o:Obj),Inv X pins σ H2 s1 -> H2 a = some (.frz o (.dT kvs)) -> R (Itd a o kvs) H2 -> wpAny (model X.prog X.w) X.A (pyIter (.ref a)) (PIE X pins σ tg R) X.xe s1:=by
  intro H2 o I2 hH hR
  obtain ⟨g,z,lo,xs,rel,o',es,ep,g',hx,hd,he,nd⟩:=(show zK X.prog X.w H2 s1.heap a (.frz o (.dT kvs)) from I2.hok a _ hH)
  rw [g] at g'
  cases g'
  have hl:kvs.length = xs.length:=Paired.length rel
  have hes:es.size = xs.length:=size_of_entries he
  refine YZ lo ⟨o,g,hx,hd⟩ ?_
  refine ⟨s1.heap.objs.size,[s1.heap.objs.size],_,_,H2,rfl,I2.kept (t':=s1.toks) fun b o e=>Heap.get?_push_of_some _ e,Wr a _ o es ep kvs hx hd (by omega),⟨_,Heap.get?_push_size _ rfl,rfl,rfl⟩,fun b hb=>?_,hR⟩
  have e:b = s1.heap.objs.size:=by simpa using hb
  subst e
  exact I2.fpOk (Nat.le_refl _) (I2.hok.fresh (Nat.le_refl _))
 rcases hrd with ha | ⟨o,ha⟩
 ·obtain ⟨z,lo,xs,rel,o,es,ep,g,hx,hd,he,nd⟩:=(show zK X.prog X.w H1 s1.heap a (.dT kvs) from I1.hok a _ ha)
  have I2:Inv X pins σ (upd H1 a (.frz o (.dT kvs))) { s1 with heap:=s1.heap,toks:=s1.toks }:=sW I1 (by rw [ha]; trivial) (Heap.SameBut.refl ..) ⟨o,g⟩ ⟨g,z,lo,xs,?_,o,es,ep,g,hx,hd,he,nd⟩
  ·exact key _ o I2 zc (q o _ zc (Grow.frzR ha (by simp)) fun b hb=>zk hb)
  ·refine KT.keeps rel fun b ys e=>?_
   have:b ≠ a:=fun z=>by rw [z,ha] at e; cases e
   rw [zk this]; exact e
 ·exact key _ o I1 ha (q o _ ha (Grow.refl _ _) fun _ _=>rfl)
end
theorem VE {a:Addr} {o:Obj} {kvs:List (List Key × V)} {g:TG} {tb:TS} {D:Ends} {σ:L2.St} {H:Hp} (Pv:Nat -> L2.St -> Hp -> Prop) (h0:Pv 0 σ H) (hl:∀ i σ H,i <= kvs.length -> Pv i σ H -> H a = some (.frz o (.dT kvs)))
  (hs:∀ i p b σ H,kvs[i]? = some p -> H b = some (.tup (p.1.map kV)) -> Pv i σ H -> g (.ref b) σ H fun σ2 H2=>tb { D with nx:=Pv (i + 1),ct:=Pv (i + 1),bk:=D.nx } σ2 H2) (hd:∀ σ H,Pv kvs.length σ H -> D.nx σ H) :
  ∃ W:Nat -> Nat -> L2.St -> Hp -> Prop,(∃ m,W 0 m σ H) /\ ∀ i m σ H,W i m σ H →
   ((Itd a o kvs).stop i H /\ D.nx σ H) \/ ((Itd a o kvs).go i H /\ ∃ N:L2.St -> Hp -> Prop,(∀ σ' H',N σ' H' -> ∃ m',m' < m /\ W (i + 1) m' σ' H') /\ ∀ x H',(Itd a o kvs).yld i H x H' -> g x σ H' fun σ2 H2=>tb { D with nx:=N,ct:=N,bk:=D.nx } σ2 H2):=by
 refine ⟨fun i m σ H=>m = kvs.length - i /\ i <= kvs.length /\ Pv i σ H,⟨kvs.length,by simp,Nat.zero_le _,h0⟩,?_⟩
 rintro i m σ H ⟨rfl,hi,p⟩
 have q:=hl i σ H hi p
 by_cases hlt:i < kvs.length
 ·refine .inr ⟨⟨hlt,q⟩,Pv (i + 1),fun σ' H' p'=>⟨kvs.length - (i + 1),by omega,rfl,hlt,p'⟩,fun x H' y=>?_⟩
  obtain ⟨rfl,pk,b,hp,rfl,hb⟩:=y
  exact hs i pk b σ _ hp hb p
 ·have e:i = kvs.length:=by omega
  exact .inl ⟨⟨e,q⟩,hd σ H (e ▸ p)⟩
theorem Ws {a:Addr} {o:Obj} {kvs:List (List Key × V)} {g:TG} {tt:TT} {te:TE} {Q:VK} {σ:L2.St} {H:Hp} (Pv:Nat -> List V -> L2.St -> Hp -> Prop) (h0:Pv 0 [] σ H) (hl:∀ i ys σ H,i <= kvs.length -> Pv i ys σ H -> H a = some (.frz o (.dT kvs)))
  (hs:∀ i p b ys σ H,kvs[i]? = some p -> H b = some (.tup (p.1.map kV)) -> Pv i ys σ H -> g (.ref b) σ H fun σ2 H3=>tt σ2 H3 fun t H4=>if t = true then te σ2 H4 fun y H5=>ys.length < sizeLine /\ Pv (i + 1) (ys ++ [y]) σ2 H5 else Pv (i + 1) ys σ2 H4)
  (hd:∀ ys σ H,Pv kvs.length ys σ H -> ∀ l,H l = none -> Q (.ref l) (upd H l (.lst ys))):xC (Itd a o kvs) σ H g tt te Q:=by
 refine ⟨fun i m ys σ H=>m = kvs.length - i /\ i <= kvs.length /\ Pv i ys σ H,⟨kvs.length,by simp,Nat.zero_le _,h0⟩,?_⟩
 rintro i m ys σ H ⟨rfl,hi,p⟩
 have q:=hl i ys σ H hi p
 by_cases hlt:i < kvs.length
 ·refine .inr ⟨⟨hlt,q⟩,Pv (i + 1),fun zs σ' H' p'=>⟨kvs.length - (i + 1),by omega,rfl,hlt,p'⟩,fun x H' y=>?_⟩
  obtain ⟨rfl,pk,b,hp,rfl,hb⟩:=y
  exact hs i pk b ys σ _ hp hb p
 ·have e:i = kvs.length:=by omega
  exact .inl ⟨⟨e,q⟩,hd ys σ H (e ▸ p)⟩
def x0R (k:Nat) (rows:List (List Int)) (s l:Nat):Nat:=wfN k s l (fstI rows s (nN k s l))
def x1R (k:Nat) (rows:List (List Int)) (s l:Nat):Nat:=wfN k s l (1 - fstI rows s (nN k s l))
def outR (k s l b:Nat):Nat:=wfN k s l (figI k s ((b % 2 ^ k:Nat):Int))
theorem VF {k s l m:Nat} {w:Int} (k4:k <= 4) (s1:1 <= s) (sk:s <= k) (hl:l < 2 ^ k) (hm:m < 2 ^ k) (hw:w = 0 \/ w = 1) (h:∀ t:Nat,1 <= t -> t <= k -> t ≠ s -> figI k t l = figI k t m):wfN k s l w = wfN k s m w:=by
 have A:=wfF k4 s1 sk hl hw
 have B:=wfF k4 s1 sk hm hw
 refine vm k4 A.lt B.lt fun t t1 tk=>?_
 by_cases c:t = s
 ·rw [c,A.at_,B.at_]
 ·rw [A.off t tk c,B.off t tk c,h t t1 tk c]
theorem Wt {k s l m:Nat} (s1:1 <= s) (sk:s <= k) (h:∀ t:Nat,1 <= t -> t <= k -> t ≠ s -> figI k t l = figI k t m):nN k s l = nN k s m:=by
 rw [XO (e:=m) (x:=m) s1 sk (fun u u1 u2=>h u u1 (by omega) (by omega)) fun u u1 u2=>h u (by omega) u2 (by omega)]
 exact (XO (e:=m) (x:=m) s1 sk (fun u _ _=>rfl) fun u _ _=>rfl).symm
section
variable {k:Nat} {rows:List (List Int)}
theorem XS {s l m:Nat} (k4:k <= 4) (hs:yh k rows) (s1:1 <= s) (sk:s <= k) (hl:l < 2 ^ k) (hm:m < 2 ^ k) (h:∀ t:Nat,1 <= t -> t <= k -> t ≠ s -> figI k t l = figI k t m) :
  x0R k rows s l = x0R k rows s m /\ x1R k rows s l = x1R k rows s m:=by
 have e:=Wt s1 sk h
 have f:=ZE k4 hs s1 sk hm
 unfold x0R x1R
 rw [e]
 exact ⟨VF k4 s1 sk hl hm f h,VF k4 s1 sk hl hm (by omega) h⟩
structure XF (k:Nat) (rows:List (List Int)) (s l:Nat):Prop where
 lt0:x0R k rows s l < 2 ^ k
 lt1:x1R k rows s l < 2 ^ k
 ne:x0R k rows s l ≠ x1R k rows s l
 or:l = x0R k rows s l \/ l = x1R k rows s l
 off0:∀ t:Nat,t <= k -> t ≠ s -> figI k t (x0R k rows s l) = figI k t l
 off1:∀ t:Nat,t <= k -> t ≠ s -> figI k t (x1R k rows s l) = figI k t l
theorem xF {s l:Nat} (k4:k <= 4) (hs:yh k rows) (s1:1 <= s) (sk:s <= k) (hl:l < 2 ^ k):XF k rows s l:=by
 have f:=ZE k4 hs s1 sk hl
 have A:=wfF k4 s1 sk hl f
 have B:=wfF k4 s1 sk hl (show 1 - fstI rows s (nN k s l) = 0 \/ 1 - fstI rows s (nN k s l) = 1 by omega)
 have g:=Wl (l:=l) k4 sk hl
 refine ⟨A.lt,B.lt,fun e=>?_,?_,A.off,B.off⟩
 ·have e':wfN k s l (fstI rows s (nN k s l)) = wfN k s l (1 - fstI rows s (nN k s l)):=e
  have a:=A.at_
  rw [e',B.at_] at a
  omega
 ·by_cases c:figI k s l = fstI rows s (nN k s l)
  ·refine .inl (vm k4 hl A.lt fun t t1 tk=>?_)
   by_cases d:t = s
   ·rw [d]; exact c.trans A.at_.symm
   ·exact (A.off t tk d).symm
  ·refine .inr (vm k4 hl B.lt fun t t1 tk=>?_)
   by_cases d:t = s
   ·rw [d,show figI k s (x1R k rows s l) = 1 - fstI rows s (nN k s l) from B.at_]; omega
   ·exact (B.off t tk d).symm
theorem zR {b:Nat}:b % 2 ^ k < 2 ^ k:=Nat.mod_lt _ (Nat.two_pow_pos k)
theorem outF {s l b:Nat} (k4:k <= 4) (s1:1 <= s) (sk:s <= k) (hl:l < 2 ^ k):WfF k s l (figI k s ((b % 2 ^ k:Nat):Int)):=wfF k4 s1 sk hl (Wl k4 sk zR)
theorem Ul {s l b:Nat} (k4:k <= 4) (hs:yh k rows) (s1:1 <= s) (sk:s <= k) (hl:l < 2 ^ k):x0R k rows s (outR k s l b) = x0R k rows s l /\ x1R k rows s (outR k s l b) = x1R k rows s l:=by
 have W:=outF (b:=b) k4 s1 sk hl
 exact XS k4 hs s1 sk W.lt hl fun t _ tk h=>W.off t tk h
def jp:Option Deed -> Option Deed -> Option Deed
 | some d,some e=>some (tG d e)
 | some d,none=>some d
 | none,o=>o
def lvR (k:Nat) (rows:List (List Int)) (ks:List Ask):Nat -> Nat -> Nat -> Option Deed
 | 0,l,b=>(ks.find? fun a=>decide (a.hand = (l:Int) /\ a.box = (b:Int))).map (·.deed)
 | s + 1,l,b=>if figI k ((s + 1:Nat):Int) l = figI k ((s + 1:Nat):Int) ((b % 2 ^ k:Nat):Int) then jp (lvR k rows ks s (x0R k rows (s + 1) l) b) (lvR k rows ks s (x1R k rows (s + 1) l) b) else none
def arrR (k:Nat) (rows:List (List Int)) (ks:List Ask):Nat -> Nat -> Nat -> List Ask
 | 0,l,b=>ks.filter fun a=>decide (a.hand = (l:Int) /\ a.box = (b:Int))
 | s + 1,l,b=>if figI k ((s + 1:Nat):Int) l = figI k ((s + 1:Nat):Int) ((b % 2 ^ k:Nat):Int) then arrR k rows ks s (x0R k rows (s + 1) l) b ++ arrR k rows ks s (x1R k rows (s + 1) l) b else []
def runR (v:Int) (as:List Ask):Int:=as.foldl (fun v a=>a.deed.mk' v) v
structure RndOk (k m:Nat) (ks:List Ask):Prop where
 nd:(ks.map (·.hand)).Nodup
 hand:∀ a ∈ ks,0 <= a.hand /\ a.hand < 2 ^ k
 box:∀ a ∈ ks,0 <= a.box /\ a.box < m
 ok:∀ a ∈ ks,a.deed.Ok
structure LvF (k:Nat) (rows:List (List Int)) (ks:List Ask) (s l b:Nat):Prop where
 non:lvR k rows ks s l b = none ↔ arrR k rows ks s l b = []
 run:∀ d,lvR k rows ks s l b = some d -> d.Ok /\ ∀ v,d.mk' v = runR v (arrR k rows ks s l b)
theorem XT {ks:List Ask} (k4:k <= 4) (hs:yh k rows) {s l b:Nat} (sk:s + 1 <= k) (hl:l < 2 ^ k):lvR k rows ks (s + 1) (outR k (s + 1) l b) b = jp (lvR k rows ks s (x0R k rows (s + 1) l) b) (lvR k rows ks s (x1R k rows (s + 1) l) b):=by
 have W:=outF (b:=b) k4 (show 1 <= s + 1 by omega) sk hl
 have X:=Ul (b:=b) k4 hs (show 1 <= s + 1 by omega) sk hl
 show (if figI k ((s + 1:Nat):Int) (outR k (s + 1) l b) = _ then _ else _) = _
 rw [if_pos (show figI k ((s + 1:Nat):Int) (outR k (s + 1) l b) = figI k ((s + 1:Nat):Int) ((b % 2 ^ k:Nat):Int) from W.at_),X.1,X.2]
theorem XU {ks:List Ask} (k4:k <= 4) (hs:yh k rows) {s l b:Nat} (sk:s + 1 <= k) (hl:l < 2 ^ k) (h:lvR k rows ks (s + 1) l b ≠ none):∃ x,x < 2 ^ k /\ outR k (s + 1) x b = l /\ lvR k rows ks s x b ≠ none:=by
 by_cases c:figI k ((s + 1:Nat):Int) l = figI k ((s + 1:Nat):Int) ((b % 2 ^ k:Nat):Int)
 ·have e2:lvR k rows ks (s + 1) l b = jp (lvR k rows ks s (x0R k rows (s + 1) l) b) (lvR k rows ks s (x1R k rows (s + 1) l) b):=if_pos c
  have X:=xF k4 hs (show 1 <= s + 1 by omega) sk hl
  have back:∀ x:Nat,x < 2 ^ k -> (∀ t:Nat,t <= k -> t ≠ s + 1 -> figI k t x = figI k t l) -> outR k (s + 1) x b = l:=by
   intro x hx ho
   have W:=outF (b:=b) k4 (show 1 <= s + 1 by omega) sk hx
   refine vm k4 W.lt hl fun t t1 tk=>?_
   by_cases d:t = s + 1
   ·rw [d]; exact W.at_.trans c.symm
   ·exact (W.off t tk d).trans (ho t tk d)
  cases h0:lvR k rows ks s (x0R k rows (s + 1) l) b with
  | some d=>exact ⟨_,X.lt0,back _ X.lt0 X.off0,by rw [h0]; exact fun z=>nomatch z⟩
  | none =>
   refine ⟨_,X.lt1,back _ X.lt1 X.off1,fun z=>h ?_⟩
   rw [e2,h0,z]; rfl
 ·exact absurd (if_neg c) h
def stvR (k:Nat) (rows:List (List Int)) (ks:List Ask) (bd:Nat -> Int):Nat -> Nat -> Nat -> Int
 | 0,_,b=>bd b
 | n + 1,l,b=>match lvR k rows ks (k - n - 1) (x0R k rows (k - n) l) b,lvR k rows ks (k - n - 1) (x1R k rows (k - n) l) b with
  | some d,some _=>if l = x1R k rows (k - n) l then d.mk' (stvR k rows ks bd n (outR k (k - n) l b) b) else stvR k rows ks bd n (outR k (k - n) l b) b
  | _,_=>stvR k rows ks bd n (outR k (k - n) l b) b
end
def dedI (ns:List Int):List Int:=ns.foldl step_dedup []
theorem vy {ns:List Int}:firstMet (fun i=>ns.getD i 0) ns.length = dedI ns:=by
 unfold firstMet dedI
 congr 1
 refine List.ext_getElem? fun i=>?_
 by_cases h:i < ns.length
 ·rw [List.getElem?_map,List.getElem?_range h,Option.map_some,List.getD_eq_getElem?_getD,List.getElem?_eq_getElem h]; rfl
 ·rw [List.getElem?_map,List.getElem?_eq_none (by rw [List.length_range]; omega),List.getElem?_eq_none (by omega)]; rfl
theorem uD:∀ {ns:List Int} {us:List Value},Vals (ns.map V.int) us -> IntsAre us ns
 | [],_,.nil=>.nil
 | n :: ns,_,.cons r t=>by
  obtain ⟨tk,rfl⟩:=r
  exact .cons n tk (uD t)
section
variable {X:Cx}
theorem ZX {k:Nat} (hr:Room k X.A):yI X (.type "set") (fun xs H Q=>∃ a ns,xs = [V.ref a] /\ SqL X.K H a (ns.map V.int) /\ ns.length <= 1000 /\ ∀ l,H l = none -> Q (.ref l) (upd H l (.set (fun j=>(dedI ns).any (· == j)) (dedI ns).length))):=by
 intro pins s σ H xs us Q I r h
 obtain ⟨a,ns,rfl,ha,hl,q⟩:=h
 obtain ⟨u,rfl,ru⟩:=wL r
 cases ru
 obtain ⟨its,rv,p,hz⟩:=I.list ha
 have hlen:=rv.length
 rw [List.length_map] at hlen
 refine call_set_list hr.hd p.isList (ns:=ns) (by simpa using uD rv) (by simp only [List.size_toArray]; have:scanBound = 4096:=rfl; omega) fun h' tk hS kp=>?_
 have e:(its.toArray).size = ns.length:=by simp [hlen]
 rw [e,vy] at hS
 refine ⟨.ref s.heap.objs.size,_,I.laid (t':=tk) (fun b o eb=>kp b o (Heap.lt_size eb) eb) (Nat.le_refl _) (show zK X.prog X.w _ h' _ (.set _ _) from hS),rfl,q _ (I.hok.fresh (Nat.le_refl _))⟩
theorem ZY:yI X (.builtin "len") (fun xs H Q=>∃ a S n,xs = [V.ref a] /\ H a = some (.set S n) /\ Q (.int n) H):=by
 intro pins s σ H xs us Q I r h
 obtain ⟨a,S,n,rfl,ha,q⟩:=h
 obtain ⟨u,rfl,ru⟩:=wL r
 cases ru
 obtain ⟨o,es,ep,t,ho,hex,hd,_,_,hb,hf,hn⟩:=(show s.heap.SetOf (intKind X.prog X.w) a S n from I.hok a _ ha)
 refine call_len_set ho hex hd hf (by have:scanBound = 4096:=rfl; omega) ?_
 rw [hn]
 exact ⟨.int n,H,I.tok _,⟨_,rfl⟩,q⟩
end
theorem VG {ns:List Int} (h:ns.Nodup):(dedI ns).length = ns.length:=by
 have key:∀ (ns acc:List Int),ns.Nodup -> (∀ x ∈ ns,x ∉ acc) -> (ns.foldl step_dedup acc).length = acc.length + ns.length:=by
  intro ns
  induction ns with
  | nil=>intro acc _ _; rfl
  | cons a ns ih =>
   intro acc nd hx
   rw [List.nodup_cons] at nd
   have h0:¬ acc.any (· == a) = true:=fun z=>by
    obtain ⟨y,hy,e⟩:=List.any_eq_true.mp z
    rw [beq_iff_eq] at e
    exact hx a (by simp) (e ▸ hy)
   rw [List.foldl_cons,show step_dedup acc a = acc ++ [a] from by unfold step_dedup; rw [if_neg h0],ih _ nd.2,List.length_append]
   ·simp only [List.length_cons,List.length_nil]; omega
   ·intro x hx' hm
    rcases List.mem_append.mp hm with z | z
    ·exact hx x (by simp [hx']) z
    ·rw [List.mem_singleton.mp z] at hx'; exact nd.1 hx'
 unfold dedI
 rw [key ns [] h (fun _ _ z=>nomatch z)]; simp
section
variable {c:TT} {e:TE} {i:Nat} {v v':V} {t u r:TS} {D:Ends} {σ:L2.St} {H:Hp} {rt:VK} {bk ct:L2.St -> Hp -> Prop}
theorem XV (h:t D (σ.set i (some v)) H):wK i v σ H ({ nx:=t D,rt:=rt,bk:=bk,ct:=ct }:Ends).nx:=h
theorem c_if (Good:L2.St -> Hp -> Prop) (hr:∀ σ' H',Good σ' H' -> r D σ' H') (hc:(∀ σ' H',Good σ' H' -> r D σ' H') -> tIfS c t u { D with nx:=r D } σ H):tSeq (tIfS c t u) r D σ H:=hc hr
theorem yv (Good:V -> Hp -> Prop) (hc:∀ K:VK,(∀ v H',Good v H' -> K v H') -> e σ H K) (hr:∀ v H',Good v H' -> t D (σ.set i (some v)) H'):tSeq (tAsg e (wK i)) t D σ H:=hc _ fun v H' g=>hr v H' g
theorem XW (h:t D σ H):WU ({ nx:=t D,rt:=rt,bk:=bk,ct:=ct }:Ends) σ H:=h
theorem c_nx (h:t D σ H):({ nx:=t D,rt:=rt,bk:=bk,ct:=ct }:Ends).nx σ H:=h
theorem XX (Good:Bool -> Hp -> Prop) (hc:∀ K:Bool -> Hp -> Prop,(∀ b H',Good b H' -> K b H') -> c σ H K) (hr:∀ b H',Good b H' -> if b = true then t { D with nx:=r D } σ H' else u { D with nx:=r D } σ H'):tSeq (tIfS c t u) r D σ H:=hc _ hr
end
theorem vz {K:FG7} {a:Addr} {xs:List V} {g:TG} {te:TE} {Q:VK} {σ:L2.St} {H:Hp} (Pv:Nat -> List V -> L2.St -> Hp -> Prop) (h0:Pv 0 [] σ H) (hl:∀ i ys σ H,i <= xs.length -> Pv i ys σ H -> SqT K H a xs)
  (hs:∀ i x ys σ H,xs[i]? = some x -> Pv i ys σ H -> g x σ H fun σ2 H3=>te σ2 H3 fun y H5=>ys.length < sizeLine /\ Pv (i + 1) (ys ++ [y]) σ2 H5)
  (hd:∀ ys σ H,Pv xs.length ys σ H -> ∀ l,H l = none -> Q (.ref l) (upd H l (.lst ys))):xC (Itt K a) σ H g tE te Q:=uw Pv h0 hl (fun i x ys σ H hx hp=>hs i x ys σ H hx hp) hd
theorem Y5 {a:Addr} {o:Obj} {kvs:List (List Key × V)} {g:TG} {te:TE} {Q:VK} {σ:L2.St} {H:Hp} (Pv:Nat -> List V -> L2.St -> Hp -> Prop) (h0:Pv 0 [] σ H) (hl:∀ i ys σ H,i <= kvs.length -> Pv i ys σ H -> H a = some (.frz o (.dT kvs)))
  (hs:∀ i p b ys σ H,kvs[i]? = some p -> H b = some (.tup (p.1.map kV)) -> Pv i ys σ H -> g (.ref b) σ H fun σ2 H3=>te σ2 H3 fun y H5=>ys.length < sizeLine /\ Pv (i + 1) (ys ++ [y]) σ2 H5)
  (hd:∀ ys σ H,Pv kvs.length ys σ H -> ∀ l,H l = none -> Q (.ref l) (upd H l (.lst ys))):xC (Itd a o kvs) σ H g tE te Q:=Ws Pv h0 hl (fun i p b ys σ H h1 h2 h3=>hs i p b ys σ H h1 h2 h3) hd
theorem yg {n:Nat} (h:n <= 1000):n < sizeLine:=Nat.lt_of_le_of_lt h (by decide)
theorem ZZ {K:FG7} {a:Addr} {xs:List V} {g:TG} {tk tv:TE} {Q:VK} {σ:L2.St} {H:Hp} (Pv:Nat -> List (List Key × V) -> Hp -> L2.St -> Hp -> Prop) (h0:Pv 0 [] H σ H) (hl:∀ i kvs Hb σ H,Pv i kvs Hb σ H -> SqT K H a xs)
  (hs:∀ i x kvs Hb σ H,xs[i]? = some x -> Pv i kvs Hb σ H -> g x σ H fun σ2 H3=>tk σ2 H3 fun y H5=>tv σ2 H5 fun v H6=>kvs.length < sizeLine /\ ∃ b ks,y = .ref b /\ H6 b = some (.tup (ks.map kV)) /\ (∀ c xs,Hb c = some (.tup xs) -> H6 c = some (.tup xs)) /\ Pv (i + 1) (putK kvs ks v) H6 σ2 H6)
  (hd:∀ kvs Hb σ H,Pv xs.length kvs Hb σ H -> (∀ b xs,Hb b = some (.tup xs) -> H b = some (.tup xs)) /\ ∀ l,H l = none -> Q (.ref l) (upd H l (.dT kvs))):ZU (Itt K a) σ H g tE tk tv Q:=by
 refine ⟨fun i m kvs Hb σ H=>m = xs.length - i /\ i <= xs.length /\ Pv i kvs Hb σ H,⟨xs.length,by simp,Nat.zero_le _,h0⟩,?_⟩
 rintro i m kvs Hb σ H ⟨rfl,hi,p⟩
 have q:=hl i kvs Hb σ H p
 by_cases hlt:i < xs.length
 ·refine .inr ⟨⟨xs,xs[i],q,List.getElem?_eq_getElem hlt⟩,Pv (i + 1),fun zs Hc σ' H' p'=>⟨xs.length - (i + 1),by omega,rfl,hlt,p'⟩,fun x H' y=>?_⟩
  obtain ⟨rfl,y⟩:=y
  exact hs i x kvs Hb σ _ (y xs q) p
 ·have e:i = xs.length:=by omega
  obtain ⟨h1,h2⟩:=hd kvs Hb σ H (e ▸ p)
  exact .inl ⟨⟨xs,q,by omega⟩,h1,h2⟩
def keyR (l b:Nat):List Key:=[.inl (l:Int),.inl (b:Int)]
theorem zP {l b l' b':Nat} (h:keyR l b = keyR l' b'):l = l' /\ b = b':=by
 unfold keyR at h
 injection h with h1 h2
 injection h2 with h2 _
 injection h1 with h1
 injection h2 with h2
 exact ⟨by omega,by omega⟩
structure TabR {α:Type} (kvs:List (List Key × V)) (n m:Nat) (f:Nat -> Nat -> Option α) (R:V -> α -> Prop):Prop where
 keys:∀ p ∈ kvs,∃ l b x,p.1 = keyR l b /\ l < n /\ b < m /\ f l b = some x /\ R p.2 x
 nd:(kvs.map (·.1)).Nodup
 all:∀ l b,l < n -> b < m -> f l b ≠ none -> (valV kvs (keyR l b)).isSome = true
theorem uE {kvs:List (List Key × V)} {k:List Key} {v:V} (h:valV kvs k = some v):(k,v) ∈ kvs:=by
 unfold valV at h
 cases e:kvs.find? fun kv=>decide (kv.1 = k) with
 | none=>rw [e] at h; cases h
 | some p =>
  rw [e] at h
  have h2:p.2 = v:=Option.some.inj h
  have h0:decide (p.1 = k) = true:=by have z:=List.find?_some e; exact z
  have h1:=of_decide_eq_true h0
  have h3:=List.mem_of_find?_eq_some e
  rw [← h2,← h1]; exact h3
theorem TabR.val {α:Type} {kvs:List (List Key × V)} {n m:Nat} {f:Nat -> Nat -> Option α} {R:V -> α -> Prop} (t:TabR kvs n m f R) {l b:Nat} (hl:l < n) (hb:b < m) :
  match f l b with | some x=>∃ v,valV kvs (keyR l b) = some v /\ R v x | none=>valV kvs (keyR l b) = none:=by
 cases hv:valV kvs (keyR l b) with
 | some v =>
  obtain ⟨l',b',x,e,_,_,hf,hR⟩:=t.keys _ (uE hv)
  obtain ⟨rfl,rfl⟩:=zP e
  rw [hf]
  exact ⟨v,rfl,hR⟩
 | none =>
  cases hf:f l b with
  | none=>rfl
  | some x =>
   have:=t.all l b hl hb (by rw [hf]; exact fun z=>nomatch z)
   rw [hv] at this; cases this
theorem x4 {kvs:List (List Key × V)} {k:List Key} {v:V}:∀ p ∈ putK kvs k v,p = (k,v) \/ (p ∈ kvs /\ p.1 ≠ k):=by
 intro p hp
 unfold putK at hp
 split at hp
 ·obtain ⟨q,hq,rfl⟩:=List.mem_map.mp hp
  by_cases c:q.1 = k
  ·left; rw [if_pos c]; exact Prod.ext c rfl
  ·right; rw [if_neg c]; exact ⟨hq,c⟩
 ·rename_i h
  rcases List.mem_append.mp hp with z | z
  ·by_cases c:p.1 = k
   ·exfalso; exact h (List.any_eq_true.mpr ⟨p,z,decide_eq_true c⟩)
   ·exact .inr ⟨z,c⟩
  ·exact .inl (List.mem_singleton.mp z)
theorem tY {kvs:List (List Key × V)} {k:List Key} {v:V} (h:(kvs.map (·.1)).Nodup):((putK kvs k v).map (·.1)).Nodup:=by
 cases e:valV kvs k with
 | none=>exact Wo v h e
 | some u =>
  have:(putK kvs k v).map (·.1) = kvs.map (·.1):=by
   unfold putK
   rw [if_pos (by rw [yU,e]; rfl),List.map_map]
   refine List.map_congr_left fun p _=>?_
   show (if p.1 = k then (p.1,v) else p).1 = p.1
   split <;> rfl
  rw [this]; exact h
theorem TabR.put {α:Type} {kvs:List (List Key × V)} {n m:Nat} {f g:Nat -> Nat -> Option α} {R:V -> α -> Prop} (t:TabR kvs n m f R) {l b:Nat} {v:V} {x:α} (hl:l < n) (hb:b < m) (hR:R v x) (hx:g l b = some x) (hg:∀ l' b',¬ (l' = l /\ b' = b) -> g l' b' = f l' b'):TabR (putK kvs (keyR l b) v) n m g R where
 keys:=fun p hp=>by
  rcases x4 p hp with rfl | ⟨hm,hne⟩
  ·exact ⟨l,b,x,rfl,hl,hb,hx,hR⟩
  ·obtain ⟨l',b',y,e,h1,h2,h3,h4⟩:=t.keys p hm
   refine ⟨l',b',y,e,h1,h2,?_,h4⟩
   rw [hg l' b' fun z=>hne (by rw [e,z.1,z.2])]; exact h3
 nd:=tY t.nd
 all:=fun l' b' h1 h2 h3=>by
  rw [yy]
  by_cases c:keyR l' b' = keyR l b
  ·rw [if_pos c]; rfl
  ·rw [if_neg c]
   refine t.all l' b' h1 h2 ?_
   rw [← hg l' b' fun z=>c (by rw [z.1,z.2])]; exact h3
theorem TabR.nil {α:Type} {n m:Nat} {R:V -> α -> Prop}:TabR [] n m (fun _ _=>(none:Option α)) R:=⟨(fun _ h=>nomatch h),List.nodup_nil,fun _ _ _ _ h=>absurd rfl h⟩
theorem TabR.imp {α:Type} {kvs:List (List Key × V)} {n m:Nat} {f:Nat -> Nat -> Option α} {R R':V -> α -> Prop} (t:TabR kvs n m f R) (h:∀ v x,R v x -> R' v x):TabR kvs n m f R' :=
 ⟨fun p hp=>by obtain ⟨l,b,x,e,h1,h2,h3,h4⟩:=t.keys p hp; exact ⟨l,b,x,e,h1,h2,h3,h _ _ h4⟩,t.nd,t.all⟩
def VH {α:Type} (H:Hp) (d:Addr) (n m:Nat) (f:Nat -> Nat -> Option α) (R:V -> α -> Prop):Prop:=∃ kvs,Rd H d (.dT kvs) /\ TabR kvs n m f R /\ kvs.length <= 16
def LvAt (K:FG7) (H:Hp) (k m:Nat) (rows:List (List Int)) (ks:List Ask) (s:Nat) (d:Addr):Prop:=VH H d (2 ^ k) m (lvR k rows ks s) (zv K H)
def kpR (k:Nat) (rows:List (List Int)) (ks:List Ask) (s l b:Nat):Option Deed:=match lvR k rows ks (s - 1) (x0R k rows s l) b,lvR k rows ks (s - 1) (x1R k rows s l) b with
 | some d,some _=>some d
 | _,_=>none
def KpAt (K:FG7) (H:Hp) (k m:Nat) (rows:List (List Int)) (ks:List Ask) (s:Nat) (d:Addr):Prop :=
 ∃ kvs,Rd H d (.dT kvs) /\ kvs.length <= 16 /\ (∀ p ∈ kvs,∃ l b x,p.1 = keyR (nN k s l) b /\ l < 2 ^ k /\ b < m /\ kpR k rows ks s l b = some x /\ zv K H p.2 x) /\ (kvs.map (·.1)).Nodup ∧
  ∀ l b,l < 2 ^ k -> b < m -> kpR k rows ks s l b ≠ none -> (valV kvs (keyR (nN k s l) b)).isSome = true
theorem Rd.growR {m:List Addr} {H H':Hp} {d:Addr} {u:HO} (g:Grow m H H') (hm:d ∉ m \/ ∃ o,H d = some (.frz o u)) (h:Rd H d u):Rd H' d u:=by
 rcases hm with hm | ⟨o,ho⟩
 ·rcases h with h | ⟨o,h⟩
  ·exact .inl (g.keep _ _ hm h)
  ·exact .inr ⟨o,g.frz _ _ _ h⟩
 ·exact .inr ⟨o,g.frz _ _ _ ho⟩
theorem LvAt.grow {K:FG7} {m':List Addr} {H H':Hp} {k m:Nat} {rows:List (List Int)} {ks:List Ask} {s:Nat} {d:Addr} (g:Grow m' H H') (hm:d ∉ m') (h:LvAt K H k m rows ks s d):LvAt K H' k m rows ks s d:=by
 obtain ⟨kvs,h1,h2,h3⟩:=h
 exact ⟨kvs,Rd.growR g (.inl hm) h1,h2.imp fun v x hv=>g.deed hv,h3⟩
theorem KpAt.grow {K:FG7} {m':List Addr} {H H':Hp} {k m:Nat} {rows:List (List Int)} {ks:List Ask} {s:Nat} {d:Addr} (g:Grow m' H H') (hm:d ∉ m') (h:KpAt K H k m rows ks s d):KpAt K H' k m rows ks s d:=by
 obtain ⟨kvs,h1,h2,h3,h4,h5⟩:=h
 exact ⟨kvs,Rd.growR g (.inl hm) h1,h2,fun p hp=>by obtain ⟨l,b,x,e,a1,a2,a3,a4⟩:=h3 p hp; exact ⟨l,b,x,e,a1,a2,a3,g.deed a4⟩,h4,h5⟩
theorem uh:∀ k:Fin 5,∀ s:Fin 5,1 <= s.val -> s.val <= k.val -> ∀ l:Fin 16,l.val < 2 ^ k.val -> ∀ t:Fin 5,1 <= t.val -> t.val <= k.val -> t.val ≠ s.val -> figI k.val t.val (xN k.val s.val l.val) = figI k.val t.val l.val:=by decide +kernel
theorem rg {k:Nat} {rows:List (List Int)} {ks:List Ask} {s l l' b:Nat} (k4:k <= 4) (hs:yh k rows) (s1:1 <= s) (sk:s <= k) (hl:l < 2 ^ k) (hl':l' < 2 ^ k) (e:nN k s l = nN k s l'):kpR k rows ks s l b = kpR k rows ks s l' b:=by
 have key:x0R k rows s l = x0R k rows s l' /\ x1R k rows s l = x1R k rows s l':=by
  refine XS k4 hs s1 sk hl hl' fun t t1 tk hne=>?_
  rcases twoF k4 s1 sk hl' hl e.symm with rfl | rfl
  ·rfl
  ·have p:=z8 k4
   have:=uh ⟨k,by omega⟩ ⟨s,by omega⟩ s1 sk ⟨l',by omega⟩ hl' ⟨t,by omega⟩ t1 tk (by simpa using hne)
   exact this
 unfold kpR
 rw [key.1,key.2]
theorem jq:∀ k:Fin 5,∀ b:Fin 16,Builtin.bitAnd (b.val:Int) (1 * 2 ^ ((k.val:Int)).toNat - 1) = ((b.val % 2 ^ k.val:Nat):Int):=by decide +kernel
theorem Y6 {k b:Nat} (k4:k <= 4) (hb:b < 16):Builtin.bitAnd (b:Int) (1 * 2 ^ ((k:Int)).toNat - 1) = ((b % 2 ^ k:Nat):Int):=jq ⟨k,by omega⟩ ⟨b,hb⟩
theorem ui {K:FG7} {H:Hp}:∀ {xs:List V} {ks:List Ask},AllA K H xs ks -> xs.length = ks.length
 | [],[],_=>rfl
 | _ :: _,_ :: _,⟨_,t⟩=>by rw [List.length_cons,List.length_cons,ui t]
 | [],_ :: _,h=>h.elim
 | _ :: _,[],h=>h.elim
theorem xu {k:Nat} {i:Int} (h0:0 <= i) (h1:i < 2 ^ k):i.toNat < 2 ^ k:=by
 have e:((2 ^ k:Nat):Int) = 2 ^ k:=by rw [Int.natCast_pow]; rfl
 omega
theorem RndOk.ask {k m:Nat} {ks:List Ask} (R:RndOk k m ks) (k4:k <= 4):∀ a ∈ ks,YN m a:=fun a ha=>by
 have h:=R.hand a ha
 have p:=z8 k4
 have:=xu h.1 h.2
 exact ⟨h.1,by omega,(R.box a ha).1,(R.box a ha).2,R.ok a ha⟩
structure Beh (K:FG7) (H:Hp) (k m:Nat) (rows:List (List Int)) (ks:List Ask) (st:Nat) (kvs:List (List Key × V)) (i:Nat) (bk kk:List (List Key × V)):Prop where
 b1:∀ p ∈ bk,∃ l b x,p.1 = keyR l b /\ l < 2 ^ k /\ b < m /\ lvR k rows ks st l b = some x /\ zv K H p.2 x
 b2:(bk.map (·.1)).Nodup
 b3:∀ j l b v,j < i -> kvs[j]? = some (keyR l b,v) -> (valV bk (keyR (outR k st l b) b)).isSome = true
 bl:bk.length <= i
 k1:∀ p ∈ kk,∃ l b x,p.1 = keyR (nN k st l) b /\ l < 2 ^ k /\ b < m /\ kpR k rows ks st l b = some x /\ zv K H p.2 x
 k2:(kk.map (·.1)).Nodup
 k3:∀ j l b v,j < i -> kvs[j]? = some (keyR l b,v) -> kpR k rows ks st l b ≠ none -> (valV kk (keyR (nN k st l) b)).isSome = true
 kl:kk.length <= i
section
variable {K:FG7} {H H':Hp} {k m:Nat} {rows:List (List Int)} {ks:List Ask} {st:Nat} {kvs:List (List Key × V)} {i:Nat} {bk kk:List (List Key × V)}
theorem Beh.grow {m':List Addr} (g:Grow m' H H') (B:Beh K H k m rows ks st kvs i bk kk):Beh K H' k m rows ks st kvs i bk kk :=
 ⟨fun p hp=>by obtain ⟨l,b,x,e,h1,h2,h3,h4⟩:=B.b1 p hp; exact ⟨l,b,x,e,h1,h2,h3,g.deed h4⟩,B.b2,B.b3,B.bl,fun p hp=>by obtain ⟨l,b,x,e,h1,h2,h3,h4⟩:=B.k1 p hp; exact ⟨l,b,x,e,h1,h2,h3,g.deed h4⟩,B.k2,B.k3,B.kl⟩
theorem Beh.nil:Beh K H k m rows ks st kvs 0 [] []:=⟨(fun _ h=>nomatch h),List.nodup_nil,(fun _ _ _ _ h=>absurd h (Nat.not_lt_zero _)),Nat.le_refl _,(fun _ h=>nomatch h),List.nodup_nil,(fun _ _ _ _ h=>absurd h (Nat.not_lt_zero _)),Nat.le_refl _⟩
theorem xv {bk:List (List Key × V)} {k j:List Key} {v:V} (h:(valV bk j).isSome = true):(valV (putK bk k v) j).isSome = true:=by
 rw [yy]
 split
 ·rfl
 ·exact h
theorem yV {bk:List (List Key × V)} {k:List Key} {v:V}:(valV (putK bk k v) k).isSome = true:=by rw [yy,if_pos rfl]; rfl
theorem Beh.one {l b:Nat} {v w:V} {x:Deed} (B:Beh K H k m rows ks st kvs i bk kk) (hp:kvs[i]? = some (keyR l b,v)) (ho:outR k st l b < 2 ^ k) (hb:b < m) (hx:lvR k rows ks st (outR k st l b) b = some x) (hd:zv K H w x) (hk:kpR k rows ks st l b = none) :
  Beh K H k m rows ks st kvs (i + 1) (putK bk (keyR (outR k st l b) b) w) kk where
 b1:=fun p hp'=>by
  rcases x4 p hp' with rfl | ⟨hm,_⟩
  ·exact ⟨_,b,x,rfl,ho,hb,hx,hd⟩
  ·exact B.b1 p hm
 b2:=tY B.b2
 b3:=fun j l' b' v' hj hj'=>by
  by_cases c:j < i
  ·exact xv (B.b3 j l' b' v' c hj')
  ·have e:j = i:=by omega
   rw [e,hp] at hj'
   obtain ⟨rfl,rfl⟩:=zP (congrArg Prod.fst (Option.some.inj hj'))
   exact yV
 bl:=Nat.le_trans (zQ ..) (Nat.succ_le_succ B.bl)
 k1:=B.k1
 k2:=B.k2
 k3:=fun j l' b' v' hj hj' hne=>by
  by_cases c:j < i
  ·exact B.k3 j l' b' v' c hj' hne
  ·have e:j = i:=by omega
   rw [e,hp] at hj'
   obtain ⟨rfl,rfl⟩:=zP (congrArg Prod.fst (Option.some.inj hj'))
   exact absurd hk hne
 kl:=Nat.le_succ_of_le B.kl
theorem Beh.two {l b:Nat} {v w w2:V} {x y:Deed} (B:Beh K H k m rows ks st kvs i bk kk) (hp:kvs[i]? = some (keyR l b,v)) (hl:l < 2 ^ k) (ho:outR k st l b < 2 ^ k) (hb:b < m) (hx:lvR k rows ks st (outR k st l b) b = some x) (hd:zv K H w x) (hk:kpR k rows ks st l b = some y) (hy:zv K H w2 y) :
  Beh K H k m rows ks st kvs (i + 1) (putK bk (keyR (outR k st l b) b) w) (putK kk (keyR (nN k st l) b) w2) where
 b1:=fun p hp'=>by
  rcases x4 p hp' with rfl | ⟨hm,_⟩
  ·exact ⟨_,b,x,rfl,ho,hb,hx,hd⟩
  ·exact B.b1 p hm
 b2:=tY B.b2
 b3:=fun j l' b' v' hj hj'=>by
  by_cases c:j < i
  ·exact xv (B.b3 j l' b' v' c hj')
  ·have e:j = i:=by omega
   rw [e,hp] at hj'
   obtain ⟨rfl,rfl⟩:=zP (congrArg Prod.fst (Option.some.inj hj'))
   exact yV
 bl:=Nat.le_trans (zQ ..) (Nat.succ_le_succ B.bl)
 k1:=fun p hp'=>by
  rcases x4 p hp' with rfl | ⟨hm,_⟩
  ·exact ⟨l,b,y,rfl,hl,hb,hk,hy⟩
  ·exact B.k1 p hm
 k2:=tY B.k2
 k3:=fun j l' b' v' hj hj' hne=>by
  by_cases c:j < i
  ·exact xv (B.k3 j l' b' v' c hj' hne)
  ·have e:j = i:=by omega
   rw [e,hp] at hj'
   obtain ⟨rfl,rfl⟩:=zP (congrArg Prod.fst (Option.some.inj hj'))
   exact yV
 kl:=Nat.le_trans (zQ ..) (Nat.succ_le_succ B.kl)
theorem ww {kvs:List (List Key × V)} {k:List Key} (h:(valV kvs k).isSome = true):∃ j v,kvs[j]? = some (k,v) /\ j < kvs.length:=by
 obtain ⟨v,hv⟩:=Option.isSome_iff_exists.mp h
 obtain ⟨j,hj,e⟩:=List.getElem_of_mem (uE hv)
 exact ⟨j,v,by rw [List.getElem?_eq_getElem hj,e],hj⟩
theorem Beh.done {b0 k0:Addr} (k4:k <= 4) (hs:yh k rows) (s1:1 <= st) (sk:st <= k) (tab:TabR kvs (2 ^ k) m (lvR k rows ks (st - 1)) (zv K H)) (kl:kvs.length <= 16) (B:Beh K H k m rows ks st kvs kvs.length bk kk) (hB:H b0 = some (.dT bk)) (hK:H k0 = some (.dT kk)) :
  LvAt K H k m rows ks st b0 /\ KpAt K H k m rows ks st k0:=by
 have es:st = st - 1 + 1:=by omega
 refine ⟨⟨bk,.inl hB,⟨B.b1,B.b2,fun l b hl hb hne=>?_⟩,Nat.le_trans B.bl kl⟩,kk,.inl hK,Nat.le_trans B.kl kl,B.k1,B.k2,fun l b hl hb hne=>?_⟩
 ·rw [es] at hne
  obtain ⟨x,hx,hox,hxn⟩:=XU k4 hs (by omega) hl hne
  obtain ⟨j,v,hj,hjl⟩:=ww (tab.all x b hx hb hxn)
  have:=B.b3 j x b v hjl hj
  rw [← es] at hox
  rw [hox] at this; exact this
 ·have X:=xF (rows:=rows) k4 hs s1 sk hl
  have nx:nN k st (x0R k rows st l) = nN k st l:=Wt s1 sk fun t _ tk hne=>X.off0 t tk hne
  have h0:lvR k rows ks (st - 1) (x0R k rows st l) b ≠ none:=by
   intro z
   unfold kpR at hne
   rw [z] at hne
   exact hne rfl
  obtain ⟨j,v,hj,hjl⟩:=ww (tab.all _ b X.lt0 hb h0)
  have:=B.k3 j _ b v hjl hj (by rw [rg k4 hs s1 sk X.lt0 hl nx]; exact hne)
  rw [nx] at this; exact this
end
theorem Grow.setR {m:List Addr} {H:Hp} {d:Addr} {kvs kvs':List (List Key × V)} (h:H d = some (.dT kvs)) (hm:d ∈ m):Grow m H (upd H d (.dT kvs')) :=
 ⟨fun b u hb q=>by rw [zk (show b ≠ d from fun z=>hb (by rw [z]; exact hm))]; exact q,fun b zs q=>by rw [zk (fun z=>by subst z; rw [h] at q; cases q)]; exact q,fun b u v q=>by rw [zk (fun z=>by subst z; rw [h] at q; cases q)]; exact q⟩
theorem Z0 {H:Hp} {d t:Addr} {o:Obj} {kvs:List (List Key × V)} {l b:Nat} (h:H d = some (.frz o (.dT kvs))) (ht:H t = some (.tup [.int l,.int b])):DGet H d (.ref t) (valV kvs (keyR l b)):=.inr ⟨kvs,keyR l b,t,.inr ⟨o,h⟩,rfl,ht,rfl⟩
def vA (_:FG7):Sp:=sp2 fun x y H Q=>∃ (k b:Nat),x = .int k /\ y = .int b /\ k <= 4 /\ b < 16 /\ Q (.int ((b % 2 ^ k:Nat):Int)) H
def yW (K:FG7):Sp:=sp3 fun x y z H Q=>∃ (k:Nat) (b:List Int) (ks:List Ask),x = .int k /\ k <= 4 /\ zr K H y b /\ 1 <= b.length /\ b.length <= 16 /\ yR K H z ks /\ ks.length <= 16 /\ RndOk k b.length ks /\ ∀ H',Grow [] H H' -> Q .non H'
def tZ (K:FG7):Sp:=sp4 fun x y z u H Q=>∃ (k st m:Nat) (d:Addr) (rows:List (List Int)) (ks:List Ask),x = .int k /\ y = .int st /\ z = .ref d /\ k <= 4 /\ 1 <= st /\ st <= k /\ m <= 16 /\ LvAt K H k m rows ks (st - 1) d /\ yf K H u rows /\ yh k rows /\ RndOk k m ks ∧
 ∀ r b' kp H',Grow [d] H H' -> H b' = none -> H kp = none -> b' ≠ kp -> SqT K H' r [.ref b',.ref kp] -> LvAt K H' k m rows ks st b' -> KpAt K H' k m rows ks st kp -> LvAt K H' k m rows ks (st - 1) d -> Q (.ref r) H'
structure NetR (K:FG7) (H:Hp) (k m:Nat) (rows:List (List Int)) (ks:List Ask) (ds kps:List Addr):Prop where
 lv:∀ s d,ds[s]? = some d -> LvAt K H k m rows ks s d
 kp:∀ s d,kps[s]? = some d -> KpAt K H k m rows ks (s + 1) d
 nd:(ds ++ kps).Nodup
theorem LvAt.isD {K:FG7} {H:Hp} {k m:Nat} {rows:List (List Int)} {ks:List Ask} {s:Nat} {d:Addr} (h:LvAt K H k m rows ks s d):∃ kvs,Rd H d (.dT kvs):=by obtain ⟨kvs,h1,_⟩:=h; exact ⟨kvs,h1⟩
theorem KpAt.isD {K:FG7} {H:Hp} {k m:Nat} {rows:List (List Int)} {ks:List Ask} {s:Nat} {d:Addr} (h:KpAt K H k m rows ks s d):∃ kvs,Rd H d (.dT kvs):=by obtain ⟨kvs,h1,_⟩:=h; exact ⟨kvs,h1⟩
theorem NetR.isD {K:FG7} {H:Hp} {k m:Nat} {rows:List (List Int)} {ks:List Ask} {ds kps:List Addr} (N:NetR K H k m rows ks ds kps) {d:Addr} (h:d ∈ ds ++ kps):∃ kvs,Rd H d (.dT kvs):=by
 rcases List.mem_append.mp h with z | z
 ·obtain ⟨i,hi,rfl⟩:=List.getElem_of_mem z; exact (N.lv i _ (List.getElem?_eq_getElem hi)).isD
 ·obtain ⟨i,hi,rfl⟩:=List.getElem_of_mem z; exact (N.kp i _ (List.getElem?_eq_getElem hi)).isD
theorem Rd.ne_none {H:Hp} {d:Addr} {u:HO} (h:Rd H d u):H d ≠ none:=by rcases h with z | ⟨o,z⟩ <;> rw [z] <;> exact fun z=>nomatch z
theorem Rd.ne_lst {H:Hp} {d l:Addr} {kvs:List (List Key × V)} {xs:List V} (h:Rd H d (.dT kvs)) (hl:H l = some (.lst xs)):d ≠ l:=fun e=>by
 rw [e] at h
 rcases h with z | ⟨o,z⟩ <;> rw [hl] at z <;> cases z
theorem NetR.grow {K:FG7} {H H':Hp} {m':List Addr} {k m:Nat} {rows:List (List Int)} {ks:List Ask} {ds kps:List Addr} (g:Grow m' H H') (hm:∀ d ∈ ds ++ kps,d ∉ m') (N:NetR K H k m rows ks ds kps):NetR K H' k m rows ks ds kps :=
 ⟨fun s d h=>(N.lv s d h).grow g (hm d (List.mem_append_left _ (List.mem_of_getElem? h))),fun s d h=>(N.kp s d h).grow g (hm d (List.mem_append_right _ (List.mem_of_getElem? h))),N.nd⟩
def t4 (K:FG7):Sp:=sp3 fun x y z H Q=>∃ (k m:Nat) (rows:List (List Int)) (ks:List Ask),x = .int k /\ k <= 4 /\ m <= 16 /\ ks.length <= 16 /\ yR K H y ks /\ yf K H z rows /\ yh k rows /\ RndOk k m ks ∧
 ∀ r lL lS ds kps H',Grow [] H H' -> SqT K H' r [.ref lL,.ref lS] -> H' lL = some (.lst (ds.map V.ref)) -> H' lS = some (.lst (kps.map V.ref)) -> ds.length = k + 1 -> kps.length = k -> NetR K H' k m rows ks ds kps -> (∀ d ∈ ds ++ kps,H d = none) -> Q (.ref r) H'
def lv0K (ks:List Ask) (vs:List V):List (List Key × V):=(ks.zip vs).map fun p=>(keyR p.1.hand.toNat p.1.box.toNat,p.2)
theorem Y7 {a:Ask} (h0:0 <= a.hand) (h1:0 <= a.box):(keyR a.hand.toNat a.box.toNat).map kV = [.int a.hand,.int a.box]:=by
 show [V.int ((a.hand.toNat:Nat):Int),V.int ((a.box.toNat:Nat):Int)] = _
 rw [Int.toNat_of_nonneg h0,Int.toNat_of_nonneg h1]
theorem t5 {ks:List Ask} {a:Ask} (nd:(ks.map (·.hand)).Nodup) (ha:a ∈ ks):(ks.find? fun c=>decide (c.hand = a.hand /\ c.box = a.box)) = some a:=by
 induction ks with
 | nil=>cases ha
 | cons c ks ih =>
  rw [List.map_cons,List.nodup_cons] at nd
  rw [List.find?_cons]
  rcases List.mem_cons.mp ha with rfl | ha
  ·rw [decide_eq_true ⟨rfl,rfl⟩]
  ·have:¬ (c.hand = a.hand /\ c.box = a.box):=fun z=>nd.1 (List.mem_map.mpr ⟨a,ha,z.1.symm⟩)
   rw [decide_eq_false this]
   exact ih nd.2 ha
theorem Wu {K:FG7} {H:Hp} {k m:Nat} {rows:List (List Int)} {ks:List Ask} {vs:List V} (R:RndOk k m ks) (hl:vs.length = ks.length) (hv:∀ (i:Nat) (a:Ask) (v:V),ks[i]? = some a -> vs[i]? = some v -> zv K H v a.deed):TabR (lv0K ks vs) (2 ^ k) m (lvR k rows ks 0) (zv K H):=by
 have ek:(lv0K ks vs).map (·.1) = ks.map fun a=>keyR a.hand.toNat a.box.toNat:=by
  unfold lv0K
  rw [List.map_map]
  refine List.ext_getElem? fun i=>?_
  rw [List.getElem?_map,List.getElem?_map]
  by_cases h:i < ks.length
  ·rw [List.getElem?_eq_getElem (show i < (ks.zip vs).length by rw [List.length_zip]; omega),List.getElem?_eq_getElem h,List.getElem_zip]; rfl
  ·rw [List.getElem?_eq_none (by rw [List.length_zip]; omega),List.getElem?_eq_none (by omega)]; rfl
 refine ⟨fun p hp=>?_,?_,fun l b hlt hb hne=>?_⟩
 ·unfold lv0K at hp
  obtain ⟨⟨a,v⟩,hm,rfl⟩:=List.mem_map.mp hp
  obtain ⟨i,hi,e⟩:=List.getElem_of_mem hm
  rw [List.getElem_zip] at e
  have hi':i < ks.length:=by rw [List.length_zip] at hi; omega
  have hiv:i < vs.length:=by omega
  have ea:ks[i] = a:=congrArg Prod.fst e
  have ev:vs[i] = v:=congrArg Prod.snd e
  have ha:a ∈ ks:=ea ▸ List.getElem_mem hi'
  have hh:=R.hand a ha
  have hbx:=R.box a ha
  refine ⟨a.hand.toNat,a.box.toNat,a.deed,rfl,xu hh.1 hh.2,by omega,?_,hv i a v (by rw [List.getElem?_eq_getElem hi',ea]) (by rw [List.getElem?_eq_getElem hiv,ev])⟩
  show (ks.find? fun c=>decide (c.hand = ((a.hand.toNat:Nat):Int) /\ c.box = ((a.box.toNat:Nat):Int))).map (·.deed) = _
  rw [Int.toNat_of_nonneg hh.1,Int.toNat_of_nonneg hbx.1,t5 R.nd ha]; rfl
 ·rw [ek]
  have nd:=R.nd
  unfold List.Nodup at nd ⊢
  rw [List.pairwise_map] at nd ⊢
  refine nd.imp_of_mem fun {a c} ha hc hne e=>hne ?_
  have:=zP e
  have h1:=(R.hand a ha).1
  have h2:=(R.hand c hc).1
  omega
 ·have hne':(ks.find? fun c=>decide (c.hand = (l:Int) /\ c.box = (b:Int))).map (·.deed) ≠ none:=hne
  cases hf:ks.find? fun c=>decide (c.hand = (l:Int) /\ c.box = (b:Int)) with
  | none=>rw [hf] at hne'; exact absurd rfl hne'
  | some a =>
   have ha:=List.mem_of_find?_eq_some hf
   have hd:decide (a.hand = (l:Int) /\ a.box = (b:Int)) = true:=by have z:=List.find?_some hf; exact z
   obtain ⟨h1,h2⟩:=of_decide_eq_true hd
   have hm:keyR l b ∈ (lv0K ks vs).map (·.1):=by
    rw [ek]
    exact List.mem_map.mpr ⟨a,ha,by rw [h1,h2]; rfl⟩
   cases hv':valV (lv0K ks vs) (keyR l b) with
   | none=>exact absurd hm (qC hv')
   | some v=>rfl
theorem Z1 {ks:List Ask} {vs:List V}:(lv0K ks vs).length = min ks.length vs.length:=by unfold lv0K; rw [List.length_map,List.length_zip]
theorem Wv {k m n:Nat} {ks:List Ask} {vs:List V} {v:V} {a:Ask} (R:RndOk k m ks) (ha:ks[n]? = some a) (vl:vs.length = n):putK (lv0K (ks.take n) vs) (keyR a.hand.toNat a.box.toNat) v = lv0K (ks.take (n + 1)) (vs ++ [v]):=by
 have hn:=(List.getElem?_eq_some_iff.mp ha).1
 rw [qz]
 ·unfold lv0K
  rw [List.take_succ,ha,List.zip_append (by rw [List.length_take]; omega),List.map_append]; rfl
 ·cases hv:valV (lv0K (ks.take n) vs) (keyR a.hand.toNat a.box.toNat) with
  | none=>rfl
  | some u =>
   exfalso
   have:=uE hv
   unfold lv0K at this
   obtain ⟨⟨c,w⟩,hm,e⟩:=List.mem_map.mp this
   have hc:c ∈ ks.take n:=(List.of_mem_zip hm).1
   obtain ⟨h1,_⟩:=zP (congrArg Prod.fst e)
   have hck:=List.mem_of_mem_take hc
   have ha':=List.mem_of_getElem? ha
   have e1:c.hand = a.hand:=by have:=(R.hand c hck).1; have:=(R.hand a ha').1; have h1':c.hand.toNat = a.hand.toNat:=h1; omega
   obtain ⟨j,hj,ej⟩:=List.getElem_of_mem hc
   rw [List.length_take] at hj
   rw [List.getElem_take] at ej
   have nd:=R.nd
   have h2:(ks.map (·.hand))[j]'(by rw [List.length_map]; omega) = (ks.map (·.hand))[n]'(by rw [List.length_map]; omega):=by
    rw [List.getElem_map,List.getElem_map,ej,e1]
    rw [List.getElem?_eq_getElem hn] at ha
    rw [Option.some.inj ha]
   have:=(List.getElem_inj nd).mp h2
   omega
theorem Y8 {α:Type} {xs:List α} (h:xs ≠ []):∃ ys y,xs = ys ++ [y]:=⟨xs.dropLast,xs.getLast h,(List.dropLast_concat_getLast h).symm⟩
theorem jr {as bs:List Addr} {b c:Addr} (h:(as ++ bs).Nodup) (h1:∀ e ∈ as ++ bs,e ≠ b) (h2:∀ e ∈ as ++ bs,e ≠ c) (h3:b ≠ c):((as ++ [b]) ++ (bs ++ [c])).Nodup:=by
 have p:((as ++ [b]) ++ (bs ++ [c])).Perm (b :: c :: (as ++ bs)):=by
  have e1:(as ++ [b]) ++ (bs ++ [c]) = as ++ (b :: (bs ++ [c])):=by simp
  rw [e1]
  refine List.perm_middle.trans (List.Perm.cons b ?_)
  rw [← List.append_assoc]
  exact List.perm_append_singleton c (as ++ bs)
 refine p.nodup_iff.mpr ?_
 rw [List.nodup_cons,List.nodup_cons]
 refine ⟨fun z=>?_,fun z=>h2 c z rfl,h⟩
 rcases List.mem_cons.mp z with e | e
 ·exact h3 e
 ·exact h1 b e rfl
theorem Um {ys:List Addr} {v:Addr}:atI ((ys ++ [v]).map V.ref) (-1) = some (V.ref v):=by
 refine jf (j:=ys.length) ?_ ?_
 ·unfold ixN
  rw [List.length_map,List.length_append,if_neg (by decide),if_pos (by show -((ys.length + 1:Nat):Int) <= -1; omega)]
  congr 1
  show (((ys.length + 1:Nat):Int) + -1).toNat = _
  omega
 ·rw [List.map_append,← List.length_map (f:=V.ref) (as:=ys)]
  exact List.getElem?_concat_length
structure PTab {α:Type} (kvs:List (List Key × V)) (n m:Nat) (f:Nat -> Nat -> Option α) (R:V -> α -> Prop) (i:Nat) (tk:List (List Key × V)):Prop where
 p1:∀ p ∈ tk,∃ l b x,p.1 = keyR l b /\ l < n /\ b < m /\ f l b = some x /\ R p.2 x
 p2:(tk.map (·.1)).Nodup
 p3:∀ j l b v,j < i -> kvs[j]? = some (keyR l b,v) -> (valV tk (keyR l b)).isSome = true
 p4:tk.length <= i
theorem PTab.nil {α:Type} {kvs:List (List Key × V)} {n m:Nat} {f:Nat -> Nat -> Option α} {R:V -> α -> Prop}:PTab kvs n m f R 0 []:=⟨(fun _ h=>nomatch h),List.nodup_nil,(fun _ _ _ _ h=>absurd h (Nat.not_lt_zero _)),Nat.le_refl _⟩
theorem PTab.step {α:Type} {kvs:List (List Key × V)} {n m:Nat} {f:Nat -> Nat -> Option α} {R:V -> α -> Prop} {i:Nat} {tk:List (List Key × V)} {l b:Nat} {v w:V} {x:α} (P:PTab kvs n m f R i tk) (hp:kvs[i]? = some (keyR l b,v)) (hl:l < n) (hb:b < m) (hx:f l b = some x) (hR:R w x):PTab kvs n m f R (i + 1) (putK tk (keyR l b) w) where
 p1:=fun p hp'=>by
  rcases x4 p hp' with rfl | ⟨hm,_⟩
  ·exact ⟨l,b,x,rfl,hl,hb,hx,hR⟩
  ·exact P.p1 p hm
 p2:=tY P.p2
 p3:=fun j l' b' v' hj hj'=>by
  by_cases c:j < i
  ·exact xv (P.p3 j l' b' v' c hj')
  ·have e:j = i:=by omega
   rw [e,hp] at hj'
   obtain ⟨rfl,rfl⟩:=zP (congrArg Prod.fst (Option.some.inj hj'))
   exact yV
 p4:=Nat.le_trans (zQ ..) (Nat.succ_le_succ P.p4)
theorem PTab.done {α β:Type} {kvs:List (List Key × V)} {n m:Nat} {f:Nat -> Nat -> Option α} {R:V -> α -> Prop} {f':Nat -> Nat -> Option β} {R':V -> β -> Prop} {tk:List (List Key × V)} (P:PTab kvs n m f R kvs.length tk) (T:TabR kvs n m f' R') (h:∀ l b,l < n -> b < m -> f l b ≠ none -> f' l b ≠ none):TabR tk n m f R :=
 ⟨P.p1,P.p2,fun l b hl hb hne=>by
  obtain ⟨j,v,hj,hjl⟩:=ww (T.all l b hl hb (h l b hl hb hne))
  exact P.p3 j l b v hjl hj⟩
def anF (k:Nat) (rows:List (List Int)) (ks:List Ask) (bd:Nat -> Int) (s l b:Nat):Option Int:=(lvR k rows ks s l b).map fun _=>stvR k rows ks bd (k - s) l b
def AnAt (H:Hp) (k m:Nat) (rows:List (List Int)) (ks:List Ask) (bd:Nat -> Int) (s:Nat) (d:Addr):Prop:=VH H d (2 ^ k) m (anF k rows ks bd s) (fun v x=>v = .int x)
section
variable {K:FG7} {H:Hp} {k m:Nat} {rows:List (List Int)} {ks:List Ask} {bd:Nat -> Int} {s:Nat} {d:Addr}
theorem AnAt.grow {m':List Addr} {H':Hp} (g:Grow m' H H') (hm:d ∉ m') (h:AnAt H k m rows ks bd s d):AnAt H' k m rows ks bd s d:=by
 obtain ⟨kvs,h1,h2,h3⟩:=h
 exact ⟨kvs,Rd.growR g (.inl hm) h1,h2,h3⟩
theorem KpAt.val {st l b:Nat} {kvs:List (List Key × V)} (k4:k <= 4) (hs:yh k rows) (s1:1 <= st) (sk:st <= k) (hl:l < 2 ^ k) (hb:b < m)
  (h3:∀ p ∈ kvs,∃ l b x,p.1 = keyR (nN k st l) b /\ l < 2 ^ k /\ b < m /\ kpR k rows ks st l b = some x /\ zv K H p.2 x)
  (h5:∀ l b,l < 2 ^ k -> b < m -> kpR k rows ks st l b ≠ none -> (valV kvs (keyR (nN k st l) b)).isSome = true) :
  match kpR k rows ks st l b with | some x=>∃ v,valV kvs (keyR (nN k st l) b) = some v /\ zv K H v x | none=>valV kvs (keyR (nN k st l) b) = none:=by
 have sound:∀ v,valV kvs (keyR (nN k st l) b) = some v -> ∃ x,kpR k rows ks st l b = some x /\ zv K H v x:=fun v hv=>by
  obtain ⟨l',b',x,e,h1,h2,h4,h6⟩:=h3 _ (uE hv)
  obtain ⟨e1,rfl⟩:=zP e
  exact ⟨x,(rg k4 hs s1 sk hl h1 e1).trans h4,h6⟩
 cases hv:valV kvs (keyR (nN k st l) b) with
 | some v =>
  obtain ⟨x,e,hd⟩:=sound v hv
  rw [e]
  exact ⟨v,rfl,hd⟩
 | none =>
  cases hk:kpR k rows ks st l b with
  | none=>rfl
  | some x =>
   have:=h5 l b hl hb (by rw [hk]; exact fun z=>nomatch z)
   rw [hv] at this; cases this
def finR (k:Nat) (rows:List (List Int)) (ks:List Ask) (bd:Nat -> Int) (j:Nat):Int:=match lvR k rows ks k (j % 2 ^ k) j with
 | some d=>d.mk' (bd j)
 | none=>bd j
def bdF (b:List Int) (j:Nat):Int:=b.getD j 0
def finL (k:Nat) (rows:List (List Int)) (ks:List Ask) (b:List Int):List Int:=(List.range b.length).map (finR k rows ks (bdF b))
end
structure VI (kvs:List (List Key × V)) (b:List Int) (fin:Nat -> Int) (i:Nat) (w:List Int):Prop where
 len:w.length = b.length
 or:∀ j,j < b.length -> w[j]? = some (bdF b j) \/ w[j]? = some (fin j)
 dn:∀ i' l c v,i' < i -> kvs[i']? = some (keyR l c,v) -> c < b.length -> w[c]? = some (fin c)
theorem Ww {b:List Int} {j:Nat} (h:j < b.length):b[j]? = some (bdF b j):=by
 unfold bdF; rw [List.getD_eq_getElem?_getD,List.getElem?_eq_getElem h]; rfl
theorem VI.nil {kvs:List (List Key × V)} {b:List Int} {fin:Nat -> Int}:VI kvs b fin 0 b:=⟨rfl,fun _ h=>.inl (Ww h),fun _ _ _ _ h=>absurd h (Nat.not_lt_zero _)⟩
theorem VI.step {kvs:List (List Key × V)} {b:List Int} {fin:Nat -> Int} {i l c:Nat} {w:List Int} {v:V} (h:VI kvs b fin i w) (hp:kvs[i]? = some (keyR l c,v)) (hc:c < b.length):VI kvs b fin (i + 1) (w.set c (fin c)):=by
 have hw:c < w.length:=by rw [h.len]; exact hc
 refine ⟨by rw [List.length_set]; exact h.len,fun j hj=>?_,fun i' l' c' v' hi hp' hc'=>?_⟩
 ·by_cases e:c = j
  ·subst e; exact .inr (List.getElem?_set_self hw)
  ·rw [List.getElem?_set_ne e]; exact h.or j hj
 ·by_cases e:c = c'
  ·subst e; exact List.getElem?_set_self hw
  ·rw [List.getElem?_set_ne e]
   by_cases hii:i' < i
   ·exact h.dn i' l' c' v' hii hp' hc'
   ·have:i' = i:=by omega
    rw [this,hp] at hp'
    exact absurd (zP (congrArg Prod.fst (Option.some.inj hp'))).2 e
theorem VI.done {kvs:List (List Key × V)} {k:Nat} {rows:List (List Int)} {ks:List Ask} {b w:List Int} {R:V -> Deed -> Prop} (h:VI kvs b (finR k rows ks (bdF b)) kvs.length w) (T:TabR kvs (2 ^ k) b.length (lvR k rows ks k) R):w = finL k rows ks b:=by
 have el:(finL k rows ks b).length = b.length:=by unfold finL; rw [List.length_map,List.length_range]
 have gf:∀ j,j < b.length -> (finL k rows ks b)[j]? = some (finR k rows ks (bdF b) j):=fun j hj=>by
  unfold finL; rw [List.getElem?_map,List.getElem?_range hj]; rfl
 refine List.ext_getElem? fun j=>?_
 by_cases hj:j < b.length
 ·rw [gf j hj]
  cases hl:lvR k rows ks k (j % 2 ^ k) j with
  | none =>
   have e:finR k rows ks (bdF b) j = bdF b j:=by unfold finR; rw [hl]
   rcases h.or j hj with z | z
   ·rw [z,e]
   ·exact z
  | some d =>
   obtain ⟨i',v,hp,hi⟩:=ww (T.all (j % 2 ^ k) j (zR (k:=k) (b:=j)) hj (by rw [hl]; exact fun z=>nomatch z))
   exact h.dn i' _ j v hi hp hj
 ·rw [List.getElem?_eq_none (by rw [h.len]; omega),List.getElem?_eq_none (by omega)]
theorem NetR.walk {K:FG7} {H H':Hp} {k m:Nat} {rows:List (List Int)} {ks:List Ask} {ds kps:List Addr} {s:Nat} {d:Addr} (N:NetR K H k m rows ks ds kps) (hd:ds[s]? = some d) (g:Grow [d] H H') (L:LvAt K H' k m rows ks s d):NetR K H' k m rows ks ds kps:=by
 have nd:=List.nodup_append.mp N.nd
 refine ⟨fun s' d' h=>?_,fun s' d' h=>?_,N.nd⟩
 ·by_cases c:d' = d
  ·subst c
   have e:s' = s:=by
    obtain ⟨h1,h2⟩:=List.getElem?_eq_some_iff.mp h
    obtain ⟨h3,h4⟩:=List.getElem?_eq_some_iff.mp hd
    exact (List.getElem_inj nd.1).mp (h2.trans h4.symm)
   rw [e]; exact L
  ·exact (N.lv s' d' h).grow g (by simpa using c)
 ·exact (N.kp s' d' h).grow g (by simpa using fun z=>nd.2.2 d (List.mem_of_getElem? hd) d' (List.mem_of_getElem? h) z.symm)
theorem Wx {α:Type} {xs:List α} {f:α -> V} {i:Int} {j:Nat} {x:α} (e:i = j) (h:xs[j]? = some x):atI (xs.map f) i = some (f x):=by
 subst e
 have hj:=(List.getElem?_eq_some_iff.mp h).1
 exact jf (ux (by omega) (by rw [List.length_map]; exact hj)) (by rw [List.getElem?_map,show ((j:Int).toNat) = j from rfl,h]; rfl)
def VJ (ps:List (Key × V)):List (Key × V):=ps.foldl (fun d p=>putK d p.1 p.2) []
def atB (j:Nat) (as:List Ask):List Ask:=as.filter fun a=>decide (a.box = (j:Int))
def AnsD (b:List Int) (as:List Ask) (tk:List (Key × V)):Prop:=tk.length <= as.length /\ ∀ a ∈ as,∃ a' pre post,a' ∈ as /\ a'.hand = a.hand /\ as = pre ++ [a'] ++ post /\ valV tk (.inl a.hand) = some (.int (runR (bdF b a'.box.toNat) (atB a'.box.toNat pre)))
theorem AnsD.nil {b:List Int}:AnsD b [] []:=⟨Nat.le_refl _,fun _ h=>nomatch h⟩
theorem AnsD.snoc {b:List Int} {as:List Ask} {tk:List (Key × V)} {a:Ask} (h:AnsD b as tk):AnsD b (as ++ [a]) (putK tk (.inl a.hand) (.int (runR (bdF b a.box.toNat) (atB a.box.toNat as)))):=by
 refine ⟨?_,fun x hx=>?_⟩
 ·have:=zQ tk (Sum.inl a.hand) (V.int (runR (bdF b a.box.toNat) (atB a.box.toNat as)))
  rw [List.length_append]
  have h1:=h.1
  exact Nat.le_trans this (Nat.succ_le_succ h1)
 ·by_cases c:x.hand = a.hand
  ·refine ⟨a,as,[],by simp,c.symm,by simp,?_⟩
   rw [yy,if_pos (by rw [c])]
  ·rcases List.mem_append.mp hx with hx | hx
   ·obtain ⟨a',pre,post,h1,h2,h3,h4⟩:=h.2 x hx
    refine ⟨a',pre,post ++ [a],List.mem_append_left _ h1,h2,by rw [h3,List.append_assoc],?_⟩
    rw [yy,if_neg (fun z=>c (Sum.inl.inj z))]; exact h4
   ·exact absurd (by rw [List.mem_singleton.mp hx]) c
section
variable {k m:Nat} {rows:List (List Int)} {ks:List Ask} {b:List Int}
theorem xw {K:FG7} {H:Hp} {x:V} {rows:List (List Int)} (h:yf K H x rows):Dat K H x (.tuple (rows.map wM)):=by
 obtain ⟨r,xs,rfl,hs,ha⟩:=h
 exact .tup hs (datR (fun _ _ z=>z.dat) ha)
end
def qJ (K:FG7):Sp:=sp2 fun x y H Q=>∃ (a:Addr) (k:Nat),x = .ref a /\ y = .int k /\ k <= 4 /\ Pot H a /\ ∀ r yb ya b ks H',Grow [a] H H' -> Pot H' a -> SqT K H' r [yb,ya] -> zr K H' yb b -> 1 <= b.length -> b.length <= 16 -> InB (10 ^ 30) b -> yR K H' ya ks -> ks.length <= 16 -> RndOk k b.length ks -> (∀ a ∈ ks,a.deed.Sm) -> Q (.ref r) H'
theorem xL {key:Key}:∀ {ps d:List (Key × V)},(∀ p ∈ ps,p.1 ≠ key) -> valV (ps.foldl (fun d p=>putK d p.1 p.2) d) key = valV d key
 | [],d,_=>rfl
 | p :: ps,d,h=>by
  rw [List.foldl_cons,xL fun q hq=>h q (by simp [hq]),yy,if_neg (fun z=>h p (by simp) z.symm)]
theorem vB {p:Key × V}:∀ {ps d:List (Key × V)},(ps.map (·.1)).Nodup -> p ∈ ps -> valV (ps.foldl (fun d p=>putK d p.1 p.2) d) p.1 = some p.2
 | q :: ps,d,nd,h=>by
  rw [List.map_cons,List.nodup_cons] at nd
  rw [List.foldl_cons]
  rcases List.mem_cons.mp h with rfl | h
  ·rw [xL fun x hx z=>nd.1 (List.mem_map.mpr ⟨x,hx,z⟩),yy,if_pos rfl]
  ·exact vB nd.2 h
def ByAt (K:FG7) (H:Hp) (ks:List Ask) (ps:List (Key × V)):Prop:=ps.length = ks.length /\ ∀ (i:Nat) (a:Ask),ks[i]? = some a -> ∃ t dv,ps[i]? = some (.inl a.hand,.ref t) /\ H t = some (.tup [.int a.box,dv]) /\ zv K H dv a.deed
theorem ByAt.grow {K:FG7} {H H':Hp} {m:List Addr} {ks:List Ask} {ps:List (Key × V)} (g:Grow m H H') (h:ByAt K H ks ps):ByAt K H' ks ps :=
 ⟨h.1,fun i a ha=>by obtain ⟨t,dv,h1,h2,h3⟩:=h.2 i a ha; exact ⟨t,dv,h1,g.tup _ _ h2,g.deed h3⟩⟩
theorem ByAt.keys {K:FG7} {H:Hp} {ks:List Ask} {ps:List (Key × V)} (h:ByAt K H ks ps):ps.map (·.1) = ks.map fun a=>Sum.inl a.hand:=by
 refine List.ext_getElem? fun i=>?_
 rw [List.getElem?_map,List.getElem?_map]
 by_cases c:i < ks.length
 ·obtain ⟨t,dv,h1,_⟩:=h.2 i ks[i] (List.getElem?_eq_getElem c)
  rw [h1,List.getElem?_eq_getElem c]; rfl
 ·rw [List.getElem?_eq_none (by rw [h.1]; omega),List.getElem?_eq_none (by omega)]; rfl
theorem ByAt.some {K:FG7} {H:Hp} {ks:List Ask} {ps:List (Key × V)} (h:ByAt K H ks ps) (nd:(ks.map (·.hand)).Nodup) {a:Ask} (ha:a ∈ ks):∃ t dv,valV (VJ ps) (.inl a.hand) = some (.ref t) /\ H t = some (.tup [.int a.box,dv]) /\ zv K H dv a.deed:=by
 obtain ⟨i,hi,rfl⟩:=List.getElem_of_mem ha
 obtain ⟨t,dv,h1,h2,h3⟩:=h.2 i ks[i] (List.getElem?_eq_getElem hi)
 refine ⟨t,dv,?_,h2,h3⟩
 have nd':(ps.map (·.1)).Nodup:=by
  rw [h.keys]
  have e:(ks.map fun a=>(Sum.inl a.hand:Key)) = (ks.map (·.hand)).map Sum.inl:=by rw [List.map_map]; rfl
  rw [e]
  exact nd.map _ fun x y hxy z=>hxy (Sum.inl.inj z)
 exact vB (p:=(Sum.inl ks[i].hand,.ref t)) nd' (List.mem_of_getElem? h1)
theorem ByAt.none {K:FG7} {H:Hp} {ks:List Ask} {ps:List (Key × V)} (h:ByAt K H ks ps) {i:Int} (hno:∀ a ∈ ks,a.hand ≠ i):valV (VJ ps) (.inl i) = none:=by
 refine xL fun p hp z=>?_
 have:p.1 ∈ ps.map (·.1):=List.mem_map.mpr ⟨p,hp,rfl⟩
 rw [h.keys] at this
 obtain ⟨a,ha,e⟩:=List.mem_map.mp this
 exact hno a ha (Sum.inl.inj (e.trans z))
theorem AllA.ins {K:FG7} {H:Hp} {y:V} {a:Ask} (ha:vT K H y a):∀ {xs:List V} {ks:List Ask} {i:Nat},AllA K H xs ks -> AllA K H (xs.take i ++ [y] ++ xs.drop i) (ks.take i ++ [a] ++ ks.drop i)
 | xs,ks,0,h=>⟨ha,h⟩
 | [],[],i + 1,h=>⟨ha,trivial⟩
 | x :: xs,k :: ks,i + 1,h=>⟨h.1,AllA.ins ha (i:=i) h.2⟩
structure RndS (j m:Nat) (ks:List Ask):Prop where
 nd:(ks.map (·.hand)).Nodup
 hand:∀ a ∈ ks,0 <= a.hand /\ a.hand < (j:Int)
 box:∀ a ∈ ks,0 <= a.box /\ a.box < (m:Int)
 ok:∀ a ∈ ks,a.deed.Ok
 sm:∀ a ∈ ks,a.deed.Sm
theorem RndS.nil {j m:Nat}:RndS j m []:=⟨List.nodup_nil,(fun _ h=>nomatch h),(fun _ h=>nomatch h),(fun _ h=>nomatch h),(fun _ h=>nomatch h)⟩
theorem RndS.next {j m:Nat} {ks:List Ask} (h:RndS j m ks):RndS (j + 1) m ks:=⟨h.nd,fun a ha=>by have:=h.hand a ha; omega,h.box,h.ok,h.sm⟩
theorem RndS.ins {j m i:Nat} {ks:List Ask} {a:Ask} (h:RndS j m ks) (h1:a.hand = (j:Int)) (h2:0 <= a.box /\ a.box < (m:Int)) (h3:a.deed.Ok) (h4:a.deed.Sm):RndS (j + 1) m (ks.take i ++ [a] ++ ks.drop i):=by
 have mem:∀ c ∈ ks.take i ++ [a] ++ ks.drop i,c = a \/ c ∈ ks:=fun c hc=>by
  rcases List.mem_append.mp hc with hc | hc
  ·rcases List.mem_append.mp hc with hc | hc
   ·exact .inr (List.mem_of_mem_take hc)
   ·exact .inl (List.mem_singleton.mp hc)
  ·exact .inr (List.mem_of_mem_drop hc)
 have pm:(ks.take i ++ [a] ++ ks.drop i).Perm (a :: ks):=by
  have p1:(ks.take i ++ [a]).Perm (a :: ks.take i):=List.perm_append_singleton a (ks.take i)
  have p2:=p1.append_right (ks.drop i)
  rw [List.cons_append,List.take_append_drop] at p2
  exact p2
 refine ⟨?_,fun c hc=>?_,fun c hc=>?_,fun c hc=>?_,fun c hc=>?_⟩
 ·refine ((pm.map (·.hand)).nodup_iff).mpr ?_
  rw [List.map_cons,List.nodup_cons]
  refine ⟨fun z=>?_,h.nd⟩
  obtain ⟨c,hc,e⟩:=List.mem_map.mp z
  have:=(h.hand c hc).2
  rw [e,h1] at this
  omega
 ·rcases mem c hc with rfl | hc
  ·rw [h1]; omega
  ·have:=h.hand c hc; omega
 ·rcases mem c hc with rfl | hc
  ·exact h2
  ·exact h.box c hc
 ·rcases mem c hc with rfl | hc
  ·exact h3
  ·exact h.ok c hc
 ·rcases mem c hc with rfl | hc
  ·exact h4
  ·exact h.sm c hc
theorem RndS.done {k m:Nat} {ks:List Ask} (h:RndS (2 ^ k) m ks):RndOk k m ks:=by
 have e:((2 ^ k:Nat):Int) = 2 ^ k:=by simp
 refine ⟨h.nd,fun a ha=>?_,h.box,h.ok⟩
 have:=h.hand a ha
 rw [e] at this
 exact this
theorem Z2 {c:TT} {t u:TS} {D:Ends} {σ:L2.St} {H:Hp} (Good:Hp -> Prop) (hc:∀ K:Bool -> Hp -> Prop,(∀ b H',Good H' -> K b H') -> c σ H K) (ht:∀ H',Good H' -> t D σ H') (hu:∀ H',Good H' -> u D σ H'):tIfS c t u D σ H:=hc _ fun b H' g=>by
 cases b with
 | true=>exact iteT (ht H' g)
 | false=>exact iteF (hu H' g)
def misH (ds tab:List (List Int)) (i j:Nat):Prop:=ds.getD (ZS tab i j).toNat [] ≠ yu (ds.getD i []) (ds.getD j [])
def uj (R:Nat) (ds tab:List (List Int)) (i j:Nat):Prop:=(i < R /\ j < R) /\ misH ds tab i j /\ ∀ i' j':Nat,i' < R -> j' < R -> (i' < i \/ (i' = i /\ j' < j)) -> ¬ misH ds tab i' j'
theorem uj.eq {R:Nat} {ds tab:List (List Int)} {i j i' j':Nat} (a:uj R ds tab i j) (b:uj R ds tab i' j'):i = i' /\ j = j':=by
 have h1:¬ (i' < i \/ (i' = i /\ j' < j)):=fun z=>a.2.2 i' j' b.1.1 b.1.2 z b.2.1
 have h2:¬ (i < i' \/ (i = i' /\ j < j')):=fun z=>b.2.2 i j a.1.1 a.1.2 z a.2.1
 omega
def ju (K:FG7) (H:Hp) (R:Nat) (ds tab:List (List Int)) (y:V):Prop :=
 (y = .non /\ ∀ i j:Nat,i < R -> j < R -> ¬ misH ds tab i j) \/ ∃ i j:Nat,uj R ds tab i j /\ zr K H y [(i:Int),(j:Int)]
structure DT (K:FG7) (H:Hp) (R M:Nat) (ds tab:List (List Int)) (x y:V):Prop where
 hx:yf K H x ds
 hy:yf K H y tab
 r1:1 <= R
 r60:R <= 60
 m1:1 <= M
 m5:M <= 5
 hD:YQ R M ds
 hT:YQ R R tab
theorem DT.grow {K:FG7} {m:List Addr} {H H':Hp} {R M:Nat} {ds tab:List (List Int)} {x y:V} (h:DT K H R M ds tab x y) (g:Grow m H H'):DT K H' R M ds tab x y :=
 ⟨g.rows h.hx,g.rows h.hy,h.r1,h.r60,h.m1,h.m5,h.hD,h.hT⟩
def hldD:Option (Nat × Nat) -> PyData
 | none=>.none
 | some t=>wM [(t.1:Int),(t.2:Int)]
def HldO (R:Nat) (ds tab:List (List Int)):Option (Nat × Nat) -> Prop
 | none=>∀ i j:Nat,i < R -> j < R -> ¬ misH ds tab i j
 | some t=>uj R ds tab t.1 t.2
theorem HldO.eq {R:Nat} {ds tab:List (List Int)} {o o':Option (Nat × Nat)} (a:HldO R ds tab o) (b:HldO R ds tab o'):o = o':=by
 cases o with
 | none=>cases o' with
  | none=>rfl
  | some t=>exact absurd b.2.1 (a _ _ b.1.1 b.1.2)
 | some t=>cases o' with
  | none=>exact absurd a.2.1 (b _ _ a.1.1 a.1.2)
  | some t' =>
   obtain ⟨i,j⟩:=t
   obtain ⟨i',j'⟩:=t'
   obtain ⟨e1,e2⟩:=uj.eq a b
   rw [show i = i' from e1,show j = j' from e2]
theorem ju.o {K:FG7} {H:Hp} {R:Nat} {ds tab:List (List Int)} {y:V} (h:ju K H R ds tab y):∃ o,HldO R ds tab o /\ Dat K H y (hldD o) /\ ((o = none /\ y = .non) \/ ∃ a,y = .ref a):=by
 rcases h with ⟨rfl,h⟩ | ⟨i,j,h,hb⟩
 ·exact ⟨none,h,.non,.inl ⟨rfl,rfl⟩⟩
 ·exact ⟨some (i,j),h,hb.dat,.inr (let ⟨a,e,_⟩:=hb; ⟨a,e⟩)⟩
theorem ju.grow {K:FG7} {m:List Addr} {H H':Hp} {R:Nat} {ds tab:List (List Int)} {y:V} (h:ju K H R ds tab y) (g:Grow m H H'):ju K H' R ds tab y:=by
 rcases h with h | ⟨i,j,h,hb⟩
 ·exact .inl h
 ·exact .inr ⟨i,j,h,g.board hb⟩
theorem FamOk.closed {ms:List (List Int)} {S:Nat} {r:FW} (h:FamOk ms S r) (hM:Mks ms S) (hl:r.length <= 60) {a b:List Int} (ha:a ∈ zE r) (hb:b ∈ zE r):yu a b ∈ zE r :=
 h.all hl ((h.good.wd a ha).mul hM (h.good.wd b hb))
structure SomeAt (K:FG7) (H:Hp) (p lf:Addr) (S:Nat) (rows:List (List Int)):Prop where
 l:∃ zs,H lf = some (.lst zs) /\ AllR (zr K H) zs rows
 np:lf ∉ [p]
 r1:1 <= rows.length
 r60:rows.length <= 60
 ok:Mks rows S
 cl:∀ a ∈ rows,∀ b ∈ rows,yu a b ∈ rows
theorem SomeAt.of {K:FG7} {H:Hp} {p lf:Addr} {S:Nat} {rows ms:List (List Int)} {zs:List V} {f:FW} (hF:FamL ms S f) (hM:Mks ms S) (hf:Few ms S) (hl:H lf = some (.lst zs)) (np:lf ∉ [p]) (hz:AllR (zr K H) zs rows) (pm:rows.Perm (zE f)):SomeAt K H p lf S rows:=by
 have hO:=hF.ok
 have h60:=hO.le hf
 have lk:rows.length = f.length:=by rw [pm.length_eq]; unfold zE; rw [List.length_map]
 refine ⟨⟨zs,hl,hz⟩,np,?_,by omega,fun d hd=>(hO.good.wd d (pm.mem_iff.mp hd)).dd hM,fun a ha b hb=>pm.mem_iff.mpr (hO.closed hM h60 (pm.mem_iff.mp ha) (pm.mem_iff.mp hb))⟩
 have:0 < rows.length:=List.length_pos_of_mem (pm.mem_iff.mpr hO.idk)
 omega
def Z3 (K:FG7) (H:Hp) (z:V):Prop:=∃ t y1 y2 y3 R M ds tab,z = .ref t /\ SqT K H t [y1,y2,y3] /\ DT K H R M ds tab y1 y2 /\ ju K H R ds tab y3
theorem Z3.grow {K:FG7} {m:List Addr} {H H':Hp} {z:V} (h:Z3 K H z) (g:Grow m H H'):Z3 K H' z:=by
 obtain ⟨t,y1,y2,y3,R,M,ds,tab,e,h1,h2,h3⟩:=h
 exact ⟨t,y1,y2,y3,R,M,ds,tab,e,g.sqT h1,h2.grow g,h3.grow g⟩
theorem GoodF.le {ms:List (List Int)} {S:Nat} {f:FW} (h:GoodF ms S f) (hf:Few ms S):f.length <= 60:=by
 obtain ⟨l,hl,hw⟩:=hf
 have:=uC h.nd fun d hd=>hw d (h.wd d hd)
 unfold zE at this
 rw [List.length_map] at this
 omega
structure Fam (S:Nat) (fam:List (List Int)):Prop where
 nd:fam.Nodup
 dd:∀ d ∈ fam,Dd S d
 cl:∀ a ∈ fam,∀ b ∈ fam,yu a b ∈ fam
 hd:fam[0]? = some (idL S)
 l60:fam.length <= 60
theorem FamL.fam {ms:List (List Int)} {S:Nat} {f:FW} (h:FamL ms S f) (hM:Mks ms S) (hf:Few ms S):Fam S (zE f):=by
 have hO:=h.ok
 have h60:=hO.le hf
 refine ⟨hO.good.nd,fun d hd=>(hO.good.wd d hd).dd hM,fun a ha b hb=>hO.closed hM h60 ha hb,?_,by unfold zE; rw [List.length_map]; exact h60⟩
 have:=hO.hd
 cases f with
 | nil=>cases this
 | cons p f=>cases this; rfl
structure MksAt (K:FG7) (H:Hp) (x:V) (ms:List (List Int)) (S:Nat):Prop where
 at':yf K H x ms
 ok:Mks ms S
 s1:1 <= S
 s5:S <= 5
 m1:1 <= ms.length
 m4:ms.length <= 4
 few:Few ms S
theorem MksAt.grow {K:FG7} {m:List Addr} {H H':Hp} {x:V} {ms:List (List Int)} {S:Nat} (h:MksAt K H x ms S) (g:Grow m H H'):MksAt K H' x ms S:=⟨g.rows h.at',h.ok,h.s1,h.s5,h.m1,h.m4,h.few⟩
def Z4 (K:FG7) (H:Hp) (x:V) (rows:List (List Int)):Prop:=∃ r xs,x = .ref r /\ SqT K H r xs /\ AllR (KeyB H) xs rows
theorem Z4.rows {K:FG7} {H:Hp} {x:V} {rows:List (List Int)} (h:Z4 K H x rows):yf K H x rows:=let ⟨r,xs,e,h1,h2⟩:=h; ⟨r,xs,e,h1,h2.imp fun _ _ z=>z.board⟩
theorem Z4.grow {K:FG7} {m:List Addr} {H H':Hp} {x:V} {rows:List (List Int)} (h:Z4 K H x rows) (g:Grow m H H'):Z4 K H' x rows:=let ⟨r,xs,e,h1,h2⟩:=h; ⟨r,xs,e,g.sqT h1,h2.imp fun _ _ z=>z.grow g⟩
structure OrdB (n:Nat) (lt:Nat -> Nat -> Bool):Prop where
 tr:∀ {i j k:Nat},lt i j = true -> lt j k = true -> lt i k = true
 as:∀ {i j:Nat},lt i j = true -> lt j i = false
 to:∀ {i j:Nat},i < n -> j < n -> i ≠ j -> lt i j = false -> lt j i = true
structure PmA (n:Nat) (p:Array Nat):Prop where
 sz:p.size = n
 pm:p.toList.Perm (List.range n)
theorem PmA.lt {n:Nat} {p:Array Nat} (h:PmA n p) {i:Nat} (hi:i < n):p.getD i 0 < n:=by
 have hi':i < p.toList.length:=by rw [Array.length_toList,h.sz]; exact hi
 have e:p.getD i 0 = p.toList[i]:=by simp [Array.getD,h.sz,hi]
 rw [e]
 exact List.mem_range.mp (h.pm.mem_iff.mp (List.getElem_mem hi'))
theorem PmA.inj {n:Nat} {p:Array Nat} (h:PmA n p) {i j:Nat} (hi:i < n) (hj:j < n) (hne:i ≠ j):p.getD i 0 ≠ p.getD j 0:=by
 have hi':i < p.toList.length:=by rw [Array.length_toList,h.sz]; exact hi
 have hj':j < p.toList.length:=by rw [Array.length_toList,h.sz]; exact hj
 have e:p.getD i 0 = p.toList[i]:=by simp [Array.getD,h.sz,hi]
 have e':p.getD j 0 = p.toList[j]:=by simp [Array.getD,h.sz,hj]
 rw [e,e']
 intro z
 exact hne ((List.getElem_inj (h.pm.nodup_iff.mpr List.nodup_range)).mp z)
def Ups (lt:Nat -> Nat -> Bool) (p:Array Nat) (k:Nat):Prop:=∀ i j,i < j -> j < k -> lt (p.getD i 0) (p.getD j 0) = true
def Wy (lt:Nat -> Nat -> Bool) (p:Array Nat) (k:Nat):Prop:=∀ i j,i < j -> j < k -> lt (p.getD j 0) (p.getD i 0) = true
section
variable {n:Nat} {lt:Nat -> Nat -> Bool} {cmp:Nat -> Nat -> (Bool -> Shared -> Prop) -> Shared -> Prop} {s:Shared}
theorem Ups.snoc {p:Array Nat} {m:Nat} (o:OrdB n lt) (h1:1 <= m) (u:Ups lt p m) (e:lt (p.getD (m - 1) 0) (p.getD m 0) = true):Ups lt p (m + 1):=by
 intro i j hij hj
 by_cases hjm:j < m
 ·exact u i j hij hjm
 ·obtain rfl:j = m:=by omega
  by_cases hi:i = j - 1
  ·subst hi; exact e
  ·exact o.tr (u i (j - 1) (by omega) (by omega)) e
theorem Wy.snoc {p:Array Nat} {m:Nat} (o:OrdB n lt) (h1:1 <= m) (u:Wy lt p m) (e:lt (p.getD m 0) (p.getD (m - 1) 0) = true):Wy lt p (m + 1):=by
 intro i j hij hj
 by_cases hjm:j < m
 ·exact u i j hij hjm
 ·obtain rfl:j = m:=by omega
  by_cases hi:i = j - 1
  ·subst hi; exact e
  ·exact o.tr e (u i (j - 1) (by omega) (by omega))
end
def ltL:List Int -> List Int -> Bool
 | [],[]=>false
 | [],_ :: _=>true
 | _ :: _,[]=>false
 | a :: as,b :: bs=>if a = b then ltL as bs else decide (a < b)
theorem Z5:∀ {a b:List Int},ltL a b = true -> ltL b a = false
 | [],[],h=>nomatch h
 | [],_ :: _,_=>rfl
 | _ :: _,[],h=>nomatch h
 | a :: as,b :: bs,h=>by
  unfold ltL at h ⊢
  by_cases e:a = b
  ·subst e; rw [if_pos rfl] at h ⊢; exact Z5 h
  ·rw [if_neg e] at h; rw [if_neg (Ne.symm e)]
   have h:=of_decide_eq_true h
   exact decide_eq_false (by omega)
theorem Z6 {a:List Int}:ltL a a = false:=by
 cases h:ltL a a with
 | false=>rfl
 | true=>have:=Z5 h; rw [h] at this; cases this
section
variable {prog:Program} {w:World} {A:Around} {E:VS7} {s:Shared} {b fin:Bool} {Q:Bool -> Shared -> Prop}
structure RowAt (h:Heap) (v:Value) (row:List Int) (x:Addr) (ob:Obj) (its:Array Value) (n:Nat):Prop where
 e:v = .ref x
 g:h.get? x = some ob
 c:ob.cls = .type "tuple"
 d:ob.data = .seq its n
 i:IntsAre its.toList row
def Row1 (h:Heap) (v:Value) (row:List Int):Prop:=∃ x ob its n,RowAt h v row x ob its n
inductive Rows (h:Heap):List Value -> List (List Int) -> Prop
 | nil:Rows h [] []
 | cons {v vs row rows}:Row1 h v row -> Rows h vs rows -> Rows h (v :: vs) (row :: rows)
theorem Rows.len {h:Heap}:∀ {vs rows},Rows h vs rows -> vs.length = rows.length
 | _,_,.nil=>rfl
 | _,_,.cons _ t=>congrArg (· + 1) t.len
theorem Rows.get {h:Heap}:∀ {vs rows} {i:Nat},Rows h vs rows -> i < vs.length -> Row1 h (vs.getD i Value.none) (rows.getD i [])
 | _,_,_,.nil,hi=>absurd hi (by simp)
 | _,_,0,.cons r _,_=>r
 | _,_,i + 1,.cons _ t,hi=>by
  have:=t.get (i:=i) (by simpa using hi)
  exact this
theorem Rows.old {h h':Heap} (k:∀ x ob,h.get? x = some ob -> h'.get? x = some ob):∀ {vs rows},Rows h vs rows -> Rows h' vs rows
 | _,_,.nil=>.nil
 | _,_,.cons ⟨x,ob,its,n,r⟩ t=>.cons ⟨x,ob,its,n,r.e,k _ _ r.g,r.c,r.d,r.i⟩ (t.old k)
theorem Rows.tups {h:Heap}:∀ {vs rows},Rows h vs rows -> (∀ r ∈ rows,r ≠ []) -> ∃ fs,KatTups h vs fs /\ fs.length = vs.length /\ ∀ f ∈ fs,∃ n t,f = Value.int n t
 | _,_,.nil,_=>⟨[],.nil,rfl,fun f hf=>absurd hf (by simp)⟩
 | _,_,.cons ⟨x,ob,its,n,r⟩ t,ne=>by
  rename_i v vs row rows
  obtain ⟨fs,k,l,a⟩:=t.tups fun r hr=>ne r (List.mem_cons_of_mem _ hr)
  have hne:=ne row List.mem_cons_self
  obtain ⟨f,hf,n',t',rfl⟩:∃ f,its[0]? = some f /\ ∃ n t,f = Value.int n t:=by
   have hi:=r.i
   rw [← Array.getElem?_toList]
   revert hi
   generalize its.toList = us
   intro hi
   cases hi with
   | nil=>exact absurd rfl hne
   | cons n t _=>exact ⟨_,rfl,n,t,rfl⟩
  obtain rfl:=r.e
  exact ⟨Value.int n' t' :: fs,.cons r.g r.c r.d hf k,congrArg (· + 1) l,fun f hf=>by
   rcases List.mem_cons.mp hf with rfl | hf
   ·exact ⟨n',t',rfl⟩
   ·exact a f hf⟩
end
theorem wG {K:FG7} {a:Addr} {xs:List V} {g:TG} {te:TE} {Q:VK} {σ:L2.St} {H:Hp} (Pv:Nat -> List V -> L2.St -> Hp -> Prop) (h0:Pv 0 [] σ H) (hl:∀ i ys σ H,i <= xs.length -> Pv i ys σ H -> SqL K H a xs)
  (hs:∀ i x ys σ H,xs[i]? = some x -> Pv i ys σ H -> g x σ H fun σ2 H3=>te σ2 H3 fun y H5=>ys.length < sizeLine /\ Pv (i + 1) (ys ++ [y]) σ2 H5)
  (hd:∀ ys σ H,Pv xs.length ys σ H -> ∀ l,H l = none -> Q (.ref l) (upd H l (.lst ys))):xC (Itl K a) σ H g tE te Q:=w6 Pv h0 hl (fun i x ys σ H hx hp=>hs i x ys σ H hx hp) hd
section
variable {prog:Program} {w:World} {A:Around} {E:VS7} {s:Shared} {b fin:Bool} {Q:Bool -> Shared -> Prop}
structure RowAtP (h:Heap) (v:Value) (row:List Int) (x:Addr) (ob:Obj) (its:Array Value) (n:Nat) (us rest:List Value):Prop where
 e:v = .ref x
 g:h.get? x = some ob
 c:ob.cls = .type "tuple"
 d:ob.data = .seq its n
 t:its.toList = us ++ rest
 i:IntsAre us row
def VL (h:Heap) (v:Value) (row:List Int):Prop:=∃ x ob its n us rest,RowAtP h v row x ob its n us rest
inductive RowsP (h:Heap):List Value -> List (List Int) -> Prop
 | nil:RowsP h [] []
 | cons {v vs row rows}:VL h v row -> RowsP h vs rows -> RowsP h (v :: vs) (row :: rows)
theorem RowsP.len {h:Heap}:∀ {vs rows},RowsP h vs rows -> vs.length = rows.length
 | _,_,.nil=>rfl
 | _,_,.cons _ t=>congrArg (· + 1) t.len
theorem RowsP.get {h:Heap}:∀ {vs rows} {i:Nat},RowsP h vs rows -> i < vs.length -> VL h (vs.getD i Value.none) (rows.getD i [])
 | _,_,_,.nil,hi=>absurd hi (by simp)
 | _,_,0,.cons r _,_=>r
 | _,_,i + 1,.cons _ t,hi=>by
  have:=t.get (i:=i) (by simpa using hi)
  exact this
theorem RowsP.old {h h':Heap} (k:∀ x ob,h.get? x = some ob -> h'.get? x = some ob):∀ {vs rows},RowsP h vs rows -> RowsP h' vs rows
 | _,_,.nil=>.nil
 | _,_,.cons ⟨x,ob,its,n,us,rest,r⟩ t=>.cons ⟨x,ob,its,n,us,rest,r.e,k _ _ r.g,r.c,r.d,r.t,r.i⟩ (t.old k)
theorem RowsP.tups {h:Heap}:∀ {vs rows},RowsP h vs rows -> (∀ r ∈ rows,r ≠ []) -> ∃ fs,KatTups h vs fs /\ fs.length = vs.length /\ ∀ f ∈ fs,∃ n t,f = Value.int n t
 | _,_,.nil,_=>⟨[],.nil,rfl,fun f hf=>absurd hf (by simp)⟩
 | _,_,.cons ⟨x,ob,its,n,us,rest,r⟩ t,ne=>by
  rename_i v vs row rows
  obtain ⟨fs,k,l,a⟩:=t.tups fun r hr=>ne r (List.mem_cons_of_mem _ hr)
  have hne:=ne row List.mem_cons_self
  obtain ⟨f,hf,n',t',rfl⟩:∃ f,its[0]? = some f /\ ∃ n t,f = Value.int n t:=by
   have hi:=r.i
   rw [← Array.getElem?_toList,r.t]
   revert hi
   generalize us = us'
   intro hi
   cases hi with
   | nil=>exact absurd rfl hne
   | cons n t _=>exact ⟨_,rfl,n,t,rfl⟩
  obtain rfl:=r.e
  exact ⟨Value.int n' t' :: fs,.cons r.g r.c r.d hf k,congrArg (· + 1) l,fun f hf=>by
   rcases List.mem_cons.mp hf with rfl | hf
   ·exact ⟨n',t',rfl⟩
   ·exact a f hf⟩
end
section
variable {X:Cx} {K:FG7}
def Z7 (K:FG7) (H:Hp) (z:V) (p:List Int × List V):Prop:=∃ r,z = .ref r /\ SqT K H r (p.1.map V.int ++ p.2)
end
theorem Wz:bootBuiltins "set" = some (.type "set"):=by decide +kernel
theorem Z7.grow {K:FG7} {H H':Hp} {m:List Addr} {z:V} {p:List Int × List V} (g:Grow m H H') (h:Z7 K H z p):Z7 K H' z p:=by
 obtain ⟨r,e,hr⟩:=h
 exact ⟨r,e,g.sqT hr⟩
structure Mem44 where
 st:Nat
 num:Nat
 box:Nat
 d:Deed
def yP (e:Mem44):List Int:=[(e.st:Int),(e.num:Int),(e.box:Int)]
theorem xf {e e':Mem44} (h:yP e = yP e'):e.st = e'.st /\ e.num = e'.num /\ e.box = e'.box:=by
 unfold yP at h
 injection h with h1 h
 injection h with h2 h
 injection h with h3 h
 omega
def memL (k:Nat) (rows:List (List Int)) (ks:List Ask) (b:Nat):Nat -> Nat -> List Mem44
 | 0,_=>[]
 | s + 1,l=>memL k rows ks b s (x0R k rows (s + 1) l) ++ memL k rows ks b s (x1R k rows (s + 1) l) ++ (match kpR k rows ks (s + 1) l b with | some d=>[⟨s + 1,nN k (s + 1) l,b,d⟩] | none=>[])
def Uo (k b s l:Nat):Prop:=∀ j:Nat,1 <= j -> j <= s -> figI k (j:Int) l = figI k (j:Int) ((b % 2 ^ k:Nat):Int)
section
variable {k m:Nat} {rows:List (List Int)} {ks:List Ask} {b:Nat}
structure MemI (k:Nat) (rows:List (List Int)) (ks:List Ask) (b s l:Nat) (e:Mem44):Prop where
 box:e.box = b
 s1:1 <= e.st
 sk:e.st <= s
 ex:∃ l':Nat,l' < 2 ^ k /\ (∀ j:Nat,s < j -> j <= k -> figI k (j:Int) l' = figI k (j:Int) l) /\ e.num = nN k e.st l' /\ kpR k rows ks e.st l' b = some e.d
theorem zU (k4:k <= 4) (hs:yh k rows):∀ {s l:Nat},s <= k -> l < 2 ^ k -> ∀ e ∈ memL k rows ks b s l,MemI k rows ks b s l e
 | 0,_,_,_,e,he=>by cases he
 | s + 1,l,sk,hl,e,he=>by
  have X:=xF (rows:=rows) k4 hs (s:=s + 1) (by omega) sk hl
  have he':e ∈ (memL k rows ks b s (x0R k rows (s + 1) l) ++ memL k rows ks b s (x1R k rows (s + 1) l)) ++ (match kpR k rows ks (s + 1) l b with | some d=>[⟨s + 1,nN k (s + 1) l,b,d⟩] | none=>[]):=he
  rcases List.mem_append.mp he' with h | h
  ·rcases List.mem_append.mp h with h | h
   ·obtain ⟨h1,h2,h3,l',h4,h5,h6⟩:=zU k4 hs (by omega) X.lt0 e h
    exact ⟨h1,h2,by omega,l',h4,fun j j1 j2=>(h5 j (by omega) j2).trans (X.off0 j j2 (by omega)),h6⟩
   ·obtain ⟨h1,h2,h3,l',h4,h5,h6⟩:=zU k4 hs (by omega) X.lt1 e h
    exact ⟨h1,h2,by omega,l',h4,fun j j1 j2=>(h5 j (by omega) j2).trans (X.off1 j j2 (by omega)),h6⟩
  ·cases hk:kpR k rows ks (s + 1) l b with
   | none=>rw [hk] at h; cases h
   | some d =>
    rw [hk] at h
    cases List.mem_singleton.mp h
    exact ⟨rfl,by show 1 <= s + 1; omega,Nat.le_refl _,l,hl,(fun _ _ _=>rfl),rfl,hk⟩
theorem t6 (k4:k <= 4) {s l l':Nat} (s1:1 <= s) (sk:s <= k) (hl:l < 2 ^ k) (hl':l' < 2 ^ k) (e:nN k s l = nN k s l') {t:Nat} (t1:1 <= t) (tk:t <= k) (hne:t ≠ s):figI k (t:Int) l = figI k (t:Int) l':=by
 rcases twoF k4 s1 sk hl' hl e.symm with rfl | rfl
 ·rfl
 ·have p:=z8 k4
  exact uh ⟨k,by omega⟩ ⟨s,by omega⟩ s1 sk ⟨l',by omega⟩ hl' ⟨t,by omega⟩ t1 tk (by simpa using hne)
theorem uF (k4:k <= 4) (hs:yh k rows):∀ {s l:Nat},s <= k -> l < 2 ^ k -> ((memL k rows ks b s l).map yP).Nodup
 | 0,_,_,_=>List.nodup_nil
 | s + 1,l,sk,hl=>by
  have X:=xF (rows:=rows) k4 hs (s:=s + 1) (by omega) sk hl
  have f:=ZE (t:=s + 1) k4 hs (by omega) sk hl
  have A:=wfF k4 (s:=s + 1) (by omega) sk hl f
  have B:=wfF k4 (s:=s + 1) (by omega) sk hl (show 1 - fstI rows (s + 1) (nN k (s + 1) l) = 0 \/ 1 - fstI rows (s + 1) (nN k (s + 1) l) = 1 by omega)
  show ((memL k rows ks b s (x0R k rows (s + 1) l) ++ memL k rows ks b s (x1R k rows (s + 1) l) ++ (match kpR k rows ks (s + 1) l b with | some d=>[⟨s + 1,nN k (s + 1) l,b,d⟩] | none=>[])).map yP).Nodup
  rw [List.map_append,List.map_append]
  refine List.nodup_append.mpr ⟨List.nodup_append.mpr ⟨uF k4 hs (by omega) X.lt0,uF k4 hs (by omega) X.lt1,fun x hx y hy z=>?_⟩,?_,fun x hx y hy z=>?_⟩
  ·obtain ⟨e,he,rfl⟩:=List.mem_map.mp hx
   obtain ⟨e',he',rfl⟩:=List.mem_map.mp hy
   obtain ⟨z1,z2,z3⟩:=xf z
   obtain ⟨_,h2,h3,l0,h4,h5,h6,_⟩:=zU k4 hs (by omega) X.lt0 e he
   obtain ⟨_,h2',h3',l1,h4',h5',h6',_⟩:=zU k4 hs (by omega) X.lt1 e' he'
   rw [← z1,← z2,h6] at h6'
   have hf:=t6 k4 h2 (by omega) h4 h4' h6' (t:=s + 1) (by omega) sk (by omega)
   rw [h5 (s + 1) (by omega) sk,h5' (s + 1) (by omega) sk] at hf
   have a1:figI k ((s + 1:Nat):Int) (x0R k rows (s + 1) l) = _:=A.at_
   have b1:figI k ((s + 1:Nat):Int) (x1R k rows (s + 1) l) = _:=B.at_
   rw [a1,b1] at hf
   omega
  ·cases kpR k rows ks (s + 1) l b with
   | none=>exact List.nodup_nil
   | some d=>exact List.nodup_cons.mpr ⟨(fun z=>nomatch z),List.nodup_nil⟩
  ·have hle:∃ e:Mem44,yP e = x /\ e.st <= s:=by
    rcases List.mem_append.mp hx with h | h
    ·obtain ⟨e,he,rfl⟩:=List.mem_map.mp h
     exact ⟨e,rfl,(zU k4 hs (by omega) X.lt0 e he).sk⟩
    ·obtain ⟨e,he,rfl⟩:=List.mem_map.mp h
     exact ⟨e,rfl,(zU k4 hs (by omega) X.lt1 e he).sk⟩
   obtain ⟨e,rfl,hle⟩:=hle
   obtain ⟨e',he',rfl⟩:=List.mem_map.mp hy
   obtain ⟨z1,_,_⟩:=xf z
   cases hk:kpR k rows ks (s + 1) l b with
   | none=>rw [hk] at he'; cases he'
   | some d =>
    rw [hk] at he'
    cases List.mem_singleton.mp he'
    have:e.st = s + 1:=z1
    omega
theorem wx (k4:k <= 4) (hs:yh k rows):∀ {S s L l:Nat},s <= S -> S <= k -> L < 2 ^ k -> l < 2 ^ k -> (∀ j:Nat,1 <= j -> j <= s -> figI k (j:Int) l = figI k (j:Int) L) -> (∀ j:Nat,S < j -> j <= k -> figI k (j:Int) l = figI k (j:Int) L) →
  ∀ e ∈ memL k rows ks b s l,e ∈ memL k rows ks b S L
 | 0,s,L,l,h1,_,_,_,_,_,e,he=>by
  cases (show s = 0 by omega)
  exact he
 | S + 1,s,L,l,h1,h2,hL,hl,f1,f2,e,he=>by
  by_cases c:s = S + 1
  ·subst c
   have:l = L:=vm k4 hl hL fun t t1 tk=>by
    by_cases d:t <= S + 1
    ·exact f1 t t1 d
    ·exact f2 t (by omega) tk
   rw [← this]; exact he
  ·have X:=xF (rows:=rows) k4 hs (s:=S + 1) (by omega) h2 hL
   have f:=ZE (t:=S + 1) k4 hs (by omega) h2 hL
   have A:=wfF k4 (s:=S + 1) (by omega) h2 hL f
   have B:=wfF k4 (s:=S + 1) (by omega) h2 hL (show 1 - fstI rows (S + 1) (nN k (S + 1) L) = 0 \/ 1 - fstI rows (S + 1) (nN k (S + 1) L) = 1 by omega)
   have g:=Wl (l:=l) k4 h2 hl
   show e ∈ (memL k rows ks b S (x0R k rows (S + 1) L) ++ memL k rows ks b S (x1R k rows (S + 1) L)) ++ _
   refine List.mem_append_left _ ?_
   by_cases d:figI k ((S + 1:Nat):Int) l = fstI rows (S + 1) (nN k (S + 1) L)
   ·refine List.mem_append_left _ (wx k4 hs (by omega) (by omega) X.lt0 hl (fun j j1 j2=>?_) (fun j j1 j2=>?_) e he)
    ·rw [X.off0 j (by omega) (by omega)]; exact f1 j j1 j2
    ·by_cases c2:j = S + 1
     ·rw [c2,d]; exact A.at_.symm
     ·rw [X.off0 j j2 c2]; exact f2 j (by omega) j2
   ·refine List.mem_append_right _ (wx k4 hs (by omega) (by omega) X.lt1 hl (fun j j1 j2=>?_) (fun j j1 j2=>?_) e he)
    ·rw [X.off1 j (by omega) (by omega)]; exact f1 j j1 j2
    ·by_cases c2:j = S + 1
     ·rw [c2,show figI k ((S + 1:Nat):Int) (x1R k rows (S + 1) L) = 1 - fstI rows (S + 1) (nN k (S + 1) L) from B.at_]; omega
     ·rw [X.off1 j j2 c2]; exact f2 j (by omega) j2
theorem vC (k4:k <= 4) (hs:yh k rows):∀ {s l:Nat},s <= k -> l < 2 ^ k -> lvR k rows ks s l b ≠ none -> Uo k b s l
 | 0,_,_,_,_=>fun j j1 j2=>by omega
 | s + 1,l,sk,hl,h=>by
  have X:=xF (rows:=rows) k4 hs (s:=s + 1) (by omega) sk hl
  by_cases c:figI k ((s + 1:Nat):Int) l = figI k ((s + 1:Nat):Int) ((b % 2 ^ k:Nat):Int)
  ·have e2:lvR k rows ks (s + 1) l b = jp (lvR k rows ks s (x0R k rows (s + 1) l) b) (lvR k rows ks s (x1R k rows (s + 1) l) b):=if_pos c
   intro j j1 j2
   by_cases d:j = s + 1
   ·rw [d]; exact c
   ·by_cases h0:lvR k rows ks s (x0R k rows (s + 1) l) b = none
    ·by_cases h1:lvR k rows ks s (x1R k rows (s + 1) l) b = none
     ·rw [e2,h0,h1] at h; exact absurd rfl h
     ·rw [← X.off1 j (by omega) d]; exact vC k4 hs (by omega) X.lt1 h1 j j1 (by omega)
    ·rw [← X.off0 j (by omega) d]; exact vC k4 hs (by omega) X.lt0 h0 j j1 (by omega)
  ·have e2:lvR k rows ks (s + 1) l b = none:=if_neg c
   exact absurd e2 h
theorem WA {s l:Nat} {d:Deed} (h:kpR k rows ks s l b = some d):lvR k rows ks (s - 1) (x0R k rows s l) b = some d /\ lvR k rows ks (s - 1) (x1R k rows s l) b ≠ none:=by
 unfold kpR at h
 cases h0:lvR k rows ks (s - 1) (x0R k rows s l) b with
 | none=>rw [h0] at h; cases h
 | some d0 =>
  cases h1:lvR k rows ks (s - 1) (x1R k rows s l) b with
  | none=>rw [h0,h1] at h; cases h
  | some d1=>rw [h0,h1] at h; cases h; exact ⟨rfl,fun z=>nomatch z⟩
theorem Z8 (k4:k <= 4) (hs:yh k rows) {s l:Nat} {d:Deed} (s1:1 <= s) (sk:s <= k) (hl:l < 2 ^ k) (h:kpR k rows ks s l b = some d):(⟨s,nN k s l,b,d⟩:Mem44) ∈ memL k rows ks b k (b % 2 ^ k):=by
 have X:=xF (rows:=rows) k4 hs s1 sk hl
 have W:=outF (b:=b) k4 s1 sk hl
 have en:nN k s (outR k s l b) = nN k s l:=Wt s1 sk fun t _ tk hn=>W.off t tk hn
 have P:=vC (ks:=ks) (b:=b) (s:=s - 1) k4 hs (by omega) X.lt0 (by rw [(WA h).1]; exact fun z=>nomatch z)
 have hk:kpR k rows ks s (outR k s l b) b = some d:=(rg (l:=outR k s l b) k4 hs s1 sk W.lt hl en).trans h
 have hin:(⟨s,nN k s l,b,d⟩:Mem44) ∈ memL k rows ks b s (outR k s l b):=by
  obtain ⟨n,rfl⟩:∃ n,s = n + 1:=⟨s - 1,by omega⟩
  show _ ∈ _ ++ (match kpR k rows ks (n + 1) (outR k (n + 1) l b) b with | some d=>[(⟨n + 1,nN k (n + 1) (outR k (n + 1) l b),b,d⟩:Mem44)] | none=>[])
  rw [hk]
  refine List.mem_append_right _ ?_
  show _ ∈ [(⟨n + 1,nN k (n + 1) (outR k (n + 1) l b),b,d⟩:Mem44)]
  rw [en]
  exact List.mem_singleton.mpr rfl
 refine wx k4 hs sk (Nat.le_refl k) zR W.lt (fun j j1 j2=>?_) (fun j j1 j2=>by omega) _ hin
 by_cases c:j = s
 ·rw [c]; exact W.at_
 ·rw [W.off j (by omega) c,← X.off0 j (by omega) c]
  exact P j j1 (by omega)
def memA (k:Nat) (rows:List (List Int)) (ks:List Ask) (m:Nat):List Mem44:=(List.range m).flatMap fun b=>memL k rows ks b k (b % 2 ^ k)
theorem xy (k4:k <= 4) (hs:yh k rows) {e:Mem44}:e ∈ memA k rows ks m ↔ 1 <= e.st /\ e.st <= k /\ e.box < m /\ ∃ l,l < 2 ^ k /\ e.num = nN k e.st l /\ kpR k rows ks e.st l e.box = some e.d:=by
 constructor
 ·intro h
  obtain ⟨b,hb,h⟩:=List.mem_flatMap.mp h
  obtain ⟨h1,h2,h3,l',h4,_,h6,h7⟩:=zU k4 hs (Nat.le_refl k) zR e h
  rw [h1]
  exact ⟨h2,h3,List.mem_range.mp hb,l',h4,h6,h7⟩
 ·rintro ⟨h1,h2,h3,l,h4,h5,h6⟩
  refine List.mem_flatMap.mpr ⟨e.box,List.mem_range.mpr h3,?_⟩
  have:=Z8 k4 hs h1 h2 h4 h6
  rw [← h5] at this; exact this
theorem t7 (k4:k <= 4) (hs:yh k rows):((memA k rows ks m).map yP).Nodup:=by
 unfold memA List.Nodup
 rw [List.map_flatMap,List.pairwise_flatMap]
 refine ⟨fun b _=>uF k4 hs (Nat.le_refl k) zR,List.nodup_range.imp fun {x y} hxy p hp q hq z=>hxy ?_⟩
 obtain ⟨e,he,rfl⟩:=List.mem_map.mp hp
 obtain ⟨e',he',rfl⟩:=List.mem_map.mp hq
 have h1:=(zU k4 hs (Nat.le_refl k) zR e he).box
 have h2:=(zU k4 hs (Nat.le_refl k) zR e' he').box
 obtain ⟨_,_,z3⟩:=xf z
 rw [← h1,← h2,z3]
end
structure RemS (k m:Nat) (rows:List (List Int)) (ks:List Ask) (L:List Mem44):Prop where
 up:L.Pairwise (fun x y=>ltL (yP x) (yP y) = true)
 pm:L.Perm (memA k rows ks m)
theorem Z9 {α:Type} {key:α -> List Int}:∀ {L L':List α},L.Pairwise (fun x y=>ltL (key x) (key y) = true) -> L'.Pairwise (fun x y=>ltL (key x) (key y) = true) -> (∀ a,a ∈ L ↔ a ∈ L') -> L = L'
 | [],[],_,_,_=>rfl
 | [],a :: _,_,_,h=>by have:=(h a).mpr (List.mem_cons_self ..); cases this
 | a :: _,[],_,_,h=>by have:=(h a).mp (List.mem_cons_self ..); cases this
 | a :: t,a' :: t',p,p',h=>by
  obtain ⟨p1,p2⟩:=List.pairwise_cons.mp p
  obtain ⟨q1,q2⟩:=List.pairwise_cons.mp p'
  have e:a = a':=by
   rcases List.mem_cons.mp ((h a).mp (List.mem_cons_self ..)) with z | z
   ·exact z
   ·rcases List.mem_cons.mp ((h a').mpr (List.mem_cons_self ..)) with w | w
    ·exact w.symm
    ·have h1:=q1 a z
     have h2:=p1 a' w
     rw [Z5 h1] at h2; cases h2
  subst e
  rw [Z9 p2 q2 fun x=>⟨fun hx=>?_,fun hx=>?_⟩]
  ·rcases List.mem_cons.mp ((h x).mp (List.mem_cons_of_mem _ hx)) with z | z
   ·subst z; have:=p1 x hx; rw [Z6] at this; cases this
   ·exact z
  ·rcases List.mem_cons.mp ((h x).mpr (List.mem_cons_of_mem _ hx)) with z | z
   ·subst z; have:=q1 x hx; rw [Z6] at this; cases this
   ·exact z
theorem RemS.eq {k m:Nat} {rows:List (List Int)} {ks:List Ask} {L L':List Mem44} (h:RemS k m rows ks L) (h':RemS k m rows ks L'):L = L':=Z9 h.up h'.up fun a=>(h.pm.trans h'.pm.symm).mem_iff
def RmAt (K:FG7) (H:Hp) (z:V) (e:Mem44):Prop:=∃ r dv,z = .ref r /\ SqT K H r [.int (e.st:Nat),.int (e.num:Nat),.int (e.box:Nat),dv] /\ zv K H dv e.d
def Ya (K:FG7) (H:Hp) (y:V) (L:List Mem44):Prop:=∃ r zs,y = .ref r /\ SqT K H r zs /\ AllR (RmAt K H) zs L
theorem RmAt.grow {K:FG7} {H H':Hp} {m:List Addr} {z:V} {e:Mem44} (g:Grow m H H') (h:RmAt K H z e):RmAt K H' z e:=by
 obtain ⟨r,dv,e,h1,h2⟩:=h
 exact ⟨r,dv,e,g.sqT h1,g.deed h2⟩
theorem Ya.grow {K:FG7} {H H':Hp} {m:List Addr} {z:V} {L:List Mem44} (g:Grow m H H') (h:Ya K H z L):Ya K H' z L:=by
 obtain ⟨r,zs,e,h1,h2⟩:=h
 exact ⟨r,zs,e,g.sqT h1,h2.imp fun _ _ h=>RmAt.grow g h⟩
def qK (st:Nat) (p:List Key × V):List Int × List V:=match p.1 with
 | [.inl n,.inl c]=>([(st:Int),n,c],[p.2])
 | _=>([],[])
structure RemP (K:FG7) (H:Hp) (k m:Nat) (rows:List (List Int)) (ks:List Ask) (i:Nat) (its:List (List Int × List V)):Prop where
 ent:∀ p ∈ its,∃ (e:Mem44) (v:V),p = (yP e,[v]) /\ e ∈ memA k rows ks m /\ e.st <= i /\ zv K H v e.d
 nd:(its.map (·.1)).Nodup
 all:∀ e ∈ memA k rows ks m,e.st <= i -> yP e ∈ its.map (·.1)
theorem RemP.grow {K:FG7} {H H':Hp} {m':List Addr} {k m i:Nat} {rows:List (List Int)} {ks:List Ask} {its:List (List Int × List V)} (g:Grow m' H H') (h:RemP K H k m rows ks i its):RemP K H' k m rows ks i its :=
 ⟨fun p hp=>by obtain ⟨e,v,h1,h2,h3,h4⟩:=h.ent p hp; exact ⟨e,v,h1,h2,h3,g.deed h4⟩,h.nd,h.all⟩
section
variable {k m:Nat} {rows:List (List Int)} {ks:List Ask} {K:FG7} {H:Hp}
theorem yX {α:Type} [DecidableEq α]:∀ {l l':List α},l.Nodup -> (∀ x ∈ l,x ∈ l') -> l.length <= l'.length
 | [],_,_,_=>Nat.zero_le _
 | a :: l,l',hn,h=>by
  have ha:a ∈ l':=h a (List.mem_cons.mpr (.inl rfl))
  obtain ⟨h1,h2⟩:=List.nodup_cons.mp hn
  have:=yX (l:=l) (l':=l'.erase a) h2 fun x hx=>(List.mem_erase_of_ne (fun e=>h1 (by rw [← e]; exact hx))).mpr (h x (List.mem_cons.mpr (.inr hx)))
  rw [List.length_erase_of_mem ha] at this
  have:0 < l'.length:=List.length_pos_of_mem ha
  rw [List.length_cons]; omega
theorem RemP.len {i:Nat} {its:List (List Int × List V)} (h:RemP K H k m rows ks i its):its.length <= (memA k rows ks m).length:=by
 have:=yX (l':=(memA k rows ks m).map yP) h.nd fun x hx=>by
  obtain ⟨p,hp,rfl⟩:=List.mem_map.mp hx
  obtain ⟨e,v,rfl,h2,_⟩:=h.ent p hp
  exact List.mem_map.mpr ⟨e,h2,rfl⟩
 rw [List.length_map,List.length_map] at this; exact this
theorem RemP.nil (k4:k <= 4) (hs:yh k rows):RemP K H k m rows ks 0 []:=⟨(fun p hp=>nomatch hp),List.nodup_nil,fun e he h0=>by
 have:=((xy k4 hs).mp he).1
 omega⟩
theorem RemP.next (k4:k <= 4) (hs:yh k rows) {i:Nat} {its:List (List Int × List V)} {kvs:List (List Key × V)} (hi:i < k) (h:RemP K H k m rows ks i its)
  (h3:∀ p ∈ kvs,∃ l b x,p.1 = keyR (nN k (i + 1) l) b /\ l < 2 ^ k /\ b < m /\ kpR k rows ks (i + 1) l b = some x /\ zv K H p.2 x) (nd:(kvs.map (·.1)).Nodup)
  (h5:∀ l b,l < 2 ^ k -> b < m -> kpR k rows ks (i + 1) l b ≠ none -> (valV kvs (keyR (nN k (i + 1) l) b)).isSome = true):RemP K H k m rows ks (i + 1) (its ++ kvs.map (qK (i + 1))):=by
 have hit:∀ p ∈ kvs,∃ (e:Mem44),qK (i + 1) p = (yP e,[p.2]) /\ e ∈ memA k rows ks m /\ e.st = i + 1 /\ zv K H p.2 e.d /\ p.1 = keyR e.num e.box:=fun p hp=>by
  obtain ⟨l,b,x,e1,hl,hb,hx,hd⟩:=h3 p hp
  obtain ⟨pk,v⟩:=p
  cases (show pk = keyR (nN k (i + 1) l) b from e1)
  exact ⟨⟨i + 1,nN k (i + 1) l,b,x⟩,rfl,(xy k4 hs).mpr ⟨Nat.succ_le_succ (Nat.zero_le _),hi,hb,l,hl,rfl,hx⟩,rfl,hd,rfl⟩
 refine ⟨fun p hp=>?_,?_,fun e he hle=>?_⟩
 ·rcases List.mem_append.mp hp with z | z
  ·obtain ⟨e,v,a,b,c,d⟩:=h.ent p z
   exact ⟨e,v,a,b,by omega,d⟩
  ·obtain ⟨q,hq,rfl⟩:=List.mem_map.mp z
   obtain ⟨e,a,b,c,d,_⟩:=hit q hq
   exact ⟨e,q.2,a,b,by omega,d⟩
 ·rw [List.map_append]
  refine List.nodup_append.mpr ⟨h.nd,?_,fun x hx y hy z=>?_⟩
  ·rw [List.map_map]
   refine List.pairwise_map.mpr ((List.pairwise_map.mp nd).imp_of_mem fun {a b} ha hb hab z=>hab ?_)
   obtain ⟨e,h1,_,_,_,h2⟩:=hit a ha
   obtain ⟨e',h1',_,_,_,h2'⟩:=hit b hb
   have z':(qK (i + 1) a).1 = (qK (i + 1) b).1:=z
   rw [h1,h1'] at z'
   obtain ⟨_,z2,z3⟩:=xf z'
   rw [h2,h2',z2,z3]
  ·obtain ⟨p,hp,rfl⟩:=List.mem_map.mp hx
   obtain ⟨e,v,rfl,_,c,_⟩:=h.ent p hp
   obtain ⟨q,hq,rfl⟩:=List.mem_map.mp hy
   obtain ⟨q',hq',rfl⟩:=List.mem_map.mp hq
   obtain ⟨e',h1',_,h3',_⟩:=hit q' hq'
   rw [h1'] at z
   have:=(xf (e:=e) (e':=e') z).1
   omega
 ·rw [List.map_append]
  by_cases c:e.st <= i
  ·exact List.mem_append_left _ (h.all e he c)
  ·refine List.mem_append_right _ ?_
   obtain ⟨a1,a2,a3,l,a4,a5,a6⟩:=(xy k4 hs).mp he
   have es:e.st = i + 1:=by omega
   rw [es] at a5 a6
   obtain ⟨j,v,j1,j2⟩:=ww (h5 l e.box a4 a3 (by rw [a6]; exact fun z=>nomatch z))
   rw [List.map_map]
   refine List.mem_map.mpr ⟨(keyR (nN k (i + 1) l) e.box,v),List.mem_of_getElem? j1,?_⟩
   show [((i + 1:Nat):Int),((nN k (i + 1) l:Nat):Int),((e.box:Nat):Int)] = yP e
   unfold yP; rw [es,a5]
theorem RemP.done (k4:k <= 4) (hs:yh k rows) {its its':List (List Int × List V)} {zs:List V} (h:RemP K H k m rows ks k its) (pm:its'.Perm its) (pw:its'.Pairwise (fun x y=>ltL x.1 y.1 = true)) (al:AllR (Z7 K H) zs its'):∃ L,AllR (RmAt K H) zs L /\ RemS k m rows ks L:=by
 have key:∀ {zs:List V} {its':List (List Int × List V)},(∀ p ∈ its',∃ (e:Mem44) (v:V),p = (yP e,[v]) /\ e ∈ memA k rows ks m /\ e.st <= k /\ zv K H v e.d) -> AllR (Z7 K H) zs its' -> ∃ L:List Mem44,AllR (RmAt K H) zs L /\ L.map yP = its'.map (·.1) /\ ∀ e ∈ L,e ∈ memA k rows ks m:=by
  intro zs
  induction zs with
  | nil =>
   intro its' _ al
   cases its' with
   | nil=>exact ⟨[],trivial,rfl,(fun e he=>nomatch he)⟩
   | cons _ _=>exact al.elim
  | cons z zs ih =>
   intro its' hp al
   cases its' with
   | nil=>exact al.elim
   | cons p its' =>
    obtain ⟨L,h1,h2,h3⟩:=ih (fun q hq=>hp q (List.mem_cons_of_mem _ hq)) al.2
    obtain ⟨e,v,rfl,he,_,hd⟩:=hp p (List.mem_cons_self ..)
    obtain ⟨r,rfl,hr⟩:=al.1
    refine ⟨e :: L,⟨⟨r,v,rfl,hr,hd⟩,h1⟩,by rw [List.map_cons,List.map_cons,h2],fun x hx=>?_⟩
    rcases List.mem_cons.mp hx with z | z
    ·rw [z]; exact he
    ·exact h3 x z
 obtain ⟨L,h1,h2,h3⟩:=key (fun p hp=>h.ent p (pm.mem_iff.mp hp)) al
 refine ⟨L,h1,?_,?_⟩
 ·have:(its'.map (·.1)).Pairwise (fun x y=>ltL x y = true):=List.pairwise_map.mpr pw
  rw [← h2] at this
  exact List.pairwise_map.mp this
 ·have nd1:(L.map yP).Nodup:=by rw [h2]; exact ((pm.map _).nodup_iff).mpr h.nd
  have nd:L.Nodup:=List.Pairwise.of_map (S:=(· ≠ ·)) yP (fun a b h z=>h (by rw [z])) nd1
  have ndA:(memA k rows ks m).Nodup:=List.Pairwise.of_map (S:=(· ≠ ·)) yP (fun a b h z=>h (by rw [z])) (t7 k4 hs)
  refine (List.perm_ext_iff_of_nodup nd ndA).mpr fun e=>⟨h3 e,fun he=>?_⟩
  have hk:=h.all e he ((xy k4 hs).mp he).2.1
  rw [← (pm.map (·.1)).mem_iff,← h2] at hk
  obtain ⟨e',he',ek⟩:=List.mem_map.mp hk
  have hA':=h3 e' he'
  obtain ⟨i,hi,e1⟩:=List.mem_iff_getElem.mp he
  obtain ⟨j,hj,e2⟩:=List.mem_iff_getElem.mp hA'
  have nk:=t7 (m:=m) (ks:=ks) k4 hs
  have:i = j:=by
   refine (List.getElem_inj (xs:=(memA k rows ks m).map yP) (h₀:=by rw [List.length_map]; exact hi) (h₁:=by rw [List.length_map]; exact hj) nk).mp ?_
   rw [List.getElem_map,List.getElem_map,e1,e2,ek]
  subst this
  rw [← e1,e2]; exact he'
end
def VM (pvs:List (List Key × V)):List (List Key × V):=pvs.foldl (fun a p=>putK a p.1 p.2) []
def OptD (K:FG7) (H:Hp) (y:V):Option Deed -> Prop
 | none=>y = .non
 | some d=>zv K H y d
theorem OptD.grow {K:FG7} {H H':Hp} {m:List Addr} {y:V} (g:Grow m H H'):∀ {o:Option Deed},OptD K H y o -> OptD K H' y o
 | none,h=>h
 | some _,h=>g.deed h
def uG (K:FG7) (H:Hp) (k m:Nat) (ks:List Ask) (db:Addr):Prop:=∃ kvs,H db = some (.dT kvs) /\ ∀ l c:Nat,l < 2 ^ k -> c < m -> ∃ o,valV kvs (keyR l c) = o /\ OptD K H (o.getD .non) (lvR k [] ks 0 l c) /\ (o = none -> lvR k [] ks 0 l c = none)
theorem uG.grow {K:FG7} {H H':Hp} {m':List Addr} {k m:Nat} {ks:List Ask} {db:Addr} (g:Grow m' H H') (n:db ∉ m') (h:uG K H k m ks db):uG K H' k m ks db:=by
 obtain ⟨kvs,h1,h2⟩:=h
 refine ⟨kvs,g.keep _ _ n h1,fun l c hl hc=>?_⟩
 obtain ⟨o,a,b,c'⟩:=h2 l c hl hc
 exact ⟨o,a,b.grow g,c'⟩
theorem xM {key:List Key}:∀ {ps d:List (List Key × V)},(∀ p ∈ ps,p.1 ≠ key) -> valV (ps.foldl (fun d p=>putK d p.1 p.2) d) key = valV d key
 | [],_,_=>rfl
 | p :: ps,d,h=>by rw [List.foldl_cons,xM fun q hq=>h q (List.mem_cons_of_mem _ hq),yy,if_neg (fun z=>h p (List.mem_cons_self ..) z.symm)]
theorem vD {p:List Key × V}:∀ {ps d:List (List Key × V)},(ps.map (·.1)).Nodup -> p ∈ ps -> valV (ps.foldl (fun d p=>putK d p.1 p.2) d) p.1 = some p.2
 | q :: ps,d,nd,h=>by
  obtain ⟨h1,h2⟩:=List.nodup_cons.mp nd
  rw [List.foldl_cons]
  rcases List.mem_cons.mp h with rfl | h
  ·rw [xM fun q hq z=>h1 (List.mem_map.mpr ⟨q,hq,z⟩),yy,if_pos rfl]
  ·exact vD h2 h
def Yb (K:FG7) (H:Hp) (ks:List Ask) (pvs:List (List Key × V)):Prop:=pvs.length = ks.length /\ ∀ (i:Nat) (a:Ask),ks[i]? = some a -> ∃ dv,pvs[i]? = some (keyR a.hand.toNat a.box.toNat,dv) /\ zv K H dv a.deed
theorem Yb.grow {K:FG7} {H H':Hp} {m:List Addr} {ks:List Ask} {pvs:List (List Key × V)} (g:Grow m H H') (h:Yb K H ks pvs):Yb K H' ks pvs:=⟨h.1,fun i a ha=>by
 obtain ⟨dv,h1,h2⟩:=h.2 i a ha
 exact ⟨dv,h1,g.deed h2⟩⟩
theorem Yb.hands {K:FG7} {H:Hp} {k m:Nat} {ks:List Ask} {pvs:List (List Key × V)} {db:Addr} (R:RndOk k m ks) (h:Yb K H ks pvs) (hd:H db = some (.dT (VM pvs))):uG K H k m ks db:=by
 have keys:pvs.map (·.1) = ks.map fun a=>keyR a.hand.toNat a.box.toNat:=by
  refine List.ext_getElem? fun i=>?_
  rw [List.getElem?_map,List.getElem?_map]
  cases ha:ks[i]? with
  | none=>rw [List.getElem?_eq_none (by rw [h.1]; exact List.getElem?_eq_none_iff.mp ha)]; rfl
  | some a=>obtain ⟨dv,h1,_⟩:=h.2 i a ha; rw [h1]; rfl
 have nd:(pvs.map (·.1)).Nodup:=by
  rw [keys]
  have nh:=List.pairwise_map.mp R.nd
  refine List.pairwise_map.mpr (nh.imp_of_mem fun {a b} ha hb hab z=>hab ?_)
  have:=(zP z).1
  have:=(R.hand a ha).1
  have:=(R.hand b hb).1
  omega
 refine ⟨_,hd,fun l c hl hc=>?_⟩
 by_cases ex:∃ a ∈ ks,a.hand = (l:Int) /\ a.box = (c:Int)
 ·obtain ⟨a,ha,e1,e2⟩:=ex
  obtain ⟨i,hi,e⟩:=List.mem_iff_getElem.mp ha
  obtain ⟨dv,h1,h2⟩:=h.2 i a (by rw [List.getElem?_eq_getElem hi,e])
  have ek:keyR a.hand.toNat a.box.toNat = keyR l c:=by rw [e1,e2]; rfl
  rw [ek] at h1
  have f:=t5 R.nd ha
  rw [e1,e2] at f
  refine ⟨some dv,vD (p:=(keyR l c,dv)) nd (List.mem_of_getElem? h1),?_,fun z=>nomatch z⟩
  show OptD K H dv ((ks.find? fun a=>decide (a.hand = (l:Int) /\ a.box = (c:Int))).map (·.deed))
  rw [f]; exact h2
 ·have f:(ks.find? fun a=>decide (a.hand = (l:Int) /\ a.box = (c:Int))) = none:=List.find?_eq_none.mpr fun a ha z=>ex ⟨a,ha,of_decide_eq_true z⟩
  have e0:lvR k [] ks 0 l c = none:=by
   show (ks.find? fun a=>decide (a.hand = (l:Int) /\ a.box = (c:Int))).map (·.deed) = none
   rw [f]; rfl
  refine ⟨none,?_,by rw [e0]; exact rfl,fun _=>e0⟩
  have:valV (VM pvs) (keyR l c) = valV [] (keyR l c):=xM fun p hp z=>by
   have hk:p.1 ∈ ks.map fun a=>keyR a.hand.toNat a.box.toNat:=by rw [← keys]; exact List.mem_map.mpr ⟨p,hp,rfl⟩
   obtain ⟨a,ha,e⟩:=List.mem_map.mp hk
   rw [z] at e
   obtain ⟨z1,z2⟩:=zP e
   have:=(R.hand a ha).1
   have:=(R.box a ha).1
   exact ex ⟨a,ha,by omega,by omega⟩
  rw [this]; rfl
section
variable {k m:Nat} {rows:List (List Int)} {ks:List Ask}
def memD (e:Mem44):PyData:=.tuple [.int (e.st:Nat),.int (e.num:Nat),.int (e.box:Nat),sN e.d]
theorem Ya.dat {K:FG7} {H:Hp} {x:V} {L:List Mem44} (h:Ya K H x L):Dat K H x (.tuple (L.map memD)):=by
 obtain ⟨r,zs,rfl,h1,h2⟩:=h
 refine .tup h1 (datR (fun _ _ z=>?_) h2)
 obtain ⟨r,dv,rfl,h1,h2⟩:=z
 exact .tup h1 (.cons (.int _) (.cons (.int _) (.cons (.int _) (.cons h2.dat .nil))))
theorem wz:∀ {ns acc:List Int},acc.Nodup -> (ns.foldl step_dedup acc).Nodup /\ ∀ x,x ∈ ns.foldl step_dedup acc ↔ x ∈ ns \/ x ∈ acc
 | [],acc,h=>⟨h,fun x=>⟨.inr,fun z=>z.resolve_left (fun w=>nomatch w)⟩⟩
 | n :: ns,acc,h=>by
  have hs:(step_dedup acc n).Nodup /\ ∀ x,x ∈ step_dedup acc n ↔ x = n \/ x ∈ acc:=by
   unfold step_dedup
   by_cases c:(acc.any (· == n)) = true
   ·rw [if_pos c]
    obtain ⟨y,hy,e⟩:=List.any_eq_true.mp c
    rw [beq_iff_eq] at e
    exact ⟨h,fun x=>⟨.inr,fun z=>by rcases z with z | z; rw [z,← e]; exact hy; exact z⟩⟩
   ·rw [if_neg c]
    have hn:n ∉ acc:=fun z=>c (List.any_eq_true.mpr ⟨n,z,beq_self_eq_true n⟩)
    refine ⟨List.nodup_append.mpr ⟨h,List.nodup_cons.mpr ⟨(fun z=>nomatch z),List.nodup_nil⟩,fun a ha b hb z=>hn ?_⟩,fun x=>?_⟩
    ·rw [← List.mem_singleton.mp hb,← z]; exact ha
    ·rw [List.mem_append,List.mem_singleton]; exact ⟨fun z=>z.symm,fun z=>z.symm⟩
  obtain ⟨i1,i2⟩:=wz (ns:=ns) hs.1
  rw [List.foldl_cons]
  refine ⟨i1,fun x=>?_⟩
  rw [i2,hs.2,List.mem_cons]
  constructor
  ·rintro (z | z | z)
   ·exact .inl (.inr z)
   ·exact .inl (.inl z)
   ·exact .inr z
  ·rintro ((z | z) | z)
   ·exact .inr (.inl z)
   ·exact .inl z
   ·exact .inr (.inr z)
end
theorem jv {X:Cx} {K:FG7} (hK:X.K = K):MtR X "list.count" (fun x vs H Q=>∃ (l:Addr) (ns:List Int) (j:Int),x = .ref l /\ vs = [.int j] /\ SqL K H l (ns.map V.int) /\ Q (.int ((ns.countP fun i=>decide (i = j):Nat):Int)) H):=by
 subst hK
 intro pins s σ H x vs v us Q I rx rv h
 obtain ⟨l,ns,j,rfl,rfl,hq,q⟩:=h
 cases rx
 obtain ⟨u,rfl,t,rfl⟩:=wL rv
 obtain ⟨its,r,⟨o,n,ho,hc,hdi,hd⟩,hz⟩:=I.list hq
 obtain ⟨oc,od,oda,osl⟩:=o
 cases hc
 cases hd
 have key:∀ {ms:List Int} {ws:List Value},Vals (ms.map V.int) ws -> (ws.countP fun v=>match v with | .int a _=>a == j | _=>false) = ms.countP fun i=>decide (i = j):=by
  intro ms
  induction ms with
  | nil=>intro ws r; cases r; rfl
  | cons a ms ih =>
   intro ws r
   cases r with
   | cons r1 r2 =>
    obtain ⟨t',rfl⟩:=r1
    rw [List.countP_cons,List.countP_cons,ih r2]
    congr 1
 refine call_meets F.slot_list_count ⟨_,ho,rfl⟩ F.entry_list_count (F.args_list_count_2 _ _)
  (SeqAt.list_countAt l its.toArray n od osl (.int j t) (fun v=>match v with | .int a _=>a == j | _=>false)) ⟨ho,fun y hy=>?_,?_⟩
 ·obtain ⟨m,hm,rfl⟩:=List.getElem_of_mem (by simpa using hy:y ∈ its)
  have hm':m < ns.length:=by have:=r.length; rw [List.length_map] at this; omega
  have e1:(ns.map V.int)[m]? = some (.int ns[m]):=by rw [List.getElem?_map,List.getElem?_eq_getElem hm']; rfl
  obtain ⟨u,hu,t',rfl⟩:=r.get e1
  rw [List.getElem?_eq_getElem hm] at hu
  rw [Option.some.inj hu]
  exact SeqAt.EqAt.int_int _ _ _ _
 ·have:its.toArray.toList = its:=List.toList_toArray
  rw [this,key r]
  exact ⟨.int _,H,I.tok _,⟨_,rfl⟩,q⟩
def x6 (k:Nat):List (List Int):=List.replicate k (List.replicate (2 ^ k / 2) 0)
theorem qL (k:Nat):yh k (x6 k):=by
 refine ⟨by unfold x6; rw [List.length_replicate],fun r hr=>?_⟩
 obtain ⟨hk,rfl⟩:=List.mem_replicate.mp hr
 refine ⟨?_,fun b hb=>.inl (List.mem_replicate.mp hb).2⟩
 rw [List.length_replicate]
 obtain ⟨n,rfl⟩:∃ n,k = n + 1:=⟨k - 1,by omega⟩
 rw [Nat.add_sub_cancel,Nat.pow_succ]; omega
def yr (ns:List Int) (l:Nat):Int:=((ns.countP fun i=>decide (i = (l:Int)):Nat):Int)
def jcB (k:Nat) (ks:List Ask) (m s l:Nat):Int:=(((List.range m).countP fun b=>(lvR k (x6 k) ks s l b).isSome:Nat):Int)
def jlR (k:Nat) (ks:List Ask) (m:Nat):List (List Int):=(List.range (k + 1)).map fun s=>(List.range (2 ^ k)).map fun l=>jcB k ks m s l
def plR (k:Nat) (ks:List Ask):List (List Int):=(List.range (k + 1)).map fun s=>(List.range (2 ^ k)).map fun l=>yr (ks.map fun a=>zD k a.hand.toNat (a.box.toNat % 2 ^ k) s) l
def x8 (K:FG7):Sp:=sp1 fun x H Q=>∃ k:Nat,x = .int k /\ k <= 4 /\ ∀ y H',Grow [] H H' -> yf K H' y (x6 k) -> Q y H'
def xg (K:FG7):Sp:=sp2 fun x y H Q=>∃ (k:Nat) (l:Addr) (ns:List Int),x = .int k /\ k <= 4 /\ y = .ref l /\ H l = some (.lst (ns.map V.int)) /\ ∀ y' H',Grow [] H H' -> zr K H' y' ((List.range (2 ^ k)).map (yr ns)) -> Q y' H'
def Yc (K:FG7):Sp:=sp3 fun x y z H Q=>∃ (k:Nat) (b:List Int) (ks:List Ask),x = .int k /\ k <= 4 /\ zr K H y b /\ 1 <= b.length /\ b.length <= 16 /\ yR K H z ks /\ ks.length <= 16 /\ RndOk k b.length ks /\ ∀ y H',Grow [] H H' -> yf K H' y (jlR k ks b.length) -> Q y H'
def Yd (K:FG7):Sp:=sp3 fun x y z H Q=>∃ (k:Nat) (b:List Int) (ks:List Ask),x = .int k /\ k <= 4 /\ zr K H y b /\ 1 <= b.length /\ b.length <= 16 /\ yR K H z ks /\ ks.length <= 16 /\ RndOk k b.length ks /\ ∀ y H',Grow [] H H' -> yf K H' y (plR k ks) -> Q y H'
theorem Ye {k m s:Nat} {ks:List Ask} {kvs:List (List Key × V)} {R:V -> Deed -> Prop} (T:TabR kvs (2 ^ k) m (lvR k (x6 k) ks s) R) {l:Nat} (hl:l < 2 ^ k) {ns:List Int} (hn:ns.length = kvs.length) (hk:∀ (i:Nat) (p:List Key × V),kvs[i]? = some p -> ∃ (l' b:Nat),p.1 = keyR l' b /\ ns[i]? = some (l':Int)) :
  yr ns l = jcB k ks m s l:=by
 have pr:∀ {kvs:List (List Key × V)} {ns:List Int},ns.length = kvs.length -> (∀ (i:Nat) (p:List Key × V),kvs[i]? = some p -> ∃ (l' b:Nat),p.1 = keyR l' b /\ ns[i]? = some (l':Int)) -> ∃ prs:List (Nat × Nat),kvs.map (·.1) = prs.map (fun p=>keyR p.1 p.2) /\ ns = prs.map fun p=>(p.1:Int):=by
  intro kvs
  induction kvs with
  | nil=>intro ns h _; cases ns with
   | nil=>exact ⟨[],rfl,rfl⟩
   | cons _ _=>cases h
  | cons p kvs ih =>
   intro ns h hk
   cases ns with
   | nil=>cases h
   | cons n ns =>
    obtain ⟨l',b,e1,e2⟩:=hk 0 p rfl
    obtain ⟨prs,h1,h2⟩:=ih (Nat.succ.inj h) fun i q hq=>hk (i + 1) q hq
    exact ⟨(l',b) :: prs,by rw [List.map_cons,List.map_cons,h1,e1],by rw [List.map_cons,← h2,Option.some.inj e2]⟩
 obtain ⟨prs,h1,rfl⟩:=pr hn hk
 have nd:prs.Nodup:=by
  have:=T.nd
  rw [h1] at this
  exact List.Pairwise.of_map (S:=(· ≠ ·)) (fun p:Nat × Nat=>keyR p.1 p.2) (fun a b h z=>h (by rw [z])) this
 have mem:∀ b,(l,b) ∈ prs ↔ b < m /\ (lvR k (x6 k) ks s l b).isSome = true:=fun b=>by
  constructor
  ·intro h
   have hm:keyR l b ∈ kvs.map (·.1):=by rw [h1]; exact List.mem_map.mpr ⟨_,h,rfl⟩
   obtain ⟨p,hp,e⟩:=List.mem_map.mp hm
   obtain ⟨l',b',x,e',_,hb',hx,_⟩:=T.keys p hp
   rw [e] at e'
   obtain ⟨rfl,rfl⟩:=zP e'
   exact ⟨hb',by rw [hx]; rfl⟩
  ·rintro ⟨hb,hx⟩
   obtain ⟨j,v,j1,_⟩:=ww (T.all l b hl hb (fun z=>by rw [z] at hx; cases hx))
   have hm:keyR l b ∈ kvs.map (·.1):=List.mem_map.mpr ⟨_,List.mem_of_getElem? j1,rfl⟩
   rw [h1] at hm
   obtain ⟨⟨l',b'⟩,hp,e⟩:=List.mem_map.mp hm
   obtain ⟨e1,e2⟩:=zP e
   have e1':l' = l:=e1
   have e2':b' = b:=e2
   rw [← e1',← e2']; exact hp
 have e1:((prs.map fun p=>(p.1:Int)).countP fun i=>decide (i = (l:Int))) = ((prs.filter fun p=>decide (p.1 = l)).map (·.2)).length:=by
  rw [List.countP_map,List.countP_eq_length_filter,List.length_map]
  congr 2
  funext p
  show decide ((p.1:Int) = (l:Int)) = decide (p.1 = l)
  exact decide_eq_decide.mpr ⟨fun z=>by omega,fun z=>by rw [z]⟩
 have nd2:((prs.filter fun p=>decide (p.1 = l)).map (·.2)).Nodup:=by
  refine List.pairwise_map.mpr ((nd.sublist List.filter_sublist).imp_of_mem fun {a b} ha hb hab z=>hab ?_)
  have h1:=of_decide_eq_true (List.mem_filter.mp ha).2
  have h2:=of_decide_eq_true (List.mem_filter.mp hb).2
  exact Prod.ext (h1.trans h2.symm) z
 have pm:((prs.filter fun p=>decide (p.1 = l)).map (·.2)).Perm ((List.range m).filter fun b=>(lvR k (x6 k) ks s l b).isSome):=by
  refine (List.perm_ext_iff_of_nodup nd2 (List.nodup_range.sublist List.filter_sublist)).mpr fun b=>?_
  rw [List.mem_filter,List.mem_range,← mem b]
  constructor
  ·intro h
   obtain ⟨⟨l',b'⟩,hp,rfl⟩:=List.mem_map.mp h
   obtain ⟨h1,h2⟩:=List.mem_filter.mp hp
   have:l' = l:=of_decide_eq_true h2
   rw [← this]; exact h1
  ·intro h
   exact List.mem_map.mpr ⟨(l,b),List.mem_filter.mpr ⟨h,decide_eq_true rfl⟩,rfl⟩
 unfold yr jcB
 rw [e1,pm.length_eq,← List.countP_eq_length_filter]
theorem t8 {α:Type} {R:V -> α -> Prop} {v:V} {r:α} (h:R v r):∀ n:Nat,AllR R (List.replicate n [v]).flatten (List.replicate n r)
 | 0=>trivial
 | n + 1=>by
  rw [List.replicate_succ,List.flatten_cons,List.replicate_succ]
  exact ⟨h,t8 h n⟩
structure Wd where
 k:Nat
 b:List Int
 ks:List Ask
 rows:List (List Int)
 e:Nat
structure Wd.Ok (W:Wd):Prop where
 k4:W.k <= 4
 b1:1 <= W.b.length
 b16:W.b.length <= 16
 bB:InB (10 ^ 30) W.b
 k16:W.ks.length <= 16
 R:RndOk W.k W.b.length W.ks
 sm:∀ a ∈ W.ks,a.deed.Sm
 hs:yh W.k W.rows
 eL:W.e < 2 ^ W.k
theorem jw {L:List (List Int)} (l5:L.length <= 5) (h:∀ r ∈ L,r.length <= 16 /\ ∀ v ∈ r,0 <= v /\ v <= 1000):Sh (.tuple (L.map wM)) 160000 3:=by
 have hr:∀ r ∈ L,Sh (wM r) 31000 2:=fun r hr=>by
  obtain ⟨h1,h2⟩:=h r hr
  refine (We (n:=1) fun v hv=>?_).mono ?_ (Nat.le_refl 2)
  ·obtain ⟨a0,a1⟩:=h2 v hv
   exact ⟨Int.lt_of_lt_of_le (by decide) a0,Int.lt_of_le_of_lt a1 (by decide)⟩
  ·have:=Nat.mul_le_mul_right 1923 h1
   omega
 have h9:=Nat.mul_le_mul_right (31000 + 2) l5
 exact (XE (sO hr)).mono (by omega) (Nat.le_refl 3)
theorem vE {k:Nat} (k4:k <= 4) {f:Nat -> Nat -> Int} (h:∀ s l,0 <= f s l /\ f s l <= 1000) {L:List (List Int)} (e:L = (List.range (k + 1)).map fun s=>(List.range (2 ^ k)).map fun l=>f s l):Sh (.tuple (L.map wM)) 160000 3:=by
 have p16:=z8 k4
 refine jw (by rw [e,List.length_map,List.length_range]; omega) fun r hr=>?_
 rw [e] at hr
 obtain ⟨s,_,rfl⟩:=List.mem_map.mp hr
 refine ⟨by rw [List.length_map,List.length_range]; exact p16,fun v hv=>?_⟩
 obtain ⟨l,_,rfl⟩:=List.mem_map.mp hv
 exact h s l
theorem Y9 {L:List Int} {l:Nat} (h:L.length <= 16):0 <= yr L l /\ yr L l <= 1000:=by
 unfold yr
 have:=List.countP_le_length (p:=fun i=>decide (i = (l:Int))) (l:=L)
 omega
section
variable {k h e:Nat}
def xb (a b:Int):Int:=Builtin.bitXor a b
section
variable {c:Nat} {rows:List (List Int)} {ks:List Ask}
theorem jx {a b:Option Deed}:(jp a b).isSome = (a.isSome || b.isSome):=by cases a <;> cases b <;> rfl
theorem jy:∀ k:Fin 5,∀ a:Fin 16,∀ g:Fin 16,a.val < 2 ^ k.val -> g.val < 2 ^ k.val -> ∀ n:Fin 5,n.val <= k.val -> lN k.val a.val g.val n.val = g.val / 2 ^ (k.val - n.val) * 2 ^ (k.val - n.val) + a.val % 2 ^ (k.val - n.val):=by decide +kernel
end
end
theorem t9:∀ k:Fin 5,∀ a:Fin 16,∀ g:Fin 16,a.val < 2 ^ k.val -> g.val < 2 ^ k.val -> ∀ s:Fin 4,s.val + 1 <= k.val -> wfN k.val (s.val + 1) (lN k.val a.val g.val s.val) (figI k.val ((s.val + 1:Nat):Int) (g.val:Int)) = lN k.val a.val g.val (s.val + 1):=by decide +kernel
section
variable {k m:Nat} {rows:List (List Int)} {ks:List Ask}
theorem qM {a b s:Nat} (k4:k <= 4) (ha:a < 2 ^ k) (sk:s + 1 <= k):outR k (s + 1) (lN k a (b % 2 ^ k) s) b = lN k a (b % 2 ^ k) (s + 1):=by
 have p:=z8 k4
 have hg:b % 2 ^ k < 2 ^ k:=zR
 exact t9 ⟨k,by omega⟩ ⟨a,by omega⟩ ⟨b % 2 ^ k,by omega⟩ ha hg ⟨s,by omega⟩ sk
theorem WB {a g s:Nat} (k4:k <= 4) (ha:a < 2 ^ k) (hg:g < 2 ^ k) (sk:s <= k):lN k a g s < 2 ^ k:=by
 have p:=z8 k4
 exact ((yS ⟨k,by omega⟩ ⟨a,by omega⟩ ⟨g,by omega⟩ ha hg).2.2 ⟨s,by omega⟩ sk).1.2
theorem sd {a g:Nat} (k4:k <= 4) (ha:a < 2 ^ k) (hg:g < 2 ^ k):lN k a g 0 = a:=by
 have p:=z8 k4
 exact (yS ⟨k,by omega⟩ ⟨a,by omega⟩ ⟨g,by omega⟩ ha hg).1
theorem zX (R:RndOk k m ks) {a:Ask} (ha:a ∈ ks):a.hand.toNat < 2 ^ k:=by
 have h:=R.hand a ha
 have e:((2 ^ k:Nat):Int) = (2:Int) ^ k:=by push_cast; rfl
 omega
theorem vF (R:RndOk k m ks) (k4:k <= 4) (hs:yh k rows):∀ {s l b:Nat},s <= k -> l < 2 ^ k -> ((lvR k rows ks s l b).isSome = true ↔ ∃ a ∈ ks,a.box = (b:Int) /\ lN k a.hand.toNat (b % 2 ^ k) s = l)
 | 0,l,b,_,hl=>by
  show ((ks.find? fun a=>decide (a.hand = (l:Int) /\ a.box = (b:Int))).map (·.deed)).isSome = true ↔ _
  rw [Option.isSome_map,List.find?_isSome]
  constructor
  ·rintro ⟨a,ha,hd⟩
   obtain ⟨h1,h2⟩:=of_decide_eq_true hd
   exact ⟨a,ha,h2,by rw [sd k4 (zX R ha) zR,h1]; rfl⟩
  ·rintro ⟨a,ha,h1,h2⟩
   rw [sd k4 (zX R ha) zR] at h2
   have h0:=(R.hand a ha).1
   exact ⟨a,ha,decide_eq_true ⟨by omega,h1⟩⟩
 | s + 1,l,b,sk,hl=>by
  constructor
  ·intro h
   obtain ⟨x,hx,e,hne⟩:=XU k4 hs sk hl (fun z=>by rw [z] at h; cases h)
   obtain ⟨a,ha,h1,h2⟩:=(vF R k4 hs (show s <= k by omega) hx).mp (Option.isSome_iff_ne_none.mpr hne)
   refine ⟨a,ha,h1,?_⟩
   rw [← qM k4 (zX R ha) sk,h2,e]
  ·rintro ⟨a,ha,h1,h2⟩
   have hx:lN k a.hand.toNat (b % 2 ^ k) s < 2 ^ k:=WB k4 (zX R ha) zR (by omega)
   have hsome:=(vF (l:=lN k a.hand.toNat (b % 2 ^ k) s) (b:=b) R k4 hs (show s <= k by omega) hx).mpr ⟨a,ha,h1,rfl⟩
   rw [← h2,← qM k4 (zX R ha) sk,XT k4 hs sk hx,jx]
   have X:=xF k4 hs (show 1 <= s + 1 by omega) sk hx
   rcases X.or with e | e
   ·rw [← e,hsome]; rfl
   ·rw [← e,hsome,Bool.or_true]
def zV (k:Nat) (ks:List Ask) (s l:Nat):List Int:=(ks.filter fun a=>decide (zD k a.hand.toNat ((a.box.toNat % 2 ^ k:Nat):Int) s = (l:Int))).map (·.box)
theorem se {s l:Nat}:((zV k ks s l).length:Int) = yr (ks.map fun a=>zD k a.hand.toNat ((a.box.toNat % 2 ^ k:Nat):Int) s) l:=by
 unfold zV yr
 rw [List.length_map,List.countP_map,List.countP_eq_length_filter]; rfl
theorem sf (R:RndOk k m ks) (k4:k <= 4) (hs:yh k rows) {s l b:Nat} (sk:s <= k) (hl:l < 2 ^ k):(b:Int) ∈ zV k ks s l ↔ (lvR k rows ks s l b).isSome = true:=by
 have p:=z8 k4
 rw [vF R k4 hs sk hl]
 unfold zV
 rw [List.mem_map]
 have key:∀ a ∈ ks,a.box = (b:Int) -> (zD k a.hand.toNat ((a.box.toNat % 2 ^ k:Nat):Int) s = (l:Int) ↔ lN k a.hand.toNat (b % 2 ^ k) s = l):=fun a ha hb=>by
  have ha':=zX R ha
  have hg:b % 2 ^ k < 2 ^ k:=zR
  have W:=((yS ⟨k,by omega⟩ ⟨a.hand.toNat,by omega⟩ ⟨b % 2 ^ k,by omega⟩ ha' hg).2.2 ⟨s,by omega⟩ sk).1.1
  have W1:zD k a.hand.toNat ((b % 2 ^ k:Nat):Int) s = (lN k a.hand.toNat (b % 2 ^ k) s:Int):=W
  rw [hb,Int.toNat_natCast,W1]
  exact ⟨fun z=>Int.ofNat.inj z,fun z=>by rw [z]⟩
 constructor
 ·rintro ⟨a,ha,hb⟩
  obtain ⟨h1,h2⟩:=List.mem_filter.mp ha
  exact ⟨a,h1,hb,(key a h1 hb).mp (of_decide_eq_true h2)⟩
 ·rintro ⟨a,ha,hb,h2⟩
  exact ⟨a,List.mem_filter.mpr ⟨ha,decide_eq_true ((key a ha hb).mpr h2)⟩,hb⟩
theorem wS (R:RndOk k m ks) (k4:k <= 4) {s l:Nat} (sk:s <= k) (hl:l < 2 ^ k):jcB k ks m s l = ((dedI (zV k ks s l)).length:Int):=by
 have st:=qL k
 have D:(dedI (zV k ks s l)).Nodup /\ ∀ x,x ∈ dedI (zV k ks s l) ↔ x ∈ zV k ks s l:=by
  have:=wz (ns:=zV k ks s l) (acc:=[]) List.nodup_nil
  exact ⟨this.1,fun x=>(this.2 x).trans ⟨fun z=>z.elim id (fun z=>nomatch z),.inl⟩⟩
 unfold jcB
 rw [List.countP_eq_length_filter]
 congr 1
 have e:((List.range m).filter fun b=>(lvR k (x6 k) ks s l b).isSome).length = (((List.range m).filter fun b=>(lvR k (x6 k) ks s l b).isSome).map fun b:Nat=>(b:Int)).length:=by rw [List.length_map]
 rw [e]
 refine List.Perm.length_eq ((List.perm_ext_iff_of_nodup ?_ D.1).mpr fun x=>?_)
 ·exact List.pairwise_map.mpr ((List.nodup_range.sublist List.filter_sublist).imp fun {a b} h z=>h (Int.ofNat.inj z))
 ·rw [D.2 x,List.mem_map]
  constructor
  ·rintro ⟨b,hb,rfl⟩
   exact (sf R k4 st sk hl).mpr (List.mem_filter.mp hb).2
  ·intro hx
   have hx':=hx
   unfold zV at hx'
   obtain ⟨a,ha,rfl⟩:=List.mem_map.mp hx'
   have hb:=R.box a (List.mem_filter.mp ha).1
   have eb:((a.box.toNat:Nat):Int) = a.box:=Int.toNat_of_nonneg hb.1
   refine ⟨a.box.toNat,List.mem_filter.mpr ⟨List.mem_range.mpr (by omega),?_⟩,eb⟩
   rw [← eb] at hx
   exact (sf R k4 st sk hl).mp hx
theorem Yf (ns:List Int):(dedI ns).Nodup /\ ∀ x,x ∈ dedI ns ↔ x ∈ ns:=by
 have:=wz (ns:=ns) (acc:=[]) List.nodup_nil
 exact ⟨this.1,fun x=>(this.2 x).trans ⟨fun z=>z.elim id (fun z=>nomatch z),.inl⟩⟩
theorem WC (R:RndOk k m ks) (k4:k <= 4) {s l:Nat} (sk:s <= k) (hl:l < 2 ^ k):jcB k ks m s l <= yr (ks.map fun a=>zD k a.hand.toNat ((a.box.toNat % 2 ^ k:Nat):Int) s) l:=by
 rw [wS R k4 sk hl,← se]
 have D:=Yf (zV k ks s l)
 exact Int.ofNat_le.mpr (yX D.1 fun x hx=>(D.2 x).mp hx)
def fewB (k:Nat) (bs:List Int) (s l:Nat):List Int:=bs.filter fun b=>decide (b % ((2 ^ k:Nat):Int) / ((2 ^ (k - s):Nat):Int) = (l:Int) / ((2 ^ (k - s):Nat):Int))
theorem sg (R:RndOk k m ks) (k4:k <= 4) {s l:Nat} (sk:s <= k) (hl:l < 2 ^ k) {x:Int} (hx:x ∈ zV k ks s l):x % ((2 ^ k:Nat):Int) / ((2 ^ (k - s):Nat):Int) = (l:Int) / ((2 ^ (k - s):Nat):Int):=by
 have p:=z8 k4
 unfold zV at hx
 obtain ⟨a,ha,rfl⟩:=List.mem_map.mp hx
 obtain ⟨h1,h2⟩:=List.mem_filter.mp ha
 have h2':=of_decide_eq_true h2
 have hb:=R.box a h1
 have ha':=zX R h1
 have hg:a.box.toNat % 2 ^ k < 2 ^ k:=zR
 have W:=((yS ⟨k,by omega⟩ ⟨a.hand.toNat,by omega⟩ ⟨a.box.toNat % 2 ^ k,by omega⟩ ha' hg).2.2 ⟨s,by omega⟩ sk).1.1
 have W1:zD k a.hand.toNat ((a.box.toNat % 2 ^ k:Nat):Int) s = (lN k a.hand.toNat (a.box.toNat % 2 ^ k) s:Int):=W
 rw [W1] at h2'
 have h3:lN k a.hand.toNat (a.box.toNat % 2 ^ k) s = l:=Int.ofNat.inj h2'
 have e2:=jy ⟨k,by omega⟩ ⟨a.hand.toNat,by omega⟩ ⟨a.box.toNat % 2 ^ k,by omega⟩ ha' hg ⟨s,by omega⟩ sk
 have e3:l = a.box.toNat % 2 ^ k / 2 ^ (k - s) * 2 ^ (k - s) + a.hand.toNat % 2 ^ (k - s):=h3.symm.trans e2
 have e4:l / 2 ^ (k - s) = a.box.toNat % 2 ^ k / 2 ^ (k - s):=by
  rw [e3,Nat.mul_comm,Nat.mul_add_div (Nat.two_pow_pos _),Nat.div_eq_of_lt (Nat.mod_lt _ (Nat.two_pow_pos _)),Nat.add_zero]
 have eb:((a.box.toNat:Nat):Int) = a.box:=Int.toNat_of_nonneg hb.1
 rw [← eb]
 show ((a.box.toNat % 2 ^ k / 2 ^ (k - s):Nat):Int) = ((l / 2 ^ (k - s):Nat):Int)
 rw [e4]
theorem Xa (R:RndOk k m ks) (k4:k <= 4) {bs:List Int} (hm:∀ x,x ∈ bs ↔ x ∈ ks.map (·.box)) {s l:Nat} (sk:s <= k) (hl:l < 2 ^ k):jcB k ks m s l <= ((fewB k bs s l).length:Int):=by
 rw [wS R k4 sk hl]
 have D:=Yf (zV k ks s l)
 refine Int.ofNat_le.mpr (yX D.1 fun x hx=>?_)
 have hx':=(D.2 x).mp hx
 refine List.mem_filter.mpr ⟨(hm x).mpr ?_,decide_eq_true (sg R k4 sk hl hx')⟩
 unfold zV at hx'
 obtain ⟨a,ha,rfl⟩:=List.mem_map.mp hx'
 exact List.mem_map.mpr ⟨a,(List.mem_filter.mp ha).1,rfl⟩
theorem Xb (R:RndOk k m ks) (k4:k <= 4) {bs:List Int} (nd:bs.Nodup) (hm:∀ x,x ∈ bs ↔ x ∈ ks.map (·.box)) {l:Nat} (hl:l < 2 ^ k):jcB k ks m k l = ((bs.filter fun b=>decide (b % ((2 ^ k:Nat):Int) = (l:Int))).length:Int):=by
 have p:=z8 k4
 rw [wS R k4 (Nat.le_refl k) hl]
 have D:=Yf (zV k ks k l)
 congr 1
 refine List.Perm.length_eq ((List.perm_ext_iff_of_nodup D.1 (nd.sublist List.filter_sublist)).mpr fun x=>?_)
 rw [D.2 x,List.mem_filter]
 constructor
 ·intro hx
  have h1:=sg R k4 (Nat.le_refl k) hl hx
  rw [Nat.sub_self,Nat.pow_zero] at h1
  have h1':x % ((2 ^ k:Nat):Int) / 1 = (l:Int) / 1:=h1
  rw [Int.ediv_one,Int.ediv_one] at h1'
  unfold zV at hx
  obtain ⟨a,ha,rfl⟩:=List.mem_map.mp hx
  exact ⟨(hm _).mpr (List.mem_map.mpr ⟨a,(List.mem_filter.mp ha).1,rfl⟩),decide_eq_true h1'⟩
 ·rintro ⟨h1,h2⟩
  obtain ⟨a,ha,rfl⟩:=List.mem_map.mp ((hm x).mp h1)
  have h2':=of_decide_eq_true h2
  have hb:=R.box a ha
  have ha':=zX R ha
  have hg:a.box.toNat % 2 ^ k < 2 ^ k:=zR
  have eb:((a.box.toNat:Nat):Int) = a.box:=Int.toNat_of_nonneg hb.1
  rw [← eb] at h2'
  have h3:a.box.toNat % 2 ^ k = l:=Int.ofNat.inj h2'
  have W:=yS ⟨k,by omega⟩ ⟨a.hand.toNat,by omega⟩ ⟨a.box.toNat % 2 ^ k,by omega⟩ ha' hg
  have W1:zD k a.hand.toNat ((a.box.toNat % 2 ^ k:Nat):Int) k = (lN k a.hand.toNat (a.box.toNat % 2 ^ k) k:Int):=(W.2.2 ⟨k,by omega⟩ (Nat.le_refl k)).1.1
  have W2:lN k a.hand.toNat (a.box.toNat % 2 ^ k) k = a.box.toNat % 2 ^ k:=W.2.1
  unfold zV
  exact List.mem_map.mpr ⟨a,List.mem_filter.mpr ⟨ha,decide_eq_true (by rw [W1,W2,h3])⟩,rfl⟩
end
section
variable {k m:Nat} {ks:List Ask}
theorem jz {a:Ask} {s l:Nat}:zV k (ks ++ [a]) s l = zV k ks s l ++ if zD k a.hand.toNat ((a.box.toNat % 2 ^ k:Nat):Int) s = (l:Int) then [a.box] else []:=by
 unfold zV
 rw [List.filter_append,List.map_append]
 congr 1
 by_cases c:zD k a.hand.toNat ((a.box.toNat % 2 ^ k:Nat):Int) s = (l:Int)
 ·rw [if_pos c,List.filter_cons,if_pos (decide_eq_true c)]; rfl
 ·rw [if_neg c,List.filter_cons,if_neg (by rw [decide_eq_false c]; exact Bool.false_ne_true)]; rfl
end
def LrAt (K:FG7) (H:Hp) (x:V) (T:List (List Int)):Prop:=∃ l xs,x = .ref l /\ H l = some (.lst xs) /\ AllR (fun v row=>∃ r,v = .ref r /\ H r = some (.lst (row.map V.int))) xs T
theorem qN {α:Type} {l:List α} (nd:l.Nodup) {i j:Nat} {x:α} (hi:l[i]? = some x) (hj:l[j]? = some x):i = j:=by
 obtain ⟨h1,e1⟩:=List.getElem?_eq_some_iff.mp hi
 obtain ⟨h2,e2⟩:=List.getElem?_eq_some_iff.mp hj
 have P:=List.pairwise_iff_getElem.mp nd
 rcases Nat.lt_trichotomy i j with z | z | z
 ·exact absurd (e1.trans e2.symm) (P i j h1 h2 z)
 ·exact z
 ·exact absurd (e2.trans e1.symm) (P j i h2 h1 z)
structure GR (H0 H:Hp) (rs:List Addr) (T:List (List V)):Prop where
 nr:∀ r ∈ rs,H0 r = none
 nd:rs.Nodup
 len:rs.length = T.length
 row:∀ (i:Nat) (r:Addr) (xs:List V),rs[i]? = some r -> T[i]? = some xs -> H r = some (.lst xs)
section
variable {H0 H H':Hp} {rs:List Addr} {T:List (List V)} {r l:Addr}
theorem Grow.put99 (g:Grow [] H0 H) (h:H0 r = none) (o:HO):Grow [] H0 (upd H r o) :=
 ⟨fun b u hb q=>by rw [zk (zm q h)]; exact g.keep b u hb q,fun b u q=>by rw [zk (zm q h)]; exact g.tup b u q,fun b u v q=>by rw [zk (zm q h)]; exact g.frz b u v q⟩
theorem GR.nil:GR H0 H [] []:=⟨nofun,List.nodup_nil,rfl,nofun⟩
theorem GR.grow (h:GR H0 H rs T) (g:Grow [] H H'):GR H0 H' rs T:=⟨h.nr,h.nd,h.len,fun i r xs a b=>g.keep _ _ (by simp) (h.row i r xs a b)⟩
theorem GR.ex (h:GR H0 H rs T) (hr:r ∈ rs):∃ xs,H r = some (.lst xs):=by
 obtain ⟨i,hi,rfl⟩:=List.getElem_of_mem hr
 have hj:i < T.length:=by have:=h.len; omega
 exact ⟨T[i],h.row i _ _ (List.getElem?_eq_getElem hi) (List.getElem?_eq_getElem hj)⟩
theorem GR.away (h:GR H0 H rs T) (hr:r ∉ rs) (o:HO):GR H0 (upd H r o) rs T :=
 ⟨h.nr,h.nd,h.len,fun i b xs p q=>by rw [zk (fun z=>hr (by rw [← z]; exact List.mem_of_getElem? p))]; exact h.row i b xs p q⟩
theorem GR.ne (h:GR H0 H rs T) (hl:H l = none):l ∉ rs:=fun z=>by
 obtain ⟨xs,e⟩:=h.ex z
 rw [hl] at e; cases e
theorem GR.new (g:Grow [] H0 H) (h:GR H0 H rs T) (hl:H l = none) (xs:List V):GR H0 (upd H l (.lst xs)) (rs ++ [l]) (T ++ [xs]):=by
 have hn:=h.ne hl
 have hl0:=h.len
 refine ⟨fun r hr=>?_,?_,by simp [h.len],fun i r ys a b=>?_⟩
 ·rcases List.mem_append.mp hr with z | z
  ·exact h.nr r z
  ·rw [List.mem_singleton.mp z]; exact g.free (by simp) hl
 ·rw [List.nodup_append]
  exact ⟨h.nd,by simp,fun a ha b hb e=>hn (by rw [List.mem_singleton.mp hb] at e; exact e ▸ ha)⟩
 ·by_cases c:i < rs.length
  ·rw [List.getElem?_append_left c] at a
   rw [List.getElem?_append_left (by omega)] at b
   rw [zk (fun z=>hn (by rw [← z]; exact List.mem_of_getElem? a))]; exact h.row i r ys a b
  ·by_cases e:i = rs.length
   ·subst e
    rw [List.getElem?_append_right (Nat.le_refl _),Nat.sub_self] at a
    rw [List.getElem?_append_right (by omega),h.len,Nat.sub_self] at b
    cases a; cases b
    exact zc
   ·rw [List.getElem?_eq_none (by simp; omega)] at a; cases a
theorem GR.set (h:GR H0 H rs T) {i:Nat} (hi:rs[i]? = some r) (xs:List V):GR H0 (upd H r (.lst xs)) rs (T.set i xs):=by
 refine ⟨h.nr,h.nd,by rw [List.length_set]; exact h.len,fun j b ys p q=>?_⟩
 by_cases c:j = i
 ·subst c
  rw [hi] at p; cases p
  have hj:j < T.length:=by have:=h.len; have:=(List.getElem?_eq_some_iff.mp hi).1; omega
  rw [List.getElem?_set_self hj] at q; cases q
  exact zc
 ·rw [List.getElem?_set_ne (fun z=>c z.symm)] at q
  have hb:b ≠ r:=fun z=>c (qN h.nd p (z ▸ hi))
  rw [zk hb]; exact h.row j b ys p q
theorem GR.lr {K:FG7} {T:List (List Int)} (h:GR H0 H rs (T.map (·.map V.int))) (hl:H l = some (.lst (rs.map V.ref))):LrAt K H (.ref l) T:=by
 refine ⟨l,_,rfl,hl,AllR.of_get (by rw [List.length_map,h.len,List.length_map]) fun i v hv=>?_⟩
 rw [List.getElem?_map] at hv
 obtain ⟨r,hr,rfl⟩:=Option.map_eq_some_iff.mp hv
 have hi:=(List.getElem?_eq_some_iff.mp hr).1
 have ln:=h.len
 rw [List.length_map] at ln
 have ht:T[i]? = some T[i]:=List.getElem?_eq_getElem (by omega)
 exact ⟨_,ht,r,rfl,h.row i r _ hr (by rw [List.getElem?_map,ht]; rfl)⟩
end
def atC (CL:List (List Addr)) (s l:Nat):Option Addr:=(CL.getD s [])[l]?
structure CR (H0 H:Hp) (rs:List Addr) (CL:List (List Addr)) (f:Nat -> Nat -> List Int):Prop where
 rows:GR H0 H rs (CL.map fun cs=>cs.map V.ref)
 nc:∀ s l c,atC CL s l = some c -> H0 c = none /\ c ∉ rs
 inj:∀ s l s' l' c,atC CL s l = some c -> atC CL s' l' = some c -> s = s' /\ l = l'
 val:∀ s l c,atC CL s l = some c -> H c = some (.lst ((f s l).map V.int))
section
variable {H0 H H1 H2 H':Hp} {rs cs:List Addr} {CL:List (List Addr)} {f:Nat -> Nat -> List Int} {r l:Addr}
theorem rh {s l:Nat} {c:Addr} (h:atC [] s l = some c):False:=by cases s <;> cases h
theorem CR.nil:CR H0 H [] [] f:=⟨.nil,fun s l c h=>(rh h).elim,fun s l s' l' c h=>(rh h).elim,fun s l c h=>(rh h).elim⟩
theorem CR.grow (h:CR H0 H rs CL f) (g:Grow [] H H'):CR H0 H' rs CL f:=⟨h.rows.grow g,h.nc,h.inj,fun s l c e=>g.keep _ _ (by simp) (h.val s l c e)⟩
theorem wT {s l:Nat} {c:Addr} (h:atC (CL ++ [cs]) s l = some c):atC CL s l = some c \/ s = CL.length /\ cs[l]? = some c:=by
 unfold atC at h ⊢
 rw [List.getD_eq_getElem?_getD] at h
 by_cases z:s < CL.length
 ·rw [List.getElem?_append_left z,← List.getD_eq_getElem?_getD] at h
  exact .inl h
 ·by_cases e:s = CL.length
  ·subst e
   rw [List.getElem?_append_right (Nat.le_refl _),Nat.sub_self] at h
   exact .inr ⟨rfl,h⟩
  ·rw [List.getElem?_eq_none (l:=CL ++ [cs]) (i:=s) (by rw [List.length_append,List.length_singleton]; omega)] at h; cases h
theorem CR.new {n:Nat} (g1:Grow [] H0 H1) (h:CR H0 H1 rs CL fun _ _=>[]) (g2:Grow [] H1 H2) (b:GR H1 H2 cs (List.replicate n [])) (hl:H2 l = none):CR H0 (upd H2 l (.lst (cs.map V.ref))) (rs ++ [l]) (CL ++ [cs]) fun _ _=>[]:=by
 have h2:=h.grow g2
 have ln:=h2.rows.ne hl
 have lc:=b.ne hl
 have l0:H1 l = none:=g2.free (by simp) hl
 have cn:∀ {c},c ∈ cs -> H0 c = none /\ c ∉ rs /\ c ≠ l:=fun {c} hc=>by
  have c1:=b.nr c hc
  exact ⟨g1.free (by simp) c1,h.rows.ne c1,fun z=>lc (z ▸ hc)⟩
 have on:∀ {s l' c},atC CL s l' = some c -> c ≠ l /\ c ∉ cs:=fun {s l' c} hc=>by
  have c1:=h.val s l' c hc
  exact And.intro (fun z=>by rw [z,l0] at c1; cases c1) (fun z=>by rw [b.nr c z] at c1; cases c1)
 refine ⟨?_,fun s l' c e=>?_,fun s l' s' l2 c e e'=>?_,fun s l' c e=>?_⟩
 ·have:=GR.new (g1.trans g2) h2.rows hl (cs.map V.ref)
  rw [List.map_append]; exact this
 ·rcases wT e with z | ⟨_,z⟩
  ·have:=h.nc s l' c z
   exact ⟨this.1,fun w=>by
    rcases List.mem_append.mp w with u | u
    ·exact this.2 u
    ·exact (on z).1 (List.mem_singleton.mp u)⟩
  ·have:=cn (List.mem_of_getElem? z)
   exact ⟨this.1,fun w=>by
    rcases List.mem_append.mp w with u | u
    ·exact this.2.1 u
    ·exact this.2.2 (List.mem_singleton.mp u)⟩
 ·rcases wT e with z | ⟨a1,z⟩ <;> rcases wT e' with z' | ⟨a2,z'⟩
  ·exact h.inj s l' s' l2 c z z'
  ·exact absurd (List.mem_of_getElem? z') (on z).2
  ·exact absurd (List.mem_of_getElem? z) (on z').2
  ·exact ⟨a1.trans a2.symm,qN b.nd z z'⟩
 ·rcases wT e with z | ⟨_,z⟩
  ·rw [zk (on z).1]; exact h2.val s l' c z
  ·rw [zk (cn (List.mem_of_getElem? z)).2.2]
   have hi:=(List.getElem?_eq_some_iff.mp z).1
   exact b.row l' c [] z (by rw [List.getElem?_replicate,if_pos (by have:=b.len; rw [List.length_replicate] at this; omega)])
theorem CR.put {s0 l0:Nat} {c:Addr} (h:CR H0 H rs CL f) (hc:atC CL s0 l0 = some c) (xs:List Int):CR H0 (upd H c (.lst (xs.map V.int))) rs CL fun s l=>if s = s0 /\ l = l0 then xs else f s l:=by
 refine ⟨h.rows.away (h.nc _ _ _ hc).2 _,h.nc,h.inj,fun s l b e=>?_⟩
 by_cases z:s = s0 /\ l = l0
 ·obtain ⟨rfl,rfl⟩:=z
  rw [hc] at e; cases e
  rw [if_pos ⟨rfl,rfl⟩]; exact zc
 ·rw [if_neg z,zk (fun w=>z (by subst w; exact h.inj s l s0 l0 _ e hc))]; exact h.val s l b e
theorem CR.congr {f':Nat -> Nat -> List Int} (h:CR H0 H rs CL f) (e:∀ s l c,atC CL s l = some c -> f s l = f' s l):CR H0 H rs CL f' :=
 ⟨h.rows,h.nc,h.inj,fun s l c q=>by rw [← e s l c q]; exact h.val s l c q⟩
end
def Xc (a:Ask):Int × Int:=(a.hand,a.box)
def vG (gs:List Nat) (n:Nat) (ks:List Ask):Prop:=ks.map Xc = ((List.range n).map fun i:Nat=>((i:Int),((gs.getD i 0:Nat):Int))) /\ ∀ a ∈ ks,a.deed.Ok
theorem vG.snoc {gs:List Nat} {n:Nat} {ks:List Ask} (h:vG gs n ks) {a:Ask} (e:Xc a = ((n:Int),((gs.getD n 0:Nat):Int))) (ok:a.deed.Ok):vG gs (n + 1) (ks ++ [a]):=by
 refine ⟨?_,fun b hb=>?_⟩
 ·rw [List.map_append,h.1,List.range_succ,List.map_append,List.map_cons,List.map_nil,e]; rfl
 ·rcases List.mem_append.mp hb with z | z
  ·exact h.2 b z
  ·rw [List.mem_singleton.mp z]; exact ok
theorem vG.len {gs:List Nat} {n:Nat} {ks:List Ask} (h:vG gs n ks):ks.length = n:=by
 have:=congrArg List.length h.1
 rw [List.length_map,List.length_map,List.length_range] at this; exact this
theorem vG.mem {gs:List Nat} {n:Nat} {ks:List Ask} (h:vG gs n ks) {a:Ask} (ha:a ∈ ks):∃ i:Nat,i < n /\ a.hand = (i:Int) /\ a.box = ((gs.getD i 0:Nat):Int):=by
 have:Xc a ∈ ks.map Xc:=List.mem_map_of_mem ha
 rw [h.1] at this
 obtain ⟨i,hi,e⟩:=List.mem_map.mp this
 exact ⟨i,List.mem_range.mp hi,(congrArg Prod.fst e).symm,(congrArg Prod.snd e).symm⟩
theorem sh {k m:Nat} {ks:List Ask} (R:RndOk k m ks) (k4:k <= 4) {a:Ask} (ha:a ∈ ks) {s:Nat} (sk:s <= k):∃ l:Nat,zD k a.hand.toNat ((a.box.toNat % 2 ^ k:Nat):Int) s = (l:Int) /\ l < 2 ^ k:=by
 have p:=z8 k4
 have ha':=zX R ha
 have hg:a.box.toNat % 2 ^ k < 2 ^ k:=zR
 have W:=((yS ⟨k,by omega⟩ ⟨a.hand.toNat,by omega⟩ ⟨a.box.toNat % 2 ^ k,by omega⟩ ha' hg).2.2 ⟨s,by omega⟩ sk).1
 exact ⟨_,W.1,W.2⟩
theorem vH {α:Type} {ks:List α} {i:Nat} {a:α} (h:ks[i]? = some a):ks.take (i + 1) = ks.take i ++ [a]:=by
 rw [List.take_add_one,h]; rfl
theorem Yg {b:Int} (h:0 <= b) (k:Nat):b % (1 * 2 ^ ((k:Int)).toNat) = ((b.toNat % 2 ^ k:Nat):Int):=by
 obtain ⟨n,rfl⟩:=Int.eq_ofNat_of_zero_le h
 rw [xJ]; rfl
theorem Xd {k:Nat} {ks:List Ask}:(plR k ks).length = k + 1:=by unfold plR; rw [List.length_map,List.length_range]
theorem qO {k m:Nat} {ks:List Ask}:(jlR k ks m).length = k + 1:=by unfold jlR; rw [List.length_map,List.length_range]
def x9 (xs:Array Nat):Prop:=∀ i j (h:j < xs.size) (ij:i < j),xs[i] < xs[j]
theorem uH {xs:Array Nat} {j:Nat} (hr:x9 xs):∀ (fuel lo hi:Nat),hi - lo <= fuel -> lo <= hi -> hi <= xs.size -> (∀ i (h:i < xs.size),i < lo -> xs[i] < j) -> (∀ i (h:i < xs.size),hi <= i -> j <= xs[i]) →
  SetTable.below.go xs j fuel lo hi <= xs.size /\ (∀ i (h:i < xs.size),i < SetTable.below.go xs j fuel lo hi -> xs[i] < j) /\ (∀ i (h:i < xs.size),SetTable.below.go xs j fuel lo hi <= i -> j <= xs[i])
 | 0,lo,hi,hf,hl,hs,h1,h2=>by
  unfold SetTable.below.go
  exact ⟨by omega,h1,fun i h hi'=>h2 i h (by omega)⟩
 | fuel + 1,lo,hi,hf,hl,hs,h1,h2=>by
  unfold SetTable.below.go
  split
  ·rename_i hlt
   have hm:(lo + hi) / 2 < xs.size:=by omega
   simp only [Array.getD,hm,dite_true]
   split
   ·rename_i hv
    refine uH hr fuel _ _ (by omega) (by omega) hs (fun i h hi'=>?_) h2
    rcases Nat.lt_or_eq_of_le (Nat.lt_succ_iff.mp hi') with z | z
    ·exact Nat.lt_trans (hr i _ hm z) hv
    ·subst z; exact hv
   ·rename_i hv
    refine uH hr fuel _ _ (by omega) (by omega) (by omega) h1 (fun i h hi'=>?_)
    rcases Nat.lt_or_eq_of_le hi' with z | z
    ·exact Nat.le_trans (Nat.le_of_not_lt hv) (Nat.le_of_lt (hr _ i h z))
    ·subst z; exact Nat.le_of_not_lt hv
  ·exact ⟨by omega,h1,fun i h hi'=>h2 i h (by omega)⟩
theorem Yh {xs:Array Nat} (hr:x9 xs) (j:Nat):SetTable.below xs j <= xs.size /\ (∀ i (h:i < xs.size),i < SetTable.below xs j -> xs[i] < j) /\ (∀ i (h:i < xs.size),SetTable.below xs j <= i -> j <= xs[i]) :=
 uH hr _ _ _ (by omega) (by omega) (Nat.le_refl _) (fun i _ z=>absurd z (by omega)) (fun i h z=>absurd z (by omega))
theorem vJ {xs:Array Nat}:x9 xs ↔ xs.toList.Pairwise (· < ·):=by
 rw [List.pairwise_iff_getElem]
 constructor
 ·intro h i j hi hj ij
  simpa using h i j (by simpa using hj) ij
 ·intro h i j hj ij
  have hj2:j < xs.toList.length:=by rw [Array.length_toList]; exact hj
  exact h i j (Nat.lt_trans ij hj2) hj2 ij
def rk (t:SetTable) (j:Nat):Prop:=t.place[SetTable.below t.place j]? ≠ some j
theorem jA {t:SetTable} {j:Nat} (h:t.slot j = .empty):rk t j:=fun z=>by
 unfold SetTable.slot at h; simp [z] at h
theorem jB {t:SetTable} {j:Nat} (h:t.slot j = .dummy):rk t j:=fun z=>by
 unfold SetTable.slot at h; simp [z] at h
theorem wA {t:SetTable} {ha:Nat -> Int} {h:Int}:∀ (fuel:Nat) (p:SetTable.Probe) (j:Nat) (d:Option Nat),(∀ x,p.dummy = some x -> rk t x) -> SetTable.probe.go t ha h fuel p = some (.empty j d) -> rk t j /\ ∀ x,d = some x -> rk t x
 | 0,p,j,d,_,e=>by unfold SetTable.probe.go at e; cases e
 | fuel + 1,p,j,d,hd,e=>by
  unfold SetTable.probe.go at e
  have adv:∀ q:SetTable.Probe,(t.advance q).dummy = q.dummy:=fun q=>by unfold SetTable.advance; split <;> rfl
  split at e
  ·rename_i hs
   cases e
   exact ⟨jA hs,hd⟩
  ·rename_i hs
   exact wA fuel _ j d (fun x hx=>by rw [adv] at hx; cases hx; exact jB hs) e
  ·split at e
   ·cases e
   ·exact wA fuel _ j d (fun x hx=>by rw [adv] at hx; exact hd x hx) e
theorem Yi {t:SetTable} {h:Int} {j:Nat} {b:Bool} (e:t.freeSlot h = some (j,b)):rk t j:=by
 unfold SetTable.freeSlot at e
 split at e
 ·rename_i j' d hp
  obtain ⟨h1,h2⟩:=wA _ _ _ _ (fun x hx=>by simp [SetTable.probeStart] at hx) hp
  cases e
  cases d with
  | none=>exact h1
  | some x=>exact h2 x rfl
 ·cases e
theorem Xe {t:SetTable} {j:Nat} (hr:x9 t.place) (hf:rk t j):x9 (t.put j).1.place:=by
 obtain ⟨b1,b2,b3⟩:=Yh hr j
 rw [vJ]
 show (SetTable.insertAt t.place (SetTable.below t.place j) j).toList.Pairwise (· < ·)
 rw [SetTable.toList_insertAt,List.pairwise_append]
 have pw:=vJ.mp hr
 refine ⟨pw.sublist (List.take_sublist _ _),?_,?_⟩
 ·rw [List.pairwise_cons]
  refine ⟨fun a ha=>?_,pw.sublist (List.drop_sublist _ _)⟩
  obtain ⟨i,hi,e⟩:=List.mem_iff_getElem.mp ha
  rw [List.getElem_drop] at e
  rw [List.length_drop] at hi
  have hi2:SetTable.below t.place j + i < t.place.size:=by rw [Array.length_toList] at hi; omega
  have e2:t.place[SetTable.below t.place j + i] = a:=by simpa using e
  have h0:SetTable.below t.place j < t.place.size:=by omega
  have p0:j < t.place[SetTable.below t.place j]:=by
   have:=b3 _ h0 (Nat.le_refl _)
   rcases Nat.lt_or_eq_of_le this with z | z
   ·exact z
   ·exact absurd (by rw [Array.getElem?_eq_getElem h0,← z]) hf
  rcases Nat.eq_zero_or_pos i with z | z
  ·subst z; rw [← e2]; exact p0
  ·rw [← e2]; exact Nat.lt_trans p0 (hr _ _ hi2 (by omega))
 ·intro a ha b hb
  obtain ⟨i,hi,e⟩:=List.mem_iff_getElem.mp ha
  rw [List.getElem_take] at e
  rw [List.length_take,Array.length_toList] at hi
  have a1:a < j:=by rw [← e]; simpa using b2 i (by omega) (by omega)
  rcases List.mem_cons.mp hb with z | z
  ·rw [z]; exact a1
  ·obtain ⟨i2,hi2,e2⟩:=List.mem_iff_getElem.mp z
   rw [List.getElem_drop] at e2
   rw [List.length_drop,Array.length_toList] at hi2
   have:=b3 (SetTable.below t.place j + i2) (by omega) (by omega)
   rw [← e2]; exact Nat.lt_of_lt_of_le a1 (by simpa using this)
theorem uI {t:SetTable} {n:Nat}:x9 (t.standIn n).place:=by
 intro i j h ij
 simp [SetTable.standIn] at h ⊢
 exact ij
theorem WD {t:SetTable} {n:Nat} (h:x9 t.place):x9 (t.orStandIn n).place:=by
 unfold SetTable.orStandIn; split; exact h; exact uI
theorem VN {t:SetTable} {n:Nat}:(t.orStandIn n).led = t.led:=by
 unfold SetTable.orStandIn; split <;> rfl
theorem Xf (t:SetTable) (es:Array (Int × Value)) (h:Int) (x:Value) (hr:x9 t.place):x9 (layNew t es h x).2.1.place /\ (layNew t es h x).2.1.led = t.led:=by
 unfold layNew
 split
 ·rename_i sl wd e
  exact ⟨WD (Xe hr (Yi e)),VN⟩
 ·exact ⟨uI,rfl⟩
theorem Yj (n:Nat) (f:Nat -> Option Nat):((List.range n).filterMap fun j=>(f j).map (j,·)).Pairwise fun a b=>a.1 < b.1:=by
 rw [List.pairwise_filterMap]
 refine List.pairwise_lt_range.imp fun {a b} ab x hx y hy=>?_
 cases ha:f a with
 | none=>rw [ha] at hx; cases hx
 | some u =>
  cases hb:f b with
  | none=>rw [hb] at hy; cases hy
  | some v=>rw [ha] at hx; rw [hb] at hy; cases hx; cases hy; exact ab
theorem Xg {t t':SetTable} {hs:Array Int} {n:Nat} {o:Array Nat} (e:t.relaid hs n = some (t',o)):x9 t'.place /\ t'.led = t.led:=by
 unfold SetTable.relaid SetTable.laid at e
 obtain ⟨ow,_,e2⟩:=Option.bind_eq_some_iff.mp e
 cases e2
 refine ⟨?_,rfl⟩
 rw [vJ]
 simp only [List.pairwise_map]
 exact Yj _ _
theorem jC (t:SetTable) (es:Array (Int × Value)) (n:Nat):x9 (relayAll t es n).2.1.place /\ (relayAll t es n).2.1.led = t.led:=by
 unfold relayAll
 split
 ·rename_i t' o e
  dsimp only
  split
  ·exact Xg e
  ·exact ⟨uI,rfl⟩
 ·exact ⟨uI,rfl⟩
def vI:Value -> Int
 | .int i _=>i
 | _=>0
def ElI (prog:Program) (w:World) (l:List (Int × Value)):Prop:=∀ e ∈ l,∃ i t,e = ((intKind prog w).hash i,Value.int i t)
theorem ElI.of {prog:Program} {w:World} {l:List (Int × Value)} (h:ElI prog w l):ElemsOf (intKind prog w) l:=fun e he=>by
 obtain ⟨i,t,rfl⟩:=h e he
 exact ⟨⟨i,intKind_is _ _ _ _,rfl⟩,rfl⟩
structure SetS (prog:Program) (w:World) (h:Heap) (a:Addr) (ds:List Int) (es:Array (Int × Value)) (ep:Nat) (t:SetTable):Prop where
 at_:h.get? a = some { cls:=.type "set",dict:=none,data:=.set es ep t,slots:=#[] }
 el:ElI prog w es.toList
 pm:(es.toList.map fun e=>vI e.2).Perm ds
 few:es.size < scanBound
 fit:t.fits es.size = true
 rise:x9 t.place
 led:t.led = !w.params.followText "set-order"
def SetA (prog:Program) (w:World) (h:Heap) (a:Addr) (ds:List Int):Prop:=∃ es ep t,SetS prog w h a ds es ep t
section
variable {prog:Program} {w:World} {A:Around} {E:VS7} {s:Shared} {a:Addr} {ds:List Int}
theorem SetS.len {h:Heap} {es ep t} (S:SetS prog w h a ds es ep t):ds.length = es.size:=by
 have:=S.pm.length_eq
 rw [List.length_map,Array.length_toList] at this
 exact this.symm
theorem SetS.put {es ep t} (S:SetS prog w s.heap a ds es ep t) {es1:Array (Int × Value)} {t1:SetTable} {ds1:List Int} {Q:Unit -> Shared -> Prop} (el:ElI prog w es1.toList)
  (pm:(es1.toList.map fun e=>vI e.2).Perm ds1) (few:es1.size < scanBound) (fit:t1.fits es1.size = true) (rise:x9 t1.place) (led:t1.led = t.led)
  (h:∀ h',Heap.SameBut a s.heap h' -> SetS prog w h' a ds1 es1 (ep + 1) t1 -> Q () { s with heap:=h' }):wpAny (model prog w) A (storeSet a es1 t1) Q E s:=by
 refine wpAny_storeSet_of S.at_ rfl ?_ (fits_of_scanBound few)
 refine h _ (Heap.SameBut.update s.heap a (Obj.putSet es1 t1)) ⟨?_,el,pm,few,fit,rise,led.trans S.led⟩
 exact Heap.get?_update_self (Obj.putSet es1 t1) S.at_ rfl
theorem SetA.add {n:Int} {tk:Tok} {Q:Bool -> Shared -> Prop} (S:SetA prog w s.heap a ds) (room:ds.length + 1 < scanBound)
  (h:∀ b h',Heap.SameBut a s.heap h' -> SetA prog w h' a (step_dedup ds n) -> Q b { s with heap:=h' }) :
  wpAny (model prog w) A (setAddHashed a (.int n tk) ((intKind prog w).hash n)) Q E s:=by
 obtain ⟨es,ep,t,S⟩:=S
 have lz:=S.len
 have key:=S.el.of
 unfold setAddHashed setAddHashedIn
 refine wpAny_holding (wpAny_bind (wpAny_setState_of S.at_ rfl S.fit ?_))
 dsimp only
 rw [byScan_of rfl S.few key]
 simp only [↓reduceIte]
 unfold setAddByScan
 refine wpAny_bind (wpAny_bind (wpAny_rule (wpAny_bind (wpAny_setScan_of (intKind_is _ _ n tk) S.at_ rfl S.fit key ?_))))
 cases hr:List.findIdx? (fun e=>(intKind prog w).is n e.2) es.toList with
 | some j =>
  dsimp only
  obtain ⟨hj,hp,_⟩:=List.findIdx?_eq_some_iff_getElem.mp hr
  have hm:=List.getElem_mem hj
  obtain ⟨i,t',ei⟩:=S.el _ hm
  rw [ei] at hp
  have e1:i = n:=(intKind prog w).inj _ _ _ (intKind_is _ _ i t') hp
  have e2:n ∈ ds:=S.pm.mem_iff.mp (List.mem_map.mpr ⟨_,hm,by rw [ei]; exact e1⟩)
  have e3:step_dedup ds n = ds:=by unfold step_dedup; rw [if_pos (List.any_eq_true.mpr ⟨n,e2,by simp⟩)]
  refine wpAny_pure (wpAny_pure ?_)
  have:=h false s.heap (Heap.SameBut.refl a s.heap) (by rw [e3]; exact ⟨es,ep,t,S⟩)
  exact this
 | none =>
  dsimp only
  have e2:n ∉ ds:=fun z=>by
   obtain ⟨e,he,ev⟩:=List.mem_map.mp (S.pm.mem_iff.mpr z)
   obtain ⟨i,t',rfl⟩:=S.el _ he
   have ev2:i = n:=ev
   have:=List.findIdx?_eq_none_iff.mp hr _ he
   rw [ev2] at this
   exact absurd (intKind_is _ _ n t') (by rw [this]; decide)
  have e3:step_dedup ds n = ds ++ [n]:=by
   unfold step_dedup
   rw [if_neg fun z=>?_]
   obtain ⟨y,hy,ey⟩:=List.any_eq_true.mp z
   rw [beq_iff_eq] at ey
   exact e2 (ey ▸ hy)
  rw [e3] at h
  have gw:∀ (b:Bool) {s₁:Shared} {Q':Unit -> Shared -> Prop},Q' () s₁ -> wpAny (model prog w) A (match b with | true=>rule "set.scan.the-table-gave-way" | false=>pure ()) Q' E s₁ :=
   fun b s₁ Q' hq=>by cases b <;> first | exact wpAny_pure hq | exact wpAny_rule hq
  have p1:=layNew_perm t es ((intKind prog w).hash n) (.int n tk)
  have f1:=layNew_fits t es ((intKind prog w).hash n) (.int n tk)
  obtain ⟨r1,l1⟩:=Xf t es ((intKind prog w).hash n) (.int n tk) S.rise
  generalize layNew t es ((intKind prog w).hash n) (.int n tk) = L at p1 f1 r1 l1 ⊢
  obtain ⟨es1,t1,wd,gv⟩:=L
  dsimp only at p1 f1 r1 l1 ⊢
  rw [Array.toList_push] at p1
  have el1:ElI prog w es1.toList:=fun e he=>by
   rcases List.mem_append.mp (p1.mem_iff.mp he) with z | z
   ·exact S.el e z
   ·rw [List.mem_singleton.mp z]; exact ⟨n,tk,rfl⟩
  have pm1:(es1.toList.map fun e=>vI e.2).Perm (ds ++ [n]):=(p1.map _).trans (by rw [List.map_append]; exact S.pm.append_right _)
  have z1:es1.size = ds.length + 1:=by have:=pm1.length_eq; rw [List.length_map,Array.length_toList,List.length_append] at this; simpa using this
  refine wpAny_bind (gw _ ?_)
  have fin:∀ {g:Bool -> Sem Unit},(∀ (b:Bool) (s₁:Shared) (Q':Unit -> Shared -> Prop),Q' () s₁ -> wpAny (model prog w) A (g b) Q' E s₁) -> wpAny (model prog w) A (do
    storeSet a es1 t1
    if (!wd && t1.tooFull) = true then do
      g (relayAll t1 es1 (SetTable.grown es1.size)).2.2
      storeSet a (relayAll t1 es1 (SetTable.grown es1.size)).1 (relayAll t1 es1 (SetTable.grown es1.size)).2.1
      pure (some true)
     else pure (some true)) (fun r s'=>wpAny (model prog w) A (match r with | some added=>pure added | none=>setAddHashedIn a (.int n tk) ((intKind prog w).hash n) 99999) Q E s') E s:=by
   intro g hg
   refine wpAny_bind (S.put el1 pm1 (by omega) f1 r1 l1 fun h1 sb1 S1=>?_)
   split
   ·have p2:=relayAll_perm t1 es1 (SetTable.grown es1.size)
    have f2:=relayAll_fits t1 es1 (SetTable.grown es1.size)
    obtain ⟨r2,l2⟩:=jC t1 es1 (SetTable.grown es1.size)
    refine wpAny_bind (hg _ _ _ ?_)
    have z2:=p2.length_eq
    rw [Array.length_toList,Array.length_toList] at z2
    refine wpAny_bind (S1.put (fun e he=>el1 e (p2.mem_iff.mp he)) ((p2.map _).trans pm1) (by omega) f2 r2 l2 fun h2 sb2 S2=>?_)
    exact wpAny_pure (wpAny_pure (h _ _ (sb1.trans sb2) ⟨_,_,_,S2⟩))
   ·exact wpAny_pure (wpAny_pure (h _ _ sb1 ⟨_,_,_,S1⟩))
  split
  ·refine wpAny_bind ?_
   rw [hashByValue_scannable 8 rfl]
   refine wpAny_pure ?_
   simp only [plainKind,↓reduceIte]
   exact fin gw
  ·refine wpAny_bind (wpAny_pure ?_)
   simp only [↓reduceIte]
   exact fin gw
end
theorem SetA.keep {prog:Program} {w:World} {h h':Heap} {a:Addr} {ds:List Int} (S:SetA prog w h a ds) (k:∀ o,h.get? a = some o -> h'.get? a = some o):SetA prog w h' a ds:=by
 obtain ⟨es,ep,t,S⟩:=S
 exact ⟨es,ep,t,{ S with at_:=k _ S.at_ }⟩
section
variable {prog:Program} {w:World} {A:Around} {E:VS7} {s:Shared}
theorem Xh {R:Result -> Shared -> Prop} {I:Addr} {fp wr:List Addr} {n:Nat} {P:Nat -> Value -> Prop} {St:Nat -> Heap -> Prop} (W:Walks prog w A.in1 I fp wr n P St) (S:Addr) (hSf:S ∉ fp)
  (val:Nat -> Int) (hval:∀ i v,P i v -> ∃ t,v = .int (val i) t) (hb:n + 1 < scanBound) :
  ∀ (k i:Nat) (s:Shared),n - i = k -> i <= n -> St i s.heap -> SetA prog w s.heap S (firstMet val i) →
   (∀ s',Moved (S :: wr) (fun a b=>b = a) s s' -> SetA prog w s'.heap S (firstMet val n) -> R (.ok (.ret .none)) s') →
   codeAny (model prog w) A (.builtin "set.update.loop" ⟨[.ref S,.ref I],[]⟩) R s:=by
 have WS:=W.toS
 have hSw:S ∉ wr:=fun h=>hSf (W.sub _ h)
 have hsub:∀ b ∈ wr,b ∈ S :: wr:=fun b hb=>List.mem_cons_of_mem _ hb
 intro k
 induction k with
 | zero =>
  intro i s hk hi hst hS hR
  have e:i = n:=by omega
  subst e
  refine codeAny_builtin F.entry_set_update_loop ?_
  rw [Around.under_plainId F.plain_set_update_loop _]
  show wpAny _ A.in1 (pyNext (.ref I) >>= _) _ _ s
  refine wpAny_bind (WS.done s _ _ hst fun s' hm=>?_)
  show wpAny _ A.in1 (ret Value.none) _ _ s'
  exact wpAny_pure (hR s' (hm.mono hsub) (hS.keep fun o e=>hm.heap S o hSw e))
 | succ k ih =>
  intro i s hk hi hst hS hR
  have hlt:i < n:=by omega
  refine codeAny_builtin F.entry_set_update_loop ?_
  rw [Around.under_plainId F.plain_set_update_loop _]
  show wpAny _ A.in1 (pyNext (.ref I) >>= _) _ _ s
  refine wpAny_bind (WS.item i s _ _ hlt hst fun v s' hP hst' hm=>?_)
  obtain ⟨t,rfl⟩:=hval i v hP
  show wpAny _ A.in1 (holding [Value.int (val i) t] (setAdd S (.int (val i) t)) >>= _) _ _ s'
  refine wpAny_bind (wpAny_holding ?_)
  unfold setAdd
  refine wpAny_holding (wpAny_bind ((intKind prog w).pyHash (k:=val i) (intKind_is _ _ _ _) ?_))
  have room:(firstMet val i).length + 1 < scanBound:=by have:=firstMet_length_le val i; omega
  refine SetA.add (s:={ s' with toks:=s'.toks + 1 }) (hS.keep fun o e=>hm.heap S o hSw e) room fun bb h' hsb h2=>?_
  rw [← firstMet_succ] at h2
  refine wpAny_pure ⟨plainId_quiet F.plain_set_update_loop _,ih (i + 1) _ (by omega) hlt (WS.frame _ s' _ _ hst' (Nat.le_succ _) fun b hb o e=>?_) h2 fun s'' hm'' h3=>?_⟩
  ·rw [hsb.2 b (fun h:b = S=>hSf (by rw [← h]; exact hb))]; exact e
  ·refine hR s'' (Moved.trans WS.gtrans ((hm.mono hsub).then_heap (Nat.le_succ _) fun b o hb e=>?_) hm'') h3
   rw [hsb.2 b (fun h:b = S=>hb (by rw [h]; exact List.mem_cons_self))]; exact e
theorem WE (a:Value) {Q₁:VS7}
  (h:Q₁ (.ref s.heap.objs.size) { s with heap:=s.heap.push { cls:=.type "set",dict:=none,data:=.set #[] 0 (.fresh 0 0 (!w.params.followText "set-order")) } }) :
  codeAny (model prog w) A (.call (.builtin "set.__new__") ⟨[.type "set",a],[]⟩) (wants Q₁ E) s:=by
 refine codeAny_of_tree ?_
 show wpAny _ A.in1 (do checkBuiltinCall "set.__new__" ⟨[.type "set",a],[]⟩; again (.builtin "set.__new__" ⟨[.type "set",a],[]⟩)) _ _ s
 refine wpAny_bind (wpAny_of_eq (PySem.F.newCall_set_1 a) (wpAny_pure ⟨plainId_quiet PySem.F.plain_set_new _,codeAny_builtin PySem.F.entry_set_new ?_⟩))
 rw [Around.under_plainId PySem.F.plain_set_new _]
 unfold Builtin.«set.__new__» Builtin.Frozenset.newClass
 have hsub:=sub_set_self
 obtain ⟨hp,g,d,tk,os⟩:=s
 dsimp only
 wp_walk
 refine wpAny_askSetting (wpAny_pure ?_)
 dsimp only
 simp only [newObj]
 exact wpAny_bind (wpAny_alloc (wpAny_pure (wpAny_pure h)))
theorem Yk {led:Bool} {h:Heap} {a:Addr} (hg:h.get? a = some { cls:=.type "set",dict:=none,data:=.set #[] 0 (.fresh 0 0 led) }) (e:led = !w.params.followText "set-order"):SetA prog w h a [] :=
 ⟨#[],0,_,hg,fun e he=>(by simp at he),.nil,by decide,rfl,fun i j hj _=>absurd hj (by simp [SetTable.fresh]),e⟩
set_option maxHeartbeats 3200000 in
theorem Yl {l:Addr} {items:Array Value} {ns:List Int} {Q:VS7}
  (hh:A.handled = none) (hl:s.heap.IsList l items) (hi:IntsAre items.toList ns) (hb:items.size + 1 < scanBound)
  (h:∀ (h':Heap) (tk:Nat),SetA prog w h' s.heap.objs.size (dedI ns) -> (∀ b o,b < s.heap.objs.size -> s.heap.get? b = some o -> h'.get? b = some o) -> Q (.ref s.heap.objs.size) { s with heap:=h',toks:=tk }) :
  wpAny (model prog w) A (call (.type "set") [.ref l]) Q E s:=by
 obtain ⟨c,tl,hmro⟩:=PySem.F.called_set.mro
 have hmade:=PySem.F.called_set.made
 have hsub:=PySem.F.called_set.sub
 refine wpAny_call (codeAny_of_tree ?_)
 show wpAny _ _ (callAny (.type "set") _) _ _ _
 refine wpAny_pure ⟨Code.quiet_builtin _ (by decide +kernel),codeAny_builtin PySem.F.entry_type_call ?_⟩
 rw [Around.under_plain (weight_type_call_type "set" [.ref l] []) rfl]
 have h1:=PySem.F.called_set.notType
 have h2:=PySem.F.called_set.canCreate
 have hct:=PySem.F.typeCall_set_1 (.ref l)
 repeat (any_goals (first | assumption | wp_step))
 generalize hled:(!w.params.followText "set-order") = led
 refine codeAny_mono (WE (.ref l) (E:=E) (Q₁:=fun obj s₁=>obj = .ref s.heap.objs.size /\ s₁ = { s with heap:=s.heap.push { cls:=.type "set",dict:=none,data:=.set #[] 0 (.fresh 0 0 led) } }) ⟨rfl,by rw [hled]⟩) fun r s₁ hr=>?_
 cases r with
 | error e=>exact hr
 | ok fl =>
  cases fl with
  | ret obj =>
   obtain ⟨rfl,rfl⟩:=hr
   have hS:(s.heap.push { cls:=.type "set",dict:=none,data:=.set #[] 0 (.fresh 0 0 led) }).get? s.heap.objs.size = some { cls:=.type "set",dict:=none,data:=.set #[] 0 (.fresh 0 0 led) }:=Heap.get?_push_size _ rfl
   have hT:Shared.TypeIs { s with heap:=s.heap.push { cls:=.type "set",dict:=none,data:=.set #[] 0 (.fresh 0 0 led) } } (.ref s.heap.objs.size) "set":=⟨_,hS,rfl⟩
   have hli:=PySem.F.called_set.init.lookup
   have hbi:=PySem.F.called_set.init.bind (.ref s.heap.objs.size)
   repeat (any_goals (first | assumption | wp_step))
   refine codeAny_mono (codeAny_call_builtin (R:=wants (fun r s₂=>r = .none /\ ∃ h' tk,s₂ = { s with heap:=h',toks:=tk } /\ SetA prog w h' s.heap.objs.size (dedI ns) ∧
     (∀ b o,b < s.heap.objs.size -> s.heap.get? b = some o -> h'.get? b = some o)) E) PySem.F.called_set.init.plain PySem.F.entry_set_init (check_set_init_1 hT ?_)) fun r₂ s₂ hr₂=>?_
   ·obtain ⟨ol,hol,hcl,nl,hdl⟩:=hl
    obtain ⟨ocls,odict,odata,oslots⟩:=ol
    simp only at hcl hdl
    subst hcl; subst hdl
    have hol':(s.heap.push { cls:=.type "set",dict:=none,data:=.set #[] 0 (.fresh 0 0 led) }).get? l = some { cls:=.type "list",dict:=odict,data:=.seq items nl,slots:=oslots }:=Heap.get?_push_of_some _ hol
    have hsls:=PySem.F.sub_list_set
    have hslf:=PySem.F.sub_list_frozenset
    have hne:(Value.type "list" == Value.type "dict") = false:=by decide
    have hl1:(s.heap.push { cls:=.type "set",dict:=none,data:=.set #[] 0 (.fresh 0 0 led) }).IsList l items:=⟨_,hol',rfl,nl,rfl⟩
    unfold Builtin.«set.__init__» noKeywords Builtin.Frozenset.updateFrom
    generalize hPI:pyIter = PI
    wp_walk
    subst hPI
    refine wpAny_pyIter_list hl1 (wpAny_bind (wpAny_runValue ?_))
    have hlS:l < s.heap.objs.size:=Heap.lt_size hol
    have hz:(s.heap.push { cls:=.type "set",dict:=none,data:=.set #[] 0 (.fresh 0 0 led) }).objs.size = s.heap.objs.size + 1:=Heap.size_push ..
    have nI:l ≠ (s.heap.push { cls:=.type "set",dict:=none,data:=.set #[] 0 (.fresh 0 0 led) }).objs.size:=by rw [hz]; exact Nat.ne_of_lt (Nat.lt_succ_of_lt hlS)
    refine Xh (Walks.list (by simp [hh]) _ l nI items) s.heap.objs.size (by rw [hz]; simp only [List.mem_cons,List.mem_singleton,List.not_mem_nil,or_false,not_or]; exact ⟨Nat.ne_of_lt (Nat.lt_succ_self _),Nat.ne_of_gt hlS⟩) (fun i=>ns.getD i 0) (fun i v hv=>IntsAre.int_at hi i v (by rw [Array.getElem?_toList]; exact hv)) hb (items.size - 0) 0 _ (by omega) (Nat.zero_le _)
     ⟨⟨_,Heap.get?_push_size _ rfl,rfl,rfl⟩,(hl1.push _)⟩ (Yk (Heap.get?_push_of_some _ hS) hled.symm) fun s' hm hS'=>?_
    obtain ⟨h',g',d',tk',os'⟩:=s'
    have eg:g' = s.gens:=hm.gens
    have ed:d' = s.drawn:=hm.drawn
    have eo:os' = s.os:=hm.os
    subst eg; subst ed; subst eo
    have hlen:items.size = ns.length:=by have:=IntsAre.length hi; rwa [Array.length_toList] at this
    rw [hlen,vy] at hS'
    refine wpAny_pure ?_
    show wpAny _ _ (ret Value.none) _ _ _
    refine wpAny_pure ⟨rfl,h',tk',rfl,hS',fun b o hb e=>?_⟩
    exact hm.heap b o (by rw [hz]; simp only [List.mem_cons,List.mem_singleton,List.not_mem_nil,or_false,not_or]; exact ⟨Nat.ne_of_lt hb,Nat.ne_of_lt (Nat.lt_succ_of_lt hb)⟩) (Heap.get?_push_of_some _ (Heap.get?_push_of_some _ e))
   ·cases r₂ with
    | error e=>exact hr₂
    | ok fl₂ =>
     cases fl₂ with
     | ret r =>
      obtain ⟨rfl,h',tk,rfl,hS',hk'⟩:=hr₂
      repeat (any_goals (first | assumption | wp_step))
      exact h _ _ hS' hk'
     | _=>exact hr₂.elim
  | _=>exact hr.elim
end
namespace Z
theorem qP:Manifest.owners.lookup (String.ofList ['r','o','t','a','r','e','t','i','_','t','e','s'].reverse) = some Manifest.sig_set_iterator:=by kernel_rfl
theorem slot_next:Slot "set_iterator" "__next__" "set_iterator.__next__" :=
 .of (owner:="set_iterator") (n:="__next__") (by rw [typeLookup_type,builtinLookup_eq_fast]; kernel_rfl) (by decide +kernel) (by decide +kernel) (by decide +kernel)
  (by first | exact .inl (by decide +kernel) | exact .inr (by decide +kernel)) (by rw [isSubtype_type]; kernel_rfl)
theorem slot_iter:Slot "set_iterator" "__iter__" "set_iterator.__iter__" :=
 .of (owner:="set_iterator") (n:="__iter__") (by rw [typeLookup_type,builtinLookup_eq_fast]; kernel_rfl) (by decide +kernel) (by decide +kernel) (by decide +kernel)
  (by first | exact .inl (by decide +kernel) | exact .inr (by decide +kernel)) (by rw [isSubtype_type]; kernel_rfl)
theorem entry_next:entryFor table "set_iterator.__next__" = some Builtin.«set_iterator.__next__»:=entryFor_of_tree (by kernel_rfl)
theorem entry_iter:entryFor table "set_iterator.__iter__" = some Builtin.«dict_keyiterator.__iter__» :=
 entryFor_alias (id':="dict_keyiterator.__iter__") (by kernel_rfl) (by first | rfl | decide +kernel | (unfold String.splitOn; simp +decide [String.splitOnAux])) (by decide +kernel) (by kernel_rfl)
theorem args_next (a:Value):argsOk "set_iterator.__next__" ⟨[a],[]⟩:=by
 unfold argsOk; rw [signature?_of (id:="set_iterator.__next__") (n:=['_','_','t','x','e','n','_','_']) (o:=['r','o','t','a','r','e','t','i','_','t','e','s']) (by kernel_rfl) qP]; kernel_rfl
theorem args_iter (a:Value):argsOk "set_iterator.__iter__" ⟨[a],[]⟩:=by
 unfold argsOk; rw [signature?_of (id:="set_iterator.__iter__") (n:=['_','_','r','e','t','i','_','_']) (o:=['r','o','t','a','r','e','t','i','_','t','e','s']) (by kernel_rfl) qP]; kernel_rfl
theorem entry_set_iter:entryFor table "set.__iter__" = some Builtin.«frozenset.__iter__» :=
 entryFor_alias (id':="frozenset.__iter__") (by kernel_rfl) rfl (by decide +kernel) (by kernel_rfl)
end Z
def SIt (h:Heap) (I a:Addr) (n ep:Nat) (first:Value) (i:Nat):Prop:=h.get? I = some { cls:=.type "set_iterator",dict:=none,data:=.fields #[first,rawInt i,.ref a,rawInt n,rawInt ep],slots:=#[] }
section
variable {prog:Program} {w:World} {A:Around} {E:VS7} {s:Shared} {I a:Addr} {ds:List Int} {es:Array (Int × Value)} {ep:Nat} {t:SetTable}
theorem jD {M:Model} {src:Source} {n:Nat} {Q:Nat -> Shared -> Prop} (hn:n ≠ 0) (h:∀ i d,i < n -> Q i { s with drawn:=d }):wpAny M A (choose src n) Q E s :=
 fun _ _ _=>⟨hn,h _ _ (Nat.mod_lt _ (Nat.pos_of_ne_zero hn))⟩
theorem xH {α:Type} {l:List α} {i:Nat} (h:i < l.length):(l[i] :: l.eraseIdx i).Perm l:=by
 rw [List.eraseIdx_eq_take_drop_succ]
 exact List.perm_middle.symm.trans (by rw [List.getElem_cons_drop,List.take_append_drop])
theorem si {M:Model} {α:Type}:∀ (n:Nat) (xs:List α) (s:Shared) (Q:List α -> Shared -> Prop),n = xs.length -> (∀ ys d,ys.Perm xs -> Q ys { s with drawn:=d }) -> wpAny M A (drawOrder n xs) Q E s
 | 0,xs,s,Q,e,h=>by
  have:xs = []:=List.length_eq_zero_iff.mp e.symm
  subst this
  exact wpAny_pure (h [] s.drawn .nil)
 | n + 1,[],s,Q,e,h=>by cases e
 | n + 1,x :: xs,s,Q,e,h=>by
  unfold drawOrder
  refine wpAny_bind (jD (by simp) fun i d hi=>?_)
  rw [List.getElem?_eq_getElem hi]
  dsimp only
  refine wpAny_bind (si n _ _ _ (by rw [List.length_eraseIdx_of_lt hi]; simp at e ⊢; exact e) fun ys d2 hp=>wpAny_pure ?_)
  exact h _ _ ((hp.cons _).trans (xH hi))
theorem uJ {n i:Nat} {first:Value} {Q:VS7} (hit:SIt s.heap I a n ep first i) (h:Q (.ref I) s):wpAny (model prog w) A (pyIter (.ref I)) Q E s:=by
 have hT:s.TypeIs (.ref I) "set_iterator":=⟨_,hit,rfl⟩
 refine wpAny_pyIter_slot hT Z.slot_iter (wpAny_call_entry Z.slot_iter hT Z.entry_iter ?_ (Z.args_iter _))
 show wpAny _ _ (ret (.ref I)) _ _ s
 exact wpAny_pure ⟨_,rfl,"set_iterator",_,hT,Z.slot_next.lookup,h⟩
theorem qQ {i sl nx:Nat} {x:Value} {Q:Option Value -> Shared -> Prop} (S:SetS prog w s.heap a ds es ep t) (hit:SIt s.heap I a es.size ep (rawInt sl) i)
  (hn:∀ (A:Around) (E:VS7) (Q:Option (Value × Nat) -> Shared -> Prop),Q (some (x,nx)) s -> wpAny (model prog w) A (setNext a sl i ep) Q E s)
  (hQ:∀ h',SIt h' I a es.size ep (rawInt nx) (i + 1) -> Heap.SameBut I s.heap h' -> Q (some x) { s with heap:=h' }):wpAny (model prog w) A (pyNext (.ref I)) Q E s:=by
 have hT:s.TypeIs (.ref I) "set_iterator":=⟨_,hit,rfl⟩
 unfold pyNext
 refine wpAny_bind (wpAny_attempt (wpAny_callSpecial?_slot (name:=Str.ofString "__next__") hT Z.slot_next (wpAny_call_entry Z.slot_next hT Z.entry_next ?_ (Z.args_next _))))
 unfold Builtin.«set_iterator.__next__»
 generalize h1:setEntries = SE
 generalize h2:setNext = SN at hn ⊢
 wp_walk
 subst h1
 refine wpAny_setEntries_of S.at_ rfl S.fit ?_
 wp_walk
 subst h2
 simp only [Int.toNat_natCast]
 refine hn _ _ _ ?_
 have hit':=hit
 unfold SIt at hit'
 wp_walk
 exact ⟨_,rfl,wpAny_pure (hQ _ (Heap.get?_update_self _ (Heap.get?_update_self _ hit rfl) rfl) ((Heap.SameBut.update ..).trans (Heap.SameBut.update ..)))⟩
theorem qR {i sl:Nat} {Q:Option Value -> Shared -> Prop} (hh:A.handled = none) (S:SetS prog w s.heap a ds es ep t) (hit:SIt s.heap I a es.size ep (rawInt sl) i)
  (hn:∀ (A:Around) (E:VS7) (Q:Option (Value × Nat) -> Shared -> Prop),Q none s -> wpAny (model prog w) A (setNext a sl i ep) Q E s)
  (hQ:∀ h',Heap.ExtBut I s.heap h' -> Q none { s with heap:=h' }):wpAny (model prog w) A (pyNext (.ref I)) Q E s:=by
 have hT:s.TypeIs (.ref I) "set_iterator":=⟨_,hit,rfl⟩
 unfold pyNext
 refine wpAny_bind (wpAny_attempt (wpAny_callSpecial?_slot (name:=Str.ofString "__next__") hT Z.slot_next (wpAny_call_entry Z.slot_next hT Z.entry_next ?_ (Z.args_next _))))
 unfold Builtin.«set_iterator.__next__»
 generalize h1:setEntries = SE
 generalize h2:setNext = SN at hn ⊢
 wp_walk
 subst h1
 refine wpAny_setEntries_of S.at_ rfl S.fit ?_
 wp_walk
 subst h2
 simp only [Int.toNat_natCast]
 refine hn _ _ _ ?_
 dsimp only
 have hit':=hit
 unfold SIt at hit'
 refine wpAny_bind (wpAny_setField hit' rfl (by simp) ?_)
 refine wpAny_bind ?_
 simp only [newExc,newTuple]
 refine wpAny_bind (wpAny_newObj_type ?_ (by size_fits))
 refine wpAny_bind (m:=firstArgMember _ _) (wpAny_of_eq (a:=Value.none) (by first | rfl | (simp only [firstArgMember]; rfl)) ?_)
 refine wpAny_newObj_type ?_ (by size_fits)
 simp only [raiseNew]
 refine wpAny_bind (wpAny_bind (wpAny_handled ?_))
 first | rw [show A.in1.handled = none from hh] | rw [hh]
 refine wpAny_pure (wpAny_throw ?_)
 refine wpAny_bind (wpAny_isInstance (T:="StopIteration") (b:=true) ⟨_,Heap.get?_push_size _ rfl,rfl⟩ isSubtype_stop ?_)
 exact wpAny_pure (hQ _ ((((Heap.SameBut.update ..).extBut).push _).push _))
theorem sj {i sl:Nat} {Q:Option (Value × Nat) -> Shared -> Prop} (S:SetS prog w s.heap a ds es ep t) (ht:w.params.followText "set-order" = true)
  (h:Q (((pickOrder (w.params.setOrder a ep) es)[i]?).map fun e=>(e.2,sl)) s):wpAny (model prog w) A (setNext a sl i ep) Q E s:=by
 unfold setNext setWalk setsByText
 refine wpAny_bind (wpAny_setState_of S.at_ rfl S.fit ?_)
 refine wpAny_bind (wpAny_bind (wpAny_askSetting (wpAny_pure ?_)))
 show wpAny _ _ (if w.params.followText "set-order" = true then _ else _) _ _ _
 rw [if_pos ht]
 simp only [bne_self_eq_false,Bool.false_eq_true,↓reduceIte]
 refine wpAny_bind (wpAny_bind (wpAny_setState_of S.at_ rfl S.fit ?_))
 refine wpAny_bind (wpAny_bind (wpAny_askSetting (wpAny_pure ?_)))
 show wpAny _ _ (if w.params.followText "set-order" = true then _ else _) _ _ _
 rw [if_pos ht]
 exact wpAny_bind (wpAny_askSetting (wpAny_pure (wpAny_pure h)))
theorem uk {i:Nat} {Q:Option (Value × Nat) -> Shared -> Prop} (S:SetS prog w s.heap a ds es ep t) (ht:w.params.followText "set-order" = false) (nd:(!t.plain && decide (es.size > 1)) = false) (hi:i <= es.size)
  (h:Q (es[i]?.map fun e=>(e.2,t.place.getD i 0 + 1)) s):wpAny (model prog w) A (setNext a (if i = 0 then 0 else t.place.getD (i - 1) 0 + 1) i ep) Q E s:=by
 unfold setNext setsByText
 refine wpAny_bind (wpAny_setState_of S.at_ rfl S.fit ?_)
 refine wpAny_bind (wpAny_bind (wpAny_askSetting (wpAny_pure ?_)))
 show wpAny _ _ (if w.params.followText "set-order" = true then _ else _) _ _ _
 rw [if_neg (by rw [ht]; decide)]
 show wpAny _ _ (if (!t.plain && decide (es.size > 1)) = true then _ else _) _ _ _
 rw [if_neg (by rw [nd]; decide)]
 refine wpAny_bind (show wpAny _ _ (if (!t.led && !es.isEmpty) = true then unsupported "set:maker-not-led" else pure ()) _ _ _ from ?_)
 rw [if_neg (by simp [S.led,ht])]
 refine wpAny_pure ?_
 have zz:t.place.size = es.size:=by have:=S.fit; unfold SetTable.fits at this; simp at this; exact this.1
 have eb:SetTable.below t.place (if i = 0 then 0 else t.place.getD (i - 1) 0 + 1) = i:=by
  obtain ⟨b1,b2,b3⟩:=Yh S.rise (if i = 0 then 0 else t.place.getD (i - 1) 0 + 1)
  rcases Nat.lt_trichotomy (SetTable.below t.place (if i = 0 then 0 else t.place.getD (i - 1) 0 + 1)) i with z | z | z
  ·have hi1:i - 1 < t.place.size:=by omega
   have:=b3 (i - 1) hi1 (by omega)
   rw [if_neg (by omega),Array.getD_eq_getD_getElem?,Array.getElem?_eq_getElem hi1] at this
   simp at this; omega
  ·exact z
  ·have hi1:i < t.place.size:=by omega
   have:=b2 i hi1 z
   split at this
   ·omega
   ·rename_i h0
    have hi2:i - 1 < t.place.size:=by omega
    rw [Array.getD_eq_getD_getElem?,Array.getElem?_eq_getElem hi2] at this
    have r:=S.rise (i - 1) i hi1 (by omega)
    simp at this; omega
 dsimp only
 rw [eb]
 by_cases hl:i < es.size
 ·have hl2:i < t.place.size:=by omega
  rw [Array.getElem?_eq_getElem hl,Array.getElem?_eq_getElem hl2]
  rw [Array.getElem?_eq_getElem hl,Array.getD_eq_getD_getElem?,Array.getElem?_eq_getElem hl2] at h
  exact wpAny_pure h
 ·rw [Array.getElem?_eq_none (by omega)]
  rw [Array.getElem?_eq_none (by omega)] at h
  exact wpAny_pure h
def TPl (h:Heap) (T:Addr) (ps:List Nat):Prop:=h.get? T = some { cls:=.type "tuple",data:=.seq (ps.map fun i:Nat=>rawInt i).toArray }
theorem WF {j:Nat} {e:Int × Value} {Q:VS7} (S:SetS prog w s.heap a ds es ep t) (he:es[j]? = some e) (h:Q e.2 s):wpAny (model prog w) A (setNextDrawn a j ep) Q E s:=by
 unfold setNextDrawn
 refine wpAny_bind (wpAny_setState_of S.at_ rfl S.fit ?_)
 dsimp only
 simp only [bne_self_eq_false,Bool.false_eq_true,↓reduceIte]
 rw [he]
 exact wpAny_pure h
theorem Xi {i j:Nat} {T:Addr} {ps:List Nat} {e:Int × Value} {Q:Option Value -> Shared -> Prop} (S:SetS prog w s.heap a ds es ep t) (hit:SIt s.heap I a es.size ep (.ref T) i) (hp:TPl s.heap T ps) (hj:ps[i]? = some j) (he:es[j]? = some e)
  (hQ:∀ h',SIt h' I a es.size ep (.ref T) (i + 1) -> Heap.SameBut I s.heap h' -> Q (some e.2) { s with heap:=h' }):wpAny (model prog w) A (pyNext (.ref I)) Q E s:=by
 have hT:s.TypeIs (.ref I) "set_iterator":=⟨_,hit,rfl⟩
 unfold pyNext
 refine wpAny_bind (wpAny_attempt (wpAny_callSpecial?_slot (name:=Str.ofString "__next__") hT Z.slot_next (wpAny_call_entry Z.slot_next hT Z.entry_next ?_ (Z.args_next _))))
 unfold Builtin.«set_iterator.__next__»
 generalize h1:setEntries = SE
 generalize h2:setNextDrawn = SN
 wp_walk
 subst h1
 refine wpAny_setEntries_of S.at_ rfl S.fit ?_
 have hp':=hp
 unfold TPl at hp'
 wp_walk
 subst h2
 simp only [Int.toNat_natCast]
 rw [show ((ps.map fun i:Nat=>rawInt i).toArray)[i]? = some (rawInt j) from by simp [hj]]
 show wpAny _ _ (setNextDrawn a (j:Int).toNat ep >>= _) _ _ _
 refine wpAny_bind (WF S he ?_)
 have hit':=hit
 unfold SIt at hit'
 refine wpAny_bind (wpAny_setField hit' rfl (by simp) ?_)
 exact wpAny_pure ⟨_,rfl,wpAny_pure (hQ _ (Heap.get?_update_self _ hit rfl) (Heap.SameBut.update ..))⟩
theorem Xj {i:Nat} {T:Addr} {ps:List Nat} {Q:Option Value -> Shared -> Prop} (hh:A.handled = none) (S:SetS prog w s.heap a ds es ep t) (hit:SIt s.heap I a es.size ep (.ref T) i) (hp:TPl s.heap T ps) (hj:ps[i]? = none)
  (hQ:∀ h',Heap.ExtBut I s.heap h' -> Q none { s with heap:=h' }):wpAny (model prog w) A (pyNext (.ref I)) Q E s:=by
 have hT:s.TypeIs (.ref I) "set_iterator":=⟨_,hit,rfl⟩
 unfold pyNext
 refine wpAny_bind (wpAny_attempt (wpAny_callSpecial?_slot (name:=Str.ofString "__next__") hT Z.slot_next (wpAny_call_entry Z.slot_next hT Z.entry_next ?_ (Z.args_next _))))
 unfold Builtin.«set_iterator.__next__»
 generalize h1:setEntries = SE
 generalize h2:setNextDrawn = SN
 wp_walk
 subst h1
 refine wpAny_setEntries_of S.at_ rfl S.fit ?_
 have hp':=hp
 unfold TPl at hp'
 wp_walk
 subst h2
 simp only [Int.toNat_natCast]
 rw [show ((ps.map fun i:Nat=>rawInt i).toArray)[i]? = none from by simpa using hj]
 dsimp only
 have hit':=hit
 unfold SIt at hit'
 refine wpAny_bind (wpAny_setField hit' rfl (by simp) ?_)
 refine wpAny_bind (wpAny_setField (Heap.get?_update_self _ hit' rfl) rfl (by simp [Obj.mapFields]) ?_)
 refine wpAny_bind ?_
 simp only [newExc,newTuple]
 refine wpAny_bind (wpAny_newObj_type ?_ (by size_fits))
 refine wpAny_bind (m:=firstArgMember _ _) (wpAny_of_eq (a:=Value.none) (by first | rfl | (simp only [firstArgMember]; rfl)) ?_)
 refine wpAny_newObj_type ?_ (by size_fits)
 simp only [raiseNew]
 refine wpAny_bind (wpAny_bind (wpAny_handled ?_))
 first | rw [show A.in1.handled = none from hh] | rw [hh]
 refine wpAny_pure (wpAny_throw ?_)
 refine wpAny_bind (wpAny_isInstance (T:="StopIteration") (b:=true) ⟨_,Heap.get?_push_size _ rfl,rfl⟩ isSubtype_stop ?_)
 exact wpAny_pure (hQ _ (((((Heap.SameBut.update ..).trans (Heap.SameBut.update ..)).extBut).push _).push _))
theorem SetS.keep {h h':Heap} (S:SetS prog w h a ds es ep t) (k:∀ o,h.get? a = some o -> h'.get? a = some o):SetS prog w h' a ds es ep t:={ S with at_:=k _ S.at_ }
theorem yz {α:Type} (next:Nat -> Nat):∀ (fuel k:Nat) (left:List α) (out:Array α),fuel = left.length -> (pickOrder.go next fuel k left out).toList.Perm (out.toList ++ left)
 | 0,k,left,out,e=>by
  have:left = []:=List.length_eq_zero_iff.mp e.symm
  subst this
  unfold pickOrder.go; simp
 | fuel + 1,k,left,out,e=>by
  unfold pickOrder.go
  have hl:next k % left.length < left.length:=Nat.mod_lt _ (by omega)
  rw [List.getElem?_eq_getElem hl]
  dsimp only
  refine (yz next fuel _ _ _ (by rw [List.length_eraseIdx_of_lt hl]; omega)).trans ?_
  rw [Array.toList_push,List.append_assoc]
  exact (xH hl).append_left _
theorem Ym (ht:w.params.followText "set-order" = true) (hh:A.handled = none) (I:Addr) (nI:I ≠ a) :
  Walks prog w A I [I,a] [I] es.size (fun i v=>((pickOrder (w.params.setOrder a ep) es).toList.map (·.2))[i]? = some v) (fun i h=>SetS prog w h a ds es ep t /\ SIt h I a es.size ep (rawInt ((0:Nat):Int)) i) where
 sub:=fun b hb=>by simp at hb ⊢; exact .inl hb
 frame:=fun i h h' st hk=>⟨st.1.keep (hk a (by simp)),hk I (by simp) _ st.2⟩
 item:=fun i s Q E hi st hQ=>by
  have hz:(pickOrder (w.params.setOrder a ep) es).size = es.size:=by
   have:=(yz (w.params.setOrder a ep) es.size 0 es.toList #[] (by simp)).length_eq
   unfold pickOrder; simpa using this
  have he:(pickOrder (w.params.setOrder a ep) es)[i]? = some ((pickOrder (w.params.setOrder a ep) es)[i]'(by omega)):=Array.getElem?_eq_getElem _
  refine qQ (sl:=0) (nx:=0) st.1 st.2 (fun A E Q q=>sj st.1 ht (by rw [he]; exact q)) fun h' hit sb=>?_
  refine hQ _ h' s.toks (by rw [List.getElem?_map,Array.getElem?_toList,he]; rfl) ⟨st.1.keep fun o e=>by rw [sb.2 a (Ne.symm nI)]; exact e,hit⟩ fun b o hb e=>sb.extBut b o (fun z=>hb (by simp [z])) e
 done:=fun s Q E st hQ=>by
  have hz:(pickOrder (w.params.setOrder a ep) es).size = es.size:=by
   have:=(yz (w.params.setOrder a ep) es.size 0 es.toList #[] (by simp)).length_eq
   unfold pickOrder; simpa using this
  refine qR (sl:=0) hh st.1 st.2 (fun A E Q q=>sj st.1 ht (by rw [Array.getElem?_eq_none (by omega)]; exact q)) fun h' ex=>hQ h' s.toks fun b o hb e=>ex b o (fun z=>hb (by simp [z])) e
 self:=fun _ _ _ _ st hQ=>uJ st.2 hQ
theorem jE (ht:w.params.followText "set-order" = false) (nd:(!t.plain && decide (es.size > 1)) = false) (hh:A.handled = none) (I:Addr) (nI:I ≠ a) :
  Walks prog w A I [I,a] [I] es.size (fun i v=>(es.toList.map (·.2))[i]? = some v) (fun i h=>SetS prog w h a ds es ep t /\ SIt h I a es.size ep (rawInt ((if i = 0 then 0 else t.place.getD (i - 1) 0 + 1:Nat):Int)) i) where
 sub:=fun b hb=>by simp at hb ⊢; exact .inl hb
 frame:=fun i h h' st hk=>⟨st.1.keep (hk a (by simp)),hk I (by simp) _ st.2⟩
 item:=fun i s Q E hi st hQ=>by
  have he:es[i]? = some es[i]:=Array.getElem?_eq_getElem hi
  refine qQ (nx:=t.place.getD i 0 + 1) st.1 st.2 (fun A E Q q=>uk st.1 ht nd (Nat.le_of_lt hi) (by rw [he]; exact q)) fun h' hit sb=>?_
  refine hQ _ h' s.toks (by rw [List.getElem?_map,Array.getElem?_toList,he]; rfl) ⟨st.1.keep fun o e=>by rw [sb.2 a (Ne.symm nI)]; exact e,by rw [if_neg (Nat.succ_ne_zero i)]; exact hit⟩ fun b o hb e=>sb.extBut b o (fun z=>hb (by simp [z])) e
 done:=fun s Q E st hQ=>by
  refine qR hh st.1 st.2 (fun A E Q q=>uk st.1 ht nd (Nat.le_refl _) (by rw [Array.getElem?_eq_none (Nat.le_refl _)]; exact q)) fun h' ex=>hQ h' s.toks fun b o hb e=>ex b o (fun z=>hb (by simp [z])) e
 self:=fun _ _ _ _ st hQ=>uJ st.2 hQ
theorem jF {T:Addr} {ps:List Nat} (hp:ps.Perm (List.range es.size)) (hh:A.handled = none) (I:Addr) (nI:I ≠ a) (nT:T ≠ I) :
  Walks prog w A I [I,a,T] [I] es.size (fun i v=>((ps.filterMap (es[·]?)).map (·.2))[i]? = some v) (fun i h=>SetS prog w h a ds es ep t /\ SIt h I a es.size ep (.ref T) i /\ TPl h T ps) where
 sub:=fun b hb=>by simp at hb ⊢; exact .inl hb
 frame:=fun i h h' st hk=>⟨st.1.keep (hk a (by simp)),hk I (by simp) _ st.2.1,hk T (by simp) _ st.2.2⟩
 item:=fun i s Q E hi st hQ=>by
  have hl:ps.length = es.size:=by have:=hp.length_eq; simpa using this
  have hj:ps[i]? = some (ps[i]'(by omega)):=List.getElem?_eq_getElem _
  have hm:ps[i]'(by omega) < es.size:=List.mem_range.mp (hp.mem_iff.mp (List.getElem_mem _))
  have he:es[ps[i]'(by omega)]? = some (es[ps[i]'(by omega)]):=Array.getElem?_eq_getElem hm
  have ef:∀ (l:List Nat),(∀ x ∈ l,x < es.size) -> ∀ k:Nat,(l.filterMap (es[·]?))[k]? = l[k]?.bind (es[·]?):=by
   intro l
   induction l with
   | nil=>intro _ k; simp
   | cons x l ih =>
    intro hx k
    have h0:=hx x (by simp)
    rw [List.filterMap_cons_some (Array.getElem?_eq_getElem h0)]
    cases k with
    | zero=>simp [h0]
    | succ k=>simpa using ih (fun y hy=>hx y (by simp [hy])) k
  refine Xi st.1 st.2.1 st.2.2 hj he fun h' hit sb=>?_
  refine hQ _ h' s.toks ?_ ⟨st.1.keep fun o e=>by rw [sb.2 a (Ne.symm nI)]; exact e,hit,by unfold TPl; rw [sb.2 T nT]; exact st.2.2⟩ fun b o hb e=>sb.extBut b o (fun z=>hb (by simp [z])) e
  rw [List.getElem?_map,ef ps (fun x hx=>List.mem_range.mp (hp.mem_iff.mp hx)),hj]
  simp only [Option.bind_some,he,Option.map_some]
 done:=fun s Q E st hQ=>by
  have hl:ps.length = es.size:=by have:=hp.length_eq; simpa using this
  exact Xj hh st.1 st.2.1 st.2.2 (List.getElem?_eq_none (by omega)) fun h' ex=>hQ h' s.toks fun b o hb e=>ex b o (fun z=>hb (by simp [z])) e
 self:=fun _ _ _ _ st hQ=>uJ st.2.1 hQ
end
section
variable {prog:Program} {w:World} {A:Around} {E:VS7} {s:Shared} {I a:Addr} {ds:List Int} {es:Array (Int × Value)} {ep:Nat} {t:SetTable}
def itO (first:Value) (a:Addr) (n ep:Nat):Obj:={ cls:=.type "set_iterator",data:=.fields #[first,rawInt ((0:Nat):Int),.ref a,rawInt n,rawInt ep] }
theorem Xk {Q:Bool -> Shared -> Prop} (S:SetS prog w s.heap a ds es ep t) (h:Q (!w.params.followText "set-order" && (!t.plain && decide (es.size > 1))) s):wpAny (model prog w) A (setDrawn a) Q E s:=by
 unfold setDrawn setsByText
 refine wpAny_bind (wpAny_setState_of S.at_ rfl S.fit ?_)
 exact wpAny_bind (wpAny_bind (wpAny_askSetting (wpAny_pure (wpAny_pure h))))
theorem Xl {Q:VS7} (S:SetS prog w s.heap a ds es ep t)
  (h1:(!w.params.followText "set-order" && (!t.plain && decide (es.size > 1))) = false -> Q (.ref s.heap.objs.size) { s with heap:=s.heap.push (itO (rawInt ((0:Nat):Int)) a es.size ep) })
  (h2:∀ (ps:List Nat) d,ps.Perm (List.range es.size) -> Q (.ref (s.heap.objs.size + 1)) { s with heap:=(s.heap.push { cls:=.type "tuple",data:=.seq (ps.map fun i:Nat=>rawInt i).toArray }).push (itO (.ref s.heap.objs.size) a es.size ep),drawn:=d }) :
  wpAny (model prog w) A (pyIter (.ref a)) Q E s:=by
 have hT:s.TypeIs (.ref a) "set":=⟨_,S.at_,rfl⟩
 refine wpAny_pyIter_slot hT PySem.F.slot_set_iter (wpAny_call_entry PySem.F.slot_set_iter hT Z.entry_set_iter ?_ (PySem.F.args_set_iter_1 _))
 unfold Builtin.«frozenset.__iter__» Builtin.Frozenset.slot0 slotArgs
 simp only [List.isEmpty_nil,Bool.not_true,Bool.false_eq_true,↓reduceIte,bind_assoc,List.length_nil,bne_self_eq_false]
 unfold Builtin.Frozenset.addrOf Builtin.Frozenset.sizeOf
 refine wpAny_bind (wpAny_pure ?_)
 try dsimp only
 refine wpAny_bind (wpAny_pure ?_)
 refine wpAny_bind (wpAny_bind (wpAny_setEntries_of S.at_ rfl S.fit (wpAny_pure ?_)))
 refine wpAny_bind (Xk S ?_)
 by_cases hd:(!w.params.followText "set-order" && (!t.plain && decide (es.size > 1))) = true
 ·rw [if_pos hd]
  refine wpAny_bind (si _ _ _ _ (by simp) fun ps d hp=>?_)
  have hz:ps.length = es.size:=by have:=hp.length_eq; simpa using this
  simp only [newTuple]
  refine wpAny_bind (wpAny_newObj_type ?_ (by show (List.map (fun i:Nat=>rawInt i) ps).toArray.size <= sizeLine; simp only [List.size_toArray,List.length_map]; rw [hz]; exact fits_of_scanBound S.few))
  refine wpAny_bind (wpAny_setEpoch_of (Heap.get?_push_of_some _ S.at_) rfl S.fit ?_)
  simp only [newFields]
  refine wpAny_bind (wpAny_newObj_type ?_ (by size_fits))
  have e1:(s.heap.push { cls:=.type "tuple",data:=.seq (ps.map fun i:Nat=>rawInt i).toArray }).objs.size = s.heap.objs.size + 1:=Heap.size_push ..
  exact wpAny_pure ⟨_,rfl,"set_iterator",_,⟨_,Heap.get?_push_size _ rfl,rfl⟩,Z.slot_next.lookup,by dsimp only; rw [e1]; exact h2 ps d hp⟩
 ·rw [if_neg hd]
  refine wpAny_bind (wpAny_pure (wpAny_bind (wpAny_setEpoch_of S.at_ rfl S.fit ?_)))
  simp only [newFields]
  refine wpAny_bind (wpAny_newObj_type ?_ (by size_fits))
  exact wpAny_pure ⟨_,rfl,"set_iterator",_,⟨_,Heap.get?_push_size _ rfl,rfl⟩,Z.slot_next.lookup,h1 (by simpa using hd)⟩
theorem Xm {Q:Bool -> Shared -> Prop} {r:Addr} (hT:s.TypeIs (.ref r) "set") (h:Q false s):wpAny (model prog w) A (Builtin.List.listLengthHint (.ref r)) Q E s:=by
 unfold Builtin.List.listLengthHint
 refine wpAny_bind (wpAny_specialOf hT PySem.F.slot_set_len.lookup ?_)
 generalize hid:("set.__len__":String) = id0
 wp_delta
 rw [show splitId id0 = some ("set","__len__") from by subst hid; decide +kernel]
 subst hid
 refine wpAny_bind (wpAny_isInstance (T:="set") (b:=true) hT (by rw [isSubtype_type]; kernel_rfl) ?_)
 refine wpAny_ite_split (fun hab=>absurd hab (by decide)) (fun _=>?_)
 refine wpAny_ite_split (fun _=>?_) (fun hab=>absurd (by decide +kernel) hab)
 refine wpAny_bind (wpAny_typeOf hT ?_)
 exact wpAny_pure h
theorem Up {R:Result -> Shared -> Prop} {L:Addr} {fp:List Addr} {n:Nat} {P:Nat -> Value -> Prop} {St:Nat -> Heap -> Prop} {s1:Shared} (S:SetS prog w s1.heap a ds es ep t) (W:Walks prog w A.in1 I fp [I] n P St) (st:St 0 s1.heap) (hn:n <= sizeLine)
  (hL:s1.heap.get? L = some { cls:=.type "list",data:=.seq #[] 0 }) (nL:L ∉ fp) (res:Value)
  (hR:∀ h' tk acc' c',(∀ b o,b ≠ L -> b ≠ I -> s1.heap.get? b = some o -> h'.get? b = some o) -> h'.get? L = some { cls:=.type "list",dict:=none,data:=.seq acc' c',slots:=#[] } -> ItemsOf P acc' n -> R (.ok (.ret res)) { s1 with heap:=h',toks:=tk }) :
  wpAny (model prog w) A.in1 (do
    let room ← holding [.ref I] (Builtin.List.listLengthHint (.ref a))
    if (room || ["set","frozenset","dict","dict_keys","dict_values","dict_items"].any (Value.type "set" == .type ·)) = true then do
     rule "list.extend.makes-room"
     Builtin.List.listTouch (.ref L)
     again (.builtin "list.extend.loop" ⟨[.ref L,.ref I,res],[]⟩)
    else again (.builtin "list.extend.loop" ⟨[.ref L,.ref I,res],[]⟩))
   (fun fin s'=>match fin with | .done f=>R (.ok f) s' | .again c'=>c'.quiet = true /\ codeAny (model prog w) A c' R s') (fun e s'=>R (.error e) s') s1:=by
 have go:∀ (h:Heap) (c₁ tk:Nat),St 0 h -> (∀ b o,b ≠ L -> s1.heap.get? b = some o -> h.get? b = some o) →
   h.get? L = some { cls:=.type "list",data:=.seq #[] c₁ } -> codeAny (model prog w) A (.builtin "list.extend.loop" ⟨[.ref L,.ref I,res],[]⟩) R { s1 with heap:=h,toks:=tk }:=by
  intro h c₁ tk hst hk h1
  refine codeAny_extend_loopS W.toS hn L nL res n 0 _ #[] c₁ rfl (Nat.zero_le _) hst h1 (ItemsOf.nil _) fun s' acc' c' hm h2 hacc=>?_
  rw [Moved.eq_with hm]
  exact hR s'.heap s'.toks acc' c' (fun b o hb hI e=>hm.heap b o (by simp only [List.mem_cons,List.not_mem_nil,or_false,not_or]; exact ⟨hb,hI⟩) (hk b o hb e)) h2 hacc
 refine wpAny_bind (wpAny_holding (Xm ⟨_,S.at_,rfl⟩ ?_))
 rw [if_pos (by decide)]
 refine wpAny_bind (wpAny_rule (wpAny_bind ?_))
 show wpAny _ _ (updateSeq L (·.push .none) >>= fun _=>updateSeq L (·.pop)) _ _ _
 refine wpAny_bind (wpAny_updateSeq hL rfl ?_)
 have k2:=Heap.get?_update_self (Obj.mapSeq (·.push Value.none)) hL rfl
 refine wpAny_updateSeq (hz:=by seq_fits) k2 rfl ?_
 have k3:=Heap.get?_update_self (Obj.mapSeq (·.pop)) k2 rfl
 refine wpAny_pure ⟨plainId_quiet PySem.F.plain_extend_loop _,go _ _ _ (W.frame 0 _ _ st fun b hb o e=>?_) (fun b o hb e=>?_) k3⟩
 ·have nb:b ≠ L:=fun z=>nL (z ▸ hb)
  exact (Heap.get?_update_other _ _ (Ne.symm nb)).trans ((Heap.get?_update_other _ _ (Ne.symm nb)).trans e)
 ·exact (Heap.get?_update_other _ _ (Ne.symm hb)).trans ((Heap.get?_update_other _ _ (Ne.symm hb)).trans e)
theorem Xn {acc:Array Value} {ord:List Value} {n:Nat} (hn:ord.length = n) (h:ItemsOf (fun i v=>ord[i]? = some v) acc n):acc.toList = ord:=by
 refine List.ext_getElem? fun i=>?_
 by_cases hi:i < acc.size
 ·rw [Array.getElem?_toList,Array.getElem?_eq_getElem hi,h.2 i acc[i] (Array.getElem?_eq_getElem hi)]
 ·have:=h.1
  rw [List.getElem?_eq_none (by rw [Array.length_toList]; omega),List.getElem?_eq_none (by omega)]
def RC (es:Array (Int × Value)) (L:Addr) (s:Shared) (r':Result) (s':Shared):Prop:=∃ (h':Heap) (tk:Nat) (d:Drawn) (acc':Array Value) (c':Nat) (ord:List Value),r' = .ok (.ret (.ref L)) /\ s' = { s with heap:=h',toks:=tk,drawn:=d } ∧
  (∀ b o,s.heap.get? b = some o -> h'.get? b = some o) /\ h'.get? L = some { cls:=.type "list",dict:=none,data:=.seq acc' c',slots:=#[] } /\ ord.Perm (es.toList.map (·.2)) /\ ItemsOf (fun i v=>ord[i]? = some v) acc' es.size
theorem rm {Q:List Value -> Shared -> Prop} (hh:A.handled = none) (S:SetS prog w s.heap a ds es ep t)
  (hQ:∀ (h':Heap) tk d (vs:List Value),s.heap.objs.size <= h'.objs.size -> (∀ b o,s.heap.get? b = some o -> h'.get? b = some o) -> vs.Perm (es.toList.map (·.2)) -> Q vs { s with heap:=h',toks:=tk,drawn:=d }) :
  wpAny (model prog w) A (collect (.ref a)) Q E s:=by
 unfold collect
 refine wpAny_bind (wpAny_runValue (codeAny_builtin PySem.F.entry_proto_collect ?_))
 rw [Around.under_plainId PySem.F.plain_proto_collect _]
 show wpAny _ A.in1 (newList [] >>= fun l=>again (.builtin "list.__iadd__" ⟨[l,.ref a],[]⟩)) _ _ s
 refine wpAny_bind (wpAny_newObj_type ?_)
 refine wpAny_pure ⟨plainId_quiet PySem.F.plain_list_iadd _,codeAny_builtin PySem.F.entry_list_iadd ?_⟩
 rw [Around.under_plainId PySem.F.plain_list_iadd _]
 show wpAny _ A.in1 (Builtin.List.listExtendWith (.ref s.heap.objs.size) (.ref a) (.ref s.heap.objs.size)) _ _ _
 have hL:(s.heap.push { cls:=.type "list",data:=.seq ([]:List Value).toArray }).get? s.heap.objs.size = some { cls:=.type "list",data:=.seq ([]:List Value).toArray }:=Heap.get?_push_size _ rfl
 have hz:(s.heap.push { cls:=.type "list",data:=.seq ([]:List Value).toArray }).objs.size = s.heap.objs.size + 1:=Heap.size_push ..
 have alt:a < s.heap.objs.size:=Heap.lt_size S.at_
 have S1:SetS prog w (s.heap.push { cls:=.type "list",data:=.seq ([]:List Value).toArray }) a ds es ep t:=S.keep fun o e=>Heap.get?_push_of_some _ e
 have zn:es.size <= sizeLine:=fits_of_scanBound S.few
 have fin:∀ (h':Heap) tk d acc' c' (ord:List Value),(∀ b o,s.heap.get? b = some o -> h'.get? b = some o) -> h'.get? s.heap.objs.size = some { cls:=.type "list",dict:=none,data:=.seq acc' c',slots:=#[] } -> ord.Perm (es.toList.map (·.2)) -> ItemsOf (fun i v=>ord[i]? = some v) acc' es.size →
   wpAny (model prog w) A (load s.heap.objs.size >>= fun o=>match o.data with | .seq xs _=>pure xs.toList | _=>unsupported "internal:collect") Q E { s with heap:=h',toks:=tk,drawn:=d }:=fun h' tk d acc' c' ord hk h1 hp hacc =>
  wpAny_bind (wpAny_load h1 (wpAny_pure (hQ h' tk d _ (Nat.le_of_lt (Heap.lt_size h1)) hk (by rw [Xn (by have:=hp.length_eq; simpa using this) hacc]; exact hp))))
 unfold Builtin.List.listExtendWith
 refine wpAny_bind (wpAny_typeOf (T:="set") ⟨_,S1.at_,rfl⟩ ?_)
 have g1:Builtin.List.listSameRef (.ref s.heap.objs.size) (.ref a) = false:=by simp [Builtin.List.listSameRef,Nat.ne_of_gt alt]
 have g2:(Value.type "set" == Value.type "list") = false:=by decide
 have g3:(Value.type "set" == Value.type "tuple") = false:=by decide
 simp only [g1,g2,g3,Bool.or_false,Bool.false_eq_true,if_false]
 refine wpAny_mono (Q:=fun fn s'=>match fn with
   | .done f=>RC es s.heap.objs.size s (.ok f) s'
   | .again c'=>c'.quiet = true /\ codeAny (model prog w) A c' (RC es s.heap.objs.size s) s') (E:=fun e s'=>RC es s.heap.objs.size s (.error e) s') ?main (fun fn s' h=>?_) (fun e s' h=>?_)
 case main =>
  have nd0:∀ {h1:Heap} {d:Drawn} {I:Addr} {fp:List Addr} {St:Nat -> Heap -> Prop} {ord:List Value},(∀ b o,s.heap.get? b = some o -> h1.get? b = some o) -> s.heap.objs.size < I -> s.heap.objs.size ∉ fp →
    h1.get? s.heap.objs.size = some { cls:=.type "list",data:=.seq ([]:List Value).toArray } -> Walks prog w A.in1 I fp [I] es.size (fun i v=>ord[i]? = some v) St -> St 0 h1 -> ord.Perm (es.toList.map (·.2)) →
    wpAny (model prog w) A.in1 (do
    let room ← holding [.ref I] (Builtin.List.listLengthHint (.ref a))
    if (room || ["set","frozenset","dict","dict_keys","dict_values","dict_items"].any (Value.type "set" == .type ·)) = true then do
     rule "list.extend.makes-room"
     Builtin.List.listTouch (.ref s.heap.objs.size)
     again (.builtin "list.extend.loop" ⟨[.ref s.heap.objs.size,.ref I,.ref s.heap.objs.size],[]⟩)
    else again (.builtin "list.extend.loop" ⟨[.ref s.heap.objs.size,.ref I,.ref s.heap.objs.size],[]⟩)) (fun fn s'=>match fn with
   | .done f=>RC es s.heap.objs.size s (.ok f) s'
   | .again c'=>c'.quiet = true /\ codeAny (model prog w) A c' (RC es s.heap.objs.size s) s') (fun e s'=>RC es s.heap.objs.size s (.error e) s') { s with heap:=h1,drawn:=d }:=by
   intro h1 d I fp St ord k1 iI nL hl W st hp
   refine Up (s1:={ s with heap:=h1,drawn:=d }) (S.keep fun o e=>k1 a o e) W st zn hl nL _ fun h' tk acc' c' hk hl' hacc=>?_
   exact ⟨h',tk,d,acc',c',ord,rfl,rfl,fun b o e=>hk b o (Nat.ne_of_lt (Heap.lt_size e)) (Nat.ne_of_lt (Nat.lt_trans (Heap.lt_size e) iI)) (k1 b o e),hl',hp,hacc⟩
  refine wpAny_bind (Xl (s:={ s with heap:=s.heap.push { cls:=.type "list",data:=.seq ([]:List Value).toArray } }) S1 (fun nd=>?_) fun ps d hp=>?_)
  ·have nI:(s.heap.push { cls:=.type "list",data:=.seq ([]:List Value).toArray }).objs.size ≠ a:=by rw [hz]; exact Nat.ne_of_gt (Nat.lt_succ_of_lt alt)
   have S2:=S1.keep (h':=(s.heap.push { cls:=.type "list",data:=.seq ([]:List Value).toArray }).push (itO (rawInt ((0:Nat):Int)) a es.size ep)) fun o e=>Heap.get?_push_of_some _ e
   have it2:SIt ((s.heap.push { cls:=.type "list",data:=.seq ([]:List Value).toArray }).push (itO (rawInt ((0:Nat):Int)) a es.size ep)) (s.heap.push { cls:=.type "list",data:=.seq ([]:List Value).toArray }).objs.size a es.size ep (rawInt ((0:Nat):Int)) 0:=Heap.get?_push_size _ rfl
   have nL:s.heap.objs.size ∉ [(s.heap.push { cls:=.type "list",data:=.seq ([]:List Value).toArray }).objs.size,a]:=by
    rw [hz]; simp only [List.mem_cons,List.mem_singleton,List.not_mem_nil,or_false,not_or]; exact ⟨Nat.ne_of_lt (Nat.lt_succ_self _),Nat.ne_of_gt alt⟩
   have lI:s.heap.objs.size < (s.heap.push { cls:=.type "list",data:=.seq ([]:List Value).toArray }).objs.size:=by rw [hz]; exact Nat.lt_succ_self _
   have kk:∀ b o,s.heap.get? b = some o -> ((s.heap.push { cls:=.type "list",data:=.seq ([]:List Value).toArray }).push (itO (rawInt ((0:Nat):Int)) a es.size ep)).get? b = some o:=fun b o e=>Heap.get?_push_of_some _ (Heap.get?_push_of_some _ e)
   cases ht:w.params.followText "set-order" with
   | true=>exact nd0 (d:=s.drawn) kk lI nL (Heap.get?_push_of_some _ hL) (Ym (A:=A.in1) ht hh _ nI) ⟨S2,it2⟩ ((by have:=yz (w.params.setOrder a ep) es.size 0 es.toList #[] (by simp); simpa using this:(pickOrder.go (w.params.setOrder a ep) es.size 0 es.toList #[]).toList.Perm es.toList).map _)
   | false =>
    rw [ht] at nd
    exact nd0 (d:=s.drawn) kk lI nL (Heap.get?_push_of_some _ hL) (jE (A:=A.in1) ht (by simpa using nd) hh _ nI) ⟨S2,it2⟩ (.refl _)
  ·have hz2:((s.heap.push { cls:=.type "list",data:=.seq ([]:List Value).toArray }).push { cls:=.type "tuple",data:=.seq (ps.map fun i:Nat=>rawInt i).toArray }).objs.size = (s.heap.push { cls:=.type "list",data:=.seq ([]:List Value).toArray }).objs.size + 1:=Heap.size_push ..
   have hz3:(s.heap.push { cls:=.type "list",data:=.seq ([]:List Value).toArray }).objs.size + 1 = s.heap.objs.size + 2:=by rw [hz]
   have tI:s.heap.objs.size < (s.heap.push { cls:=.type "list",data:=.seq ([]:List Value).toArray }).objs.size + 1:=by rw [hz3]; exact Nat.lt_add_of_pos_right (by decide)
   have S2:=(S1.keep (h':=(s.heap.push { cls:=.type "list",data:=.seq ([]:List Value).toArray }).push { cls:=.type "tuple",data:=.seq (ps.map fun i:Nat=>rawInt i).toArray }) fun o e=>Heap.get?_push_of_some _ e).keep (h':=((s.heap.push { cls:=.type "list",data:=.seq ([]:List Value).toArray }).push { cls:=.type "tuple",data:=.seq (ps.map fun i:Nat=>rawInt i).toArray }).push (itO (.ref (s.heap.push { cls:=.type "list",data:=.seq ([]:List Value).toArray }).objs.size) a es.size ep)) fun o e=>Heap.get?_push_of_some _ e
   refine nd0 (I:=(s.heap.push { cls:=.type "list",data:=.seq ([]:List Value).toArray }).objs.size + 1) (d:=d) (fun b o e=>Heap.get?_push_of_some _ (Heap.get?_push_of_some _ (Heap.get?_push_of_some _ e))) tI ?_ (Heap.get?_push_of_some _ (Heap.get?_push_of_some _ hL)) (jF (A:=A.in1) (T:=(s.heap.push { cls:=.type "list",data:=.seq ([]:List Value).toArray }).objs.size) hp hh _ (Nat.ne_of_gt (Nat.lt_trans alt tI)) (Nat.ne_of_lt (Nat.lt_succ_self _))) ⟨S2,?_,?_⟩ (((hp.filterMap _).trans (by rw [filterMap_getElem?_range])).map _)
   ·simp only [List.mem_cons,List.mem_singleton,List.not_mem_nil,or_false,not_or]
    exact ⟨Nat.ne_of_lt tI,Nat.ne_of_gt alt,by rw [hz]; exact Nat.ne_of_lt (Nat.lt_succ_self _)⟩
   ·show _ = _
    rw [← hz2]; exact Heap.get?_push_size _ rfl
   ·exact Heap.get?_push_of_some _ (Heap.get?_push_size _ rfl)
 ·cases fn with
  | done f =>
   obtain ⟨h',tk,d,acc',c',ord,e,rfl,hf,hl,hp,hI⟩:=h
   cases e
   exact fin h' tk d acc' c' ord hf hl hp hI
  | again c =>
   refine ⟨h.1,codeAny_mono h.2 fun r s'' hr=>?_⟩
   obtain ⟨h',tk,d,acc',c',ord,e,rfl,hf,hl,hp,hI⟩:=hr
   subst e
   exact fin h' tk d acc' c' ord hf hl hp hI
 ·obtain ⟨h',tk,d,acc',c',ord,e,_⟩:=h
  cases e
end
theorem Xo {prog:Program} {w:World} {vs:List Value} {es:Array (Int × Value)} (el:ElI prog w es.toList) (hp:vs.Perm (es.toList.map (·.2))):IntsAre vs (vs.map vI):=by
 have key:∀ l:List Value,(∀ v ∈ l,∃ i t,v = Value.int i t) -> IntsAre l (l.map vI):=by
  intro l
  induction l with
  | nil=>intro _; exact .nil
  | cons v l ih =>
   intro h
   obtain ⟨i,t,rfl⟩:=h v (by simp)
   exact .cons i t (ih fun x hx=>h x (by simp [hx]))
 refine key vs fun v hv=>?_
 obtain ⟨e,he,rfl⟩:=List.mem_map.mp (hp.mem_iff.mp hv)
 obtain ⟨i,t,rfl⟩:=el e he
 exact ⟨i,t,rfl⟩
section
variable {prog:Program} {w:World} {A:Around} {E:VS7} {s:Shared} {a:Addr} {ds:List Int}
theorem jG {Q:VS7} (hh:A.handled = none) (S:SetA prog w s.heap a ds) (h64:ds.length < 64)
  (h:∀ (h':Heap) (tk:Nat) (d:Drawn) (L:Addr) (out:Array Value) (e:Nat) (ms:List Int),(∀ b o,s.heap.get? b = some o -> h'.get? b = some o) -> s.heap.objs.size <= L -> h'.get? L = some (seqObj "list" out e) -> IntsAre out.toList ms -> ms.Perm ds -> ms.Pairwise (· <= ·) -> Q (.ref L) { s with heap:=h',toks:=tk,drawn:=d }) :
  wpAny (model prog w) A (call (.builtin "sorted") [.ref a]) Q E s:=by
 obtain ⟨es,ep,t,S⟩:=S
 refine Calls.call_function_entry kind_sorted plain_sorted entry_sorted (args_sorted1 _) ?_
 unfold Builtin.«sorted»
 refine wpAny_bind (m:=checkCount "sorted" 1 1 _) (wpAny_pure ?_)
 refine wpAny_bind (rm (A:=A.in1) hh S fun h1 tk d vs hz k1 hp=>?_)
 have hl:vs.length = ds.length:=by rw [S.len]; have:=hp.length_eq; simpa using this
 refine wpAny_bind (wpAny_newList ?_ (by rw [hl,sizeLine_eq]; omega))
 have ho:(h1.push (seqObj "list" vs.toArray 0)).get? h1.objs.size = some (seqObj "list" vs.toArray 0):=Heap.get?_push_size _ rfl
 refine wpAny_bind (wpAny_holding (wpAny_call_entry slot_list_sort ⟨_,ho,rfl⟩ entry_list_sort (list_sort_tree ho (Xo S.el hp) (by omega) fun out ns' a1 a2 a3=>⟨_,rfl,?_⟩) (args_list_sort _)))
 obtain ⟨e,he⟩:=sortedHeap_at (out:=out) ho
 refine wpAny_pure ⟨_,rfl,h _ tk d _ out e ns' (fun b o eb=>?_) hz he a1 (a2.trans ?_) a3⟩
 ·have k2:=Heap.lt_size (k1 b o eb)
  rw [sortedHeap_old (Nat.ne_of_lt k2) (by rw [size_push']; exact Nat.lt_succ_of_lt k2),Heap.get?_push_ne _ _ _ (Nat.ne_of_lt k2)]
  exact k1 b o eb
 ·refine (hp.map vI).trans ?_
  rw [List.map_map]
  exact S.pm
end
section
variable {X:Cx} {K:FG7} {P:Program} {w:World}
theorem zK.setE {H:Hp} {h:Heap} {a:Addr} {ds:List Int} (S:SetA P w h a ds):zK P w H h a (.ext fun h=>SetA P w h a ds):=by
 obtain ⟨es,ep,t,S'⟩:=S
 exact ⟨⟨es,ep,t,S'⟩,⟨_,S'.at_⟩,fun h1 h2 s1 k=>s1.keep k⟩
theorem sr {k:Nat} (hK:X.K = K) (hP:X.prog = P) (hw:X.w = w) (hr:Room k X.A):yI X (.type "set") (fun xs H Q=>∃ a ns,xs = [V.ref a] /\ SqL K H a (ns.map V.int) /\ ns.length <= 1000 /\ ∀ l,H l = none -> Q (.ref l) (upd H l (.ext fun h=>SetA P w h l (dedI ns)))):=by
 subst hK hP hw
 intro pins s σ H xs us Q I r h
 obtain ⟨a,ns,rfl,ha,hl,q⟩:=h
 obtain ⟨u,rfl,ru⟩:=wL r
 cases ru
 obtain ⟨its,rv,p,hz⟩:=I.list ha
 have hlen:=rv.length
 rw [List.length_map] at hlen
 refine Yl hr.hd p.isList (ns:=ns) (by simpa using uD rv) (by simp only [List.size_toArray]; have:scanBound = 4096:=rfl; omega) fun h' tk hS kp=>?_
 exact ⟨.ref s.heap.objs.size,_,I.laid (t':=tk) (fun b o eb=>kp b o (Heap.lt_size eb) eb) (Nat.le_refl _) (zK.setE hS),rfl,q _ (I.hok.fresh (Nat.le_refl _))⟩
theorem ul {k:Nat} (hP:X.prog = P) (hw:X.w = w) (hr:Room k X.A):yI X (.builtin "sorted") (fun xs H Q=>∃ a ds,xs = [V.ref a] /\ H a = some (.ext fun h=>SetA P w h a ds) /\ ds.length < 64 /\ ∀ (p:Addr) (ms:List Int),H p = none -> ms.Perm ds -> ms.Pairwise (· <= ·) -> Q (.ref p) (upd H p (.lst (ms.map V.int)))):=by
 subst hP hw
 intro pins s σ H xs us Q I r h
 obtain ⟨a,ds,rfl,ha,hl,q⟩:=h
 obtain ⟨u,rfl,ru⟩:=wL r
 cases ru
 have S:SetA X.prog X.w s.heap a ds:=(I.hok a _ ha).1
 refine jG hr.hd S hl fun h' tk d L out e ms kp hL he a1 a2 a3=>?_
 have rl:=xR a1
 have I2:=I.laid (t':=tk) kp hL (show zK X.prog X.w (upd H L (.lst (ms.map V.int))) h' L (.lst (ms.map V.int)) from ⟨by rw [List.length_map,a2.length_eq,sizeLine_eq]; omega,out.toList,e,rl,he⟩)
 exact ⟨.ref L,_,{ I2 with },rfl,q _ ms (I.hok.fresh hL) a2 a3⟩
end
def Yn (x:Str):It:=⟨fun i _=>i < x.cps.size,fun i H v H'=>H' = H /\ ∃ c,x.cps[i]? = some c /\ v = .str ⟨#[c]⟩,fun i _=>i = x.cps.size⟩
theorem jH {P:Program} {w:World} {K:FG7} {tg:Expr} (it:Addr) (x:Str) (t:Tok):Turn P w K tg (Yn x) [it] it (fun i h=>h.IsStrIter it "str_ascii_iterator" x t i) where
 mem:=by simp
 obj:=fun i h st b hb=>by
  have e:b = it:=by simpa using hb
  subst e
  obtain ⟨o,ho,hc,hd⟩:=st
  exact ⟨o,ho,fun v z=>by rw [hd] at z; cases z⟩
 keep:=fun i h h' st k=>by
  obtain ⟨o,ho,r⟩:=st
  exact ⟨o,k it (by simp) o ho,r⟩
 item:=by
  intro X hP hw hK hc i pins s σ H E I hf st hg
  subst hP hw hK
  obtain ⟨f0,f1,f2,f3,f4,f5⟩:=hf it (by simp)
  have W:=Walks.strAscii (prog:=X.prog) (w:=X.w) (I.ok.hd hc) it x t
  refine W.item i s _ _ hg st fun v h' tk hv st' kk=>?_
  obtain ⟨c,u,hc1,rfl⟩:=hv
  have I1:Inv X pins σ H { s with heap:=h',toks:=tk }:=I.turned (fun b o hb e=>kk b o (by simpa using hb) e) f0 f1 f3 f4 f5
  obtain ⟨o,ho,hcl,hd⟩:=id st'
  exact ⟨_,rfl,jT (s:={ s with heap:=h',toks:=tk }) (n:="str_ascii_iterator") ho hcl hd (by decide) ⟨.str ⟨#[c]⟩,H,I1,⟨u,rfl⟩,⟨rfl,c,hc1,rfl⟩,st',fun b hb=>(hf b hb).1⟩⟩
 done:=by
  intro X hP hw hK hc i pins s σ H E I hf st hg
  subst hP hw hK
  obtain ⟨f0,f1,f2,f3,f4,f5⟩:=hf it (by simp)
  have hg':i = x.cps.size:=hg
  subst hg'
  have W:=Walks.strAscii (prog:=X.prog) (w:=X.w) (I.ok.hd hc) it x t
  exact W.done s _ _ st fun h' tk kk=>⟨rfl,I.turned (fun b o hb e=>kk b o (by simpa using hb) e) f0 f1 f3 f4 f5⟩
 self:=fun _ _ _ _ _ st h=>wpAny_pyIter_striter_ascii st h
section
variable {X:Cx} {tg:Expr}
def VO (tl:TE):TI:=fun σ H R=>tl σ H fun v H1=>∃ x:Str,v = .str x /\ x.cps.all (· < 128) = true /\ R (Yn x) H1
theorem Xp {l:Expr} {tl:TE} (hl:PE X l tl):PI X tg l (VO tl):=by
 intro pins s σ H R I h
 refine thn (hl pins s σ H _ I h) fun v s1 ⟨y,H1,I1,r1,q1⟩=>?_
 obtain ⟨x,rfl,ha,q⟩:=q1
 obtain ⟨t,rfl⟩:=r1
 refine wpAny_pyIter_ascii ha ?_
 refine ⟨s1.heap.objs.size,[s1.heap.objs.size],_,_,H1,rfl,I1.kept (t':=s1.toks) fun b o e=>Heap.get?_push_of_some _ e,jH _ x t,⟨_,Heap.get?_push_size _ rfl,rfl,rfl⟩,fun b hb=>?_,q⟩
 have e:b = s1.heap.objs.size:=by simpa using hb
 subst e
 exact I1.fpOk (Nat.le_refl _) (I1.hok.fresh (Nat.le_refl _))
end
theorem Yo {x:Str} {g:TG} {tb:TS} {D:Ends} {σ:L2.St} {H:Hp} (Pv:Nat -> L2.St -> Hp -> Prop) (h0:Pv 0 σ H)
  (hs:∀ i c σ H,x.cps[i]? = some c -> Pv i σ H -> g (.str ⟨#[c]⟩) σ H fun σ2 H2=>tb { D with nx:=Pv (i + 1),ct:=Pv (i + 1),bk:=D.nx } σ2 H2) (hd:∀ σ H,Pv x.cps.size σ H -> D.nx σ H) :
  ∃ W:Nat -> Nat -> L2.St -> Hp -> Prop,(∃ m,W 0 m σ H) /\ ∀ i m σ H,W i m σ H →
   ((Yn x).stop i H /\ D.nx σ H) \/ ((Yn x).go i H /\ ∃ N:L2.St -> Hp -> Prop,(∀ σ' H',N σ' H' -> ∃ m',m' < m /\ W (i + 1) m' σ' H') /\ ∀ y H',(Yn x).yld i H y H' -> g y σ H' fun σ2 H2=>tb { D with nx:=N,ct:=N,bk:=D.nx } σ2 H2):=by
 refine ⟨fun i m σ H=>m = x.cps.size - i /\ i <= x.cps.size /\ Pv i σ H,⟨x.cps.size,by simp,Nat.zero_le _,h0⟩,?_⟩
 rintro i m σ H ⟨rfl,hi,p⟩
 by_cases hlt:i < x.cps.size
 ·refine .inr ⟨hlt,Pv (i + 1),fun σ' H' p'=>⟨x.cps.size - (i + 1),by omega,rfl,hlt,p'⟩,fun y H' z=>?_⟩
  obtain ⟨rfl,c,hc,rfl⟩:=z
  exact hs i c σ _ hc p
 ·have e:i = x.cps.size:=by omega
  subst e
  exact .inl ⟨rfl,hd σ H p⟩
abbrev OKey:=Option Key
def okV:OKey -> V
 | none=>.non
 | some k=>kV k
def DcO (a:Addr) (kvs:List (V × V)):HO:=.ext fun h=>∃ o es n,h.get? a = some o /\ o.cls = .type "dict" /\ o.data = .dict es n /\ Vals (kvs.map (·.1)) (es.toList.map (·.key)) /\ Vals (kvs.map (·.2)) (es.toList.map (·.val))
mutual
/-- nested data,whose lists and dicts are none of m -/
inductive Od (K:FG7) (m:List Addr) (H:Hp):V -> PyData -> Prop
 | non:Od K m H .non .none
 | bl (b:Bool):Od K m H (.bl b) (.bool b)
 | int (i:Int):Od K m H (.int i) (.int i)
 | str (x:Str):Od K m H (.str x) (.str x)
 | tup {a:Addr} {xs:List V} {ds:List PyData}:SqT K H a xs -> Ods K m H xs ds -> Od K m H (.ref a) (.tuple ds)
 | lst {a:Addr} {xs:List V} {ds:List PyData}:H a = some (.lst xs) -> a ∉ m -> a ≠ sysModules -> Ods K m H xs ds -> Od K m H (.ref a) (.list ds)
 | dct {a:Addr} {kvs:List (V × V)} {ds:List (PyData × PyData)}:H a = some (DcO a kvs) -> a ∉ m -> a ≠ sysModules -> Ods K m H (kvs.map (·.1)) (ds.map (·.1)) -> Ods K m H (kvs.map (·.2)) (ds.map (·.2)) -> Od K m H (.ref a) (.dict ds)
inductive Ods (K:FG7) (m:List Addr) (H:Hp):List V -> List PyData -> Prop
 | nil:Ods K m H [] []
 | cons {x:V} {xs:List V} {d:PyData} {ds:List PyData}:Od K m H x d -> Ods K m H xs ds -> Ods K m H (x :: xs) (d :: ds)
end
section
variable {K:FG7} {m:List Addr} {H H':Hp}
mutual
theorem Od.grow (g:Grow m H H'):∀ {x:V} {d:PyData},Od K m H x d -> Od K m H' x d
 | _,_,.non=>.non
 | _,_,.bl b=>.bl b
 | _,_,.int i=>.int i
 | _,_,.str x=>.str x
 | _,_,.tup h t=>.tup (g.sqT h) (Ods.grow g t)
 | _,_,.lst h n b t=>.lst (g.keep _ _ n h) n b (Ods.grow g t)
 | _,_,.dct h n b t u=>.dct (g.keep _ _ n h) n b (Ods.grow g t) (Ods.grow g u)
theorem Ods.grow (g:Grow m H H'):∀ {xs:List V} {ds:List PyData},Ods K m H xs ds -> Ods K m H' xs ds
 | _,_,.nil=>.nil
 | _,_,.cons h t=>.cons (Od.grow g h) (Ods.grow g t)
end
theorem Ods.length:∀ {xs:List V} {ds:List PyData},Ods K m H xs ds -> xs.length = ds.length
 | _,_,.nil=>rfl
 | _,_,.cons _ t=>congrArg (· + 1) (Ods.length t)
theorem Ods.get:∀ {xs:List V} {ds:List PyData} {i:Nat} {x:V},Ods K m H xs ds -> xs[i]? = some x -> ∃ d,ds[i]? = some d /\ Od K m H x d
 | _,_,_,_,.nil,e=>by simp at e
 | _,_,0,_,.cons h _,e=>by simp at e; subst e; exact ⟨_,rfl,h⟩
 | _,_,i + 1,x,.cons _ t,e=>Ods.get (i:=i) t (by simpa using e)
theorem Ods.at:∀ {xs:List V} {ds:List PyData} {i:Nat} {d:PyData},Ods K m H xs ds -> ds[i]? = some d -> ∃ x,xs[i]? = some x /\ Od K m H x d
 | _,_,_,_,.nil,e=>by simp at e
 | _,_,0,_,.cons h _,e=>by simp at e; subst e; exact ⟨_,rfl,h⟩
 | _,_,i + 1,x,.cons _ t,e=>Ods.at (i:=i) t (by simpa using e)
theorem Ods.append:∀ {xs ys:List V} {ds es:List PyData},Ods K m H xs ds -> Ods K m H ys es -> Ods K m H (xs ++ ys) (ds ++ es)
 | _,_,_,_,.nil,s=>s
 | _,_,_,_,.cons r t,s=>.cons r (Ods.append t s)
theorem Ods.take:∀ {xs:List V} {ds:List PyData} (n:Nat),Ods K m H xs ds -> Ods K m H (xs.take n) (ds.take n)
 | _,_,0,_=>.nil
 | _,_,_ + 1,.nil=>.nil
 | _,_,n + 1,.cons r t=>.cons r (Ods.take n t)
theorem Ods.drop:∀ {xs:List V} {ds:List PyData} (n:Nat),Ods K m H xs ds -> Ods K m H (xs.drop n) (ds.drop n)
 | _,_,0,r=>r
 | _,_,_ + 1,.nil=>.nil
 | _,_,n + 1,.cons _ t=>Ods.drop n t
end
section
variable {X:Cx} {pins:List (Addr × Obj)} {σ:L2.St} {H:Hp} {s:Shared} {m:List Addr}
theorem DcO.at (I:Inv X pins σ H s) {a:Addr} {kvs:List (V × V)} (h:H a = some (DcO a kvs)):∃ o es n,s.heap.get? a = some o /\ o.cls = .type "dict" /\ o.data = .dict es n /\ Vals (kvs.map (·.1)) (es.toList.map (·.key)) /\ Vals (kvs.map (·.2)) (es.toList.map (·.val)):=(I.hok a _ h).1
mutual
theorem Od.reads (I:Inv X pins σ H s):∀ {x:V} {d:PyData} {u:Value},Od X.K m H x d -> RelV x u -> ∃ as,Reads s.heap u d as /\ sysModules ∉ as
 | _,_,u,.non,r=>by
  cases (show u = Value.none from r)
  exact ⟨_,.none,by simp⟩
 | _,_,u,.bl b,r=>by
  cases (show u = Value.bool b from r)
  exact ⟨_,.bool b,by simp⟩
 | _,_,u,.int i,r=>by
  obtain ⟨t,rfl⟩:=r
  exact ⟨_,.int i t,by simp⟩
 | _,_,u,.str x,r=>by
  obtain ⟨t,rfl⟩:=r
  exact ⟨_,.str x t,by simp⟩
 | _,_,u,.tup (a:=a) hs hd,r=>by
  cases (show u = Value.ref a from r)
  obtain ⟨its,r1,⟨o,e1,e2,n,e3⟩,_⟩:=I.tuple hs
  obtain ⟨as,q,ns⟩:=Ods.reads I hd r1
  exact ⟨_,.tuple e1 e2 e3 q,ns⟩
 | _,_,u,.lst (a:=a) hs _ hb hd,r=>by
  cases (show u = Value.ref a from r)
  obtain ⟨its,r1,⟨o,n,e1,e2,_,e3⟩,_⟩:=I.list (SqL.of hs)
  obtain ⟨as,q,ns⟩:=Ods.reads I hd r1
  exact ⟨_,.list e1 e2 e3 q,fun z=>(List.mem_cons.mp z).elim (fun e=>hb e.symm) ns⟩
 | _,_,u,.dct (a:=a) hs _ hb h1 h2,r=>by
  cases (show u = Value.ref a from r)
  obtain ⟨o,es,n,e1,e2,e3,v1,v2⟩:=DcO.at I hs
  obtain ⟨as,q1,n1⟩:=Ods.reads I h1 v1
  obtain ⟨bs,q2,n2⟩:=Ods.reads I h2 v2
  refine ⟨_,.dict e1 e2 e3 q1 q2,fun z=>?_⟩
  rcases List.mem_append.mp z with z | z
  ·exact (List.mem_cons.mp z).elim (fun e=>hb e.symm) n1
  ·exact n2 z
theorem Ods.reads (I:Inv X pins σ H s):∀ {xs:List V} {ds:List PyData} {us:List Value},Ods X.K m H xs ds -> Vals xs us -> ∃ as,ReadsAll s.heap us ds as /\ sysModules ∉ as
 | _,_,_,.nil,.nil=>⟨_,.nil,by simp⟩
 | _,_,_,.cons h t,.cons r rs=>by
  obtain ⟨as,q,n1⟩:=Od.reads I h r
  obtain ⟨bs,q2,n2⟩:=Ods.reads I t rs
  exact ⟨_,.cons q q2,fun z=>(List.mem_append.mp z).elim n1 n2⟩
end
end
section
variable {K:FG7} {m m':List Addr} {H:Hp}
mutual
theorem Od.more {a:Addr} (h:H a = none):∀ {x:V} {d:PyData},Od K m H x d -> Od K (a :: m) H x d
 | _,_,.non=>.non
 | _,_,.bl b=>.bl b
 | _,_,.int i=>.int i
 | _,_,.str x=>.str x
 | _,_,.tup q t=>.tup q (Ods.more h t)
 | _,_,.lst q n b t=>.lst q (fun z=>(List.mem_cons.mp z).elim (fun e=>by rw [e,h] at q; cases q) n) b (Ods.more h t)
 | _,_,.dct q n b t u=>.dct q (fun z=>(List.mem_cons.mp z).elim (fun e=>by rw [e,h] at q; cases q) n) b (Ods.more h t) (Ods.more h u)
theorem Ods.more {a:Addr} (h:H a = none):∀ {xs:List V} {ds:List PyData},Ods K m H xs ds -> Ods K (a :: m) H xs ds
 | _,_,.nil=>.nil
 | _,_,.cons q t=>.cons (Od.more h q) (Ods.more h t)
end
mutual
theorem Od.less (h:∀ b ∈ m',b ∈ m):∀ {x:V} {d:PyData},Od K m H x d -> Od K m' H x d
 | _,_,.non=>.non
 | _,_,.bl b=>.bl b
 | _,_,.int i=>.int i
 | _,_,.str x=>.str x
 | _,_,.tup q t=>.tup q (Ods.less h t)
 | _,_,.lst q n b t=>.lst q (fun z=>n (h _ z)) b (Ods.less h t)
 | _,_,.dct q n b t u=>.dct q (fun z=>n (h _ z)) b (Ods.less h t) (Ods.less h u)
theorem Ods.less (h:∀ b ∈ m',b ∈ m):∀ {xs:List V} {ds:List PyData},Ods K m H xs ds -> Ods K m' H xs ds
 | _,_,.nil=>.nil
 | _,_,.cons q t=>.cons (Od.less h q) (Ods.less h t)
end
end
structure DR where
 p:List Addr -> L2.St -> Hp -> Prop
 mono:∀ {m σ H H'},Grow [] H H' -> p m σ H -> p m σ H'
 more:∀ {a m σ H},H a = none -> p m σ H -> p (a :: m) σ H
def DR.t:DR:=⟨fun _ _ _=>True,fun _ _=>trivial,fun _ _=>trivial⟩
def DR.and (a b:DR):DR:=⟨fun m σ H=>a.p m σ H /\ b.p m σ H,fun g h=>⟨a.mono g h.1,b.mono g h.2⟩,fun g h=>⟨a.more g h.1,b.more g h.2⟩⟩
def KxR (p:OKey × V) (q:Value × Value):Prop:=RelV (okV p.1) q.1 /\ RelV p.2 q.2
structure PO2 (X:Cx) (ks:List (Option Expr)) (vs:List Expr) (R:DR) (kds:List (OKey × PyData)):Prop where
 run:∀ (pos:Pos) (pins:List (Addr × Obj)) (s:Shared) (σ:L2.St) (H:Hp) (m:List Addr) (Q:List (Value × Value) -> Shared -> Prop),Inv X pins σ H s -> R.p m σ H -> (∀ b ∈ m,H b ≠ none) →
  (∀ r s' H' (kxs:List (OKey × V)),Inv X pins σ H' s' -> Grow [] H H' -> Paired KxR kxs r -> kxs.map (·.1) = kds.map (·.1) -> Ods X.K m H' (kxs.map (·.2)) (kds.map (·.2)) -> Q r s') →
  wpAny (model X.prog X.w) X.A (evalPairs (pairTrees ks vs X.env pos)) Q X.xe s
mutual
def leD (B:Int):PyData -> Bool
 | .int i=>decide (-B <= i) && decide (i <= B)
 | .list xs | .tuple xs=>leDs B xs
 | .dict kvs=>leDk B kvs
 | .none | .bool _ | .str _=>true
def leDs (B:Int):List PyData -> Bool
 | []=>true
 | x :: xs=>leD B x && leDs B xs
def leDk (B:Int):List (PyData × PyData) -> Bool
 | []=>true
 | (k,v) :: r=>leD B k && leD B v && leDk B r
end
mutual
def wtO:PyData -> Nat
 | .list xs | .tuple xs=>wtOs xs + 3
 | .dict kvs=>wtOk kvs + 3
 | .int _=>1921
 | .none | .bool _=>5
 | .str x=>(reprText x).length
def wtOs:List PyData -> Nat
 | []=>0
 | x :: xs=>wtO x + 2 + wtOs xs
def wtOk:List (PyData × PyData) -> Nat
 | []=>0
 | (k,v) :: r=>wtO k + wtO v + 4 + wtOk r
end
mutual
theorem leD_mono {B B':Int} (h:B <= B'):∀ {d:PyData},leD B d = true -> leD B' d = true
 | .int i,z=>by
  simp only [leD,Bool.and_eq_true,decide_eq_true_eq] at z ⊢
  omega
 | .list xs,z=>leDs_mono h (xs:=xs) z
 | .tuple xs,z=>leDs_mono h (xs:=xs) z
 | .dict kvs,z=>leDk_mono h (kvs:=kvs) z
 | .none,_=>rfl
 | .bool _,_=>rfl
 | .str _,_=>rfl
theorem leDs_mono {B B':Int} (h:B <= B'):∀ {xs:List PyData},leDs B xs = true -> leDs B' xs = true
 | [],_=>rfl
 | x :: xs,z=>by
  have z':=Bool.and_eq_true_iff.mp (show (leD B x && leDs B xs) = true from z)
  show (leD B' x && leDs B' xs) = true
  rw [leD_mono h z'.1,leDs_mono h z'.2]; rfl
theorem leDk_mono {B B':Int} (h:B <= B'):∀ {kvs:List (PyData × PyData)},leDk B kvs = true -> leDk B' kvs = true
 | [],_=>rfl
 | (k,v) :: r,z=>by
  have z':=Bool.and_eq_true_iff.mp (show (leD B k && leD B v && leDk B r) = true from z)
  have z'':=Bool.and_eq_true_iff.mp z'.1
  show (leD B' k && leD B' v && leDk B' r) = true
  rw [leD_mono h z''.1,leD_mono h z''.2,leDk_mono h z'.2]; rfl
end
theorem xz {B:Int}:∀ {xs:List PyData},leDs B xs = true ↔ ∀ x ∈ xs,leD B x = true
 | []=>by simp [leDs]
 | x :: xs=>by simp [leDs,xz (xs:=xs)]
theorem vK:∀ {xs ys:List PyData},wtOs (xs ++ ys) = wtOs xs + wtOs ys
 | [],ys=>by simp [wtOs]
 | x :: xs,ys=>by
  show wtO x + 2 + wtOs (xs ++ ys) = wtO x + 2 + wtOs xs + wtOs ys
  rw [vK]; omega
def Bg:Int:=2 ^ 1000
mutual
theorem showable_le {B:Int} (hB:B <= Bg):∀ {d:PyData},leD B d = true -> d.showable = true
 | .int i,z=>by
  simp only [leD,Bool.and_eq_true,decide_eq_true_eq] at z
  have hb:Bg = 2 ^ 1000:=rfl
  show decide (i.natAbs.log2 < 1920) = true
  refine decide_eq_true ?_
  by_cases h0:i.natAbs = 0
  ·rw [h0]; decide
  ·rw [Nat.log2_lt h0]
   have h1:(i.natAbs:Int) <= Bg:=by omega
   have h2:i.natAbs <= 2 ^ 1000:=by rw [hb] at h1; exact_mod_cast h1
   exact Nat.lt_of_le_of_lt h2 (Nat.pow_lt_pow_right (by decide) (by decide))
 | .list xs,z=>showableAll_le hB (xs:=xs) z
 | .tuple xs,z=>showableAll_le hB (xs:=xs) z
 | .dict kvs,z=>showableKv_le hB (kvs:=kvs) z
 | .none,_=>rfl
 | .bool _,_=>rfl
 | .str _,_=>rfl
theorem showableAll_le {B:Int} (hB:B <= Bg):∀ {xs:List PyData},leDs B xs = true -> PyData.showableAll xs = true
 | [],_=>rfl
 | x :: xs,z=>by
  have z':=Bool.and_eq_true_iff.mp (show (leD B x && leDs B xs) = true from z)
  show (x.showable && PyData.showableAll xs) = true
  rw [showable_le hB z'.1,showableAll_le hB z'.2]; rfl
theorem showableKv_le {B:Int} (hB:B <= Bg):∀ {kvs:List (PyData × PyData)},leDk B kvs = true -> PyData.showableKv kvs = true
 | [],_=>rfl
 | (k,v) :: r,z=>by
  have z':=Bool.and_eq_true_iff.mp (show (leD B k && leD B v && leDk B r) = true from z)
  have z'':=Bool.and_eq_true_iff.mp z'.1
  show (k.showable && v.showable && PyData.showableKv r) = true
  rw [showable_le hB z''.1,showable_le hB z''.2,showableKv_le hB z'.2]; rfl
end
mutual
theorem shown_le:∀ {d:PyData},d.showable = true -> d.shown.length <= wtO d
 | .none,_=>by decide
 | .bool b,_=>by cases b <;> decide
 | .int i,h=>int_text_len_1921 (of_decide_eq_true h)
 | .str x,_=>Nat.le_refl _
 | .list xs,h=>by
  have q:=shown_les (xs:=xs) h
  have l:=listText_len_le (PyData.shownAll xs)
  show (listText (PyData.shownAll xs)).length <= wtOs xs + 3
  omega
 | .tuple xs,h=>by
  have q:=shown_les (xs:=xs) h
  have l:=tupleText_len_le (PyData.shownAll xs)
  show (tupleText (PyData.shownAll xs)).length <= wtOs xs + 3
  omega
 | .dict kvs,h=>by
  have q:=shown_lek (kvs:=kvs) h
  have l:=dictText_len_le (PyData.shownKv kvs)
  show (dictText (PyData.shownKv kvs)).length <= wtOk kvs + 3
  omega
theorem shown_les:∀ {xs:List PyData},PyData.showableAll xs = true -> ((PyData.shownAll xs).map (·.length)).sum + 2 * (PyData.shownAll xs).length <= wtOs xs
 | [],_=>by decide
 | x :: xs,h=>by
  have h':(x.showable && PyData.showableAll xs) = true:=h
  rw [Bool.and_eq_true] at h'
  have q1:=shown_le (d:=x) h'.1
  have q2:=shown_les (xs:=xs) h'.2
  show (((x.shown :: PyData.shownAll xs).map (·.length)).sum + 2 * (x.shown :: PyData.shownAll xs).length) <= wtO x + 2 + wtOs xs
  rw [List.map_cons,List.sum_cons,List.length_cons]
  omega
theorem shown_lek:∀ {kvs:List (PyData × PyData)},PyData.showableKv kvs = true -> ((PyData.shownKv kvs).map (·.length)).sum + 2 * (PyData.shownKv kvs).length <= wtOk kvs
 | [],_=>by decide
 | (k,v) :: r,h=>by
  have h':(k.showable && v.showable && PyData.showableKv r) = true:=h
  rw [Bool.and_eq_true,Bool.and_eq_true] at h'
  have q1:=shown_le (d:=k) h'.1.1
  have q2:=shown_le (d:=v) h'.1.2
  have q3:=shown_lek (kvs:=r) h'.2
  have e:(k.shown ++ ": " ++ v.shown).length = k.shown.length + 2 + v.shown.length:=by
   rw [strLen_append,strLen_append]; rfl
  show ((((k.shown ++ ": " ++ v.shown) :: PyData.shownKv r).map (·.length)).sum + 2 * ((k.shown ++ ": " ++ v.shown) :: PyData.shownKv r).length) <= wtO k + wtO v + 4 + wtOk r
  rw [List.map_cons,List.sum_cons,List.length_cons,e]
  omega
end
structure GdS (n k w:Nat) (ds:List PyData):Prop where
 le:leDs (10 ^ 30 + n) ds = true
 dp:PyData.depthAll ds <= k
 wt:wtOs ds <= w
structure GdD (n k w:Nat) (d:PyData):Prop where
 le:leD (10 ^ 30 + n) d = true
 dp:d.depth <= k
 wt:wtO d <= w
theorem rn {B:Int} {a b:List PyData} (ha:leDs B a = true) (hb:leDs B b = true):leDs B (a ++ b) = true:=xz.mpr fun x hx=>(List.mem_append.mp hx).elim (xz.mp ha x) (xz.mp hb x)
theorem yk {k:Nat}:∀ {xs:List PyData},PyData.depthAll xs <= k ↔ ∀ x ∈ xs,x.depth <= k
 | []=>by simp [PyData.depthAll]
 | x :: xs=>by
  show max x.depth (PyData.depthAll xs) <= k ↔ _
  rw [Nat.max_le,yk (xs:=xs)]
  simp
theorem GdS.append {n k w w':Nat} {a b:List PyData} (ha:GdS n k w a) (hb:GdS n k w' b):GdS n k (w + w') (a ++ b) :=
 ⟨rn ha.le hb.le,yk.mpr fun x hx=>(List.mem_append.mp hx).elim (yk.mp ha.dp x) (yk.mp hb.dp x),by rw [vK]; have:=ha.wt; have:=hb.wt; omega⟩
theorem GdS.sub {n k w:Nat} {a b:List PyData} (ha:GdS n k w a) (h:∀ x ∈ b,x ∈ a) (hw:wtOs b <= wtOs a):GdS n k w b :=
 ⟨xz.mpr fun x hx=>xz.mp ha.le x (h x hx),yk.mpr fun x hx=>yk.mp ha.dp x (h x hx),Nat.le_trans hw ha.wt⟩
theorem GdD.one {n k w:Nat} {d:PyData} (h:GdD n k w d):GdS n k (w + 2) [d]:=⟨by show (leD _ d && true) = true; rw [h.le]; rfl,by show max d.depth 0 <= k; have:=h.dp; omega,by show wtO d + 2 + 0 <= w + 2; have:=h.wt; omega⟩
theorem GdS.tup {n k w:Nat} {ds:List PyData} (h:GdS n k w ds):GdD n (k + 1) (w + 3) (.tuple ds):=⟨h.le,Nat.succ_le_succ h.dp,Nat.add_le_add_right h.wt 3⟩
theorem GdS.lst {n k w:Nat} {ds:List PyData} (h:GdS n k w ds):GdD n (k + 1) (w + 3) (.list ds):=⟨h.le,Nat.succ_le_succ h.dp,Nat.add_le_add_right h.wt 3⟩
theorem GdS.mono {n n' k k' w w':Nat} {ds:List PyData} (h:GdS n k w ds) (h1:n <= n') (h2:k <= k') (h3:w <= w'):GdS n' k' w' ds:=⟨leDs_mono (by omega) h.le,Nat.le_trans h.dp h2,Nat.le_trans h.wt h3⟩
theorem GdD.mono {n n' k k' w w':Nat} {d:PyData} (h:GdD n k w d) (h1:n <= n') (h2:k <= k') (h3:w <= w'):GdD n' k' w' d:=⟨leD_mono (by omega) h.le,Nat.le_trans h.dp h2,Nat.le_trans h.wt h3⟩
section
variable {X:Cx}
theorem Yp:yI X (.type "int") (fun xs H Q=>∃ z n,xs = [.str z] /\ PySem.intText? z = some n /\ z.length <= 640 /\ Q (.int n) H):=by
 intro pins s σ H xs us Q I r h
 obtain ⟨z,n,rfl,hn,hz,q⟩:=h
 obtain ⟨u,rfl,t,rfl⟩:=wL r
 exact PySem.W.KIN.call_text hn hz ⟨.int n,H,I.tok _,⟨_,rfl⟩,q⟩
end
def ss (K:FG7):Sp:=sp4 fun x y z u H Q=>∃ k a g s:Nat,x = .int k /\ y = .int a /\ z = .int g /\ u = .int s /\ k <= 4 /\ a < 2 ^ k /\ g < 2 ^ k /\ s <= k /\ Q (.int (lN k a g s)) H
def qS (K:FG7):Sp:=sp3 fun x y z H Q=>∃ (k m:Nat) (ks:List Ask) (j:Bool),x = .int k /\ k <= 4 /\ yR K H y ks /\ ks.length <= 16 /\ RndOk k m ks /\ m <= 16 /\ z = .bl j /\ ∀ y H',Grow [] H H' -> yf K H' y (if j then jlR k ks m else plR k ks) -> Q y H'
def qT (K:FG7):Sp:=sp3 fun x y z H Q=>∃ (k m:Nat) (ks:List Ask),x = .int k /\ k <= 4 /\ yR K H y ks /\ ks.length <= 16 /\ RndOk k m ks /\ m <= 16 /\ yf K H z (jlR k ks m) /\ ∀ H',Grow [] H H' -> Q (.bl true) H'
def vL (k a g s i:Nat):Nat:=(if i < s then g else a) / 2 ^ (k - i - 1) % 2
def Xq (k a g s:Nat):Nat -> Nat
 | 0=>0
 | i + 1=>2 * Xq k a g s i + vL k a g s i
theorem Xr {k a g s:Nat} (k4:k <= 4) (ha:a < 2 ^ k) (hg:g < 2 ^ k) (sk:s <= k):Xq k a g s k = lN k a g s:=by
 have key:∀ k:Fin 5,∀ a:Fin 16,∀ g:Fin 16,∀ s:Fin 5,a.val < 2 ^ k.val -> g.val < 2 ^ k.val -> s.val <= k.val -> Xq k.val a.val g.val s.val k.val = lN k.val a.val g.val s.val:=by decide +kernel
 have p16:=z8 k4
 exact key ⟨k,by omega⟩ ⟨a,by omega⟩ ⟨g,by omega⟩ ⟨s,by omega⟩ ha hg sk
theorem wb {k a g s i:Nat}:vL k a g s i < 2:=Nat.mod_lt _ (by decide)
def xO (k a g s:Nat) (n:Nat):Str:=⟨((List.range n).map fun i=>vL k a g s i + 48).toArray⟩
theorem rq {k a g s n:Nat}:(xO k a g s n).cps.size = n:=by unfold xO; simp
theorem jI {k a g s n:Nat}:xO k a g s (n + 1) = xO k a g s n ++ (toString ((vL k a g s n:Nat):Int):String):=by
 have h:vL k a g s n < 2:=wb
 unfold xO
 rw [List.range_succ,List.map_append]
 have e:∀ b:Nat,b < 2 -> (Str.ofString (toString ((b:Nat):Int))) = ⟨#[b + 48]⟩:=by
  intro b hb
  match b,hb with
  | 0,_=>rfl
  | 1,_=>rfl
 show _ = (⟨_⟩:Str) ++ Str.ofString _
 rw [e _ h]
 show (⟨_⟩:Str) = ⟨_⟩
 simp
theorem Yq {b:Nat} (hb:b < 2):Str.ofString (toString ((b:Nat):Int)) = ⟨#[b + 48]⟩:=by
 match b,hb with
 | 0,_=>rfl
 | 1,_=>rfl
theorem VP {k a g s j:Nat} (h:j <= 4):(xO k a g s j).length + (Str.ofString (toString ((vL k a g s j:Nat):Int))).length <= sizeLine:=by
 rw [Yq wb,sizeLine_eq]
 have e:(xO k a g s j).length = j:=rq
 have e2:(⟨#[vL k a g s j + 48]⟩:Str).length = 1:=rfl
 rw [e,e2]; omega
theorem VQ {k a g s j:Nat}:((vL k a g s j:Nat):Int).natAbs.log2 < 1920:=by
 have:=wb (k:=k) (a:=a) (g:=g) (s:=s) (i:=j)
 exact Nat.lt_of_le_of_lt (Nat.log2_le_self _) (by simp; omega)
theorem Yr {k a g s n i:Nat} (hi:i < n):(xO k a g s n).cps[i]? = some (vL k a g s i + 48):=by
 unfold xO; simp [hi]
theorem um {k a g s n:Nat}:(xO k a g s n).cps.size = n:=by unfold xO; simp
theorem rA {k a g s n:Nat}:(xO k a g s n).cps.all (· < 128) = true:=by
 unfold xO
 simp
 intro i _
 have:=wb (k:=k) (a:=a) (g:=g) (s:=s) (i:=i)
 omega
theorem jJ {b:Nat} (h:b < 2):PySem.intText? ⟨#[b + 48]⟩ = some (b:Int):=by
 match b,h with
 | 0,_=>decide +kernel
 | 1,_=>decide +kernel
def yZ (k:Nat) (ks:List Ask) (i s:Nat):List (List V):=(List.range (2 ^ k)).map fun l=>(zV k (ks.take i) s l).map V.int
theorem xA {k i s l:Nat} {ks:List Ask} (hl:l < 2 ^ k):(yZ k ks i s)[l]? = some ((zV k (ks.take i) s l).map V.int):=by
 unfold yZ; rw [List.getElem?_map,List.getElem?_range hl]; rfl
theorem rB {k m i s:Nat} {ks:List Ask} {a:Ask} (R:RndOk k m ks) (k4:k <= 4) (sk:s <= k) (ha:ks[i]? = some a) :
  (yZ k ks i s).set (lN k a.hand.toNat (a.box.toNat % 2 ^ k) s) ((zV k (ks.take i) s (lN k a.hand.toNat (a.box.toNat % 2 ^ k) s)).map V.int ++ [V.int a.box]) = yZ k ks (i + 1) s:=by
 have am:=List.mem_of_getElem? ha
 obtain ⟨ln,eln,hln⟩:=sh R k4 am sk
 have e1:lN k a.hand.toNat (a.box.toNat % 2 ^ k) s = ln:=by unfold lN; rw [eln]; rfl
 rw [e1]
 have et:ks.take (i + 1) = ks.take i ++ [a]:=by rw [List.take_succ,ha]; rfl
 refine List.ext_getElem? fun l=>?_
 by_cases hl:l < 2 ^ k
 ·rw [xA hl,et,jz,eln]
  by_cases c:l = ln
  ·subst c
   rw [List.getElem?_set_self (by unfold yZ; simp; exact hl),if_pos rfl,List.map_append]; rfl
  ·rw [List.getElem?_set_ne (fun z=>c z.symm),xA hl,if_neg (fun z=>c (by omega)),List.append_nil]
 ·rw [List.getElem?_eq_none (by rw [List.length_set]; unfold yZ; simp; omega),List.getElem?_eq_none (by unfold yZ; simp; omega)]
theorem rC {k s:Nat} {ks:List Ask}:yZ k ks 0 s = List.replicate (2 ^ k) []:=by
 unfold yZ
 rw [List.eq_replicate_iff]
 refine ⟨by simp,fun b hb=>?_⟩
 obtain ⟨l,_,rfl⟩:=List.mem_map.mp hb
 simp [zV]
theorem jK {k m s l:Nat} {ks:List Ask} (R:RndOk k m ks) (k4:k <= 4) (sk:s <= k) (hl:l < 2 ^ k):(((zV k ks s l).length:Nat):Int) = ((plR k ks).getD s []).getD l 0:=by
 rw [se]
 unfold plR
 simp [List.getD_eq_getElem?_getD,List.getElem?_range (show s < k + 1 by omega),List.getElem?_range hl]
theorem Ys {k m s l:Nat} {ks:List Ask} {ms:List Int} (R:RndOk k m ks) (k4:k <= 4) (sk:s <= k) (hl:l < 2 ^ k) (hp:ms.Perm (dedI (zV k ks s l))):((ms.length:Nat):Int) = jcB k ks m s l:=by
 rw [wS R k4 sk hl,hp.length_eq]
theorem yA {k s l:Nat} {ks:List Ask}:(zV k ks s l).length <= ks.length:=by
 unfold zV; rw [List.length_map]; exact List.length_filter_le _ _
theorem Xs {k m s l:Nat} {ks:List Ask} (sk:s <= k) (hl:l < 2 ^ k):((jlR k ks m).getD s []).getD l 0 = jcB k ks m s l:=by
 unfold jlR
 simp [List.getD_eq_getElem?_getD,List.getElem?_range (show s < k + 1 by omega),List.getElem?_range hl]
theorem uK (ns:List Int):(dedI ns).length <= ns.length:=by
 have:=firstMet_length_le (fun i=>ns.getD i 0) ns.length
 rwa [vy] at this
theorem Xt {k m s:Nat} {ks:List Ask} {j:Bool} (sk:s <= k):(if j then jlR k ks m else plR k ks)[s]? = some ((List.range (2 ^ k)).map fun l=>((if j then jlR k ks m else plR k ks).getD s []).getD l 0):=by
 have e:∀ T:List (List Int),T.length = k + 1 -> (∀ r ∈ T,r.length = 2 ^ k) -> T[s]? = some ((List.range (2 ^ k)).map fun l=>(T.getD s []).getD l 0):=by
  intro T hT hr
  have hs:s < T.length:=by omega
  have hl:=hr T[s] (List.getElem_mem hs)
  rw [List.getElem?_eq_getElem hs]
  congr 1
  refine List.ext_getElem? fun l=>?_
  rw [List.getD_eq_getElem?_getD,List.getElem?_eq_getElem hs,Option.getD_some,List.getElem?_map]
  by_cases h:l < 2 ^ k
  ·rw [List.getElem?_range h,List.getElem?_eq_getElem (by omega),Option.map_some,List.getD_eq_getElem?_getD,List.getElem?_eq_getElem (by omega)]; rfl
  ·rw [List.getElem?_eq_none (by omega),List.getElem?_eq_none (by simp; omega)]; rfl
 cases j
 ·exact e _ (by simp [plR]) (by intro r hr; simp [plR] at hr; obtain ⟨_,_,rfl⟩:=hr; simp)
 ·exact e _ (by simp [jlR]) (by intro r hr; simp [jlR] at hr; obtain ⟨_,_,rfl⟩:=hr; simp)
theorem WG {k m:Nat} {ks:List Ask} (k4:k <= 4) (m16:m <= 16):Sh (.tuple ((jlR k ks m).map wM)) 160000 3:=by
 refine vE k4 (f:=fun s l=>jcB k ks m s l) (fun s l=>?_) rfl
 show 0 <= jcB k ks m s l /\ jcB k ks m s l <= 1000
 unfold jcB
 have:=List.countP_le_length (p:=fun b=>(lvR k (x6 k) ks s l b).isSome) (l:=List.range m)
 rw [List.length_range] at this
 omega
theorem WH {k:Nat} {ks:List Ask} (k4:k <= 4) (k16:ks.length <= 16):Sh (.tuple ((plR k ks).map wM)) 160000 3:=vE k4 (fun s l=>Y9 (by rw [List.length_map]; exact k16)) rfl
end L3
namespace My
open PySem PySem.Spec PyProof.Rows L2 L3
def top (i:Nat):Stmt:=PySem.Challenge.pw_joinedasks_k45_whole_loads.main.body.getD i (.Pass ⟨0,0,0,0⟩)
section
variable {P:Program} {w:World} {K:FG7} {mg:Str -> Option Value} {base:Heap} {n:Nat} {f:Addr} {fd:FuncData}
theorem ym:FnScope ["_law_k","_law_asks","_law_told","_law_boxes","_law_level","_law_line_here","_law_far","_law_some"] ["_law_k","_law_asks","_law_told"] (ze (top 51)):=⟨rfl,rfl,rfl,by decide +kernel,rfl,by decide +kernel,by decide +kernel⟩
theorem rD (F:Fun K "_law_few" "_law_few" (top 51) f fd) (B:Blt mg)   (g_sorted:mg "sorted" = none) (g_set:mg "set" = none)   :
  FnOk P w K mg base CX0 (n + 1) f fd ["_law_k","_law_asks","_law_told"] (qT K):=by
 refine F.ok ym yE (fun cdv A outer s H vs Q E hr h=>?_)
 obtain ⟨x,y,z,rfl,k,m,ks,rfl,k4,hks,k16,R,m16,hld,q⟩:=h
 refine ⟨_,(zd (zu (i:=3) ym.nd rfl (Or.inr rfl) (zp (ul (P:=P) (w:=w) rfl rfl hr) rfl g_sorted qe (za (zF (sr (K:=K) (P:=P) (w:=w) rfl rfl rfl hr) rfl g_set Wz (za (zT (CSc.of (N':=["_law_hand","_law_box","_law_deed"]) (sub:=[none,none,none]) (ze (top 51)) ["_law_k","_law_asks","_law_told","_law_boxes","_law_level","_law_line_here","_law_far","_law_some"] rfl rfl (by decide +kernel) rfl) rfl (wC (pv 1)) (fun _ _ _ _ _ _=>wu (K:=K) 3 rfl rfl (zo (zj (i:=0) (show (["_law_hand","_law_box","_law_deed"]:List Str).Nodup by decide +kernel) rfl (Or.inl rfl) (Or.inr rfl)) (zo (zj (i:=1) (show (["_law_hand","_law_box","_law_deed"]:List Str).Nodup by decide +kernel) rfl (Or.inl rfl) (Or.inr rfl)) (zo (zj (i:=2) (show (["_law_hand","_law_box","_law_deed"]:List Str).Nodup by decide +kernel) rfl (Or.inl rfl) (Or.inr rfl)) z6))) rfl rfl) (fun _ _ _ _ _ _=>zA) (fun _ _ _ _ _ _=>(pv 1))) zb)) zb))) (zd (yQ PassesOwn.never rfl (zL rfl B.range (za (zq yK (pv 0) zf) zb)) (zj (i:=4) ym.nd rfl (Or.inl rfl)) (zh (yQ PassesOwn.never rfl (zL rfl B.range (za (zq yw zf (pv 0)) zb)) (zj (i:=5) ym.nd rfl (Or.inr rfl)) (zd (zu (i:=6) ym.nd rfl (Or.inr rfl) (zq yw zf (zq yL (pv 0) (pv 4)))) (zd (xX (i:=7) ym.nd rfl rfl (CSc.of (N':=["_law_box","_law_k","_law_far","_law_line_here"]) (sub:=[none,some 0,some 6,some 5]) (ze (top 51)) ["_law_k","_law_asks","_law_told","_law_boxes","_law_level","_law_line_here","_law_far","_law_some"] rfl rfl (by decide +kernel) rfl) rfl (wf (pv 3)) (fun _ _ _ _ _ _=>zj (i:=0) (show (["_law_box","_law_k","_law_far","_law_line_here"]:List Str).Nodup by decide +kernel) rfl (Or.inl rfl)) (fun _ _ _ _ _ _=>(uv (zN ur (zq wQ (zq xQ (pv 0) (zq yw zf (pv 1))) (pv 2)) (zq wQ (pv 3) (pv 2)) (zO _)))) (fun _ _ _ _ _ _=>(pv 0))) (zh (yB (zN YE (z7 yC (z7 yC (pv 2) (pv 4) (fun _ _=>rfl)) (pv 5) (fun _ _=>rfl)) (zp zx rfl B.len wn (za (pv 7) zb)) (zO _)) (zh (zt wJ)) zC))))))) (zh (zt (wg (Ve hr) (z7 yC (pv 2) (pv 0) (fun _ _=>rfl)) (zF zy rfl B.tuple yi (za (qv (CScC.of (N':=["_law_end","_law_boxes","_law_k"]) (sub:=[none,some 3,some 0]) (ze (top 51)) ["_law_k","_law_asks","_law_told","_law_boxes","_law_level","_law_line_here","_law_far","_law_some"] rfl rfl (by decide +kernel) (by decide +kernel) rfl) rfl (zL rfl B.range (za (zq yw zf (pv 0)) zb)) (fun _ _ _ _ _ _=>zj (i:=0) (show (["_law_end","_law_boxes","_law_k"]:List Str).Nodup by decide +kernel) rfl (Or.inr rfl) (Or.inl rfl)) (fun _ _ _ _ _ _=>zA) (fun _ _ _ _ _ _=>(zp (tP (K:=K) rfl) rfl B.len wn (za (zT (CSc.nestO (N2:=["_law_box","_law_k","_law_end"]) (sub2:=[none,some 2,some 0]) (CScC.of (N':=["_law_end","_law_boxes","_law_k"]) (sub:=[none,some 3,some 0]) (ze (top 51)) ["_law_k","_law_asks","_law_told","_law_boxes","_law_level","_law_line_here","_law_far","_law_some"] rfl rfl (by decide +kernel) (by decide +kernel) rfl) rfl (by decide +kernel) rfl) rfl (qp (K:=K) rfl (pv 1)) (fun _ _ _ _ _ _=>zj (i:=0) (show (["_law_box","_law_k","_law_end"]:List Str).Nodup by decide +kernel) rfl (Or.inl rfl)) (fun _ _ _ _ _ _=>(uv (zN ur (zq xQ (pv 0) (zq yw zf (pv 1))) (pv 2) (zO _)))) (fun _ _ _ _ _ _=>(pv 0))) zb)))) zb)) (zO _)))))),?_⟩
 have p16:=z8 k4
 have hpos:0 < 2 ^ k:=Nat.two_pow_pos k
 have e1k:(1:Int) * 2 ^ ((k:Int)).toNat = ((2 ^ k:Nat):Int):=xJ
 obtain ⟨rt,xs,rfl,hrt,hxs⟩:=hks
 have xl:=hxs.len
 refine yv (fun v H'=>∃ (lb:Addr) (bs:List Int),v = .ref lb /\ H' lb = some (.lst (bs.map V.int)) /\ bs.Nodup /\ (∀ x,x ∈ bs ↔ x ∈ ks.map (·.box)) /\ bs.length <= 16 /\ Grow [] H H') (fun Kk hk=>⟨_,rfl,rt,rfl,⟨_,hrt⟩,vz (xs:=xs) (fun i ys σ' H'=>(∃ e0 e1 e2:Option V,σ' = [e0,e1,e2]) /\ Grow [] H H' /\ ys = ((ks.map (·.box)).take i).map V.int) ⟨⟨_,_,_,rfl⟩,Grow.refl _ _,rfl⟩ (fun i ys σ' H' _ z=>z.2.1.sqT hrt) ?_ ?_⟩) ?_
 ·rintro i v ys σ' H4 hv ⟨⟨e0,e1,e2,rfl⟩,g4,rfl⟩
  obtain ⟨a,ha,ra,rd,rfl,hra,hrd⟩:=hxs.get hv
  have hi:=(List.getElem?_eq_some_iff.mp ha).1
  refine ⟨ra,_,rfl,g4.sqT hra,rfl,_,_,rfl,_,_,rfl,_,_,rfl,rfl,_,rfl,by rw [List.length_map]; exact zH (by rw [List.length_take]; omega),⟨_,_,_,rfl⟩,g4,?_⟩
  rw [vH (a:=a.box) (by rw [List.getElem?_map,ha]; rfl),List.map_append]; rfl
 ·rintro ys σ' H4 ⟨_,g4,rfl⟩ l hl
  rw [xl,List.take_of_length_le (by rw [List.length_map]; exact Nat.le_refl _)]
  have g5:=g4.trans (Grow.new (m:=[]) hl (.lst ((ks.map (·.box)).map V.int)))
  have hl5:=zc (H:=H4) (a:=l) (o:=.lst ((ks.map (·.box)).map V.int))
  have d16:=uK (ks.map (·.box))
  rw [List.length_map] at d16
  generalize upd H4 l _ = H5 at g5 hl5 ⊢
  refine ⟨l,ks.map (·.box),rfl,SqL.of hl5,by rw [List.length_map]; omega,fun ls hls=>⟨ls,_,rfl,zc,by omega,fun p ms hp perm _=>hk _ _ ⟨p,ms,rfl,zc,perm.nodup_iff.mpr (Yf _).1,fun x=>perm.mem_iff.trans ((Yf _).2 x),by rw [perm.length_eq]; omega,g5.trans ((Grow.new (m:=[]) hls _).trans (Grow.new (m:=[]) hp _))⟩⟩⟩
 rintro _ H1 ⟨lb,bs,rfl,hlb,nd,hm,b16,g1⟩
 obtain ⟨rz,zs,rfl,hrz,hzs⟩:=hld
 have zl:=hzs.len
 have jl:=qO (k:=k) (m:=m) (ks:=ks)
 have row:∀ s,s <= k -> ∃ rw,zs[s]? = some (.ref rw) /\ SqT K H rw (((List.range (2 ^ k)).map fun l=>jcB k ks m s l).map V.int):=fun s sk=>by
  have e:(jlR k ks m)[s]? = some ((List.range (2 ^ k)).map fun l=>jcB k ks m s l):=by
   unfold jlR
   rw [List.getElem?_map,List.getElem?_range (show s < k + 1 by omega)]; rfl
  obtain ⟨v,hv,rw,rfl,h⟩:=hzs.getR e
  exact ⟨rw,hv,h⟩
 refine ⟨_,rfl,_,_,rfl,rfl,_,rfl,by omega,by omega,ye (fun s σ H'=>∃ (e4 e5 e6 e7:Option V),σ = [some (.int k),some (.ref rt),some (.ref rz),some (.ref lb),e4,e5,e6,e7] /\ Grow [] H1 H') ⟨_,_,_,_,rfl,Grow.refl _ _⟩ ?_ ?_⟩
 ·rintro s σ H2 hs ⟨e4,e5,e6,e7,rfl,g2⟩
  have sk:s <= k:=by omega
  try dsimp only
  refine ⟨_,rfl,_,_,rfl,rfl,⟨by omega,by omega,by decide⟩,_,rfl,by rw [e1k]; omega,by rw [e1k]; omega,ye (fun l σ H'=>∃ (e5 e6 e7:Option V),σ = [some (.int k),some (.ref rt),some (.ref rz),some (.ref lb),some (.int (0 + (s:Int))),e5,e6,e7] /\ Grow [] H1 H') ⟨_,_,_,rfl,g2⟩ ?_ ?_⟩
  ·rintro l σ H3 hl ⟨e5,e6,e7,rfl,g3⟩
   rw [e1k,Int.toNat_natCast] at hl
   have ez:(0:Int) + (s:Int) = s:=Int.zero_add _
   have ef:(1:Int) * 2 ^ ((k:Int) - (0 + (s:Int))).toNat = ((2 ^ (k - s):Nat):Int):=by
    rw [show ((k:Int) - (0 + (s:Int))) = ((k - s:Nat):Int) by omega]; exact xJ
   have fpos:0 < 2 ^ (k - s):=Nat.two_pow_pos _
   have f16:2 ^ (k - s) <= 2 ^ k:=Nat.pow_le_pow_right (by decide) (by omega)
   try dsimp only
   refine yv (fun v H'=>v = .int ((2 ^ (k - s):Nat):Int) /\ H' = H3) (fun Kk hk=>⟨_,rfl,_,rfl,_,_,rfl,rfl,_,_,rfl,rfl,⟨by omega,by omega,by decide⟩,hk _ _ ⟨congrArg V.int ef,rfl⟩⟩) ?_
   rintro _ H3 ⟨rfl,rfl⟩
   have hlb3:=g3.keep _ _ (by simp) hlb
   refine yv (fun v H'=>∃ lc,v = .ref lc /\ H' lc = some (.lst ((fewB k bs s l).map V.int)) /\ Grow [] H3 H') (fun Kk hk=>⟨_,rfl,lb,rfl,⟨_,SqL.of hlb3⟩,Zt (fun b=>decide (b % ((2 ^ k:Nat):Int) / ((2 ^ (k - s):Nat):Int) = (l:Int) / ((2 ^ (k - s):Nat):Int))) (SqL.of hlb3) (by omega) ?_ (fun b H4 R hb g4 kk=>⟨_,rfl,kk _ (Grow.refl _ _)⟩) (fun H4 lc g4 hlc=>hk _ _ ⟨lc,rfl,zc,g4.trans (Grow.new hlc _)⟩)⟩) ?_
   ·rintro b H4 Rk hbm g4 kk
    refine ⟨_,rfl,_,rfl,_,_,rfl,rfl,⟨by omega,by omega,by decide⟩,_,_,rfl,rfl,(by rw [e1k]; omega),_,rfl,_,_,rfl,rfl,⟨by omega,Int.lt_of_le_of_lt (Int.ofNat_le.mpr (Nat.le_trans f16 p16)) (by decide)⟩,_,rfl,_,rfl,_,_,rfl,rfl,⟨by omega,Int.lt_of_le_of_lt (Int.ofNat_le.mpr (Nat.le_trans f16 p16)) (by decide)⟩,rfl,_,rfl,?_⟩
    rw [e1k,Int.zero_add,decide_eq_decide.mpr (show (V.int (b % ((2 ^ k:Nat):Int) / ((2 ^ (k - s):Nat):Int)) = V.int ((l:Int) / ((2 ^ (k - s):Nat):Int))) ↔ _ from ⟨V.int.inj,congrArg V.int⟩)]
    exact kk _ (Grow.refl _ _)
   rintro _ H4 ⟨lc,rfl,hlc,g4⟩
   obtain ⟨rw,hrw,hrow⟩:=row s sk
   have g14:=g1.trans (g3.trans g4)
   refine ⟨_,rfl,_,rfl,rz,zs,_,.ref rw,rfl,rfl,g14.sqT hrz,by rw [ez]; exact ut hrw,_,rfl,rw,_,_,.int (jcB k ks m s l),rfl,rfl,g14.sqT hrow,by rw [Int.zero_add]; exact ut (by rw [List.getElem?_map,List.getElem?_map,List.getElem?_range hl]; rfl),_,rfl,lc,_,rfl,.inl (SqL.of hlc),_,_,rfl,rfl,_,rfl,?_⟩
   rw [List.length_map]
   have few:=Xa R k4 hm sk hl
   refine vS (decide_eq_false (by omega)) ?_
   exact ⟨_,_,_,rfl,g3.trans g4⟩
  ·rintro σ H3 ⟨e5,e6,e7,rfl,g3⟩
   exact ⟨_,_,_,_,rfl,g3⟩
 ·rintro σ H2 ⟨e4,e5,e6,e7,rfl,g2⟩
  obtain ⟨rw,hrw,hrow⟩:=row k (Nat.le_refl k)
  have hlb2:=g2.keep _ _ (by simp) hlb
  have g12:=g1.trans g2
  try dsimp only
  refine ⟨_,rfl,_,rfl,rz,zs,_,.ref rw,rfl,rfl,g12.sqT hrz,ut hrw,_,rfl,_,_,rfl,rfl,⟨by omega,by omega,by decide⟩,_,rfl,by rw [e1k]; omega,by rw [e1k]; omega,xU (fun i ys H'=>Grow [] H2 H' /\ ys = ((List.range i).map fun l=>jcB k ks m k l).map V.int) ⟨Grow.refl _ _,rfl⟩ ?_ ?_⟩
  ·rintro i ys H3 hi ⟨g3,rfl⟩
   rw [e1k,Int.toNat_natCast] at hi
   have hlb3:=g3.keep _ _ (by simp) hlb2
   refine ⟨_,rfl,lb,rfl,⟨_,SqL.of hlb3⟩,Zt (fun b=>decide (b % ((2 ^ k:Nat):Int) = (i:Int))) (SqL.of hlb3) (by omega) ?_ (fun b H4 R hb g4 kk=>⟨_,rfl,kk _ (Grow.refl _ _)⟩) (fun H4 lc g4 hlc=>?_)⟩
   ·rintro b H4 Rk hbm g4 kk
    refine ⟨_,rfl,_,rfl,_,_,rfl,rfl,⟨by omega,by omega,by decide⟩,_,_,rfl,rfl,(by rw [e1k]; omega),_,rfl,rfl,_,rfl,?_⟩
    rw [e1k,Int.zero_add,decide_eq_decide.mpr (show (V.int (b % ((2 ^ k:Nat):Int)) = V.int (i:Int)) ↔ _ from ⟨V.int.inj,congrArg V.int⟩)]
    exact kk _ (Grow.refl _ _)
   refine ⟨lc,_,rfl,.inl (SqL.of zc),by rw [List.length_map,List.length_map,List.length_range]; exact zH (by omega),g3.trans (g4.trans (Grow.new hlc _)),?_⟩
   rw [List.range_succ,List.map_append,List.map_append,List.map_cons,List.map_nil,List.map_cons,List.map_nil,Xb R k4 nd hm hi,List.length_map]
  ·rintro ys H3 ⟨g3,rfl⟩ l3 hl3
   rw [e1k,Int.toNat_natCast] at *
   refine ⟨l3,_,rfl,.inl ⟨SqL.of zc,fun r3 hr3=>?_⟩⟩
   have ga:=g3.trans ((Grow.new (m:=[]) hl3 (.lst (((List.range (2 ^ k)).map fun l=>jcB k ks m k l).map V.int))).trans (Grow.new (m:=[]) hr3 (.tup (((List.range (2 ^ k)).map fun l=>jcB k ks m k l).map V.int))))
   refine ⟨rw,r3,_,_,rfl,rfl,(g12.trans ga).sqT hrow,SqT.of zc,tK,tK,?_⟩
   rw [if_neg (by decide),tJ,decide_eq_true rfl]
   exact q _ (g12.trans ga)
theorem zI:FnScope ["_law_k","_law_hand","_law_end","_law_level","_law_text","_law_at","_law_number","_law_found","_law_sign"] ["_law_k","_law_hand","_law_end","_law_level"] (ze (top 49)):=⟨rfl,rfl,rfl,by decide +kernel,rfl,by decide +kernel,by decide +kernel⟩
theorem su (F:Fun K "_law_line" "_law_line" (top 49) f fd) (B:Blt mg)      :
  FnOk P w K mg base CX0 (n + 1) f fd ["_law_k","_law_hand","_law_end","_law_level"] (ss K):=by
 refine F.ok zI ve (fun cdv A outer s H vs Q E hr h=>?_)
 obtain ⟨x,y,z,u,rfl,k,a,g,s,rfl,rfl,rfl,rfl,k4,ha,hg,sk,q⟩:=h
 refine ⟨_,(zd (zu (i:=4) zI.nd rfl (Or.inl rfl) WP) (zd (yQ PassesOwn.never rfl (zL rfl B.range (za (pv 0) zb)) (zj (i:=5) zI.nd rfl (Or.inl rfl)) (zd (zu (i:=6) zI.nd rfl (Or.inl rfl) (uq (zN YD (pv 5) (pv 3) (zO _)) (pv 2) (pv 1))) (zh (zu (i:=4) zI.nd rfl (Or.inl rfl) (zq qY (pv 4) (zF uX rfl B.str V4 (za (zq xQ (zq wQ (pv 6) (zq yw zf (zq yL (zq yL (pv 0) (pv 5)) zf))) zf) zb))))))) (zd (zu (i:=7) zI.nd rfl (Or.inl rfl) zf) (zd (yQ PassesOwn.never rfl (Xp (pv 4)) (zj (i:=8) zI.nd rfl (Or.inl rfl)) (zh (zu (i:=7) zI.nd rfl (Or.inl rfl) (zq yK (zq sJ zf (pv 7)) (zF Yp rfl B.int W8 (za (pv 8) zb)))))) (zh (zt (pv 7))))))),?_⟩
 have p16:=z8 k4
 refine XV ?_
 refine ⟨_,rfl,_,rfl,by omega,by omega,ye (fun j σ H'=>∃ (e5 e6:Option V),σ = [some (.int k),some (.int a),some (.int g),some (.int s),some (.str (xO k a g s j)),e5,e6,none,none] /\ H' = H) ⟨_,_,rfl,rfl⟩ ?_ ?_⟩
 ·rintro j σ H7 hj ⟨e5,e6,rfl,rfl⟩
  have hjk:j < k:=by omega
  try dsimp only
  refine yv (fun v H'=>v = .int ((if j < s then g else a:Nat):Int) /\ H' = H7) (fun Kk hk=>?_) ?_
  ·refine ⟨_,rfl,_,rfl,_,_,rfl,rfl,_,rfl,?_⟩
   dsimp only
   by_cases z:j < s
   ·rw [if_pos (by rw [decide_eq_true_eq]; omega)]
    exact ⟨_,rfl,hk _ _ ⟨by rw [if_pos z],rfl⟩⟩
   ·rw [if_neg (by rw [decide_eq_true_eq]; omega)]
    exact ⟨_,rfl,hk _ _ ⟨by rw [if_neg z],rfl⟩⟩
  rintro _ _ ⟨rfl,rfl⟩
  have hd:(2 ^ (k - j - 1):Nat) <= 16:=Nat.le_trans (Nat.pow_le_pow_right (by decide) (by omega:k - j - 1 <= 4)) (by decide)
  have hv:(if j < s then g else a:Nat) < 16:=by split <;> omega
  have key:(((if j < s then g else a:Nat):Int) / (1 * 2 ^ ((k:Int) - (0 + (j:Int)) - 1).toNat)) % 2 = ((vL k a g s j:Nat):Int):=by
   rw [show ((k:Int) - (0 + (j:Int)) - 1).toNat = k - j - 1 by omega,Int.one_mul]
   unfold vL
   push_cast
   rfl
  have cd:Zf ((if j < s then g else a:Nat):Int) (1 * 2 ^ ((k:Int) - (0 + (j:Int)) - 1).toNat):=by
   rw [show ((k:Int) - (0 + (j:Int)) - 1).toNat = k - j - 1 by omega,Int.one_mul]
   have h2:(2:Int) ^ (k - j - 1) = ((2 ^ (k - j - 1):Nat):Int):=by push_cast; rfl
   have h3:0 < 2 ^ (k - j - 1):=Nat.pow_pos (by decide)
   rw [h2]
   exact ⟨by omega,Int.lt_of_le_of_lt (show ((2 ^ (k - j - 1):Nat):Int) <= 16 by omega) (by decide)⟩
  refine ⟨_,rfl,_,rfl,_,rfl,_,rfl,_,_,rfl,rfl,_,_,rfl,rfl,_,_,rfl,rfl,⟨by omega,by omega,by decide⟩,_,_,rfl,rfl,cd,_,_,rfl,rfl,show (0:Int) < 2 by decide,_,rfl,by rw [key]; exact VQ,_,_,rfl,rfl,by rw [key]; exact VP (by omega),?_⟩
  exact ⟨_,_,by rw [jI,← key]; rfl,rfl⟩
 ·rintro σ H7 ⟨e5,e6,rfl,rfl⟩
  rw [Int.toNat_natCast]
  dsimp only
  refine XV ?_
  refine ⟨_,rfl,_,rfl,rA,Yo (fun i σ H'=>∃ e8:Option V,σ = [some (.int k),some (.int a),some (.int g),some (.int s),some (.str (xO k a g s k)),e5,e6,some (.int (Xq k a g s i)),e8] /\ H' = H7) ⟨_,rfl,rfl⟩ ?_ ?_⟩
  ·rintro i c σ H8 hc ⟨e8,rfl,rfl⟩
   have hi:i < k:=by
    rcases Nat.lt_or_ge i k with z | z
    ·exact z
    ·rw [Array.getElem?_eq_none (by rw [um]; exact z)] at hc; cases hc
   rw [Yr hi] at hc
   cases hc
   refine ⟨_,rfl,_,_,rfl,rfl,.of_left (by decide),_,rfl,_,_,rfl,jJ wb,by show 1 <= 640; decide,_,_,rfl,rfl,?_⟩
   exact ⟨_,rfl,rfl⟩
  ·rintro σ H8 ⟨e8,rfl,rfl⟩
   rw [um]
   rw [← Xr k4 ha hg sk] at q
   exact ⟨_,rfl,q⟩
theorem zS:FnScope ["_law_k","_law_asks","_law_are_joined","_law_found","_law_level","_law_row","_law_hand","_law_box","_law_deed"] ["_law_k","_law_asks","_law_are_joined"] (ze (top 50)):=⟨rfl,rfl,rfl,by decide +kernel,rfl,by decide +kernel,by decide +kernel⟩
theorem rE (F:Fun K "_law_due" "_law_due" (top 50) f fd) (B:Blt mg) (qc0:zi P w K mg base n "_law_line" ["_law_k","_law_hand","_law_end","_law_level"] (ss K))  (g_sorted:mg "sorted" = none) (g_set:mg "set" = none)   :
  FnOk P w K mg base CX0 (n + 1) f fd ["_law_k","_law_asks","_law_are_joined"] (qS K):=by
 refine F.ok zS yE (fun cdv A outer s H vs Q E hr h=>?_)
 obtain ⟨x,y,z,rfl,k,m,ks,j,rfl,k4,hks,k16,R,m16,rfl,q⟩:=h
 refine ⟨_,(zd (zu (i:=3) zS.nd rfl (Or.inl rfl) (xE zb)) (zd (yQ PassesOwn.never rfl (zL rfl B.range (za (zq yK (pv 0) zf) zb)) (zj (i:=4) zS.nd rfl (Or.inl rfl)) (zd (xX (i:=5) zS.nd rfl rfl (CSc.of (N':=["_law_line_here"]) (sub:=[none]) (ze (top 50)) ["_law_k","_law_asks","_law_are_joined","_law_found","_law_level","_law_row","_law_hand","_law_box","_law_deed"] rfl rfl (by decide +kernel) rfl) rfl (zL rfl B.range (za (zq yw zf (pv 0)) zb)) (fun _ _ _ _ _ _=>zj (i:=0) (show (["_law_line_here"]:List Str).Nodup by decide +kernel) rfl (Or.inl rfl)) (fun _ _ _ _ _ _=>zA) (fun _ _ _ _ _ _=>(xE zb))) (zd (yQ PassesOwn.never rfl (wC (pv 1)) (xD rfl (zo (zj (i:=6) zS.nd rfl (Or.inl rfl)) (zo (zj (i:=7) zS.nd rfl (Or.inl rfl)) (zo (zj (i:=8) zS.nd rfl (Or.inl rfl)) z6)))) (zh (yt (sI PySem.F.plainAttrs_list PySem.F.slot_list_append PySem.F.type_list_append xa (z7 zW (pv 5) (zg qc0 hr rfl (za (pv 0) (za (pv 6) (za (zq xQ (pv 7) (zq yw zf (pv 0))) (za (pv 4) zb))))) (fun _ _=>rfl)) (za (pv 7) zb))))) (zd (yB (yJ (pv 2)) (zh (xX (i:=5) zS.nd rfl rfl (CSc.of (N':=["_law_some"]) (sub:=[none]) (ze (top 50)) ["_law_k","_law_asks","_law_are_joined","_law_found","_law_level","_law_row","_law_hand","_law_box","_law_deed"] rfl rfl (by decide +kernel) rfl) rfl (wf (pv 5)) (fun _ _ _ _ _ _=>zj (i:=0) (show (["_law_some"]:List Str).Nodup by decide +kernel) rfl (Or.inl rfl)) (fun _ _ _ _ _ _=>zA) (fun _ _ _ _ _ _=>(zp (ul (P:=P) (w:=w) rfl rfl hr) rfl g_sorted qe (za (zF (sr (K:=K) (P:=P) (w:=w) rfl rfl rfl hr) rfl g_set Wz (za (pv 0) zb)) zb))))) zC) (zh (yt (sI PySem.F.plainAttrs_list PySem.F.slot_list_append PySem.F.type_list_append xa (pv 3) (za (zF zy rfl B.tuple yi (za (zT (CSc.of (N':=["_law_some"]) (sub:=[none]) (ze (top 50)) ["_law_k","_law_asks","_law_are_joined","_law_found","_law_level","_law_row","_law_hand","_law_box","_law_deed"] rfl rfl (by decide +kernel) rfl) rfl (wf (pv 5)) (fun _ _ _ _ _ _=>zj (i:=0) (show (["_law_some"]:List Str).Nodup by decide +kernel) rfl (Or.inl rfl)) (fun _ _ _ _ _ _=>zA) (fun _ _ _ _ _ _=>(zp (tP (K:=K) rfl) rfl B.len wn (za (pv 0) zb)))) zb)) zb)))))))) (zh (zt (zF zy rfl B.tuple yi (za (pv 3) zb)))))),?_⟩
 have p16:=z8 k4
 have hpos:0 < 2 ^ k:=Nat.two_pow_pos k
 have e1k:(1:Int) * 2 ^ ((k:Int)).toNat = ((2 ^ k:Nat):Int):=xJ
 obtain ⟨rt,xs,rfl,hrt,hxs⟩:=hks
 have xl:=hxs.len
 obtain ⟨D,hD⟩:∃ D,D = (if j then jlR k ks m else plR k ks):=⟨_,rfl⟩
 rw [← hD] at q
 refine yv (fun v H'=>∃ lf,v = .ref lf /\ H lf = none /\ H' = upd H lf (.lst [])) (fun Kk hk=>⟨szl rfl,fun la hla=>hk _ _ ⟨la,rfl,hla,rfl⟩⟩) ?_
 rintro _ _ ⟨lf,rfl,hlf,rfl⟩
 have g0:=Grow.new (m:=[]) hlf (.lst [])
 have hf0:=zc (H:=H) (a:=lf) (o:=.lst [])
 generalize upd H lf (.lst []) = H0 at g0 hf0 ⊢
 refine ⟨_,rfl,_,_,rfl,rfl,_,rfl,by omega,by omega,ye (fun s σ H'=>∃ (e4 e5 e6 e7 e8:Option V) (ys:List V),σ = [some (.int k),some (.ref rt),some (.bl j),some (.ref lf),e4,e5,e6,e7,e8] /\ Grow [] H H' /\ H' lf = some (.lst ys) /\ AllR (zr K H') ys (D.take s)) ⟨_,_,_,_,_,[],rfl,g0,hf0,trivial⟩ ?_ ?_⟩
 ·rintro s σ H1 hs ⟨e4,e5,e6,e7,e8,ys,rfl,g1,hf1,hy1⟩
  have sk:s <= k:=by omega
  try dsimp only
  refine yv (fun v H'=>∃ (lr:Addr) (cs:List Addr),v = .ref lr /\ H1 lr = none /\ H' lr = some (.lst (cs.map V.ref)) /\ GR H1 H' cs (yZ k ks 0 s) /\ lr ∉ cs /\ Grow [] H1 H') (fun Kk hk=>⟨_,rfl,_,_,rfl,rfl,⟨by omega,by omega,by decide⟩,_,rfl,by rw [e1k]; omega,by rw [e1k]; omega,xU (fun i zs H'=>∃ cs:List Addr,zs = cs.map V.ref /\ cs.length = i /\ GR H1 H' cs (List.replicate i []) /\ Grow [] H1 H') ⟨[],rfl,rfl,.nil,Grow.refl _ _⟩ ?_ ?_⟩) ?_
  ·rintro i zs H2 hi ⟨cs,rfl,cl,b,g2⟩
   rw [e1k] at hi
   refine ⟨szl rfl,fun t ht=>⟨by rw [List.length_map]; exact zH (by omega),cs ++ [t],by rw [List.map_append]; rfl,by rw [List.length_append,cl]; rfl,?_,g2.trans (Grow.new ht _)⟩⟩
   rw [List.replicate_succ']
   exact GR.new g2 b ht []
  ·rw [e1k,Int.toNat_natCast]
   rintro zs H2 ⟨cs,rfl,cl,b,g2⟩ r hr
   exact hk _ _ ⟨r,cs,rfl,g2.free (by simp) hr,zc,by rw [rC]; exact b.grow (Grow.new (m:=[]) hr _),b.ne hr,g2.trans (Grow.new hr _)⟩
  rintro _ H2 ⟨lr,cs,rfl,lr1,hlr2,b2,ncs,g2⟩
  have cl:cs.length = 2 ^ k:=by rw [b2.len]; unfold yZ; simp
  refine ⟨_,rfl,rt,rfl,⟨_,(g1.trans g2).sqT hrt⟩,X3 (xs:=xs) (fun i σ H'=>∃ (e6 e7 e8:Option V),σ = [some (.int k),some (.ref rt),some (.bl j),some (.ref lf),some (.int (0 + (s:Int))),some (.ref lr),e6,e7,e8] /\ Grow [] H1 H' /\ H' lr = some (.lst (cs.map V.ref)) /\ GR H1 H' cs (yZ k ks i s)) ⟨_,_,_,rfl,g2,hlr2,b2⟩ (fun i σ H' _ ⟨_,_,_,_,g,_⟩=>(g1.trans g).sqT hrt) ?_ ?_⟩
  ·rintro i v σ H3 hv ⟨e6,e7,e8,rfl,g3,hl3,b3⟩
   obtain ⟨a,ha,ra,rd,rfl,hra,hrd⟩:=hxs.get hv
   have am:=List.mem_of_getElem? ha
   have hh:=R.hand a am
   have hb:=R.box a am
   obtain ⟨ln,eln,hln⟩:=sh R k4 am sk
   have eN:lN k a.hand.toNat (a.box.toNat % 2 ^ k) s = ln:=by unfold lN; rw [eln]; rfl
   have hc:cs[ln]? = some (cs[ln]'(by omega)):=List.getElem?_eq_getElem _
   generalize cs[ln]'(by omega) = c at hc
   have rowc:=b3.row ln c _ hc (xA hln)
   have cn:c ≠ lr:=fun z=>ncs (by rw [← z]; exact List.mem_of_getElem? hc)
   refine ⟨ra,_,rfl,(g1.trans g3).sqT hra,rfl,_,_,rfl,_,_,rfl,_,_,rfl,rfl,?_⟩
   refine ⟨_,rfl,_,rfl,_,rfl,_,rfl,_,rfl,_,_,rfl,rfl,⟨by omega,by omega,by decide⟩,_,_,rfl,rfl,(by rw [e1k]; omega),_,rfl,_,_,_,_,rfl,k,a.hand.toNat,a.box.toNat % 2 ^ k,s,rfl,(by rw [Int.toNat_of_nonneg hh.1]),congrArg V.int (Yg hb.1 k),congrArg V.int (Int.zero_add _),k4,zX R am,zR,sk,?_⟩
   rw [eN]
   refine ⟨lr,_,ln,.ref c,rfl,rfl,SqL.of hl3,ut (by rw [List.getElem?_map,hc]; rfl),.inl ⟨rfl,_,SqL.of rowc⟩,_,rfl,?_⟩
   refine ⟨c,_,_,rfl,rfl,rowc,zH (by rw [List.length_map]; have:=yA (k:=k) (s:=s) (l:=ln) (ks:=ks.take i); rw [List.length_take] at this; omega),?_⟩
   have b4:=b3.set hc ((zV k (ks.take i) s ln).map V.int ++ [V.int a.box])
   have st:=rB R k4 sk ha
   rw [eN] at st
   rw [st] at b4
   exact ⟨_,_,_,rfl,g3.put99 (b2.nr c (List.mem_of_getElem? hc)) _,by rw [zk (Ne.symm cn)]; exact hl3,b4⟩
  ·rintro σ H3 ⟨e6,e7,e8,rfl,g3,hl3,b3⟩
   dsimp only
   have tk:ks.take xs.length = ks:=List.take_of_length_le (by omega)
   have rows:∀ (l:Nat) (c:Addr),cs[l]? = some c -> H3 c = some (.lst ((zV k ks s l).map V.int)):=fun l c hc=>by
    have hl:l < 2 ^ k:=by have:=(List.getElem?_eq_some_iff.mp hc).1; omega
    have:=b3.row l c _ hc (xA hl)
    rw [tk] at this; exact this
   refine c_if (fun σ' H'=>∃ (l2:Addr) (c2:List Addr),σ' = [some (.int k),some (.ref rt),some (.bl j),some (.ref lf),some (.int (0 + (s:Int))),some (.ref l2),e6,e7,e8] /\ Grow [] H1 H' /\ H' l2 = some (.lst (c2.map V.ref)) /\ c2.length = 2 ^ k /\ (∀ (l:Nat) (c:Addr),c2[l]? = some c -> ∃ ms:List Int,H' c = some (.lst (ms.map V.int)) /\ ms.length <= 40 /\ (ms.length:Int) = (D.getD s []).getD l 0)) ?_ (fun hk=>?_)
   rotate_left
   ·refine ⟨_,rfl,_,rfl,?_⟩
    cases j with
    | false =>
     refine iteF (hk _ _ ⟨lr,cs,rfl,g3,hl3,cl,fun l c hc=>⟨_,rows l c hc,?_,?_⟩⟩)
     ·have:=yA (k:=k) (s:=s) (l:=l) (ks:=ks); omega
     ·rw [hD]; exact jK R k4 sk (by have:=(List.getElem?_eq_some_iff.mp hc).1; omega)
    | true =>
     refine iteT ?_
     refine ⟨_,rfl,lr,rfl,⟨_,SqL.of hl3⟩,wp (fun i zs H'=>∃ c2:List Addr,Grow [] H3 H' /\ zs = c2.map V.ref /\ c2.length = i /\ ∀ (l:Nat) (c:Addr),c2[l]? = some c -> ∃ ms:List Int,H' c = some (.lst (ms.map V.int)) /\ ms.Perm (dedI (zV k ks s l))) ⟨[],Grow.refl _ _,rfl,rfl,fun l c z=>by simp at z⟩ (fun i zs H' z=>SqL.of (z.choose_spec.1.keep _ _ (by simp) hl3)) ?_ ?_⟩
     ·rintro i v zs H4 hv ⟨c2,g4,rfl,cl2,rr⟩
      rw [List.getElem?_map] at hv
      obtain ⟨c,hcc,rfl⟩:=Option.map_eq_some_iff.mp hv
      have il:=(List.getElem?_eq_some_iff.mp hcc).1
      have hrow:=g4.keep _ _ (by simp) (rows i c hcc)
      have l16:=yA (k:=k) (s:=s) (l:=i) (ks:=ks)
      have d16:=uK (zV k ks s i)
      refine ⟨_,rfl,c,_,rfl,SqL.of hrow,by omega,fun ls hls=>⟨ls,_,rfl,zc,by omega,fun p ms hp perm _=>⟨by rw [List.length_map]; exact zH (by omega),c2 ++ [p],?_,by rw [List.map_append]; rfl,by rw [List.length_append,cl2]; rfl,fun l d hd=>?_⟩⟩⟩
      ·exact g4.trans ((Grow.new (m:=[]) hls _).trans (Grow.new (m:=[]) hp _))
      ·by_cases z:l < c2.length
       ·rw [List.getElem?_append_left z] at hd
        obtain ⟨ms',h1,h2⟩:=rr l d hd
        exact ⟨ms',((Grow.new (m:=[]) hls _).trans (Grow.new (m:=[]) hp _)).keep _ _ (by simp) h1,h2⟩
       ·rw [List.getElem?_append_right (by omega)] at hd
        have e0:l - c2.length = 0:=by
         rcases Nat.eq_zero_or_pos (l - c2.length) with y | y
         ·exact y
         ·rw [List.getElem?_eq_none (show [p].length <= l - c2.length from y)] at hd; cases hd
        rw [e0] at hd
        cases hd
        have:l = i:=by omega
        subst this
        exact ⟨ms,zc,perm⟩
     ·rintro zs H4 ⟨c2,g4,rfl,cl2,rr⟩ l2 hl2
      rw [List.length_map,cl] at cl2
      refine hk _ _ ⟨l2,c2,rfl,(g3.trans g4).trans (Grow.new hl2 _),zc,cl2,fun l c hc=>?_⟩
      have hl:l < 2 ^ k:=by have:=(List.getElem?_eq_some_iff.mp hc).1; omega
      obtain ⟨ms,h1,h2⟩:=rr l c hc
      have l16:=yA (k:=k) (s:=s) (l:=l) (ks:=ks)
      have d16:=uK (zV k ks s l)
      have m16':=h2.length_eq
      exact ⟨ms,(Grow.new (m:=[]) hl2 _).keep _ _ (by simp) h1,by omega,by rw [hD,if_pos rfl,Xs sk hl]; exact Ys R k4 sk hl h2⟩
   rintro σ' H4 ⟨l2,c2,rfl,g4,hl4,cl4,rows4⟩
   have hf4:=g4.keep _ _ (by simp) hf1
   refine ⟨_,rfl,.inl ⟨rfl,_,SqL.of hf4⟩,_,rfl,l2,rfl,⟨_,SqL.of hl4⟩,wp (fun i zs H'=>Grow [] H4 H' /\ zs = (List.range i).map fun l=>V.int ((D.getD s []).getD l 0)) ⟨Grow.refl _ _,rfl⟩ (fun i zs H' z=>SqL.of (z.1.keep _ _ (by simp) hl4)) ?_ ?_⟩
   ·rintro i v zs H5 hv ⟨g5,rfl⟩
    rw [List.getElem?_map] at hv
    obtain ⟨c,hcc,rfl⟩:=Option.map_eq_some_iff.mp hv
    have il:=(List.getElem?_eq_some_iff.mp hcc).1
    obtain ⟨ms,h1,h2,h3⟩:=rows4 i c hcc
    refine ⟨_,rfl,c,_,rfl,.inl (SqL.of (g5.keep _ _ (by simp) h1)),by rw [List.length_map,List.length_range]; exact zH (by omega),g5,?_⟩
    rw [List.range_succ,List.map_append,List.map_cons,List.map_nil,List.length_map,h3]
   ·rintro zs H5 ⟨g5,rfl⟩ r5 hr5
    rw [List.length_map,cl4] at *
    refine ⟨r5,_,rfl,.inl ⟨SqL.of zc,fun r6 hr6=>?_⟩⟩
    have g6:=g5.trans ((Grow.new (m:=[]) hr5 (.lst ((List.range (2 ^ k)).map fun l=>V.int ((D.getD s []).getD l 0)))).trans (Grow.new (m:=[]) hr6 (.tup ((List.range (2 ^ k)).map fun l=>V.int ((D.getD s []).getD l 0)))))
    have e6:=zc (H:=upd H5 r5 (.lst ((List.range (2 ^ k)).map fun l=>V.int ((D.getD s []).getD l 0)))) (a:=r6) (o:=.tup ((List.range (2 ^ k)).map fun l=>V.int ((D.getD s []).getD l 0)))
    generalize upd (upd H5 r5 _) r6 _ = H6 at g6 e6 ⊢
    have hf6:=g6.keep _ _ (by simp) hf4
    have yl:=hy1.len
    refine ⟨lf,ys,_,rfl,rfl,hf6,zH (by rw [yl,List.length_take]; omega),?_⟩
    have gs:Grow [lf] H6 (upd H6 lf (.lst (ys ++ [.ref r6]))):=Grow.set hf6 (by simp) _
    refine ⟨_,_,_,_,_,ys ++ [.ref r6],rfl,(g1.trans (g4.trans g6)).put99 hlf _,zc,?_⟩
    have dat:=Xt (k:=k) (m:=m) (ks:=ks) (j:=j) sk
    rw [← hD] at dat
    rw [vH dat]
    refine AllR.app (hy1.imp fun _ _ h=>gs.board ((g4.trans g6).board h)) (AllR.one ⟨r6,rfl,gs.sqT (SqT.of (by rw [e6,List.map_map]; rfl))⟩)
 ·rintro σ H1 ⟨e4,e5,e6,e7,e8,ys,rfl,g1,hf1,hy1⟩
  rw [show ((k:Int) + 1).toNat = k + 1 by omega] at hy1
  have Dl:D.length = k + 1:=by rw [hD]; cases j <;> simp [jlR,plR]
  rw [List.take_of_length_le (by omega)] at hy1
  refine ⟨_,rfl,lf,_,rfl,.inl ⟨SqL.of hf1,fun r1 hr1=>?_⟩⟩
  have ga:=Grow.new (m:=[]) hr1 (.tup ys)
  exact q (.ref r1) _ (g1.trans ga) ⟨r1,ys,rfl,SqT.of zc,AllR.imp (fun _ _ h=>ga.board h) hy1⟩
theorem uL:FnScope ["k","lines"] ["k","lines"] (ze (top 42)):=⟨rfl,rfl,rfl,by decide +kernel,rfl,by decide +kernel,by decide +kernel⟩
theorem uM (F:Fun K "counted_on" "counted_on" (top 42) f fd) (B:Blt mg)      :
  FnOk P w K mg base CX0 (n + 1) f fd ["k","lines"] (xg K):=by
 refine F.ok uL yD (fun cdv A outer s H vs Q E hr h=>?_)
 obtain ⟨x,y,rfl,k,l,ns,rfl,k4,rfl,hl,q⟩:=h
 refine ⟨_,(zh (zt (zF zy rfl B.tuple yi (za (zT (CSc.of (N':=["line","lines"]) (sub:=[none,some 1]) (ze (top 42)) ["k","lines"] rfl rfl (by decide +kernel) rfl) rfl (zL rfl B.range (za (zq yw zf (pv 0)) zb)) (fun _ _ _ _ _ _=>zj (i:=0) (show (["line","lines"]:List Str).Nodup by decide +kernel) rfl (Or.inl rfl)) (fun _ _ _ _ _ _=>zA) (fun _ _ _ _ _ _=>(Vt (K:=K) rfl PySem.F.plainAttrs_list PySem.F.slot_list_count PySem.F.type_list_count (jv (K:=K) rfl) (pv 1) (za (pv 0) zb)))) zb)))),?_⟩
 have p16:=z8 k4
 obtain ⟨W,hW⟩:∃ W:Nat,W = 2 ^ k:=⟨_,rfl⟩
 have e1k:(1:Int) * 2 ^ ((k:Int)).toNat = W:=by rw [xJ,hW]
 rw [← hW] at p16 q
 refine ⟨_,rfl,_,_,rfl,rfl,tQ k4,_,rfl,(by show -2 ^ 62 <= (1:Int) * 2 ^ ((k:Int)).toNat; rw [e1k]; omega),(by show (1:Int) * 2 ^ ((k:Int)).toNat < 2 ^ 62; rw [e1k]; omega),xU (fun i ys H'=>H' = H /\ ys = ((List.range i).map (yr ns)).map V.int) ⟨rfl,rfl⟩ ?_ ?_⟩
 ·rintro i ys H' hi ⟨rfl,rfl⟩
  have hi':i < W:=by rw [e1k] at hi; omega
  refine ⟨_,rfl,.inl ⟨rfl,_,SqL.of hl⟩,_,rfl,l,ns,_,rfl,rfl,SqL.of hl,yg (by rw [List.length_map,List.length_map,List.length_range]; omega),rfl,?_⟩
  rw [List.range_succ,List.map_append,List.map_append]
  show _ ++ [V.int _] = _ ++ [V.int (yr ns i)]
  unfold yr
  rw [Int.zero_add]
 ·rintro ys H' ⟨rfl,rfl⟩ l2 hl2
  rw [e1k,Int.toNat_natCast]
  refine ⟨l2,_,rfl,.inl ⟨SqL.of zc,fun r hr'=>q _ _ ((Grow.new hl2 _).trans (Grow.new hr' _)) ⟨r,rfl,SqT.of zc⟩⟩⟩
theorem WI:FnScope ["add","low","high"] ["add","low","high"] (ze (top 22)):=⟨rfl,rfl,rfl,by decide +kernel,rfl,by decide +kernel,by decide +kernel⟩
theorem Zk (F:Fun K "tidy" "tidy" (top 22) f fd) (B:Blt mg)      :
  FnOk P w K mg base CX0 (n + 1) f fd ["add","low","high"] (Zl K):=by
 refine F.ok WI yE (fun cdv A outer s H vs Q E hr h=>?_)
 obtain ⟨x,y,z,rfl,a,lo,hi,rfl,rfl,rfl,q⟩:=h
 refine ⟨_,(zd (yB (PW.pt (uT (wB (sG (pv 1))) (uo (zN ur (pv 1) (pv 2) (zO _))))) (zh (zt (yq (za zf (za (pv 1) (za (pv 2) zb)))))) zC) (zh (zt (yq (za (pv 0) (za (pv 1) (za (pv 2) zb))))))),?_⟩
 cases lo with
 | none =>
  refine ⟨_,rfl,_,rfl,iteF (iteF ⟨_,rfl,_,rfl,_,rfl,szl rfl,fun t ht=>?_⟩)⟩
  have:=q t ht
  rw [Vf] at this; exact this
 | some l =>
  cases hi with
  | none =>
   refine ⟨_,rfl,_,rfl,iteT ⟨_,rfl,_,rfl,rfl,_,rfl,iteF ⟨_,rfl,_,rfl,_,rfl,szl rfl,fun t ht=>?_⟩⟩⟩
   have:=q t ht
   rw [XC (by simp)] at this; exact this
  | some u =>
   refine ⟨_,rfl,_,rfl,iteT ⟨_,rfl,_,rfl,rfl,_,rfl,?_⟩⟩
   refine ite2 (fun c=>?_) (fun c=>?_)
   ·have c':l = u:=V.int.inj (of_decide_eq_true c)
    subst c'
    refine ⟨_,rfl,_,rfl,szl rfl,fun t ht=>?_⟩
    have:=q t ht
    rw [Vg] at this; exact this
   ·have c':l ≠ u:=fun z=>c (by rw [z]; simp)
    refine ⟨_,rfl,_,rfl,_,rfl,szl rfl,fun t ht=>?_⟩
    have:=q t ht
    rw [XC (fun z=>c' (Option.some.inj z))] at this; exact this
theorem xP:FnScope ["deed","value","add","low","high","result"] ["deed","value"] (ze (top 21)):=⟨rfl,rfl,rfl,by decide +kernel,rfl,by decide +kernel,by decide +kernel⟩
theorem WJ (F:Fun K "made" "made" (top 21) f fd) (B:Blt mg)      :
  FnOk P w K mg base CX0 (n + 1) f fd ["deed","value"] (Zi K):=by
 refine F.ok xP yD (fun cdv A outer s H vs Q E hr h=>?_)
 obtain ⟨x,y,rfl,d,v,⟨a,rfl,hs⟩,rfl,q⟩:=h
 refine ⟨_,(zd (wW (pv 0) (xD rfl (zo (zj (i:=2) xP.nd rfl (Or.inl rfl)) (zo (zj (i:=3) xP.nd rfl (Or.inl rfl)) (zo (zj (i:=4) xP.nd rfl (Or.inl rfl)) z6))))) (zd (zu (i:=5) xP.nd rfl (Or.inl rfl) (zq yK (pv 1) (pv 2))) (zd (yB (PW.pt (uT (wB (sG (pv 3))) (uo (zN YE (pv 3) (pv 5) (zO _))))) (zh (zu (i:=5) xP.nd rfl (Or.inl rfl) (pv 3))) zC) (zd (yB (PW.pt (uT (wB (sG (pv 4))) (uo (zN YD (pv 4) (pv 5) (zO _))))) (zh (zu (i:=5) xP.nd rfl (Or.inl rfl) (pv 4))) zC) (zh (zt (pv 5))))))),?_⟩
 obtain ⟨ad,lo,hi⟩:=d
 refine ⟨_,rfl,a,_,rfl,hs,rfl,_,_,rfl,_,_,rfl,_,_,rfl,rfl,?_⟩
 refine ⟨_,rfl,_,rfl,_,_,rfl,rfl,?_⟩
 cases lo with
 | none =>
  refine ⟨_,rfl,_,rfl,iteF (iteF ?_)⟩
  cases hi with
  | none=>exact ⟨_,rfl,_,rfl,iteF (iteF ⟨_,rfl,q⟩)⟩
  | some u =>
   refine ⟨_,rfl,_,rfl,iteT ⟨_,rfl,_,rfl,_,_,rfl,rfl,_,rfl,?_⟩⟩
   have q':Q (.int (if u < v + ad then u else v + ad)) H:=q
   refine ite2 (fun c=>?_) (fun c=>?_)
   ·have c':u < v + ad:=of_decide_eq_true c
    rw [if_pos c'] at q'
    exact ⟨_,rfl,_,rfl,q'⟩
   ·have c':¬ u < v + ad:=fun z=>c (decide_eq_true z)
    rw [if_neg c'] at q'
    exact ⟨_,rfl,q'⟩
 | some l =>
  refine ⟨_,rfl,_,rfl,iteT ⟨_,rfl,_,rfl,_,_,rfl,rfl,_,rfl,?_⟩⟩
  have q0:Q (.int (Zg hi (if l > v + ad then l else v + ad))) H:=q
  clear q
  refine ite2 (fun c=>?_) (fun c=>?_)
  ·have c':l > v + ad:=of_decide_eq_true c
   rw [if_pos c'] at q0
   have q:=q0
   refine ⟨_,rfl,?_⟩
   cases hi with
   | none=>exact ⟨_,rfl,_,rfl,iteF (iteF ⟨_,rfl,q⟩)⟩
   | some u =>
    refine ⟨_,rfl,_,rfl,iteT ⟨_,rfl,_,rfl,_,_,rfl,rfl,_,rfl,?_⟩⟩
    have q':Q (.int (if u < l then u else l)) H:=q
    refine ite2 (fun c=>?_) (fun c=>?_)
    ·have c':u < l:=of_decide_eq_true c
     rw [if_pos c'] at q'
     exact ⟨_,rfl,_,rfl,q'⟩
    ·have c':¬ u < l:=fun z=>c (decide_eq_true z)
     rw [if_neg c'] at q'
     exact ⟨_,rfl,q'⟩
  ·have c':¬ l > v + ad:=fun z=>c (decide_eq_true z)
   rw [if_neg c'] at q0
   have q:=q0
   cases hi with
   | none=>exact ⟨_,rfl,_,rfl,iteF (iteF ⟨_,rfl,q⟩)⟩
   | some u =>
    refine ⟨_,rfl,_,rfl,iteT ⟨_,rfl,_,rfl,_,_,rfl,rfl,_,rfl,?_⟩⟩
    have q':Q (.int (if u < v + ad then u else v + ad)) H:=q
    refine ite2 (fun c=>?_) (fun c=>?_)
    ·have c':u < v + ad:=of_decide_eq_true c
     rw [if_pos c'] at q'
     exact ⟨_,rfl,_,rfl,q'⟩
    ·have c':¬ u < v + ad:=fun z=>c (decide_eq_true z)
     rw [if_neg c'] at q'
     exact ⟨_,rfl,q'⟩
theorem vM:FnScope ["one","other","low","high"] ["one","other"] (ze (top 23)):=⟨rfl,rfl,rfl,by decide +kernel,rfl,by decide +kernel,by decide +kernel⟩
theorem Yt (F:Fun K "joined" "joined" (top 23) f fd) (B:Blt mg) (qc0:zi P w K mg base n "tidy" ["add","low","high"] (Zl K)) (qc1:zi P w K mg base n "made" ["deed","value"] (Zi K))     :
  FnOk P w K mg base CX0 (n + 1) f fd ["one","other"] (tH K):=by
 refine F.ok vM yD (fun cdv A outer s H vs Q E hr h=>?_)
 obtain ⟨x,y,rfl,d,e,⟨a,rfl,hsa⟩,⟨b,rfl,hsb⟩,q⟩:=h
 refine ⟨_,(zd (zu (i:=2) vM.nd rfl (Or.inl rfl) (uq (wB (uS (z7 yC (pv 0) zf (fun _ _=>rfl)))) (z7 yC (pv 1) zf (fun _ _=>rfl)) (zg qc1 hr rfl (za (pv 1) (za (z7 yC (pv 0) zf (fun _ _=>rfl)) zb))))) (zd (zu (i:=3) vM.nd rfl (Or.inl rfl) (uq (wB (uS (z7 yC (pv 0) zf (fun _ _=>rfl)))) (z7 yC (pv 1) zf (fun _ _=>rfl)) (zg qc1 hr rfl (za (pv 1) (za (z7 yC (pv 0) zf (fun _ _=>rfl)) zb))))) (zh (zt (zg qc0 hr rfl (za (zq yK (z7 yC (pv 0) zf (fun _ _=>rfl)) (z7 yC (pv 1) zf (fun _ _=>rfl))) (za (pv 2) (za (pv 3) zb)))))))),?_⟩
 obtain ⟨da,lo,hi⟩:=d
 obtain ⟨ea,elo,ehi⟩:=e
 refine ⟨_,rfl,a,_,_,_,rfl,rfl,hsa,rfl,_,rfl,?_⟩
 cases lo with
 | none =>
  refine iteT ⟨_,rfl,b,_,_,_,rfl,rfl,hsb,rfl,?_⟩
  refine ⟨_,rfl,a,_,_,_,rfl,rfl,hsa,rfl,_,rfl,?_⟩
  cases hi with
  | none =>
   refine iteT ⟨_,rfl,b,_,_,_,rfl,rfl,hsb,rfl,?_⟩
   exact ⟨_,rfl,a,_,_,_,rfl,rfl,hsa,rfl,_,rfl,b,_,_,_,rfl,rfl,hsb,rfl,_,_,rfl,rfl,_,rfl,_,rfl,_,_,_,rfl,_,elo,ehi,rfl,rfl,rfl,q⟩
  | some u =>
   refine iteF ⟨_,rfl,_,rfl,a,_,_,_,rfl,rfl,hsa,rfl,_,_,rfl,⟨ea,elo,ehi⟩,u,⟨b,rfl,hsb⟩,rfl,?_⟩
   exact ⟨_,rfl,a,_,_,_,rfl,rfl,hsa,rfl,_,rfl,b,_,_,_,rfl,rfl,hsb,rfl,_,_,rfl,rfl,_,rfl,_,rfl,_,_,_,rfl,_,elo,some ((Deed.mk ea elo ehi).mk' u),rfl,rfl,rfl,q⟩
 | some l =>
  refine iteF ⟨_,rfl,_,rfl,a,_,_,_,rfl,rfl,hsa,rfl,_,_,rfl,⟨ea,elo,ehi⟩,l,⟨b,rfl,hsb⟩,rfl,?_⟩
  refine ⟨_,rfl,a,_,_,_,rfl,rfl,hsa,rfl,_,rfl,?_⟩
  cases hi with
  | none =>
   refine iteT ⟨_,rfl,b,_,_,_,rfl,rfl,hsb,rfl,?_⟩
   exact ⟨_,rfl,a,_,_,_,rfl,rfl,hsa,rfl,_,rfl,b,_,_,_,rfl,rfl,hsb,rfl,_,_,rfl,rfl,_,rfl,_,rfl,_,_,_,rfl,_,(some ((Deed.mk ea elo ehi).mk' l)),ehi,rfl,rfl,rfl,q⟩
  | some u =>
   refine iteF ⟨_,rfl,_,rfl,a,_,_,_,rfl,rfl,hsa,rfl,_,_,rfl,⟨ea,elo,ehi⟩,u,⟨b,rfl,hsb⟩,rfl,?_⟩
   exact ⟨_,rfl,a,_,_,_,rfl,rfl,hsa,rfl,_,rfl,b,_,_,_,rfl,rfl,hsb,rfl,_,_,rfl,rfl,_,rfl,_,rfl,_,_,_,rfl,_,(some ((Deed.mk ea elo ehi).mk' l)),some ((Deed.mk ea elo ehi).mk' u),rfl,rfl,rfl,q⟩
theorem wH:FnScope ["k","stage","line","behind"] ["k","stage","line"] (ze (top 16)):=⟨rfl,rfl,rfl,by decide +kernel,rfl,by decide +kernel,by decide +kernel⟩
theorem sv (F:Fun K "switch_at" "switch_at" (top 16) f fd) (B:Blt mg)      :
  FnOk P w K mg base CX0 (n + 1) f fd ["k","stage","line"] (xc K):=by
 refine F.ok wH yE (fun cdv A outer s H vs Q E hr h=>?_)
 obtain ⟨x,y,z,rfl,k,st,l,rfl,rfl,rfl,k4,hs,l0,l1,q⟩:=h
 refine ⟨_,(zd (zu (i:=3) wH.nd rfl (Or.inl rfl) (zq yL (pv 0) (pv 1))) (zh (zt (zq VZ (zq yw (zq jW (pv 2) (zq yK (pv 3) zf)) (pv 3)) (zq jX (pv 2) (zq yL (zq yw zf (pv 3)) zf)))))),?_⟩
 have e1:(0:Int) <= l / 2 ^ ((k:Int) - st + 1).toNat:=Int.ediv_nonneg l0 (Int.le_of_lt (Int.pow_pos (by decide)))
 have e2:l / 2 ^ ((k:Int) - st + 1).toNat <= l:=Int.ediv_le_self _ l0
 refine ⟨_,rfl,_,rfl,_,_,rfl,rfl,_,rfl,_,rfl,_,_,rfl,rfl,_,_,rfl,rfl,(by show (0:Int) <= (k:Int) - st + 1; omega),_,rfl,_,_,rfl,rfl,⟨by show (0:Int) <= (k:Int) - st; omega,by show (k:Int) - st <= 1000000; omega,by show (l / 2 ^ ((k:Int) - st + 1).toNat).natAbs < 2 ^ 64; omega⟩,?_⟩
 exact ⟨_,rfl,_,rfl,_,_,rfl,rfl,⟨by show (0:Int) <= (k:Int) - st; omega,by show (k:Int) - st <= 1000000; omega,by decide⟩,_,_,rfl,rfl,_,_,rfl,rfl,_,_,rfl,rfl,q⟩
theorem Yu:FnScope ["k","stage","line"] ["k","stage","line"] (ze (top 13)):=⟨rfl,rfl,rfl,by decide +kernel,rfl,by decide +kernel,by decide +kernel⟩
theorem Yv (F:Fun K "figure" "figure" (top 13) f fd) (B:Blt mg)      :
  FnOk P w K mg base CX0 (n + 1) f fd ["k","stage","line"] (vg K):=by
 refine F.ok Yu yE (fun cdv A outer s H vs Q E hr h=>?_)
 obtain ⟨x,y,z,rfl,k,st,l,rfl,rfl,rfl,hs,q⟩:=h
 refine ⟨_,(zh (zt (zq jX (zq jW (pv 2) (zq yL (pv 0) (pv 1))) zf))),?_⟩
 exact ⟨_,rfl,_,rfl,_,rfl,_,_,rfl,rfl,_,_,rfl,rfl,(by show (0:Int) <= (k:Int) - st; omega),_,_,rfl,rfl,q⟩
theorem vW:FnScope ["k","stage","line","wanted"] ["k","stage","line","wanted"] (ze (top 14)):=⟨rfl,rfl,rfl,by decide +kernel,rfl,by decide +kernel,by decide +kernel⟩
theorem vX (F:Fun K "with_figure" "with_figure" (top 14) f fd) (B:Blt mg) (qc0:zi P w K mg base n "figure" ["k","stage","line"] (vg K))     :
  FnOk P w K mg base CX0 (n + 1) f fd ["k","stage","line","wanted"] (yO K):=by
 refine F.ok vW ve (fun cdv A outer s H vs Q E hr h=>?_)
 obtain ⟨x,y,z,u,rfl,k,st,l,w,rfl,rfl,rfl,rfl,k4,hs,l0,l1,hw,q⟩:=h
 refine ⟨_,(zh (zt (zq Xw (pv 2) (zq yw (zq Xw (zg qc0 hr rfl (za (pv 0) (za (pv 1) (za (pv 2) zb)))) (pv 3)) (zq yL (pv 0) (pv 1)))))),?_⟩
 have F:=figF k4 hs l0 l1
 refine ⟨_,rfl,_,rfl,_,rfl,_,rfl,_,_,_,rfl,k,st,l,rfl,rfl,rfl,hs,_,rfl,_,_,rfl,rfl,_,rfl,_,rfl,_,_,rfl,rfl,_,_,rfl,rfl,⟨by show (0:Int) <= (k:Int) - st; omega,by show (k:Int) - st <= 1000000; omega,F.2 w hw⟩,_,_,rfl,rfl,q⟩
theorem Yw:FnScope ["k","stage","line","side"] ["k","stage","line","side"] (ze (top 15)):=⟨rfl,rfl,rfl,by decide +kernel,rfl,by decide +kernel,by decide +kernel⟩
theorem Yx (F:Fun K "onward" "onward" (top 15) f fd) (B:Blt mg) (qc0:zi P w K mg base n "with_figure" ["k","stage","line","wanted"] (yO K)) (qc1:zi P w K mg base n "figure" ["k","stage","line"] (vg K))     :
  FnOk P w K mg base CX0 (n + 1) f fd ["k","stage","line","side"] (vh K):=by
 refine F.ok Yw ve (fun cdv A outer s H vs Q E hr h=>?_)
 obtain ⟨x,y,z,u,rfl,k,st,l,s,rfl,rfl,rfl,rfl,k4,hs,l0,l1,s0,s1,q⟩:=h
 refine ⟨_,(zh (zt (zg qc0 hr rfl (za (pv 0) (za (pv 1) (za (pv 2) (za (zg qc1 hr rfl (za (pv 0) (za (pv 1) (za (pv 3) zb)))) zb))))))),?_⟩
 have F:=figF k4 hs s0 s1
 exact ⟨_,rfl,_,rfl,_,rfl,_,rfl,_,rfl,_,rfl,_,_,_,rfl,k,st,s,rfl,rfl,rfl,hs,_,_,_,_,rfl,k,st,l,_,rfl,rfl,rfl,rfl,k4,hs,l0,l1,F.1,q⟩
theorem rF:FnScope ["k","box"] ["k","box"] (ze (top 36)):=⟨rfl,rfl,rfl,by decide +kernel,rfl,by decide +kernel,by decide +kernel⟩
theorem rG (F:Fun K "side_for" "side_for" (top 36) f fd) (B:Blt mg)      :
  FnOk P w K mg base CX0 (n + 1) f fd ["k","box"] (vA K):=by
 refine F.ok rF yD (fun cdv A outer s H vs Q E hr h=>?_)
 obtain ⟨x,y,rfl,k,b,rfl,rfl,k4,b16,q⟩:=h
 refine ⟨_,(zh (zt (zq jX (pv 1) (zq yL (zq yw zf (pv 0)) zf)))),?_⟩
 refine ⟨_,rfl,_,rfl,_,_,rfl,rfl,tQ k4,_,_,rfl,rfl,_,_,rfl,rfl,?_⟩
 have e:=Y6 k4 b16
 show Q (.int (Builtin.bitAnd (b:Int) (1 * 2 ^ ((k:Int)).toNat - 1))) H
 rw [e]
 exact q
theorem vN:FnScope ["k","stage","line","firsts","first"] ["k","stage","line","firsts"] (ze (top 38)):=⟨rfl,rfl,rfl,by decide +kernel,rfl,by decide +kernel,by decide +kernel⟩
theorem rH (F:Fun K "in_order" "in_order" (top 38) f fd) (B:Blt mg) (qc0:zi P w K mg base n "with_figure" ["k","stage","line","wanted"] (yO K)) (qc1:zi P w K mg base n "switch_at" ["k","stage","line"] (xc K))     :
  FnOk P w K mg base CX0 (n + 1) f fd ["k","stage","line","firsts"] (vn K):=by
 refine F.ok vN ve (fun cdv A outer s H vs Q E hr h=>?_)
 obtain ⟨x,y,z,u,rfl,k,st,l,rows,rfl,rfl,rfl,⟨rs,xs,rfl,hs,hall⟩,k4,s1,s2,hl,hset,q⟩:=h
 refine ⟨_,(zd (zu (i:=4) vN.nd rfl (Or.inl rfl) (z7 yC (z7 yC (pv 3) (zq yL (pv 1) zf) (fun _ _=>rfl)) (zg qc1 hr rfl (za (pv 0) (za (pv 1) (za (pv 2) zb)))) (fun _ _=>rfl))) (zh (zt (yq (za (zg qc0 hr rfl (za (pv 0) (za (pv 1) (za (pv 2) (za (pv 4) zb))))) (za (zg qc0 hr rfl (za (pv 0) (za (pv 1) (za (pv 2) (za (zq yL zf (pv 4)) zb))))) zb)))))),?_⟩
 have p:=z8 k4
 have O:=oneF k4 s1 s2 hl
 have hlt:=O.lt
 have hf:=ZE k4 hset s1 s2 hl
 have hb:=hset.bits (show st - 1 < k by omega)
 obtain ⟨ra,hra,hsa⟩:=Vj hall (i:=(st:Int) - 1) (by omega) (by rw [hset.1]; omega)
 rw [show ((st:Int) - 1).toNat = st - 1 by omega] at hsa
 refine ⟨_,rfl,_,rfl,_,_,rfl,rfl,rs,_,_,_,rfl,rfl,hs,hra,_,rfl,_,rfl,_,rfl,_,_,_,rfl,k,st,l,rfl,rfl,rfl,k4,s2,by omega,by omega,?_⟩
 rw [O.sw,O.num]
 have hg:=getI (xs:=rows.getD (st - 1) []) (i:=(nN k st l:Int)) (by omega) (by rw [hb.1]; omega)
 rw [Int.toNat_natCast] at hg
 refine ⟨ra,_,_,_,rfl,rfl,hsa,hg,?_⟩
 have W1:=wfF k4 s1 s2 hl hf
 have W2:=wfF k4 s1 s2 hl (show 1 - fstI rows st (nN k st l) = 0 \/ 1 - fstI rows st (nN k st l) = 1 by omega)
 refine ⟨_,rfl,_,rfl,_,rfl,_,rfl,_,_,_,_,rfl,k,st,l,fstI rows st (nN k st l),rfl,rfl,rfl,rfl,k4,s2,by omega,by omega,hf,?_⟩
 refine ⟨_,rfl,_,rfl,_,rfl,_,rfl,_,_,rfl,rfl,_,_,_,_,rfl,k,st,l,1 - fstI rows st (nN k st l),rfl,rfl,rfl,rfl,k4,s2,by omega,by omega,by omega,szl rfl,fun t ht=>?_⟩
 refine q _ _ (Grow.new ht _) ⟨t,rfl,SqT.of ?_⟩
 rw [zc,W1.eq,W2.eq]; rfl
theorem zG:FnScope ["k","stage","asked","firsts","behind","kept","line","box","in_lines","deeds","out"] ["k","stage","asked","firsts"] (ze (top 39)):=⟨rfl,rfl,rfl,by decide +kernel,rfl,by decide +kernel,by decide +kernel⟩
theorem uN (F:Fun K "pass_stage" "pass_stage" (top 39) f fd) (B:Blt mg) (qc0:zi P w K mg base n "joined" ["one","other"] (tH K)) (qc1:zi P w K mg base n "switch_at" ["k","stage","line"] (xc K)) (qc2:zi P w K mg base n "onward" ["k","stage","line","side"] (vh K)) (qc3:zi P w K mg base n "side_for" ["k","box"] (vA K)) (qc4:zi P w K mg base n "in_order" ["k","stage","line","firsts"] (vn K))     :
  FnOk P w K mg base CX0 (n + 1) f fd ["k","stage","asked","firsts"] (tZ K):=by
 refine F.ok zG ve (fun cdv A outer s H vs Q E hr h=>?_)
 obtain ⟨x,y,z,u,rfl,k,st,m,d,rows,ks,rfl,rfl,rfl,k4,s1,sk,m16,hd,hrw,hs,R,q⟩:=h
 refine ⟨_,(zd (zu (i:=4) zG.nd rfl (Or.inl rfl) qB) (zd (zu (i:=5) zG.nd rfl (Or.inl rfl) qB) (zd (yQ PassesOwn.never rfl (VD (pv 2)) (xD rfl (zo (zj (i:=6) zG.nd rfl (Or.inl rfl)) (zo (zj (i:=7) zG.nd rfl (Or.inr rfl)) z6))) (zd (zu (i:=8) zG.nd rfl (Or.inl rfl) (zg qc4 hr rfl (za (pv 0) (za (pv 1) (za (pv 6) (za (pv 3) zb)))))) (zd (xX (i:=9) zG.nd rfl rfl (CSc.of (N':=["in_line","asked","box"]) (sub:=[none,some 2,some 7]) (ze (top 39)) ["k","stage","asked","firsts","behind","kept","line","box","in_lines","deeds","out"] rfl rfl (by decide +kernel) rfl) rfl (wC (pv 8)) (fun _ _ _ _ _ _=>zj (i:=0) (show (["in_line","asked","box"]:List Str).Nodup by decide +kernel) rfl (Or.inl rfl)) (fun _ _ _ _ _ _=>(uv (wB (Vy (Room.u1F hr) (yq (za (pv 0) (za (pv 2) zb))) (pv 1))))) (fun _ _ _ _ _ _=>(Wn (Room.u1F hr) (pv 1) (yq (za (pv 0) (za (pv 2) zb))) (fun _ _=>rfl)))) (zd (zu (i:=10) zG.nd rfl (Or.inl rfl) (yq (za (zg qc2 hr rfl (za (pv 0) (za (pv 1) (za (pv 6) (za (zg qc3 hr rfl (za (pv 0) (za (pv 7) zb))) zb))))) (za (pv 7) zb)))) (zh (yB (zN ur (zp zx rfl B.len wn (za (pv 9) zb)) zf (zO _)) (zd (sY (Room.u1F hr) (pv 5) (yq (za (zg qc1 hr rfl (za (pv 0) (za (pv 1) (za (pv 6) zb)))) (za (pv 7) zb))) (z7 zW (pv 9) zf (fun _ _=>rfl)) rfl) (zh (sY (Room.u1F hr) (pv 4) (pv 10) (zg qc0 hr rfl (za (z7 zW (pv 9) zf (fun _ _=>rfl)) (za (z7 zW (pv 9) zf (fun _ _=>rfl)) zb))) rfl))) (zh (sY (Room.u1F hr) (pv 4) (pv 10) (z7 zW (pv 9) zf (fun _ _=>rfl)) rfl)))))))) (zh (zt (yq (za (pv 4) (za (pv 5) zb)))))))),?_⟩
 have p16:=z8 k4
 obtain ⟨kvs,hrd,tab,kl⟩:=hd
 have es:st = st - 1 + 1:=by omega
 have hdn:H d ≠ none:=by rcases hrd with z | ⟨o,z⟩ <;> rw [z] <;> exact fun z=>nomatch z
 refine yv (fun v H'=>∃ b0,v = .ref b0 /\ H b0 = none /\ H' = upd H b0 (.dT [])) (fun Kk hk=>fun p hp=>hk _ _ ⟨p,rfl,hp,rfl⟩) ?_
 rintro _ _ ⟨b0,rfl,hb0,rfl⟩
 have g1:=Grow.new (m:=[]) hb0 (.dT [])
 have eB1:=zc (H:=H) (a:=b0) (o:=.dT [])
 generalize upd H b0 (.dT []) = H1 at g1 eB1 ⊢
 refine yv (fun v H'=>∃ k0,v = .ref k0 /\ H1 k0 = none /\ H' = upd H1 k0 (.dT [])) (fun Kk hk=>fun p hp=>hk _ _ ⟨p,rfl,hp,rfl⟩) ?_
 rintro _ _ ⟨k0,rfl,hk1,rfl⟩
 have g2:=Grow.new (m:=[]) hk1 (.dT [])
 have eK2:=zc (H:=H1) (a:=k0) (o:=.dT [])
 have hk0:H k0 = none:=g1.free (by simp) hk1
 have bk0:b0 ≠ k0:=fun z=>by rw [z,hk1] at eB1; cases eB1
 have eB2:=g2.keep _ _ (by simp) eB1
 have g12:=g1.trans g2
 generalize upd H1 k0 (.dT []) = H2 at g2 g12 eK2 eB2 ⊢
 have nb:d ≠ b0:=fun z=>hdn (z ▸ hb0)
 have nk:d ≠ k0:=fun z=>hdn (z ▸ hk0)
 have hrd2:=Rd.growR g12 (.inl (by simp)) hrd
 refine ⟨_,rfl,d,kvs,rfl,hrd2,fun o H3 hd3 g3 same3=>?_⟩
 have eB3:H3 b0 = some (.dT []):=by rw [same3 b0 (Ne.symm nb)]; exact eB2
 have eK3:H3 k0 = some (.dT []):=by rw [same3 k0 (Ne.symm nk)]; exact eK2
 have hrw3:=g3.rows (g12.rows hrw)
 have tab3:TabR kvs (2 ^ k) m (lvR k rows ks (st - 1)) (zv K H3):=tab.imp fun v x hv=>g3.deed (g12.deed hv)
 refine VE (fun i σ H'=>∃ (e6 e7 e8 e9 e10:Option V) (bk kk:List (List Key × V)),σ = [some (.int k),some (.int st),some (.ref d),some u,some (.ref b0),some (.ref k0),e6,e7,e8,e9,e10] /\ Grow [b0,k0] H3 H' /\ H' b0 = some (.dT bk) /\ H' k0 = some (.dT kk) /\ Beh K H' k m rows ks st kvs i bk kk) ?_ ?_ ?_ ?_
 ·exact ⟨_,_,_,_,_,[],[],rfl,Grow.refl _ _,eB3,eK3,Beh.nil⟩
 ·rintro i σ H' _ ⟨e6,e7,e8,e9,e10,bk,kk,rfl,g,_⟩
  exact g.frz _ _ _ hd3
 ·rintro i p bb σ H4 hp hbb ⟨e6,e7,e8,e9,e10,bk,kk,rfl,g4,hB4,hK4,beh⟩
  obtain ⟨l,b,dd,ep,hl,hb,hlv,hdd⟩:=tab3.keys p (List.mem_of_getElem? hp)
  obtain ⟨pk,v⟩:=p
  cases (show pk = keyR l b from ep)
  have b16:b < 16:=by omega
  have hi:i < kvs.length:=(List.getElem?_eq_some_iff.mp hp).1
  refine ⟨bb,[.int l,.int b],rfl,SqT.of hbb,rfl,_,_,rfl,_,_,rfl,rfl,?_⟩
  refine yv (fun v H'=>Vs K H' v [x0R k rows st l,x1R k rows st l] /\ Grow [] H4 H') (fun Kk hk=>⟨_,rfl,_,rfl,_,rfl,_,rfl,_,_,_,_,rfl,k,st,l,rows,rfl,rfl,rfl,g4.rows hrw3,k4,s1,sk,hl,hs,fun y H' g hn=>hk _ _ ⟨hn,g⟩⟩) ?_
  rintro _ H5 ⟨⟨ri,rfl,hri⟩,g5⟩
  have X:=xF (rows:=rows) k4 hs s1 sk hl
  have fz:∀ H',Grow [] H4 H' -> H' d = some (.frz o (.dT kvs)):=fun H' g=>g.frz _ _ _ (g4.frz _ _ _ hd3)
  have fz5:=fz H5 g5
  refine yv (fun v H'=>∃ l9,v = .ref l9 /\ H' l9 = some (.lst ((valV kvs (keyR (x0R k rows st l) b)).toList ++ (valV kvs (keyR (x1R k rows st l) b)).toList)) /\ Grow [] H5 H') (fun Kk hk=>⟨_,rfl,ri,rfl,⟨_,hri⟩,uw (xs:=Wj [x0R k rows st l,x1R k rows st l]) (fun n ys σ' H'=>Grow [] H5 H' /\ (∃ e,σ' = [e,some (.ref d),some (.int b)]) /\ ys = (([x0R k rows st l,x1R k rows st l].take n).flatMap fun x=>(valV kvs (keyR x b)).toList)) ⟨Grow.refl _ _,⟨_,rfl⟩,rfl⟩ (fun n ys σ' H' _ z=>z.1.sqT hri) ?_ ?_⟩) ?_
  ·rintro n y ys σ' H' hy ⟨g,⟨e,rfl⟩,rfl⟩
   have fin:∀ x:Nat,y = .int x -> (([x0R k rows st l,x1R k rows st l].take (n + 1)).flatMap fun x=>(valV kvs (keyR x b)).toList) = (([x0R k rows st l,x1R k rows st l].take n).flatMap fun x=>(valV kvs (keyR x b)).toList) ++ (valV kvs (keyR x b)).toList -> (([x0R k rows st l,x1R k rows st l].take n).flatMap fun x=>(valV kvs (keyR x b)).toList).length < sizeLine →
     tB (tDIn (tTup (j7 (tVar 0) (j7 (tVar 2) tNil))) (tVar 1)) [some y,some (.ref d),some (.int b)] H' (fun t H4=>if t = true then Vx (tVar 1) (tTup (j7 (tVar 0) (j7 (tVar 2) tNil))) [some y,some (.ref d),some (.int b)] H4 fun y' H5'=>(([x0R k rows st l,x1R k rows st l].take n).flatMap fun x=>(valV kvs (keyR x b)).toList).length < sizeLine /\ Grow [] H5 H5' /\ (∃ e,[some y,some (V.ref d),some (V.int b)] = [e,some (.ref d),some (.int b)]) /\ (([x0R k rows st l,x1R k rows st l].take n).flatMap fun x=>(valV kvs (keyR x b)).toList) ++ [y'] = (([x0R k rows st l,x1R k rows st l].take (n + 1)).flatMap fun x=>(valV kvs (keyR x b)).toList) else Grow [] H5 H4 /\ (∃ e,[some y,some (V.ref d),some (V.int b)] = [e,some (.ref d),some (.int b)]) /\ (([x0R k rows st l,x1R k rows st l].take n).flatMap fun x=>(valV kvs (keyR x b)).toList) = (([x0R k rows st l,x1R k rows st l].take (n + 1)).flatMap fun x=>(valV kvs (keyR x b)).toList)):=by
    rintro x rfl et hsz
    rw [et]
    refine ⟨_,rfl,_,rfl,szl rfl,fun t ht=>?_⟩
    have gt:=Grow.new (m:=[]) ht (.tup [.int x,.int b])
    refine ⟨_,rfl,d,valV kvs (keyR x b),rfl,Z0 (gt.frz _ _ _ (g.frz _ _ _ fz5)) zc,_,rfl,?_⟩
    cases hv:valV kvs (keyR x b) with
    | none=>exact iteF ⟨g.trans gt,⟨_,rfl⟩,by rw [show (none:Option V).toList = [] from rfl,List.append_nil]⟩
    | some v =>
     refine sM rfl ⟨_,rfl,_,rfl,_,rfl,szl rfl,fun t2 ht2=>?_⟩
     have gt2:=Grow.new (m:=[]) ht2 (.tup [.int x,.int b])
     have gx:=Z0 (l:=x) (b:=b) (gt2.frz _ _ _ (gt.frz _ _ _ (g.frz _ _ _ fz5))) (zc (H:=upd H' t (.tup [.int x,.int b])) (a:=t2) (o:=.tup [.int x,.int b]))
     rw [hv] at gx
     exact ⟨d,v,rfl,gx,hsz,g.trans (gt.trans gt2),⟨_,rfl⟩,rfl⟩
   have small:∀ o:Option V,o.toList.length <= 1:=fun o=>by cases o <;> simp
   match n,hy with
   | 0,hy=>cases Option.some.inj hy; exact fin _ rfl (by simp [List.flatMap_cons]) (yg (by simp))
   | 1,hy =>
    cases Option.some.inj hy
    refine fin _ rfl (by simp [List.flatMap_cons]) (yg ?_)
    have:=small (valV kvs (keyR (x0R k rows st l) b))
    simp [List.flatMap_cons]; omega
  ·rintro ys σ' H' ⟨g,_,rfl⟩ l9 hl9
   refine hk _ _ ⟨l9,rfl,?_,g.trans (Grow.new hl9 _)⟩
   rw [zc]
   simp [List.flatMap_cons,Wj]
  rintro _ H6 ⟨l9,rfl,h9,g6⟩
  have fz6:=g6.frz _ _ _ fz5
  have W:=outF (b:=b) k4 s1 sk hl
  refine yv (fun v H'=>∃ t,v = .ref t /\ H' t = some (.tup [.int (outR k st l b:Nat),.int b]) /\ Grow [] H6 H') (fun Kk hk=>⟨_,rfl,_,rfl,_,rfl,_,rfl,_,rfl,_,_,rfl,k,b,rfl,rfl,k4,b16,_,_,_,_,rfl,k,st,l,((b % 2 ^ k:Nat):Int),rfl,rfl,rfl,rfl,k4,sk,by omega,by omega,by omega,by have:=zR (k:=k) (b:=b); omega,_,rfl,szl rfl,fun t ht=>hk _ _ ⟨t,rfl,?_,Grow.new ht _⟩⟩) ?_
  ·rw [zc,W.eq]; rfl
  rintro _ H7 ⟨t,rfl,ht,g7⟩
  have G7:=g5.trans (g6.trans g7)
  have h97:=g7.keep _ _ (by simp) h9
  have tab7:TabR kvs (2 ^ k) m (lvR k rows ks (st - 1)) (zv K H7):=tab3.imp fun v x hv=>G7.deed (g4.deed hv)
  have B7:=beh.grow G7
  have hB7:=G7.keep _ _ (by simp) hB4
  have hK7:=G7.keep _ _ (by simp) hK4
  have G37:Grow [b0,k0] H3 H7:=g4.trans G7.wk
  have lvo:lvR k rows ks st (outR k st l b) b = jp (lvR k rows ks (st - 1) (x0R k rows st l) b) (lvR k rows ks (st - 1) (x1R k rows st l) b):=by
   have:=XT (ks:=ks) (b:=b) k4 hs (s:=st - 1) (by omega) hl
   rw [← es] at this; exact this
  have val0:=tab7.val X.lt0 hb
  have val1:=tab7.val X.lt1 hb
  have tb:=beh.bl
  have tk:=beh.kl
  have O:=oneF k4 s1 sk hl
  have single:∀ (w:V) (x:Deed),H7 l9 = some (.lst [w]) -> lvR k rows ks st (outR k st l b) b = some x -> zv K H7 w x -> kpR k rows ks st l b = none -> ∃ (e6 e7 e8 e9 e10:Option V) (bk' kk':List (List Key × V)),[some (V.int k),some (.int st),some (.ref d),some u,some (.ref b0),some (.ref k0),some (.int l),some (.int b),some (.ref ri),some (.ref l9),some (.ref t)] = [some (.int k),some (.int st),some (.ref d),some u,some (.ref b0),some (.ref k0),e6,e7,e8,e9,e10] /\ Grow [b0,k0] H3 (upd H7 b0 (.dT (putK bk (keyR (outR k st l b) b) w))) /\ upd H7 b0 (.dT (putK bk (keyR (outR k st l b) b) w)) b0 = some (.dT bk') /\ upd H7 b0 (.dT (putK bk (keyR (outR k st l b) b) w)) k0 = some (.dT kk') /\ Beh K (upd H7 b0 (.dT (putK bk (keyR (outR k st l b) b) w))) k m rows ks st kvs (i + 1) bk' kk':=fun w x _ hx hw hkp=>by
   have gs:Grow [b0,k0] H7 (upd H7 b0 (.dT (putK bk (keyR (outR k st l b) b) w))):=Grow.setR hB7 (by simp)
   exact ⟨_,_,_,_,_,_,kk,rfl,G37.trans gs,zc,by rw [zk (Ne.symm bk0)]; exact hK7,(B7.one hp W.lt hb hx hw hkp).grow gs⟩
  cases h0:lvR k rows ks (st - 1) (x0R k rows st l) b with
  | none =>
   rw [h0] at val0 lvo
   cases h1:lvR k rows ks (st - 1) (x1R k rows st l) b with
   | none =>
    rcases X.or with e | e
    ·rw [← e,hlv] at h0; cases h0
    ·rw [← e,hlv] at h1; cases h1
   | some d1 =>
    rw [h1] at val1 lvo
    obtain ⟨v1,e1,w1⟩:=val1
    have kn:kpR k rows ks st l b = none:=by unfold kpR; rw [h0]
    rw [(show valV kvs (keyR (x0R k rows st l) b) = none from val0),e1] at h97
    refine ⟨_,rfl,l9,_,rfl,.inl (SqL.of h97),rfl,_,rfl,vS (decide_eq_false fun z=>nomatch V.int.inj z) ?_⟩
    exact ⟨_,rfl,l9,_,0,v1,rfl,rfl,SqL.of h97,rfl,_,rfl,_,rfl,b0,_,rfl,DPut.t (k:=keyR (outR k st l b) b) hB7 ht (yg (by omega)),single v1 d1 h97 lvo w1 kn⟩
  | some d0 =>
   rw [h0] at val0
   obtain ⟨v0,e0,w0⟩:=val0
   cases h1:lvR k rows ks (st - 1) (x1R k rows st l) b with
   | none =>
    rw [h0,h1] at lvo
    rw [h1] at val1
    have kn:kpR k rows ks st l b = none:=by unfold kpR; rw [h0,h1]
    rw [e0,(show valV kvs (keyR (x1R k rows st l) b) = none from val1)] at h97
    refine ⟨_,rfl,l9,_,rfl,.inl (SqL.of h97),rfl,_,rfl,vS (decide_eq_false fun z=>nomatch V.int.inj z) ?_⟩
    exact ⟨_,rfl,l9,_,0,v0,rfl,rfl,SqL.of h97,rfl,_,rfl,_,rfl,b0,_,rfl,DPut.t (k:=keyR (outR k st l b) b) hB7 ht (yg (by omega)),single v0 d0 h97 lvo w0 kn⟩
   | some d1 =>
    rw [h0,h1] at lvo
    rw [h1] at val1
    obtain ⟨v1,e1,w1⟩:=val1
    have kn:kpR k rows ks st l b = some d0:=by unfold kpR; rw [h0,h1]
    rw [e0,e1] at h97
    refine ⟨_,rfl,l9,_,rfl,.inl (SqL.of h97),rfl,_,rfl,sM (decide_eq_true rfl) ?_⟩
    refine ⟨_,rfl,l9,_,0,v0,rfl,rfl,SqL.of h97,rfl,_,rfl,_,rfl,_,rfl,_,rfl,_,_,_,rfl,k,st,l,rfl,rfl,rfl,k4,sk,by omega,by omega,_,rfl,szl rfl,fun t2 ht2=>?_⟩
    rw [O.sw,O.num]
    have g8:=Grow.new (m:=[]) ht2 (.tup [.int (nN k st l:Nat),.int b])
    have e8:=zc (H:=H7) (a:=t2) (o:=.tup [.int (nN k st l:Nat),.int b])
    have hB8:=g8.keep _ _ (by simp) hB7
    have hK8:=g8.keep _ _ (by simp) hK7
    have h98:=g8.keep _ _ (by simp) h97
    have ht8:=g8.keep _ _ (by simp) ht
    have w0':=g8.deed w0
    have w1':=g8.deed w1
    have B8:=B7.grow g8
    generalize upd H7 t2 (.tup [.int (nN k st l:Nat),.int b]) = H8 at g8 e8 hB8 hK8 h98 ht8 w0' w1' B8 ⊢
    refine ⟨k0,_,rfl,DPut.t (k:=keyR (nN k st l) b) hK8 e8 (yg (by omega)),?_⟩
    have g9:Grow [b0,k0] H8 (upd H8 k0 (.dT (putK kk (keyR (nN k st l) b) v0))):=Grow.setR hK8 (by simp)
    have hB9:upd H8 k0 (.dT (putK kk (keyR (nN k st l) b) v0)) b0 = some (.dT bk):=by rw [zk bk0]; exact hB8
    have hK9:=zc (H:=H8) (a:=k0) (o:=.dT (putK kk (keyR (nN k st l) b) v0))
    have n9:l9 ≠ k0:=XY h98 hK8 (fun z=>nomatch z)
    have nt9:t ≠ k0:=XY ht8 hK8 (fun z=>nomatch z)
    have h99:upd H8 k0 (.dT (putK kk (keyR (nN k st l) b) v0)) l9 = some (.lst [v0,v1]):=by rw [zk n9]; exact h98
    have ht9:upd H8 k0 (.dT (putK kk (keyR (nN k st l) b) v0)) t = some (.tup [.int (outR k st l b:Nat),.int b]):=by rw [zk nt9]; exact ht8
    generalize upd H8 k0 (.dT (putK kk (keyR (nN k st l) b) v0)) = H9 at g9 hB9 hK9 h99 ht9 ⊢
    refine ⟨_,rfl,l9,_,0,v0,rfl,rfl,SqL.of h99,rfl,_,rfl,l9,_,1,v1,rfl,rfl,SqL.of h99,rfl,_,_,rfl,d0,d1,g9.deed w0',g9.deed w1',fun t3 ht3=>?_⟩
    have ga:=Grow.new (m:=[]) ht3 (.tup (tG d0 d1).vs)
    have hBa:=ga.keep _ _ (by simp) hB9
    have hKa:=ga.keep _ _ (by simp) hK9
    have hta:=ga.keep _ _ (by simp) ht9
    have wj:zv K (upd H9 t3 (.tup (tG d0 d1).vs)) (.ref t3) (tG d0 d1):=⟨t3,rfl,SqT.of zc⟩
    have Ga:Grow [b0,k0] H3 (upd H9 t3 (.tup (tG d0 d1).vs)):=G37.trans (g8.wk.trans (g9.trans ga.wk))
    have Ba:=(B8.grow g9).grow ga
    have wa:=ga.deed (g9.deed w0')
    generalize upd H9 t3 (.tup (tG d0 d1).vs) = Ha at ga hBa hKa hta wj Ga Ba wa ⊢
    refine ⟨_,rfl,_,rfl,b0,_,rfl,DPut.t (k:=keyR (outR k st l b) b) hBa hta (yg (by omega)),?_⟩
    have gs:Grow [b0,k0] Ha (upd Ha b0 (.dT (putK bk (keyR (outR k st l b) b) (.ref t3)))):=Grow.setR hBa (by simp)
    exact ⟨_,_,_,_,_,_,_,rfl,Ga.trans gs,zc,by rw [zk (Ne.symm bk0)]; exact hKa,(Ba.two hp hl W.lt hb lvo wj kn wa).grow gs⟩
 ·rintro σ H4 ⟨e6,e7,e8,e9,e10,bk,kk,rfl,g4,hB4,hK4,beh⟩
  have tab4:TabR kvs (2 ^ k) m (lvR k rows ks (st - 1)) (zv K H4):=tab3.imp fun v x hv=>g4.deed hv
  obtain ⟨L1,L2⟩:=beh.done k4 hs s1 sk tab4 kl hB4 hK4
  refine ⟨_,rfl,_,rfl,szl rfl,fun r hr'=>?_⟩
  have g5:=Grow.new (m:=[]) hr' (.tup [.ref b0,.ref k0])
  have G:Grow [d] H (upd H4 r (.tup [.ref b0,.ref k0])):=by
   have a1:Grow [d,b0,k0] H H3:=(g12.wk.trans (g3.mono (by simp)))
   have a2:Grow [d,b0,k0] H3 H4:=g4.mono (by simp)
   refine (a1.trans (a2.trans g5.wk)).less fun b hb=>?_
   simp only [List.mem_cons,List.mem_nil_iff,or_false] at hb
   rcases hb with rfl | rfl | rfl
   ·exact .inl (by simp)
   ·exact .inr hb0
   ·exact .inr hk0
  exact q r b0 k0 _ G hb0 hk0 bk0 (SqT.of zc) (L1.grow g5 (by simp)) (L2.grow g5 (by simp)) ⟨kvs,.inr ⟨o,g5.frz _ _ _ (g4.frz _ _ _ hd3)⟩,tab4.imp fun v x hv=>g5.deed hv,kl⟩
theorem yn:FnScope ["k","asks","firsts","levels","stages","stage","behind","kept"] ["k","asks","firsts"] (ze (top 40)):=⟨rfl,rfl,rfl,by decide +kernel,rfl,by decide +kernel,by decide +kernel⟩
theorem rJ (F:Fun K "pass_net" "pass_net" (top 40) f fd) (B:Blt mg) (qc0:zi P w K mg base n "pass_stage" ["k","stage","asked","firsts"] (tZ K))     :
  FnOk P w K mg base CX0 (n + 1) f fd ["k","asks","firsts"] (t4 K):=by
 refine F.ok yn yE (fun cdv A outer s H vs Q E hr h=>?_)
 obtain ⟨x,y,z,rfl,k,m,rows,ks,rfl,k4,m16,k16,hks,hrw,hs,R,q⟩:=h
 refine ⟨_,(zd (zu (i:=3) yn.nd rfl (Or.inl rfl) (xE (za (Y4 (Room.u1F hr) (CSc.of (N':=["hand","box","deed"]) (sub:=[none,none,none]) (ze (top 40)) ["k","asks","firsts","levels","stages","stage","behind","kept"] rfl rfl (by decide +kernel) rfl) rfl (wC (pv 1)) (fun _ _ _ _ _ _=>wu (K:=K) 3 rfl rfl (zo (zj (i:=0) (show (["hand","box","deed"]:List Str).Nodup by decide +kernel) rfl (Or.inl rfl) (Or.inr rfl)) (zo (zj (i:=1) (show (["hand","box","deed"]:List Str).Nodup by decide +kernel) rfl (Or.inl rfl) (Or.inr rfl)) (zo (zj (i:=2) (show (["hand","box","deed"]:List Str).Nodup by decide +kernel) rfl (Or.inl rfl) (Or.inr rfl)) z6))) rfl rfl) (fun _ _ _ _ _ _=>zA) (fun _ _ _ _ _ _=>(yq (za (pv 0) (za (pv 1) zb)))) (fun _ _ _ _ _ _=>(pv 2))) zb))) (zd (zu (i:=4) yn.nd rfl (Or.inl rfl) (xE zb)) (zd (yQ PassesOwn.never rfl (uU rfl B.range (za zf (za (zq yK (pv 0) zf) zb))) (zj (i:=5) yn.nd rfl (Or.inl rfl)) (zd (wW (zg qc0 hr rfl (za (pv 0) (za (pv 5) (za (z7 zW (pv 3) (WY Xx zf) (fun _ _=>rfl)) (za (pv 2) zb))))) (xD rfl (zo (zj (i:=6) yn.nd rfl (Or.inl rfl)) (zo (zj (i:=7) yn.nd rfl (Or.inl rfl)) z6)))) (zd (yt (sI PySem.F.plainAttrs_list PySem.F.slot_list_append PySem.F.type_list_append xa (pv 3) (za (pv 6) zb))) (zh (yt (sI PySem.F.plainAttrs_list PySem.F.slot_list_append PySem.F.type_list_append xa (pv 4) (za (pv 7) zb))))))) (zh (zt (yq (za (pv 3) (za (pv 4) zb)))))))),?_⟩
 have p16:=z8 k4
 obtain ⟨ra,xs,rfl,hra,hxs⟩:=hks
 have xl:=hxs.len
 refine yv (fun v H'=>∃ lL d0 vs,v = .ref lL /\ H' lL = some (.lst [.ref d0]) /\ H' d0 = some (.dT (lv0K ks vs)) /\ vs.length = ks.length /\ (∀ (i:Nat) (a:Ask) (v:V),ks[i]? = some a -> vs[i]? = some v -> zv K H' v a.deed) /\ Grow [] H H' /\ H d0 = none /\ H lL = none) (fun Kk hk=>⟨_,rfl,ra,rfl,⟨_,hra⟩,ZZ (xs:=xs) (fun n kvs Hb σ' H'=>Grow [] H H' /\ Grow [] Hb H' /\ (∃ e1 e2 e3,σ' = [e1,e2,e3]) /\ n <= ks.length /\ ∃ vs,kvs = lv0K (ks.take n) vs /\ vs.length = n /\ ∀ (i:Nat) (a:Ask) (v:V),ks[i]? = some a -> vs[i]? = some v -> zv K H' v a.deed) ⟨Grow.refl _ _,Grow.refl _ _,⟨_,_,_,rfl⟩,Nat.zero_le _,[],rfl,rfl,fun i a v _ h=>by cases h⟩ (fun n kvs Hb σ' H' z=>z.1.sqT hra) ?_ ?_⟩) ?_
 ·rintro n x kvs Hb σ' H' hx ⟨g,gb,⟨e1,e2,e3,rfl⟩,hn,vs,rfl,vl,hv⟩
  obtain ⟨a,ha,r,rd,rfl,h1,h2⟩:=hxs.get hx
  have hn':=(List.getElem?_eq_some_iff.mp ha).1
  have am:=List.mem_of_getElem? ha
  refine ⟨r,_,rfl,g.sqT h1,rfl,_,_,rfl,_,_,rfl,_,_,rfl,rfl,?_⟩
  refine ⟨_,rfl,_,rfl,szl rfl,fun t ht=>?_⟩
  have gt:=Grow.new (m:=[]) ht (.tup [.int a.hand,.int a.box])
  refine ⟨_,rfl,yg (by rw [Z1]; omega),t,keyR a.hand.toNat a.box.toNat,rfl,?_,(fun c xs e=>gt.tup _ _ (gb.tup _ _ e)),g.trans gt,Grow.refl _ _,⟨_,_,_,rfl⟩,hn',vs ++ [.ref rd],Wv R ha vl,by rw [List.length_append]; show vs.length + 1 = _; omega,?_⟩
  ·rw [Y7 (R.hand a am).1 (R.box a am).1]; exact zc
  ·intro i a' v' hi hv'
   by_cases c:i < vs.length
   ·rw [List.getElem?_append_left c] at hv'
    exact gt.deed (hv i a' v' hi hv')
   ·have e:i = n:=by have:=(List.getElem?_eq_some_iff.mp hv').1; rw [List.length_append] at this; have:i < vs.length + 1:=this; omega
    rw [e,ha] at hi
    rw [e,← vl,List.getElem?_concat_length] at hv'
    cases Option.some.inj hi
    cases Option.some.inj hv'
    exact ⟨rd,rfl,gt.sqT (g.sqT h2)⟩
 ·rintro kvs Hb σ' H' ⟨g,gb,_,_,vs,rfl,vl,hv⟩
  refine ⟨fun b xs e=>gb.tup _ _ e,fun d0 hd0=>⟨szl rfl,fun lL hlL=>?_⟩⟩
  have g1:=Grow.new (m:=[]) hd0 (.dT (lv0K (ks.take xs.length) vs))
  have g2:=Grow.new (m:=[]) hlL (.lst [.ref d0])
  rw [xl,List.take_length] at g1 g2 hlL ⊢
  exact hk _ _ ⟨lL,d0,vs,rfl,zc,g2.keep _ _ (by simp) zc,by omega,fun i a v h1 h2=>g2.deed (g1.deed (hv i a v h1 h2)),g.trans (g1.trans g2),g.free (by simp) hd0,g.free (by simp) (g1.free (by simp) hlL)⟩
 rintro _ H1 ⟨lL,d0,vs,rfl,hL1,hd1,vl,hv1,g1,hd0,hlL⟩
 refine yv (fun v H'=>∃ lS,v = .ref lS /\ H1 lS = none /\ H' = upd H1 lS (.lst [])) (fun Kk hk=>⟨szl rfl,fun lS hlS=>hk _ _ ⟨lS,rfl,hlS,rfl⟩⟩) ?_
 rintro _ _ ⟨lS,rfl,hlS,rfl⟩
 have g2:=Grow.new (m:=[]) hlS (.lst [])
 have hS2:=zc (H:=H1) (a:=lS) (o:=.lst [])
 have hL2:=g2.keep _ _ (by simp) hL1
 have hd2:=g2.keep _ _ (by simp) hd1
 have nLS:lL ≠ lS:=fun z=>by rw [z,hlS] at hL1; cases hL1
 have hlS0:H lS = none:=g1.free (by simp) hlS
 have G2:=g1.trans g2
 have N2:NetR K (upd H1 lS (.lst [])) k m rows ks [d0] []:=by
  refine ⟨fun s d h=>?_,fun s d h=>(by cases h),by simp⟩
  match s,h with
  | 0,h =>
   cases Option.some.inj h
   exact ⟨_,.inl hd2,Wu R vl fun i a v h1 h2=>g2.deed (hv1 i a v h1 h2),by rw [Z1]; omega⟩
 generalize upd H1 lS (.lst []) = H2 at g2 hS2 hL2 hd2 G2 N2 ⊢
 refine ⟨_,rfl,_,_,rfl,rfl,_,_,rfl,⟨by omega,by omega,by omega,by omega⟩,ye (fun i σ H'=>∃ (ds kps:List Addr) (e5 e6 e7:Option V),σ = [some (.int k),some (.ref ra),some z,some (.ref lL),some (.ref lS),e5,e6,e7] /\ ds.length = i + 1 /\ kps.length = i /\ H' lL = some (.lst (ds.map V.ref)) /\ H' lS = some (.lst (kps.map V.ref)) /\ NetR K H' k m rows ks ds kps /\ (∀ d ∈ ds ++ kps,H d = none) /\ Grow [] H H') ?_ ?_ ?_⟩
 ·exact ⟨[d0],[],_,_,_,rfl,rfl,rfl,hL2,hS2,N2,(fun d hd=>by rw [show d = d0 from by simpa using hd]; exact hd0),G2⟩
 ·rintro i σ H3 hi ⟨ds,kps,e5,e6,e7,rfl,dl,kpl,hL3,hS3,N3,fr3,G3⟩
  have hik:i + 1 <= k:=by omega
  obtain ⟨ds0,d,rfl⟩:=Y8 (xs:=ds) (fun z=>by rw [z] at dl; cases dl)
  have dl0:ds0.length = i:=by rw [List.length_append] at dl; have:ds0.length + 1 = i + 1:=dl; omega
  have hLd:LvAt K H3 k m rows ks i d:=N3.lv i d (by rw [← dl0,List.getElem?_concat_length])
  have last:atI ((ds0 ++ [d]).map V.ref) (-1) = some (.ref d):=Um
  have nL:∀ e ∈ (ds0 ++ [d]) ++ kps,e ≠ lL /\ e ≠ lS:=fun e he=>by
   obtain ⟨kv,hk⟩:=N3.isD he
   exact ⟨Rd.ne_lst hk hL3,Rd.ne_lst hk hS3⟩
  have nLd:=nL d (by simp)
  refine ⟨_,rfl,_,rfl,_,rfl,_,rfl,lL,_,_,_,rfl,rfl,SqL.of hL3,last,_,rfl,_,_,_,_,rfl,k,i + 1,m,d,rows,ks,rfl,congrArg V.int (by omega),rfl,k4,by omega,hik,m16,hLd,G3.rows hrw,hs,R,fun r b' kp H4 g4 hb' hkp nbk s4 L4 K4 L4'=>?_⟩
  refine ⟨r,[.ref b',.ref kp],rfl,s4,rfl,_,_,rfl,_,_,rfl,rfl,?_⟩
  have hL4:=g4.keep _ _ (by simpa using Ne.symm nLd.1) hL3
  have hS4:=g4.keep _ _ (by simpa using Ne.symm nLd.2) hS3
  have nb:∀ e ∈ (ds0 ++ [d]) ++ kps,e ≠ b' /\ e ≠ kp:=fun e he=>by
   obtain ⟨kv,hk⟩:=N3.isD he
   exact ⟨fun z=>Rd.ne_none hk (z ▸ hb'),fun z=>Rd.ne_none hk (z ▸ hkp)⟩
  have ndd:∀ e ∈ ds0 ++ kps,e ≠ d:=fun e he z=>by
   have nd:=N3.nd
   rw [List.append_assoc] at nd
   rcases List.mem_append.mp he with h | h
   ·exact (List.nodup_append.mp nd).2.2 e h d (by simp) z
   ·have:=(List.nodup_append.mp nd).2.1
    rw [List.singleton_append,List.nodup_cons] at this
    exact this.1 (z ▸ h)
  have N4:NetR K H4 k m rows ks (ds0 ++ [d] ++ [b']) (kps ++ [kp]):=by
   refine ⟨fun s e h=>?_,fun s e h=>?_,?_⟩
   ·by_cases c:s < (ds0 ++ [d]).length
    ·rw [List.getElem?_append_left c] at h
     by_cases c2:s < ds0.length
     ·rw [List.getElem?_append_left c2] at h
      exact (N3.lv s e (by rw [List.getElem?_append_left c2]; exact h)).grow g4 (by simpa using ndd e (List.mem_append_left _ (List.mem_of_getElem? h)))
     ·have es:s = ds0.length:=by rw [List.length_append] at c; have:s < ds0.length + 1:=c; omega
      rw [es,List.getElem?_concat_length] at h
      cases Option.some.inj h
      rw [es,dl0]; exact L4'
    ·have es:s = (ds0 ++ [d]).length:=by have:=(List.getElem?_eq_some_iff.mp h).1; rw [List.length_append (bs:=[b'])] at this; have:s < (ds0 ++ [d]).length + 1:=this; omega
     rw [es,List.getElem?_concat_length] at h
     cases Option.some.inj h
     rw [es,dl]; exact L4
   ·by_cases c:s < kps.length
    ·rw [List.getElem?_append_left c] at h
     exact (N3.kp s e h).grow g4 (by simpa using ndd e (List.mem_append_right _ (List.mem_of_getElem? h)))
    ·have es:s = kps.length:=by have:=(List.getElem?_eq_some_iff.mp h).1; rw [List.length_append] at this; have:s < kps.length + 1:=this; omega
     rw [es,List.getElem?_concat_length] at h
     cases Option.some.inj h
     rw [es,kpl]; exact K4
   ·exact jr N3.nd (fun e he=>(nb e he).1) (fun e he=>(nb e he).2) nbk
  have fr4:∀ e ∈ (ds0 ++ [d] ++ [b']) ++ (kps ++ [kp]),H e = none:=fun e he=>by
   rcases List.mem_append.mp he with h | h
   ·rcases List.mem_append.mp h with h | h
    ·exact fr3 e (List.mem_append_left _ h)
    ·rw [List.mem_singleton.mp h]; exact G3.free (by simp) hb'
   ·rcases List.mem_append.mp h with h | h
    ·exact fr3 e (List.mem_append_right _ h)
    ·rw [List.mem_singleton.mp h]; exact G3.free (by simp) hkp
  have G4:Grow [] H H4:=(G3.wk.trans g4).fresh fun b hb=>by rw [List.mem_singleton.mp hb]; exact fr3 d (by simp)
  have nL4:∀ e ∈ (ds0 ++ [d] ++ [b']) ++ (kps ++ [kp]),e ∉ [lL]:=fun e he z=>by
   obtain ⟨kv,hk⟩:=N4.isD he
   exact Rd.ne_lst hk hL4 (by simpa using z)
  have nS4:∀ e ∈ (ds0 ++ [d] ++ [b']) ++ (kps ++ [kp]),e ∉ [lS]:=fun e he z=>by
   obtain ⟨kv,hk⟩:=N4.isD he
   exact Rd.ne_lst hk hS4 (by simpa using z)
  refine ⟨_,rfl,.inl ⟨rfl,_,SqL.of hL4⟩,_,rfl,lL,_,_,rfl,rfl,hL4,yg (by rw [List.length_map]; omega),?_⟩
  have g5:Grow [lL] H4 (upd H4 lL (.lst ((ds0 ++ [d]).map V.ref ++ [.ref b']))):=Grow.set hL4 (by simp) _
  have hL5:=zc (H:=H4) (a:=lL) (o:=.lst ((ds0 ++ [d]).map V.ref ++ [.ref b']))
  have hS5:upd H4 lL (.lst ((ds0 ++ [d]).map V.ref ++ [.ref b'])) lS = some (.lst (kps.map V.ref)):=by rw [zk (Ne.symm nLS)]; exact hS4
  have N5:=N4.grow g5 nL4
  have G5:Grow [] H (upd H4 lL (.lst ((ds0 ++ [d]).map V.ref ++ [.ref b']))):=(G4.wk.trans g5).fresh fun b hb=>by rw [List.mem_singleton.mp hb]; exact hlL
  generalize upd H4 lL (.lst ((ds0 ++ [d]).map V.ref ++ [.ref b'])) = H5 at g5 hL5 hS5 N5 G5 ⊢
  refine ⟨_,rfl,.inl ⟨rfl,_,SqL.of hS5⟩,_,rfl,lS,_,_,rfl,rfl,hS5,yg (by rw [List.length_map]; omega),?_⟩
  have g6:Grow [lS] H5 (upd H5 lS (.lst (kps.map V.ref ++ [.ref kp]))):=Grow.set hS5 (by simp) _
  refine ⟨ds0 ++ [d] ++ [b'],kps ++ [kp],_,_,_,rfl,by rw [List.length_append,dl]; rfl,by rw [List.length_append,kpl]; rfl,?_,?_,N5.grow g6 nS4,fr4,(G5.wk.trans g6).fresh fun b hb=>by rw [List.mem_singleton.mp hb]; exact hlS0⟩
  ·rw [zk nLS,hL5,List.map_append (l₂:=[b'])]; rfl
  ·rw [zc,List.map_append (l₂:=[kp])]; rfl
 ·rintro σ H3 ⟨ds,kps,e5,e6,e7,rfl,dl,kpl,hL3,hS3,N3,fr3,G3⟩
  have ek:((k:Int) + 1 - 1).toNat = k:=by omega
  rw [ek] at dl kpl
  refine ⟨_,rfl,_,rfl,szl rfl,fun r hr'=>?_⟩
  have g5:=Grow.new (m:=[]) hr' (.tup [.ref lL,.ref lS])
  exact q r lL lS ds kps _ (G3.trans g5) (SqT.of zc) (g5.keep _ _ (by simp) hL3) (g5.keep _ _ (by simp) hS3) dl kpl (N3.grow g5 (by simp)) fr3
theorem y0:FnScope ["k"] ["k"] (ze (top 33)):=⟨rfl,rfl,rfl,by decide +kernel,rfl,by decide +kernel,by decide +kernel⟩
theorem y4 (F:Fun K "switches_in_a_stage" "switches_in_a_stage" (top 33) f fd) (B:Blt mg)      :
  FnOk P w K mg base CX0 (n + 1) f fd ["k"] (xG K):=by
 refine F.ok y0 yT (fun cdv A outer s H vs Q E hr h=>?_)
 obtain ⟨x,rfl,k,rfl,k4,q⟩:=h
 refine ⟨_,(zh (zt (zq jW (zq yw zf (pv 0)) zf))),?_⟩
 refine ⟨_,rfl,_,_,rfl,rfl,tQ k4,_,_,rfl,rfl,(by show (0:Int) <= 1; decide),?_⟩
 show Q (V.int (1 * 2 ^ ((k:Int)).toNat / 2 ^ (1:Int).toNat)) H
 rw [Wi k4]
 exact q
theorem rK:FnScope ["thing"] ["thing"] (ze (top 7)):=⟨rfl,rfl,rfl,by decide +kernel,rfl,by decide +kernel,by decide +kernel⟩
theorem rL (F:Fun K "is_whole" "is_whole" (top 7) f fd) (B:Blt mg)      :
  FnOk P w K mg base CX0 (n + 1) f fd ["thing"] (yF K):=by
 refine F.ok rK yT (fun cdv A outer s H vs Q E hr h=>?_)
 obtain ⟨x,rfl,⟨T,ty⟩,q⟩:=h
 refine ⟨_,(zh (zt (v3 (zp xm rfl B.isinstance yc (za (pv 0) (za (v4 rfl B.int W8) zb))) (wV (WT (zp xm rfl B.isinstance yc (za (pv 0) (za (v4 rfl B.bool W9) zb)))))))),?_⟩
 cases x with
 | non=>cases (show T = "NoneType" from ty); exact ⟨_,rfl,_,_,_,false,rfl,rfl,rfl,_,rfl,iteF q⟩
 | bl y=>cases (show T = "bool" from ty); exact ⟨_,rfl,_,_,_,true,rfl,rfl,rfl,_,rfl,iteT ⟨_,rfl,_,_,_,true,rfl,rfl,rfl,_,rfl,q⟩⟩
 | int i=>cases (show T = "int" from ty); exact ⟨_,rfl,_,_,_,true,rfl,rfl,rfl,_,rfl,iteT ⟨_,rfl,_,_,_,false,rfl,rfl,rfl,_,rfl,q⟩⟩
 | str y=>cases (show T = "str" from ty); exact ⟨_,rfl,_,_,_,false,rfl,rfl,rfl,_,rfl,iteF q⟩
 | byt y=>exact ty.elim
 | flt y=>exact ty.elim
 | ty y=>exact ty.elim
 | ref a =>
  rcases ty with ⟨rfl,xs,hq⟩ | ⟨rfl,xs,hq⟩ | ⟨rfl,kvs,hq⟩
  ·exact ⟨_,rfl,_,_,_,false,rfl,.inl ⟨rfl,xs,hq⟩,rfl,_,rfl,iteF q⟩
  ·exact ⟨_,rfl,_,_,_,false,rfl,.inr (.inl ⟨rfl,xs,hq⟩),rfl,_,rfl,iteF q⟩
  ·exact ⟨_,rfl,_,_,_,false,rfl,.inr (.inr ⟨rfl,kvs,hq⟩),rfl,_,rfl,iteF q⟩
theorem sx:FnScope ["thing","least","greatest"] ["thing","least","greatest"] (ze (top 8)):=⟨rfl,rfl,rfl,by decide +kernel,rfl,by decide +kernel,by decide +kernel⟩
theorem sy (F:Fun K "is_within" "is_within" (top 8) f fd) (B:Blt mg) (qc0:zi P w K mg base n "is_whole" ["thing"] (yF K))     :
  FnOk P w K mg base CX0 (n + 1) f fd ["thing","least","greatest"] (yN K):=by
 refine F.ok sx yE (fun cdv A outer s H vs Q E hr h=>?_)
 obtain ⟨x,y,z,rfl,i,l,u,rfl,rfl,rfl,q⟩:=h
 refine ⟨_,(zh (zt (v3 (zg qc0 hr rfl (za (pv 0) zb)) (wV (YF j4 j4 (pv 1) (pv 0) (pv 2)))))),?_⟩
 refine ⟨_,rfl,_,rfl,qf,_,rfl,iteT ⟨_,rfl,_,rfl,_,_,rfl,rfl,_,rfl,?_⟩⟩
 by_cases c:l <= i
 ·refine sM (decide_eq_true c) ⟨_,rfl,_,_,rfl,rfl,?_⟩
  rw [decide_eq_true c] at q; exact q
 ·refine vS (decide_eq_false c) ?_
  rw [decide_eq_false c] at q; exact q
theorem rM:FnScope ["thing"] ["thing"] (ze (top 11)):=⟨rfl,rfl,rfl,by decide +kernel,rfl,by decide +kernel,by decide +kernel⟩
theorem rN (F:Fun K "need_net" "need_net" (top 11) f fd) (B:Blt mg) (qc0:zi P w K mg base n "is_within" ["thing","least","greatest"] (yN K))   {t_DEEPEST:Tok} (g_DEEPEST:mg "DEEPEST" = some (.int 4 t_DEEPEST))  :
  FnOk P w K mg base CX0 (n + 1) f fd ["thing"] (xK K):=by
 refine F.ok rM yT (fun cdv A outer s H vs Q E hr h=>?_)
 obtain ⟨x,rfl,k,rfl,k4,q⟩:=h
 refine ⟨_,(zh (yB (y7 (yJ (zg qc0 hr rfl (za (pv 0) (za zf (za (sF rfl g_DEEPEST (show RelV (.int 4) (.int 4 t_DEEPEST) from ⟨_,rfl⟩)) zb)))))) (zh wP) zC)),?_⟩
 exact ⟨_,rfl,_,_,_,rfl,_,_,_,rfl,rfl,rfl,_,rfl,vS (by rw [decide_eq_true (show (0:Int) <= k by omega),decide_eq_true (show (k:Int) <= 4 by omega)]; rfl) q⟩
theorem rO:FnScope ["k"] ["k"] (ze (top 34)):=⟨rfl,rfl,rfl,by decide +kernel,rfl,by decide +kernel,by decide +kernel⟩
theorem rP (F:Fun K "straight" "straight" (top 34) f fd) (B:Blt mg) (qc0:zi P w K mg base n "switches_in_a_stage" ["k"] (xG K)) (qc1:zi P w K mg base n "need_net" ["thing"] (xK K))     :
  FnOk P w K mg base CX0 (n + 1) f fd ["k"] (x8 K):=by
 refine F.ok rO yT (fun cdv A outer s H vs Q E hr h=>?_)
 obtain ⟨x,rfl,k,rfl,k4,q⟩:=h
 refine ⟨_,(zd (yt (zg qc1 hr rfl (za (pv 0) zb))) (zh (zt (zq (ZP (K:=K) rfl) (yq (za (zq (ZP (K:=K) rfl) (yq (za zf zb)) (zg qc0 hr rfl (za (pv 0) zb))) zb)) (pv 0))))),?_⟩
 refine ⟨_,rfl,_,rfl,k,rfl,k4,?_⟩
 refine c_nx ⟨szl rfl,fun t ht=>⟨_,rfl,_,rfl,k,rfl,k4,?_⟩⟩
 have gt:=Grow.new (m:=[]) ht (.tup [.int 0])
 have p16:=z8 k4
 refine ⟨t,2 ^ k / 2,[.int 0],rfl,rfl,SqT.of zc,(fun z=>nomatch z),Nat.le_of_lt (yg (by show 1 * (2 ^ k / 2) <= 1000; omega)),fun p1 H1 g1 h1=>⟨szl rfl,fun t2 ht2=>⟨_,rfl,?_⟩⟩⟩
 have gt2:=Grow.new (m:=[]) ht2 (.tup [.ref p1])
 refine ⟨t2,k,[.ref p1],rfl,rfl,SqT.of zc,(fun z=>nomatch z),Nat.le_of_lt (yg (by show 1 * k <= 1000; omega)),fun p2 H2 g2 h2=>q _ _ (gt.trans (g1.trans (gt2.trans g2))) ⟨p2,_,rfl,h2,?_⟩⟩
 have e1:(List.replicate (2 ^ k / 2) [V.int 0]).flatten = (List.replicate (2 ^ k / 2) (0:Int)).map V.int:=by
  rw [List.map_replicate]
  generalize 2 ^ k / 2 = n
  induction n with
  | zero=>rfl
  | succ n ih=>rw [List.replicate_succ,List.flatten_cons,ih,List.replicate_succ]; rfl
 rw [e1] at h1
 have hr1:zr K H2 (.ref p1) (List.replicate (2 ^ k / 2) 0):=⟨p1,rfl,(gt2.trans g2).sqT h1⟩
 exact t8 hr1 k
theorem jL:FnScope ["k","thing"] ["k","thing"] (ze (top 12)):=⟨rfl,rfl,rfl,by decide +kernel,rfl,by decide +kernel,by decide +kernel⟩
theorem jM (F:Fun K "is_line" "is_line" (top 12) f fd) (B:Blt mg) (qc0:zi P w K mg base n "is_within" ["thing","least","greatest"] (yN K))     :
  FnOk P w K mg base CX0 (n + 1) f fd ["k","thing"] (ua K):=by
 refine F.ok jL yD (fun cdv A outer s H vs Q E hr h=>?_)
 obtain ⟨x,y,rfl,k,l,rfl,rfl,k4,hl,q⟩:=h
 refine ⟨_,(zh (zt (zg qc0 hr rfl (za (pv 1) (za zf (za (zq yL (zq yw zf (pv 0)) zf) zb)))))),?_⟩
 refine ⟨_,rfl,_,rfl,_,_,rfl,rfl,tQ k4,_,_,rfl,rfl,_,_,_,rfl,_,_,_,rfl,rfl,rfl,?_⟩
 rw [decide_eq_true (show (0:Int) <= l by omega),decide_eq_true (show (l:Int) <= 1 * 2 ^ ((k:Int)).toNat - 1 by rw [xJ]; omega)]
 exact q
theorem Yy:FnScope ["thing"] ["thing"] (ze (top 19)):=⟨rfl,rfl,rfl,by decide +kernel,rfl,by decide +kernel,by decide +kernel⟩
theorem Yz (F:Fun K "is_end" "is_end" (top 19) f fd) (B:Blt mg) (qc0:zi P w K mg base n "is_whole" ["thing"] (yF K))     :
  FnOk P w K mg base CX0 (n + 1) f fd ["thing"] (tw K):=by
 refine F.ok Yy yT (fun cdv A outer s H vs Q E hr h=>?_)
 obtain ⟨x,rfl,kn,q⟩:=h
 refine ⟨_,(zh (zt (WR (WQ (uS (pv 0))) (wV (zg qc0 hr rfl (za (pv 0) zb)))))),?_⟩
 refine ⟨x,rfl,_,rfl,?_⟩
 cases x with
 | non=>exact iteT q
 | _=>exact iteF ⟨_,rfl,_,rfl,kn,q⟩
theorem xB:FnScope ["thing","add","low","high"] ["thing"] (ze (top 20)):=⟨rfl,rfl,rfl,by decide +kernel,rfl,by decide +kernel,by decide +kernel⟩
theorem jN (F:Fun K "is_deed" "is_deed" (top 20) f fd) (B:Blt mg) (qc0:zi P w K mg base n "is_end" ["thing"] (tw K)) (qc1:zi P w K mg base n "is_whole" ["thing"] (yF K))     :
  FnOk P w K mg base CX0 (n + 1) f fd ["thing"] (v5 K):=by
 refine F.ok xB yT (fun cdv A outer s H vs Q E hr h=>?_)
 obtain ⟨x,rfl,h⟩:=h
 refine ⟨_,(zd (yB (PW.pt (sH (y7 (yJ (zp xm rfl B.isinstance yc (za (pv 0) (za (v4 rfl B.tuple yi) zb))))) (wU (zN j3 (zp zx rfl B.len wn (za (pv 0) zb)) zf (zO _))))) (zh (zt wJ)) zC) (zd (wW (pv 0) (xD rfl (zo (zj (i:=1) xB.nd rfl (Or.inl rfl)) (zo (zj (i:=2) xB.nd rfl (Or.inl rfl)) (zo (zj (i:=3) xB.nd rfl (Or.inl rfl)) z6))))) (zd (yB (y7 (PW.pt (uT (yJ (zg qc1 hr rfl (za (pv 1) zb))) (uT (yJ (zg qc0 hr rfl (za (pv 2) zb))) (uo (yJ (zg qc0 hr rfl (za (pv 3) zb)))))))) (zh (zt wJ)) zC) (zd (yB (PW.pt (sH (wB (uS (pv 2))) (wU (wB (uS (pv 3)))))) (zh (zt wJ)) zC) (zh (zt (WR (wg YD (pv 2) (pv 3) (zO _)) (wV (v3 (wg ur (pv 2) (pv 3) (zO _)) (wV (wg ur (pv 1) zf (zO _)))))))))))),?_⟩
 rcases h with ⟨T,hT,ty,q⟩ | ⟨a,xs,rfl,hs,hk,q⟩
 ·have kt:PySem.W.kitOne K (.type T) (.type "tuple") = some false:=by
   cases x with
   | non=>cases (show T = "NoneType" from ty); rfl
   | bl y=>cases (show T = "bool" from ty); rfl
   | int i=>cases (show T = "int" from ty); rfl
   | str y=>cases (show T = "str" from ty); rfl
   | byt y=>exact ty.elim
   | flt y=>exact ty.elim
   | ty y=>exact ty.elim
   | ref a =>
    rcases ty with ⟨rfl,xs,hq⟩ | ⟨rfl,xs,hq⟩ | ⟨rfl,kvs,hq⟩
    ·exact absurd rfl hT
    ·rfl
    ·rfl
  exact ⟨_,rfl,_,_,_,false,rfl,ty,kt,_,rfl,iteT (iteT q)⟩
 ·refine ⟨_,rfl,_,_,_,true,rfl,.inl ⟨rfl,xs,hs⟩,rfl,_,rfl,iteF ⟨_,rfl,a,xs,rfl,.inr hs,rfl,_,rfl,?_⟩⟩
  by_cases hl:xs.length = 3
  ·obtain ⟨y1,y2,y3,rfl⟩:=len3 hl
   refine iteF ⟨_,rfl,a,_,rfl,hs,rfl,_,_,rfl,_,_,rfl,_,_,rfl,rfl,?_⟩
   refine ⟨_,rfl,_,rfl,hk y1 (by simp),_,rfl,?_⟩
   refine ite2 (fun c1=>?_) (fun c1=>?_)
   ·obtain ⟨i1,rfl⟩:=Zh c1
    refine ⟨_,rfl,_,rfl,hk y2 (by simp),_,rfl,?_⟩
    refine ite2 (fun c2=>?_) (fun c2=>?_)
    ·obtain ⟨o2,rfl⟩:=XA c2
     refine ⟨_,rfl,_,rfl,hk y3 (by simp),_,rfl,?_⟩
     by_cases c3:endV y3 = true
     ·obtain ⟨o3,rfl⟩:=XA c3
      rw [c3]
      refine iteF ?_
      cases o2 with
      | none=>exact ⟨_,rfl,_,rfl,iteT (iteT (by cases o3 <;> exact q))⟩
      | some l =>
       cases o3 with
       | none=>exact ⟨_,rfl,_,rfl,iteF ⟨_,rfl,_,rfl,iteT q⟩⟩
       | some u =>
        refine ⟨_,rfl,_,rfl,iteF ⟨_,rfl,_,rfl,iteF ?_⟩⟩
        refine ⟨_,rfl,_,rfl,_,_,rfl,rfl,_,rfl,?_⟩
        have q':Q (.bl (decide (l < u) || (decide (l = u) && decide (i1 = 0)))) H:=q
        refine ite2 (fun c=>?_) (fun c=>?_)
        ·rw [c] at q'; exact q'
        ·rw [Bool.eq_false_iff.mpr c] at q'
         refine ⟨_,rfl,_,rfl,rfl,_,rfl,?_⟩
         refine ite2 (fun d=>?_) (fun d=>?_)
         ·have d':l = u:=V.int.inj (of_decide_eq_true d)
          refine ⟨_,rfl,rfl,?_⟩
          rw [decide_eq_true d'] at q'
          have e:decide (V.int i1 = V.int 0) = decide (i1 = 0):=by simp
          rw [e]; exact q'
         ·have d':¬ l = u:=fun z=>d (by rw [z]; simp)
          rw [decide_eq_false d'] at q'
          exact q'
     ·have e:endV y3 = false:=Bool.eq_false_iff.mpr c3
      rw [e]
      refine iteT ?_
      have z:wo [V.int i1,ov o2,y3] = false:=by show (true && (endV (ov o2) && (endV y3 && _))) = false; rw [e]; simp
      rw [z] at q; exact q
    ·have e:endV y2 = false:=Bool.eq_false_iff.mpr c2
     refine iteT ?_
     have z:wo [V.int i1,y2,y3] = false:=by show (true && (endV y2 && (endV y3 && _))) = false; rw [e]; simp
     rw [z] at q; exact q
   ·have e:tu y1 = false:=Bool.eq_false_iff.mpr c1
    refine iteT ?_
    have z:wo [y1,y2,y3] = false:=by show (tu y1 && (endV y2 && (endV y3 && _))) = false; rw [e]; simp
    rw [z] at q; exact q
  ·have e:decide (V.int (xs.length:Int) = V.int 3) = false:=decide_eq_false fun z=>hl (by have:=V.int.inj z; omega)
   rw [e]
   refine iteT ?_
   rw [sK hl] at q; exact q
theorem wc:FnScope ["board","thing","hand","box","deed"] ["board","thing"] (ze (top 29)):=⟨rfl,rfl,rfl,by decide +kernel,rfl,by decide +kernel,by decide +kernel⟩
theorem YA (F:Fun K "is_ask" "is_ask" (top 29) f fd) (B:Blt mg) (qc0:zi P w K mg base n "is_deed" ["thing"] (v5 K)) (qc1:zi P w K mg base n "is_within" ["thing","least","greatest"] (yN K))   {t_LAST_HAND:Tok} (g_LAST_HAND:mg "LAST_HAND" = some (.int 15 t_LAST_HAND))  :
  FnOk P w K mg base CX0 (n + 1) f fd ["board","thing"] (tN K):=by
 refine F.ok wc yD (fun cdv A outer s H vs Q E hr h=>?_)
 obtain ⟨x,y,rfl,b,k,⟨rb,rfl,hb⟩,⟨r,rd,rfl,h1,h2⟩,⟨k1,k2,k3,k4,k5⟩,q⟩:=h
 refine ⟨_,(zd (yB (PW.pt (sH (y7 (yJ (zp xm rfl B.isinstance yc (za (pv 1) (za (v4 rfl B.tuple yi) zb))))) (wU (zN j3 (zp zx rfl B.len wn (za (pv 1) zb)) zf (zO _))))) (zh (zt wJ)) zC) (zd (wW (pv 1) (xD rfl (zo (zj (i:=2) wc.nd rfl (Or.inl rfl)) (zo (zj (i:=3) wc.nd rfl (Or.inl rfl)) (zo (zj (i:=4) wc.nd rfl (Or.inl rfl)) z6))))) (zh (zt (v3 (zg qc1 hr rfl (za (pv 2) (za zf (za (sF rfl g_LAST_HAND (show RelV (.int 15) (.int 15 t_LAST_HAND) from ⟨_,rfl⟩)) zb)))) (v3 (zg qc1 hr rfl (za (pv 3) (za zf (za (zq yL (zp zx rfl B.len wn (za (pv 0) zb)) zf) zb)))) (wV (zg qc0 hr rfl (za (pv 4) zb))))))))),?_⟩
 have hl:(b.map V.int).length = b.length:=List.length_map ..
 refine ⟨_,rfl,_,_,_,true,rfl,.inl ⟨rfl,_,h1⟩,rfl,_,rfl,iteF ⟨_,rfl,r,_,rfl,.inr h1,rfl,_,rfl,iteF ?_⟩⟩
 refine ⟨_,rfl,r,_,rfl,h1,rfl,_,_,rfl,_,_,rfl,_,_,rfl,rfl,?_⟩
 refine ⟨_,rfl,_,_,_,rfl,_,_,_,rfl,rfl,rfl,_,rfl,sM (by rw [decide_eq_true k1,decide_eq_true k2]; rfl) ?_⟩
 refine ⟨_,rfl,_,rfl,rb,_,rfl,.inr hb,_,_,rfl,rfl,_,_,_,rfl,_,_,_,rfl,rfl,rfl,_,rfl,sM (by rw [decide_eq_true k3,decide_eq_true (show k.box <= ((b.map V.int).length:Int) - 1 by rw [hl]; omega)]; rfl) ?_⟩
 refine ⟨_,rfl,_,rfl,.inr ⟨rd,_,rfl,h2,?_,?_⟩⟩
 ·intro v hv
  simp only [Deed.vs,List.mem_cons,List.mem_nil_iff,or_false] at hv
  rcases hv with rfl | rfl | rfl
  ·exact qf
  ·exact Vb _
  ·exact Vb _
 ·rw [ja k5]; exact q
theorem rQ:FnScope ["thing"] ["thing"] (ze (top 27)):=⟨rfl,rfl,rfl,by decide +kernel,rfl,by decide +kernel,by decide +kernel⟩
theorem rR (F:Fun K "is_board" "is_board" (top 27) f fd) (B:Blt mg) (qc0:zi P w K mg base n "is_whole" ["thing"] (yF K))   {t_MOST_BOXES:Tok} (g_MOST_BOXES:mg "MOST_BOXES" = some (.int 16 t_MOST_BOXES))  :
  FnOk P w K mg base CX0 (n + 1) f fd ["thing"] (vc K):=by
 refine F.ok rQ yT (fun cdv A outer s H vs Q E hr h=>?_)
 obtain ⟨x,rfl,b,⟨r,rfl,hs⟩,b1,b2,q⟩:=h
 refine ⟨_,(zd (yB (PW.pt (sH (y7 (yJ (zp xm rfl B.isinstance yc (za (pv 0) (za (v4 rfl B.tuple yi) zb))))) (wU (y7 (YG j4 j4 zf (zp zx rfl B.len wn (za (pv 0) zb)) (sF rfl g_MOST_BOXES (show RelV (.int 16) (.int 16 t_MOST_BOXES) from ⟨_,rfl⟩))))))) (zh (zt wJ)) zC) (zh (zt (zp (xS rfl) rfl B.all YJ (za (zT (CSc.of (N':=["value"]) (sub:=[none]) (ze (top 27)) ["thing"] rfl rfl (by decide +kernel) rfl) rfl (wC (pv 0)) (fun _ _ _ _ _ _=>zj (i:=0) (show (["value"]:List Str).Nodup by decide +kernel) rfl (Or.inl rfl)) (fun _ _ _ _ _ _=>zA) (fun _ _ _ _ _ _=>(zg qc0 hr rfl (za (pv 0) zb)))) zb))))),?_⟩
 have hl:(b.map V.int).length = b.length:=List.length_map ..
 refine ⟨_,rfl,_,_,_,true,rfl,.inl ⟨rfl,_,hs⟩,rfl,_,rfl,iteF ?_⟩
 refine ⟨_,rfl,r,_,rfl,.inr hs,_,_,rfl,rfl,_,rfl,sM (decide_eq_true (by rw [hl]; omega)) ⟨_,_,rfl,rfl,_,rfl,vS (by rw [decide_eq_true (show ((b.map V.int).length:Int) <= 16 by rw [hl]; omega)]; rfl) ?_⟩⟩
 refine ⟨_,rfl,r,rfl,⟨_,hs⟩,tL (fun _=>V.bl true) hs (by rw [hl]; omega) ?_ ?_⟩
 ·intro x H1 R hx g k
  obtain ⟨i,_,rfl⟩:=List.mem_map.mp hx
  exact ⟨_,rfl,_,rfl,qf,k _ (Grow.refl _ _)⟩
 ·intro H1 p g hp
  refine ⟨p,b.map (fun _=>true),rfl,SqL.of (by rw [zc,YM]),?_⟩
  rw [tM]
  exact q _ (g.trans (Grow.new hp _))
theorem uO:FnScope ["thing"] ["thing"] (ze (top 28)):=⟨rfl,rfl,rfl,by decide +kernel,rfl,by decide +kernel,by decide +kernel⟩
theorem uP (F:Fun K "need_board" "need_board" (top 28) f fd) (B:Blt mg) (qc0:zi P w K mg base n "is_board" ["thing"] (vc K))     :
  FnOk P w K mg base CX0 (n + 1) f fd ["thing"] (xV K):=by
 refine F.ok uO yT (fun cdv A outer s H vs Q E hr h=>?_)
 obtain ⟨x,rfl,b,hb,b1,b2,q⟩:=h
 refine ⟨_,(zh (yB (y7 (yJ (zg qc0 hr rfl (za (pv 0) zb)))) (zh wP) zC)),?_⟩
 exact ⟨_,rfl,_,rfl,b,hb,b1,b2,fun H1 g1=>⟨_,rfl,iteF (q _ g1)⟩⟩
theorem rS:FnScope ["board","thing"] ["board","thing"] (ze (top 30)):=⟨rfl,rfl,rfl,by decide +kernel,rfl,by decide +kernel,by decide +kernel⟩
theorem rT (F:Fun K "are_asks" "are_asks" (top 30) f fd) (B:Blt mg) (qc0:zi P w K mg base n "is_ask" ["board","thing"] (tN K)) (qc1:zi P w K mg base n "need_board" ["thing"] (xV K))     :
  FnOk P w K mg base CX0 (n + 1) f fd ["board","thing"] (vd K):=by
 refine F.ok rS yD (fun cdv A outer s H vs Q E hr h=>?_)
 obtain ⟨x,y,rfl,b,ks,hb,b1,b2,ha,hk,hok,q⟩:=h
 refine ⟨_,(zd (yt (zg qc1 hr rfl (za (pv 0) zb))) (zh (zt (v3 (zp xm rfl B.isinstance yc (za (pv 1) (za (v4 rfl B.tuple yi) zb))) (wV (zp (xS rfl) rfl B.all YJ (za (zT (CSc.of (N':=["ask","board"]) (sub:=[none,some 0]) (ze (top 30)) ["board","thing"] rfl rfl (by decide +kernel) rfl) rfl (wC (pv 1)) (fun _ _ _ _ _ _=>zj (i:=0) (show (["ask","board"]:List Str).Nodup by decide +kernel) rfl (Or.inl rfl)) (fun _ _ _ _ _ _=>zA) (fun _ _ _ _ _ _=>(zg qc0 hr rfl (za (pv 1) (za (pv 0) zb))))) zb))))))),?_⟩
 refine ⟨_,rfl,_,rfl,b,hb,b1,b2,fun H1 g1=>?_⟩
 obtain ⟨r,xs,rfl,hs,hall⟩:=g1.asks ha
 refine ⟨_,rfl,_,_,_,true,rfl,.inl ⟨rfl,_,hs⟩,rfl,_,rfl,iteT ?_⟩
 have hl:=hall.len
 refine ⟨_,rfl,r,rfl,⟨_,hs⟩,tL (fun _=>V.bl true) hs (by omega) ?_ ?_⟩
 ·intro v H2 R hv g k
  obtain ⟨i,hi⟩:=List.getElem?_of_mem hv
  obtain ⟨kk,hkk,hak⟩:=hall.get hi
  exact ⟨_,rfl,_,rfl,_,_,rfl,b,kk,(g1.trans g).board hb,g.ask hak,hok kk (List.mem_of_getElem? hkk),k _ (Grow.refl _ _)⟩
 ·intro H2 p g hp
  refine ⟨p,xs.map (fun _=>true),rfl,SqL.of (by rw [zc,List.map_map]; rfl),?_⟩
  rw [tM]
  exact q _ (g1.trans (g.trans (Grow.new hp _)))
theorem sA:FnScope ["board","thing"] ["board","thing"] (ze (top 31)):=⟨rfl,rfl,rfl,by decide +kernel,rfl,by decide +kernel,by decide +kernel⟩
theorem sB (F:Fun K "need_asks" "need_asks" (top 31) f fd) (B:Blt mg) (qc0:zi P w K mg base n "are_asks" ["board","thing"] (vd K))     :
  FnOk P w K mg base CX0 (n + 1) f fd ["board","thing"] (wD K):=by
 refine F.ok sA yD (fun cdv A outer s H vs Q E hr h=>?_)
 obtain ⟨x,y,rfl,b,ks,hb,b1,b2,ha,hk,hok,q⟩:=h
 refine ⟨_,(zh (yB (y7 (yJ (zg qc0 hr rfl (za (pv 0) (za (pv 1) zb))))) (zh wP) zC)),?_⟩
 exact ⟨_,rfl,_,rfl,_,_,rfl,b,ks,hb,b1,b2,ha,hk,hok,fun H1 g1=>⟨_,rfl,iteF (q _ g1)⟩⟩
theorem we:FnScope ["k","board","asks","hands"] ["k","board","asks"] (ze (top 37)):=⟨rfl,rfl,rfl,by decide +kernel,rfl,by decide +kernel,by decide +kernel⟩
theorem uQ (F:Fun K "need_round" "need_round" (top 37) f fd) (B:Blt mg) (qc0:zi P w K mg base n "is_line" ["k","thing"] (ua K)) (qc1:zi P w K mg base n "need_asks" ["board","thing"] (wD K)) (qc2:zi P w K mg base n "need_net" ["thing"] (xK K))  (g_set:mg "set" = none)   :
  FnOk P w K mg base CX0 (n + 1) f fd ["k","board","asks"] (yW K):=by
 refine F.ok we yE (fun cdv A outer s H vs Q E hr h=>?_)
 obtain ⟨x,y,z,rfl,k,b,ks,rfl,k4,hb,b1,b16,hks,k16,R,q⟩:=h
 refine ⟨_,(zd (yt (zg qc2 hr rfl (za (pv 0) zb))) (zd (yt (zg qc1 hr rfl (za (pv 1) (za (pv 2) zb)))) (zd (xX (i:=3) we.nd rfl rfl (CSc.of (N':=["hand","box","deed"]) (sub:=[none,none,none]) (ze (top 37)) ["k","board","asks","hands"] rfl rfl (by decide +kernel) rfl) rfl (wC (pv 2)) (fun _ _ _ _ _ _=>wu (K:=K) 3 rfl rfl (zo (zj (i:=0) (show (["hand","box","deed"]:List Str).Nodup by decide +kernel) rfl (Or.inl rfl) (Or.inr rfl)) (zo (zj (i:=1) (show (["hand","box","deed"]:List Str).Nodup by decide +kernel) rfl (Or.inl rfl) (Or.inr rfl)) (zo (zj (i:=2) (show (["hand","box","deed"]:List Str).Nodup by decide +kernel) rfl (Or.inl rfl) (Or.inr rfl)) z6))) rfl rfl) (fun _ _ _ _ _ _=>zA) (fun _ _ _ _ _ _=>(pv 0))) (zh (yB (PW.pt (sH (zN j3 (zp ZY rfl B.len wn (za (zF (ZX hr) rfl g_set Wz (za (pv 3) zb)) zb)) (zp zx rfl B.len wn (za (pv 3) zb)) (zO _)) (wU (y7 (yJ (zp (xS rfl) rfl B.all YJ (za (zT (CSc.of (N':=["hand","k"]) (sub:=[none,some 0]) (ze (top 37)) ["k","board","asks","hands"] rfl rfl (by decide +kernel) rfl) rfl (wf (pv 3)) (fun _ _ _ _ _ _=>zj (i:=0) (show (["hand","k"]:List Str).Nodup by decide +kernel) rfl (Or.inl rfl)) (fun _ _ _ _ _ _=>zA) (fun _ _ _ _ _ _=>(zg qc0 hr rfl (za (pv 1) (za (pv 0) zb))))) zb))))))) (zh wP) zC))))),?_⟩
 have aok:=R.ask k4
 refine ⟨_,rfl,_,rfl,k,rfl,k4,?_⟩
 refine ⟨_,rfl,_,rfl,_,_,rfl,b,ks,hb,b1,b16,hks,by omega,aok,fun H1 g1=>?_⟩
 obtain ⟨ra,xs,rfl,hra,hxs⟩:=g1.asks hks
 have xl:xs.length = ks.length:=ui hxs
 refine c_nx (yv (fun v H'=>∃ l,v = .ref l /\ H' l = some (.lst ((ks.map (·.hand)).map V.int)) /\ Grow [] H1 H') (fun Kk hk=>⟨_,rfl,ra,rfl,⟨_,hra⟩,vz (xs:=xs) (fun n ys σ' H'=>H' = H1 /\ (∃ e1 e2 e3,σ' = [e1,e2,e3]) /\ ys = ((ks.take n).map (·.hand)).map V.int) ⟨rfl,⟨_,_,_,rfl⟩,rfl⟩ (fun n ys σ' H' _ z=>by rw [z.1]; exact hra) ?_ ?_⟩) ?_)
 ·rintro n y ys σ' H' hy ⟨rfl,⟨e1,e2,e3,rfl⟩,rfl⟩
  obtain ⟨a,ha,r,rd,rfl,h1,h2⟩:=hxs.get hy
  have hn:=(List.getElem?_eq_some_iff.mp ha).1
  refine ⟨r,_,rfl,h1,rfl,_,_,rfl,_,_,rfl,_,_,rfl,rfl,?_⟩
  refine ⟨_,rfl,zH (by rw [List.length_map,List.length_map,List.length_take]; omega),rfl,⟨_,_,_,rfl⟩,?_⟩
  rw [List.take_succ,ha,List.map_append,List.map_append]; rfl
 ·rintro ys σ' H' ⟨rfl,_,rfl⟩ l hl
  rw [xl,List.take_length]
  exact hk _ _ ⟨l,rfl,zc,Grow.new hl _⟩
 rintro _ H2 ⟨l,rfl,hl,g2⟩
 have nl:(ks.map (·.hand)).length <= 1000:=by rw [List.length_map]; omega
 refine ⟨_,rfl,l,_,rfl,SqL.of hl,nl,fun l3 hl3=>⟨l3,_,_,rfl,zc,_,rfl,?_⟩⟩
 have g3:=Grow.new (m:=[]) hl3 (.set (fun j=>(dedI (ks.map (·.hand))).any (· == j)) (dedI (ks.map (·.hand))).length)
 have hl3':=g3.keep _ _ (by simp) hl
 have e:decide (V.int ((dedI (ks.map (·.hand))).length:Int) = V.int (((ks.map (·.hand)).map V.int).length:Int)) = true:=decide_eq_true (congrArg V.int (by rw [VG R.nd]; simp only [List.length_map]))
 refine ⟨l,_,rfl,.inl (SqL.of hl3'),rfl,_,rfl,vS (by rw [e]; rfl) ?_⟩
 generalize upd H2 l3 (.set (fun j=>(dedI (ks.map (·.hand))).any (· == j)) (dedI (ks.map (·.hand))).length) = H3 at g3 hl3' ⊢
 refine ⟨_,rfl,l,rfl,⟨_,SqL.of hl3'⟩,wp (xs:=(ks.map (·.hand)).map V.int) (fun i ys H'=>H' = H3 /\ ys = (List.replicate i true).map V.bl) ⟨rfl,rfl⟩ (fun i ys H' z=>by rw [z.1]; exact SqL.of hl3') ?_ ?_⟩
 ·rintro i x ys H' hx ⟨rfl,rfl⟩
  rw [List.map_map,List.getElem?_map] at hx
  obtain ⟨a,ha,rfl⟩:=Option.map_eq_some_iff.mp hx
  have hn:=(List.getElem?_eq_some_iff.mp ha).1
  obtain ⟨h0,h1⟩:=R.hand a (List.mem_of_getElem? ha)
  have h1':=xu h0 h1
  refine ⟨_,rfl,_,rfl,_,_,rfl,k,a.hand.toNat,rfl,congrArg V.int (Int.toNat_of_nonneg h0).symm,k4,h1',zH (by rw [List.length_map,List.length_replicate]; omega),rfl,?_⟩
  rw [List.replicate_succ',List.map_append]; rfl
 ·rintro ys H' ⟨rfl,rfl⟩ l4 hl4
  refine ⟨l4,_,rfl,SqL.of zc,_,rfl,vS ?_ (q _ (g1.trans (g2.trans (g3.trans (Grow.new hl4 _)))))⟩
  rw [show (List.replicate ((ks.map (·.hand)).map V.int).length true).all id = true from List.all_eq_true.mpr fun x hx=>(List.eq_of_mem_replicate hx)]; rfl
theorem xh:FnScope ["k","board","asks","levels"] ["k","board","asks"] (ze (top 43)):=⟨rfl,rfl,rfl,by decide +kernel,rfl,by decide +kernel,by decide +kernel⟩
theorem vO (F:Fun K "joined_loads" "joined_loads" (top 43) f fd) (B:Blt mg) (qc0:zi P w K mg base n "counted_on" ["k","lines"] (xg K)) (qc1:zi P w K mg base n "pass_net" ["k","asks","firsts"] (t4 K)) (qc2:zi P w K mg base n "straight" ["k"] (x8 K)) (qc3:zi P w K mg base n "need_round" ["k","board","asks"] (yW K))     :
  FnOk P w K mg base CX0 (n + 1) f fd ["k","board","asks"] (Yc K):=by
 refine F.ok xh yE (fun cdv A outer s H vs Q E hr h=>?_)
 obtain ⟨x,y,z,rfl,k,b,ks,rfl,k4,hb,b1,b16,hks,k16,R,q⟩:=h
 refine ⟨_,(zd (yt (zg qc3 hr rfl (za (pv 0) (za (pv 1) (za (pv 2) zb))))) (zd (zu (i:=3) xh.nd rfl (Or.inl rfl) (z7 yC (zg qc1 hr rfl (za (pv 0) (za (pv 2) (za (zg qc2 hr rfl (za (pv 0) zb)) zb)))) zf (fun _ _=>rfl))) (zh (zt (zF zy rfl B.tuple yi (za (zT (CSc.of (N':=["asked","k"]) (sub:=[none,some 0]) (ze (top 43)) ["k","board","asks","levels"] rfl rfl (by decide +kernel) rfl) rfl (wf (pv 3)) (fun _ _ _ _ _ _=>zj (i:=0) (show (["asked","k"]:List Str).Nodup by decide +kernel) rfl (Or.inl rfl)) (fun _ _ _ _ _ _=>zA) (fun _ _ _ _ _ _=>(zg qc0 hr rfl (za (pv 1) (za (zT (CSc.nest (N2:=["line","box"]) (sub2:=[none,none]) (CSc.of (N':=["asked","k"]) (sub:=[none,some 0]) (ze (top 43)) ["k","board","asks","levels"] rfl rfl (by decide +kernel) rfl) rfl (by decide +kernel) rfl) rfl (VD (pv 0)) (fun _ _ _ _ _ _=>wu (K:=K) 2 rfl rfl (zo (zj (i:=0) (show (["line","box"]:List Str).Nodup by decide +kernel) rfl (Or.inl rfl) (Or.inr rfl)) (zo (zj (i:=1) (show (["line","box"]:List Str).Nodup by decide +kernel) rfl (Or.inl rfl) (Or.inr rfl)) z6)) rfl rfl) (fun _ _ _ _ _ _=>zA) (fun _ _ _ _ _ _=>(pv 0))) zb))))) zb)))))),?_⟩
 have p16:=z8 k4
 have hs:=qL k
 refine ⟨_,rfl,_,rfl,_,rfl,_,_,_,rfl,k,b,ks,rfl,k4,hb,b1,b16,hks,k16,R,fun H1 g1=>?_⟩
 refine c_nx ⟨_,rfl,_,rfl,_,rfl,_,rfl,k,rfl,k4,fun ys H2 g2 hst=>?_⟩
 have G2:=g1.trans g2
 refine ⟨_,_,_,rfl,k,b.length,x6 k,ks,rfl,k4,b16,k16,G2.asks hks,hst,hs,R,fun r0 lL lS ds kps H3 g3 s3 hL3 hS3 dl kpl N3 fr3=>?_⟩
 have G3:=G2.trans g3
 refine ⟨r0,_,0,.ref lL,rfl,rfl,s3,rfl,?_⟩
 have ndd:ds.Nodup:=(List.nodup_append.mp N3.nd).1
 have LV3:=N3.lv
 have frd:∀ d ∈ ds,H d = none:=fun d hd=>G2.free (by simp) (fr3 d (List.mem_append_left _ hd))
 have nLd:lL ∉ ds:=fun w=>by
  obtain ⟨s,hs',e⟩:=List.mem_iff_getElem.mp w
  obtain ⟨kvs,hr,_⟩:=LV3 s lL (by rw [List.getElem?_eq_getElem hs',e])
  exact Rd.ne_lst hr hL3 rfl
 refine c_nx ⟨_,rfl,lL,rfl,⟨_,SqL.of hL3⟩,wG (xs:=ds.map V.ref) (fun i ys σ' H'=>(∃ e0,σ' = [e0,some (.int k)]) /\ i <= ds.length /\ Grow ds H3 H' /\ AllR (zr K H') ys ((jlR k ks b.length).take i) /\ ∀ s d,ds[s]? = some d -> LvAt K H' k b.length (x6 k) ks s d) ⟨⟨_,rfl⟩,Nat.zero_le _,Grow.refl _ _,trivial,LV3⟩ (fun i ys σ' H' _ w=>SqL.of (w.2.2.1.keep _ _ nLd hL3)) ?_ ?_⟩
 ·rintro i v ys σ' H4 hv ⟨⟨e0,rfl⟩,hi0,g4,al4,LV4⟩
  rw [List.getElem?_map] at hv
  obtain ⟨d,hd,rfl⟩:=Option.map_eq_some_iff.mp hv
  have dm:d ∈ ds:=List.mem_of_getElem? hd
  have hi:i < k + 1:=by rw [← dl]; exact (List.getElem?_eq_some_iff.mp hd).1
  obtain ⟨kvs,hrd,tab,kl⟩:=LV4 i d hd
  refine ⟨_,rfl,_,rfl,d,kvs,rfl,hrd,fun o H5 hd5 g5 same5=>?_⟩
  have tab5:TabR kvs (2 ^ k) b.length (lvR k (x6 k) ks i) (zv K H5):=tab.imp fun v x hv=>g5.deed hv
  have LV5:∀ s d',ds[s]? = some d' -> LvAt K H5 k b.length (x6 k) ks s d':=fun s d' h=>by
   by_cases c:d' = d
   ·subst c
    have es:s = i:=by
     obtain ⟨a1,a2⟩:=List.getElem?_eq_some_iff.mp h
     obtain ⟨a3,a4⟩:=List.getElem?_eq_some_iff.mp hd
     exact (List.getElem_inj ndd).mp (a2.trans a4.symm)
    subst es
    exact ⟨kvs,.inr ⟨o,hd5⟩,tab5,kl⟩
   ·exact (LV4 s d' h).grow g5 (by simpa using c)
  have g35:Grow ds H3 H5:=g4.trans (g5.mono (by simpa using dm))
  refine Y5 (fun j zs σ2 H'=>H' = H5 /\ (∃ e0 e1,σ2 = [e0,e1]) /\ j <= kvs.length /\ ∃ ns:List Int,zs = ns.map V.int /\ ns.length = j /\ ∀ (n:Nat) (p:List Key × V),n < j -> kvs[n]? = some p -> ∃ (l' b':Nat),p.1 = keyR l' b' /\ ns[n]? = some (l':Int)) ⟨rfl,⟨_,_,rfl⟩,Nat.zero_le _,[],rfl,rfl,(fun n p h=>absurd h (Nat.not_lt_zero _))⟩ (fun j zs σ2 H' _ w=>by rw [w.1]; exact hd5) ?_ ?_
  ·rintro j p bb zs σ2 H6 hp hbb ⟨rfl,⟨e0,e1,rfl⟩,hj0,ns,rfl,nl,hns⟩
   obtain ⟨l,c,dd,ep,hl,hc,hlv',hdd⟩:=tab5.keys p (List.mem_of_getElem? hp)
   obtain ⟨pk,v⟩:=p
   cases (show pk = keyR l c from ep)
   have hj:j < kvs.length:=(List.getElem?_eq_some_iff.mp hp).1
   have hbb':H6 bb = some (.tup [.int (l:Nat),.int (c:Nat)]):=hbb
   refine ⟨bb,[.int (l:Nat),.int (c:Nat)],rfl,SqT.of hbb',rfl,_,_,rfl,_,_,rfl,rfl,_,rfl,yg (by rw [List.length_map]; omega),rfl,⟨_,_,rfl⟩,hj,ns ++ [(l:Int)],by rw [List.map_append]; rfl,by rw [List.length_append,nl]; rfl,fun n p hn hp'=>?_⟩
   by_cases c2:n < j
   ·obtain ⟨l',b',a1,a2⟩:=hns n p c2 hp'
    exact ⟨l',b',a1,by rw [List.getElem?_append_left (by omega)]; exact a2⟩
   ·have e:n = j:=by omega
    subst e
    rw [hp] at hp'
    cases Option.some.inj hp'
    exact ⟨l,c,rfl,by rw [← nl,List.getElem?_concat_length]⟩
  ·rintro zs σ2 H6 ⟨rfl,_,_,ns,rfl,nl,hns⟩ l7 hl7
   have g7:=Grow.new (m:=[]) hl7 (.lst (ns.map V.int))
   refine ⟨_,_,rfl,k,l7,ns,rfl,k4,rfl,zc,fun y8 H8 g8 hb8=>?_⟩
   have G8:=g7.trans g8
   refine ⟨yg (by rw [al4.len,List.length_take]; unfold jlR; rw [List.length_map,List.length_range]; omega),⟨_,rfl⟩,by omega,g35.trans G8.wk,?_,fun s d' h=>(LV5 s d' h).grow G8 (by simp)⟩
   have e:(List.range (2 ^ k)).map (yr ns) = (List.range (2 ^ k)).map fun l=>jcB k ks b.length i l:=List.map_congr_left fun l hl=>Ye tab5 (List.mem_range.mp hl) nl fun n p hp=>hns n p (by rw [← nl]; have:=(List.getElem?_eq_some_iff.mp hp).1; omega) hp
   rw [e] at hb8
   have er:(jlR k ks b.length)[i]? = some ((List.range (2 ^ k)).map fun l=>jcB k ks b.length i l):=by
    unfold jlR; rw [List.getElem?_map,List.getElem?_range hi]; rfl
   rw [List.take_succ,er]
   exact ((g5.mono (m':=ds) (by simpa using dm)).trans G8.wk).boardsR al4 |>.app (.one hb8)
 ·rintro ys σ' H4 ⟨_,_,g4,al4,LV4⟩ l9 hl9
  have le:(jlR k ks b.length).take (ds.map V.ref).length = jlR k ks b.length:=List.take_of_length_le (by unfold jlR; rw [List.length_map,List.length_map,List.length_range]; omega)
  rw [le] at al4
  have G4:Grow [] H H4:=(G3.wk.trans g4).less fun d hd=>.inr (frd d hd)
  refine ⟨l9,_,rfl,.inl ⟨SqL.of zc,fun r hr'=>?_⟩⟩
  have gg:=(Grow.new (m:=[]) hl9 (.lst ys)).trans (Grow.new hr' (.tup ys))
  exact q _ _ (G4.trans gg) ⟨r,ys,rfl,SqT.of zc,gg.boardsR al4⟩
theorem vP:FnScope ["k","hand","side","lines","stage"] ["k","hand","side"] (ze (top 17)):=⟨rfl,rfl,rfl,by decide +kernel,rfl,by decide +kernel,by decide +kernel⟩
theorem YB (F:Fun K "way_of" "way_of" (top 17) f fd) (B:Blt mg) (qc0:zi P w K mg base n "onward" ["k","stage","line","side"] (vh K))     :
  FnOk P w K mg base CX0 (n + 1) f fd ["k","hand","side"] (XJ K):=by
 refine F.ok vP yE (fun cdv A outer s H vs Q E hr h=>?_)
 obtain ⟨x,y,z,rfl,k,h0,g0,rfl,rfl,rfl,k4,hh,hg,q⟩:=h
 refine ⟨_,(zd (zu (i:=3) vP.nd rfl (Or.inl rfl) (xE (za (pv 1) zb))) (zd (yQ PassesOwn.never rfl (uU rfl B.range (za zf (za (zq yK (pv 0) zf) zb))) (zj (i:=4) vP.nd rfl (Or.inl rfl)) (zh (yt (sI PySem.F.plainAttrs_list PySem.F.slot_list_append PySem.F.type_list_append xa (pv 3) (za (zg qc0 hr rfl (za (pv 0) (za (pv 4) (za (z7 zW (pv 3) (WY Xx zf) (fun _ _=>rfl)) (za (pv 2) zb))))) zb))))) (zh (zt (zF zy rfl B.tuple yi (za (pv 3) zb)))))),?_⟩
 have p:=z8 k4
 refine ⟨_,rfl,szl rfl,fun l hl=>?_⟩
 have gl:Grow [l] H (upd H l (.lst [.int h0])):=Grow.new hl _
 refine ⟨_,rfl,_,_,rfl,rfl,_,_,rfl,⟨by omega,by omega,by omega,by omega⟩,ye (fun i σ H'=>∃ (ys:List Int) (e:Option V),σ = [some (.int k),some (.int h0),some (.int g0),some (.ref l),e] /\ Grow [l] H H' /\ H' l = some (.lst ((ys ++ [zD k h0 g0 i]).map V.int)) /\ ys ++ [zD k h0 g0 i] = (List.range (i + 1)).map fun n=>zD k h0 g0 n) ?_ ?_ ?_⟩
 ·have e0:zD k h0 g0 0 = h0:=(Wf k4 hh hg (n:=0) (by omega)).1.symm
  exact ⟨[],_,rfl,gl,by rw [zc,e0]; rfl,rfl⟩
 ·rintro i σ H1 hi ⟨ys,e,rfl,g,hl1,hy⟩
  have hik:i + 1 <= k:=by omega
  have F0:=Wf k4 hh hg (n:=i) (by omega)
  have F1:=Wf k4 hh hg (n:=i + 1) hik
  have hlen:(ys ++ [zD k h0 g0 i]).length = i + 1:=by rw [hy,List.length_map,List.length_range]
  refine ⟨_,rfl,.inl ⟨rfl,_,SqL.of hl1⟩,_,rfl,_,rfl,_,rfl,_,rfl,l,_,_,_,rfl,rfl,SqL.of hl1,Uc,_,rfl,_,_,_,_,rfl,k,i + 1,zD k h0 g0 i,g0,rfl,congrArg V.int (by omega),rfl,rfl,k4,hik,F0.2.1,F0.2.2,by omega,by omega,?_⟩
  have ew:wfI k ((i + 1:Nat):Int) (zD k h0 g0 i) (figI k ((i + 1:Nat):Int) g0) = zD k h0 g0 (i + 1):=by
   rw [← F1.1,← F0.1,show ((i + 1:Nat):Int) = 1 + (i:Int) by omega]; rfl
  rw [ew]
  refine ⟨l,_,_,rfl,rfl,hl1,zH (by rw [List.length_map,hlen]; omega),ys ++ [zD k h0 g0 i],_,rfl,g.trans (Grow.set hl1 (by simp) _),?_,?_⟩
  ·rw [zc,List.map_append (l₂:=[zD k h0 g0 (i + 1)])]; rfl
  ·rw [List.range_succ (n:=i + 1),List.map_append,← hy]; rfl
 ·rintro σ H1 ⟨ys,e,rfl,g,hl1,hy⟩
  refine ⟨_,rfl,l,_,rfl,.inl ⟨SqL.of hl1,fun r hr=>q _ _ ((g.shrink hl).trans (Grow.new hr _)) ⟨r,rfl,SqT.of ?_⟩⟩⟩
  rw [zc,hy,show ((k:Int) + 1 - 1).toNat = k by omega]; rfl
theorem xI:FnScope ["k","board","asks","ways"] ["k","board","asks"] (ze (top 44)):=⟨rfl,rfl,rfl,by decide +kernel,rfl,by decide +kernel,by decide +kernel⟩
theorem vY (F:Fun K "plain_loads" "plain_loads" (top 44) f fd) (B:Blt mg) (qc0:zi P w K mg base n "counted_on" ["k","lines"] (xg K)) (qc1:zi P w K mg base n "way_of" ["k","hand","side"] (XJ K)) (qc2:zi P w K mg base n "side_for" ["k","box"] (vA K)) (qc3:zi P w K mg base n "need_round" ["k","board","asks"] (yW K))     :
  FnOk P w K mg base CX0 (n + 1) f fd ["k","board","asks"] (Yd K):=by
 refine F.ok xI yE (fun cdv A outer s H vs Q E hr h=>?_)
 obtain ⟨x,y,z,rfl,k,b,ks,rfl,k4,hb,b1,b16,hks,k16,R,q⟩:=h
 refine ⟨_,(zd (yt (zg qc3 hr rfl (za (pv 0) (za (pv 1) (za (pv 2) zb))))) (zd (zu (i:=3) xI.nd rfl (Or.inr rfl) (zT (CSc.of (N':=["hand","box","deed","k"]) (sub:=[none,none,none,some 0]) (ze (top 44)) ["k","board","asks","ways"] rfl rfl (by decide +kernel) rfl) rfl (wC (pv 2)) (fun _ _ _ _ _ _=>wu (K:=K) 3 rfl rfl (zo (zj (i:=0) (show (["hand","box","deed","k"]:List Str).Nodup by decide +kernel) rfl (Or.inl rfl) (Or.inr rfl)) (zo (zj (i:=1) (show (["hand","box","deed","k"]:List Str).Nodup by decide +kernel) rfl (Or.inl rfl) (Or.inr rfl)) (zo (zj (i:=2) (show (["hand","box","deed","k"]:List Str).Nodup by decide +kernel) rfl (Or.inl rfl) (Or.inr rfl)) z6))) rfl rfl) (fun _ _ _ _ _ _=>zA) (fun _ _ _ _ _ _=>(zg qc1 hr rfl (za (pv 3) (za (pv 0) (za (zg qc2 hr rfl (za (pv 3) (za (pv 1) zb))) zb))))))) (zh (zt (zF zy rfl B.tuple yi (za (qv (CScC.of (N':=["level","k","ways"]) (sub:=[none,some 0,some 3]) (ze (top 44)) ["k","board","asks","ways"] rfl rfl (by decide +kernel) (by decide +kernel) rfl) rfl (zL rfl B.range (za (zq yK (pv 0) zf) zb)) (fun _ _ _ _ _ _=>zj (i:=0) (show (["level","k","ways"]:List Str).Nodup by decide +kernel) rfl (Or.inr rfl) (Or.inl rfl)) (fun _ _ _ _ _ _=>zA) (fun _ _ _ _ _ _=>(zg qc0 hr rfl (za (pv 1) (za (zT (CSc.nestO (N2:=["lines","level"]) (sub2:=[none,some 0]) (CScC.of (N':=["level","k","ways"]) (sub:=[none,some 0,some 3]) (ze (top 44)) ["k","board","asks","ways"] rfl rfl (by decide +kernel) (by decide +kernel) rfl) rfl (by decide +kernel) rfl) rfl (qp (K:=K) rfl (pv 2)) (fun _ _ _ _ _ _=>zj (i:=0) (show (["lines","level"]:List Str).Nodup by decide +kernel) rfl (Or.inl rfl)) (fun _ _ _ _ _ _=>zA) (fun _ _ _ _ _ _=>(z7 (Wa (K:=K) rfl) (pv 0) (pv 1) (fun _ _=>rfl)))) zb))))) zb)))))),?_⟩
 have p16:=z8 k4
 refine ⟨_,rfl,_,rfl,_,rfl,_,_,_,rfl,k,b,ks,rfl,k4,hb,b1,b16,hks,k16,R,fun H1 g1=>?_⟩
 refine c_nx ?_
 obtain ⟨ra,xs,rfl,hra,hxs⟩:=g1.asks hks
 have xl:=hxs.len
 have W1:0 < 2 ^ k:=Nat.two_pow_pos k
 let wy:Ask -> List Int:=fun a=>qo k a.hand.toNat (a.box.toNat % 2 ^ k)
 refine yv (fun v H'=>∃ lw ws,v = .ref lw /\ H' lw = some (.lst ws) /\ AllR (zr K H') ws (ks.map wy) /\ Grow [] H1 H') (fun Kk hk=>⟨_,rfl,ra,rfl,⟨_,hra⟩,vz (xs:=xs) (fun n ys σ' H'=>Grow [] H1 H' /\ (∃ e1 e2 e3,σ' = [e1,e2,e3,some (.int k)]) /\ AllR (zr K H') ys ((ks.take n).map wy)) ⟨Grow.refl _ _,⟨_,_,_,rfl⟩,trivial⟩ (fun n ys σ' H' _ w=>w.1.sqT hra) ?_ ?_⟩) ?_
 ·rintro n x ys σ' H2 hx ⟨g2,⟨e1,e2,e3,rfl⟩,al2⟩
  obtain ⟨a,ha,r,rd,rfl,h1,h2⟩:=hxs.get hx
  have am:=List.mem_of_getElem? ha
  have hn:=(List.getElem?_eq_some_iff.mp ha).1
  have hh:=R.hand a am
  have hbx:=R.box a am
  have hhn:=xu hh.1 hh.2
  refine ⟨r,_,rfl,g2.sqT h1,rfl,_,_,rfl,_,_,rfl,_,_,rfl,rfl,?_⟩
  refine ⟨_,rfl,_,rfl,_,rfl,_,rfl,_,_,rfl,k,a.box.toNat,rfl,congrArg V.int (Int.toNat_of_nonneg hbx.1).symm,k4,by omega,_,_,_,rfl,k,a.hand.toNat,a.box.toNat % 2 ^ k,rfl,congrArg V.int (Int.toNat_of_nonneg hh.1).symm,rfl,k4,hhn,Nat.mod_lt _ W1,fun y3 H3 g3 hb3=>⟨yg (by rw [al2.len,List.length_map,List.length_take]; omega),g2.trans g3,⟨_,_,_,rfl⟩,?_⟩⟩
  rw [List.take_succ,ha,List.map_append]
  exact (g3.boardsR al2).app (.one hb3)
 ·rintro ys σ' H2 ⟨g2,_,al2⟩ l hl
  rw [xl,List.take_length] at al2
  have gl:=Grow.new (m:=[]) hl (.lst ys)
  exact hk _ _ ⟨l,ys,rfl,zc,gl.boardsR al2,g2.trans gl⟩
 rintro _ H2 ⟨lw,ws,rfl,hw2,al2,g2⟩
 have wl:ws.length = ks.length:=by rw [al2.len,List.length_map]
 refine ⟨_,rfl,_,_,rfl,rfl,_,rfl,(by show -2 ^ 62 <= (k:Int) + 1; omega),(by show (k:Int) + 1 < 2 ^ 62; omega),xU (fun i ys H'=>Grow [] H2 H' /\ AllR (zr K H') ys ((plR k ks).take i)) ⟨Grow.refl _ _,trivial⟩ ?_ ?_⟩
 ·rintro i ys H3 hi ⟨g3,al3⟩
  have hi':i < k + 1:=by have:i < ((k:Int) + 1).toNat:=hi; omega
  refine ⟨_,rfl,_,rfl,lw,rfl,⟨_,SqL.of (g3.keep _ _ (by simp) hw2)⟩,wG (xs:=ws) (fun n zs σ' H'=>H' = H3 /\ (∃ e0,σ' = [e0,some (.int (0 + (i:Int)))]) /\ zs = ((ks.take n).map fun a=>zD k a.hand.toNat (a.box.toNat % 2 ^ k) i).map V.int) ⟨rfl,⟨_,rfl⟩,rfl⟩ (fun n zs σ' H' _ w=>by rw [w.1]; exact SqL.of (g3.keep _ _ (by simp) hw2)) ?_ ?_⟩
  ·rintro n x zs σ' H4 hx ⟨rfl,⟨e0,rfl⟩,rfl⟩
   obtain ⟨row,hrow,rr,rfl,hrr⟩:=al2.get hx
   rw [List.getElem?_map] at hrow
   obtain ⟨a,ha,rfl⟩:=Option.map_eq_some_iff.mp hrow
   have hn:=(List.getElem?_eq_some_iff.mp ha).1
   refine ⟨_,rfl,_,rfl,rr,_,_,.int (zD k a.hand.toNat (a.box.toNat % 2 ^ k) i),rfl,rfl,g3.sqT hrr,?_,yg (by rw [List.length_map,List.length_map,List.length_take]; omega),rfl,⟨_,rfl⟩,?_⟩
   ·refine Wx (by omega) (j:=i) ?_
    show (qo k a.hand.toNat (a.box.toNat % 2 ^ k))[i]? = _
    unfold qo; rw [List.getElem?_map,List.getElem?_range hi']; rfl
   ·rw [List.take_succ,ha,List.map_append,List.map_append]; rfl
  ·rintro zs σ' H4 ⟨rfl,_,rfl⟩ l5 hl5
   rw [wl,List.take_length]
   refine ⟨_,_,rfl,k,l5,_,rfl,k4,rfl,zc,fun y6 H6 g6 hb6=>?_⟩
   have G6:=(Grow.new (m:=[]) hl5 (.lst ((ks.map fun a=>zD k a.hand.toNat (a.box.toNat % 2 ^ k) i).map V.int))).trans g6
   refine ⟨yg (by rw [al3.len,List.length_take]; omega),g3.trans G6,?_⟩
   have er:(plR k ks)[i]? = some ((List.range (2 ^ k)).map fun l=>yr (ks.map fun a=>zD k a.hand.toNat (a.box.toNat % 2 ^ k) i) l):=by
    unfold plR; rw [List.getElem?_map,List.getElem?_range hi']; rfl
   rw [List.take_succ,er]
   exact (G6.boardsR al3).app (.one hb6)
 ·rintro ys H3 ⟨g3,al3⟩ l9 hl9
  have le:(plR k ks).take ((k:Int) + 1).toNat = plR k ks:=List.take_of_length_le (by unfold plR; rw [List.length_map,List.length_range]; omega)
  rw [le] at al3
  refine ⟨l9,_,rfl,.inl ⟨SqL.of zc,fun r hr'=>?_⟩⟩
  have gg:=(Grow.new (m:=[]) hl9 (.lst ys)).trans (Grow.new hr' (.tup ys))
  exact q _ _ (g1.trans (g2.trans (g3.trans gg))) ⟨r,ys,rfl,SqT.of zc,gg.boardsR al3⟩
theorem wI:FnScope ["_law_pot_here","_law_many","_law_digit"] ["_law_pot_here","_law_many"] (ze (top 47)):=⟨rfl,rfl,rfl,by decide +kernel,rfl,by decide +kernel,by decide +kernel⟩
theorem sC (F:Fun K "_law_take" "_law_take" (top 47) f fd) (B:Blt mg)      :
  FnOk P w K mg base CX0 (n + 1) f fd ["_law_pot_here","_law_many"] (sL K):=by
 refine F.ok wI yD (fun cdv A outer s H vs Q E hr h=>?_)
 obtain ⟨x,y,rfl,a,m,rfl,rfl,⟨p0,p1,hp,h0⟩,hm,hm2,q⟩:=h
 refine ⟨_,(zd (yB (zN YE (z7 zW (pv 0) zf (fun _ _=>rfl)) zf (zO _)) (zd (wW (zp tq rfl B.divmod YI (za (z7 zW (pv 0) zf (fun _ _=>rfl)) (za (pv 1) zb))) (xD rfl (zo (Xu (pv 0) zf qc) (zo (zj (i:=2) wI.nd rfl (Or.inl rfl)) z6)))) (zh (zt (pv 2)))) zC) (zd (wW (zq xQ (zq yK (zq sJ (z7 zW (pv 0) zf (fun _ _=>rfl)) zf) zf) zf) (Xu (pv 0) zf qc)) (zh (zt (zq xQ (zq wQ (zq xQ (zq Xv (z7 zW (pv 0) zf (fun _ _=>rfl)) zf) zf) zf) (pv 1)))))),?_⟩
 refine ⟨_,rfl,a,_,_,_,rfl,rfl,SqL.of hp,rfl,_,_,rfl,rfl,_,rfl,?_⟩
 refine ite2 (fun c=>?_) (fun c=>?_)
 ·refine ⟨_,rfl,a,_,_,_,rfl,rfl,SqL.of hp,rfl,_,rfl,p0,m,rfl,⟨hm,hm2⟩,fun t ht=>?_⟩
  have hp':upd H t (.tup [.int (p0 / m),.int (p0 % m)]) a = some (.lst [.int p0,.int p1]):=by rw [zk (zm hp ht)]; exact hp
  refine ⟨t,_,rfl,SqT.of zc,rfl,_,_,rfl,_,rfl,a,_,0,0,rfl,rfl,hp',rfl,_,_,rfl,rfl,?_⟩
  exact ⟨_,rfl,q _ _ (Int.emod_nonneg _ (by omega)) (Int.emod_lt_of_pos _ hm) ((Grow.new ht _).trans (Grow.set hp' (by simp) _)) ⟨p0 / m,p1,zc,Int.ediv_nonneg h0 (by omega)⟩⟩
 ·refine ⟨_,rfl,a,_,_,_,rfl,rfl,SqL.of hp,rfl,p1,48271,rfl,rfl,Vc ⟨by decide,by decide⟩,_,_,rfl,rfl,_,_,rfl,rfl,(by show (0:Int) < 2147483647; decide),_,rfl,a,_,1,1,rfl,rfl,hp,rfl,?_⟩
  have b0:0 <= (p1 * 48271 + 12345) % 2147483647:=Int.emod_nonneg _ (by decide)
  have b1:(p1 * 48271 + 12345) % 2147483647 < 2147483647:=Int.emod_lt_of_pos _ (by decide)
  refine ⟨_,rfl,a,_,_,_,rfl,rfl,SqL.of zc,rfl,_,_,rfl,rfl,⟨by decide,by decide,?_⟩,_,_,rfl,rfl,(by show (0:Int) < 2147483629; decide),_,_,rfl,rfl,⟨by decide,by decide⟩,_,rfl,_,_,rfl,rfl,hm,?_⟩
  ·show ((p1 * 48271 + 12345) % 2147483647).natAbs < 2 ^ 64
   generalize (p1 * 48271 + 12345) % 2147483647 = v at b0 b1
   omega
  exact q _ _ (Int.emod_nonneg _ (by omega)) (Int.emod_lt_of_pos _ hm) (Grow.set hp (by simp) _) ⟨p0,(p1 * 48271 + 12345) % 2147483647,zc,h0⟩
theorem zw:FnScope ["_law_pot_here","_law_k","_law_many","_law_board","_law_spread","_law_is_full","_law_pair","_law_asks","_law_hand","_law_deed","_law_box"] ["_law_pot_here","_law_k"] (ze (top 48)):=⟨rfl,rfl,rfl,by decide +kernel,rfl,by decide +kernel,by decide +kernel⟩
theorem uR (F:Fun K "_law_round" "_law_round" (top 48) f fd) (B:Blt mg) (qc0:zi P w K mg base n "_law_take" ["_law_pot_here","_law_many"] (sL K))     :
  FnOk P w K mg base CX0 (n + 1) f fd ["_law_pot_here","_law_k"] (qJ K):=by
 refine F.ok zw yD (fun cdv A outer s H vs Q E hr h=>?_)
 obtain ⟨x,y,rfl,a,k,rfl,rfl,k4,pp,q⟩:=h
 refine ⟨_,(zd (zu (i:=2) zw.nd rfl (Or.inl rfl) (zq yK zf (zg qc0 hr rfl (za (pv 0) (za zf zb))))) (zd (zu (i:=3) zw.nd rfl (Or.inl rfl) (zF zy rfl B.tuple yi (za (zT (CSc.of (N':=["_law_box","_law_pot_here"]) (sub:=[none,some 0]) (ze (top 48)) ["_law_pot_here","_law_k","_law_many","_law_board","_law_spread","_law_is_full","_law_pair","_law_asks","_law_hand","_law_deed","_law_box"] rfl rfl (by decide +kernel) rfl) rfl (zL rfl B.range (za (pv 2) zb)) (fun _ _ _ _ _ _=>zj (i:=0) (show (["_law_box","_law_pot_here"]:List Str).Nodup by decide +kernel) rfl (Or.inl rfl)) (fun _ _ _ _ _ _=>zA) (fun _ _ _ _ _ _=>(zq yL (zg qc0 hr rfl (za (pv 1) (za zf zb))) zf))) zb))) (zd (WW (i:=4) (j:=5) rfl zw.nd rfl rfl (by decide) rfl rfl (za (zg qc0 hr rfl (za (pv 0) (za zf zb))) (za (wg ur (zg qc0 hr rfl (za (pv 0) (za zf zb))) zf (zO _)) zb)) rfl) (zd (zu (i:=6) zw.nd rfl (Or.inl rfl) (xE (za (zg qc0 hr rfl (za (pv 0) (za (pv 2) zb))) (za (zg qc0 hr rfl (za (pv 0) (za (pv 2) zb))) zb)))) (zd (zu (i:=7) zw.nd rfl (Or.inl rfl) (xE zb)) (zd (yQ PassesOwn.never rfl (zL rfl B.range (za (zq yw zf (pv 1)) zb)) (zj (i:=8) zw.nd rfl (Or.inl rfl)) (zh (yB (PW.pt (sH (yJ (pv 5)) (wU (zN YE (zg qc0 hr rfl (za (pv 0) (za zf zb))) zf (zO _))))) (zd (zu (i:=9) zw.nd rfl (Or.inl rfl) (z7 zW (xE (za (yq (za zf (za rX (za rX zb)))) (za (yq (za zf (za rX (za rX zb)))) (za (yq (za zf (za zf (za zf zb)))) zb)))) (zg qc0 hr rfl (za (pv 0) (za zf zb))) (fun _ _=>rfl))) (zd (zu (i:=10) zw.nd rfl (Or.inl rfl) (z7 zW (pv 6) zf (fun _ _=>rfl))) (zd (yB (zN ur (pv 4) zf (zO _)) (zh (zu (i:=10) zw.nd rfl (Or.inl rfl) (z7 zW (pv 6) (zg qc0 hr rfl (za (pv 0) (za zf zb))) (fun _ _=>rfl)))) zC) (zd (yB (zN ur (pv 4) zf (zO _)) (zh (zu (i:=10) zw.nd rfl (Or.inl rfl) (zg qc0 hr rfl (za (pv 0) (za (pv 2) zb))))) zC) (zh (yt (sI PySem.F.plainAttrs_list PySem.F.slot_list_insert PySem.F.type_list_insert ZJ (pv 7) (za (zg qc0 hr rfl (za (pv 0) (za (zq yK (zp zx rfl B.len wn (za (pv 7) zb)) zf) zb))) (za (yq (za (pv 8) (za (pv 10) (za (pv 9) zb)))) zb))))))))) zC))) (zh (zt (yq (za (pv 3) (za (zF zy rfl B.tuple yi (za (pv 7) zb)) zb))))))))))),?_⟩
 have p16:=z8 k4
 obtain ⟨W,hW⟩:∃ W:Nat,W = 2 ^ k:=⟨_,rfl⟩
 have e1k:(1:Int) * 2 ^ ((k:Int)).toNat = W:=by rw [xJ,hW]
 refine yv (fun v H'=>∃ m:Nat,v = .int m /\ 1 <= m /\ m <= 16 /\ Grow [a] H H' /\ Pot H' a) (fun Kk hk=>⟨_,rfl,_,_,rfl,a,16,rfl,rfl,pp,by decide,by decide,fun t H' t0 t1 g pp'=>⟨_,_,rfl,rfl,hk _ _ ⟨(1 + t).toNat,congrArg V.int (by omega),by omega,by omega,g,pp'⟩⟩⟩) ?_
 rintro _ H1 ⟨m,rfl,m1,m16,g1,pp1⟩
 refine yv (fun v H'=>∃ b,zr K H' v b /\ b.length = m /\ InB (10 ^ 30) b /\ Grow [a] H1 H' /\ Pot H' a) (fun Kk hk=>⟨_,rfl,_,rfl,by omega,by omega,xU (fun i ys H'=>∃ b:List Int,ys = b.map V.int /\ b.length = i /\ InB (10 ^ 30) b /\ Grow [a] H1 H' /\ Pot H' a) ⟨[],rfl,rfl,(fun v hv=>nomatch hv),Grow.refl _ _,pp1⟩ ?_ ?_⟩) ?_
 ·rintro i ys H2 hi ⟨b,rfl,bl,bB,g2,pp2⟩
  refine ⟨_,rfl,_,_,rfl,a,19,rfl,rfl,pp2,by decide,by decide,fun n H3 n1 n2 g3 pp3=>⟨_,_,rfl,rfl,yg (by rw [List.length_map,bl]; omega),b ++ [n - 9],by rw [List.map_append]; rfl,by rw [List.length_append,bl]; rfl,fun v hv=>?_,g2.trans g3,pp3⟩⟩
  rcases List.mem_append.mp hv with hv | hv
  ·exact bB v hv
  ·rw [List.mem_singleton.mp hv]; exact ⟨by omega,by omega⟩
 ·rintro ys H2 ⟨b,rfl,bl,bB,g2,pp2⟩ l hl
  rw [Int.toNat_natCast] at bl
  have g3:=Grow.new (m:=[a]) hl (.lst (b.map V.int))
  refine ⟨l,_,rfl,.inl ⟨SqL.of zc,fun r hr'=>hk _ _ ⟨b,⟨r,rfl,SqT.of zc⟩,bl,bB,g2.trans (g3.trans (Grow.new hr' _)),(pp2.new hl _).new hr' _⟩⟩⟩
 rintro yb H2 ⟨b,hb2,bl,bB,g2,pp2⟩
 refine ⟨_,rfl,_,_,rfl,a,3,rfl,rfl,pp2,by decide,by decide,fun s3 H3 l3 u3 g3 pp3=>⟨_,rfl,_,_,rfl,a,2,rfl,rfl,pp3,by decide,by decide,fun f4 H4 l4 u4 g4 pp4=>⟨rfl,_,_,rfl,?_⟩⟩⟩
 generalize decide (V.int f4 = V.int 1) = full
 have G4:Grow [a] H H4:=g1.trans (g2.trans (g3.trans g4))
 have hb4:=(g3.trans g4).board hb2
 refine c_nx (yv (fun v H'=>∃ lp p0 p1,v = .ref lp /\ H' lp = some (.lst [.int p0,.int p1]) /\ (0 <= p0 /\ p0 < (m:Int)) /\ (0 <= p1 /\ p1 < (m:Int)) /\ lp ≠ a /\ Grow [a] H4 H' /\ Pot H' a) (fun Kk hk=>⟨_,rfl,_,rfl,_,_,rfl,a,m,rfl,rfl,pp4,by omega,by omega,fun n1 H5 l5 u5 g5 pp5=>⟨_,rfl,_,rfl,_,_,rfl,a,m,rfl,rfl,pp5,by omega,by omega,fun n2 H6 l6 u6 g6 pp6=>⟨szl rfl,fun lp hlp=>hk _ _ ⟨lp,n1,n2,rfl,zc,⟨l5,u5⟩,⟨l6,u6⟩,?_,g5.trans (g6.trans (Grow.new hlp _)),pp6.new hlp _⟩⟩⟩⟩) ?_)
 ·intro z
  obtain ⟨x0,x1,z1,_⟩:=pp6
  rw [z,z1] at hlp; cases hlp
 rintro _ H5 ⟨lp,p0,p1,rfl,hlp5,hp0,hp1,npa,g5,pp5⟩
 refine yv (fun v H'=>∃ la,v = .ref la /\ H5 la = none /\ H' = upd H5 la (.lst [])) (fun Kk hk=>⟨szl rfl,fun la hla=>hk _ _ ⟨la,rfl,hla,rfl⟩⟩) ?_
 rintro _ _ ⟨la,rfl,hla,rfl⟩
 have g6:=Grow.new (m:=[]) hla (.lst [])
 have hA6:=zc (H:=H5) (a:=la) (o:=.lst [])
 have pp6:=pp5.new hla (.lst [])
 have hlp6:=g6.keep _ _ (by simp) hlp5
 have naa:la ≠ a:=fun z=>by
  obtain ⟨x0,x1,z1,_⟩:=pp5
  rw [z,z1] at hla; cases hla
 have nap:lp ≠ la:=fun z=>by rw [z,hla] at hlp5; cases hlp5
 have hlaH4:H4 la = none:=g5.free (by simpa using naa) hla
 have hlaH:H la = none:=G4.free (by simpa using naa) hlaH4
 have hb6:=g6.board (g5.board hb4)
 have G6:Grow [a] H (upd H5 la (.lst [])):=G4.trans (g5.trans g6.wk)
 generalize upd H5 la (.lst []) = H6 at g6 hA6 pp6 hlp6 hb6 G6 ⊢
 refine ⟨_,rfl,_,_,rfl,rfl,tQ k4,_,rfl,by rw [e1k]; omega,by rw [e1k]; omega,ye (fun j σ H'=>∃ (e8 e9 e10:Option V) (ks:List Ask) (xs:List V),σ = [some (.ref a),some (.int k),some (.int m),some yb,some (.int s3),some (.bl full),some (.ref lp),some (.ref la),e8,e9,e10] /\ Grow [a,la] H6 H' /\ Pot H' a /\ H' la = some (.lst xs) /\ AllA K H' xs ks /\ ks.length <= j /\ RndS j m ks) ⟨_,_,_,[],[],rfl,Grow.refl _ _,pp6,hA6,trivial,Nat.le_refl _,RndS.nil⟩ ?_ ?_⟩
 ·rintro j σ H7 hj ⟨e8,e9,e10,ks,xs,rfl,g7,pp7,hA7,all7,kj,S7⟩
  have hjW:j < W:=by rw [e1k] at hj; omega
  have hlp7:=g7.keep _ _ (by simpa using ⟨npa,nap⟩) hlp6
  have xl:=all7.len
  try dsimp only
  refine Z2 (fun H'=>Grow [a] H7 H' /\ Pot H' a) (fun Kk hk=>⟨_,rfl,_,rfl,?_⟩) ?_ ?_
  ·cases full with
   | true=>exact iteT (hk _ _ ⟨Grow.refl _ _,pp7⟩)
   | false=>exact iteF ⟨_,rfl,_,_,rfl,a,4,rfl,rfl,pp7,by decide,by decide,fun n8 H8 l8 u8 g8 pp8=>⟨_,_,rfl,rfl,_,rfl,hk _ _ ⟨g8,pp8⟩⟩⟩
  ·rintro H8 ⟨g8,pp8⟩
   have nA:la ∉ [a]:=by simpa using naa
   have nP:lp ∉ [a]:=by simpa using npa
   refine yv (fun v H'=>∃ d,zv K H' v d /\ d.Ok /\ d.Sm /\ Grow [a] H8 H' /\ Pot H' a) (fun Kk hk=>⟨szl rfl,fun t1 ht1=>⟨szl rfl,fun t2 ht2=>⟨szl rfl,fun t3 ht3=>⟨szl rfl,fun ll hll=>?_⟩⟩⟩⟩) ?_
   ·have pa:=(((pp8.new ht1 (.tup [.int 0,.non,.non])).new ht2 (.tup [.int 1,.non,.non])).new ht3 (.tup [.int 0,.int 5,.int 5])).new hll (.lst [.ref t1,.ref t2,.ref t3])
    have ga:Grow [a] H8 _:=(Grow.new (m:=[a]) ht1 (.tup [.int 0,.non,.non])).trans ((Grow.new (m:=[a]) ht2 (.tup [.int 1,.non,.non])).trans ((Grow.new (m:=[a]) ht3 (.tup [.int 0,.int 5,.int 5])).trans (Grow.new (m:=[a]) hll (.lst [.ref t1,.ref t2,.ref t3]))))
    have k1:=((Grow.new (m:=[]) ht2 (.tup [.int 1,.non,.non])).trans ((Grow.new (m:=[]) ht3 (.tup [.int 0,.int 5,.int 5])).trans (Grow.new (m:=[]) hll (.lst [.ref t1,.ref t2,.ref t3])))).keep t1 _ (by simp) zc
    have k2:=((Grow.new (m:=[]) ht3 (.tup [.int 0,.int 5,.int 5])).trans (Grow.new (m:=[]) hll (.lst [.ref t1,.ref t2,.ref t3]))).keep t2 _ (by simp) zc
    have k3:=(Grow.new (m:=[]) hll (.lst [.ref t1,.ref t2,.ref t3])).keep t3 _ (by simp) zc
    have kl:=zc (H:=upd (upd (upd H8 t1 (.tup [.int 0,.non,.non])) t2 (.tup [.int 1,.non,.non])) t3 (.tup [.int 0,.int 5,.int 5])) (a:=ll) (o:=.lst [.ref t1,.ref t2,.ref t3])
    have nll:ll ∉ [a]:=fun z=>by
     obtain ⟨x0,x1,z1,_⟩:=((pp8.new ht1 (.tup [.int 0,.non,.non])).new ht2 (.tup [.int 1,.non,.non])).new ht3 (.tup [.int 0,.int 5,.int 5])
     rw [List.mem_singleton.mp z,z1] at hll; cases hll
    generalize upd (upd (upd (upd H8 t1 (.tup [.int 0,.non,.non])) t2 (.tup [.int 1,.non,.non])) t3 (.tup [.int 0,.int 5,.int 5])) ll (.lst [.ref t1,.ref t2,.ref t3]) = Hc at pa ga k1 k2 k3 kl ⊢
    refine ⟨_,rfl,_,_,rfl,a,3,rfl,rfl,pa,by decide,by decide,fun n9 H9 l9 u9 g9 pp9=>?_⟩
    have hl9:=SqL.of (K:=K) (g9.keep _ _ nll kl)
    have sm5:L3.Sm 5:=⟨by decide,by decide⟩
    have sm0:L3.Sm 0:=⟨by decide,by decide⟩
    have sm1:L3.Sm 1:=⟨by decide,by decide⟩
    obtain rfl | rfl | rfl:n9 = 0 \/ n9 = 1 \/ n9 = 2:=by omega
    ·exact ⟨ll,_,0,.ref t1,rfl,rfl,hl9,rfl,hk _ _ ⟨⟨0,none,none⟩,g9.deed ⟨t1,rfl,SqT.of k1⟩,(fun _ _ z=>nomatch z),⟨sm0,(fun _ z=>nomatch z),(fun _ z=>nomatch z)⟩,ga.trans g9,pp9⟩⟩
    ·exact ⟨ll,_,1,.ref t2,rfl,rfl,hl9,rfl,hk _ _ ⟨⟨1,none,none⟩,g9.deed ⟨t2,rfl,SqT.of k2⟩,(fun _ _ z=>nomatch z),⟨sm1,(fun _ z=>nomatch z),(fun _ z=>nomatch z)⟩,ga.trans g9,pp9⟩⟩
    ·refine ⟨ll,_,2,.ref t3,rfl,rfl,hl9,rfl,hk _ _ ⟨⟨0,some 5,some 5⟩,g9.deed ⟨t3,rfl,SqT.of k3⟩,?_,⟨sm0,?_,?_⟩,ga.trans g9,pp9⟩⟩
     ·intro l h z1 z2; cases z1; cases z2; exact .inr ⟨rfl,rfl⟩
     ·intro l z; cases z; exact sm5
     ·intro l z; cases z; exact sm5
   rintro yd H8b ⟨d,hd8,ok12,sm12,g8b,pp8b⟩
   have g8:=g8.trans g8b
   have pp8:=pp8b
   have hlp8:=g8.keep _ _ nP hlp7
   refine yv (fun v H'=>v = .int p0 /\ H' = H8b) (fun Kk hk=>⟨_,rfl,lp,_,0,.int p0,rfl,rfl,SqL.of hlp8,rfl,hk _ _ ⟨rfl,rfl⟩⟩) ?_
   rintro _ H8b ⟨rfl,rfl⟩
   refine c_if (fun σ' H'=>∃ bx:Int,σ' = [some (.ref a),some (.int k),some (.int m),some yb,some (.int s3),some (.bl full),some (.ref lp),some (.ref la),some (.int (0 + (j:Int))),some yd,some (.int bx)] /\ (0 <= bx /\ bx < (m:Int)) /\ Grow [a] H8b H' /\ Pot H' a) ?_ (fun hk=>?_)
   rotate_left
   ·refine ⟨_,rfl,rfl,_,rfl,?_⟩
    refine ite2 (fun c=>?_) (fun c=>?_)
    ·refine ⟨_,rfl,_,rfl,_,_,rfl,a,2,rfl,rfl,pp8,by decide,by decide,fun n9 H9 l9 u9 g9 pp9=>?_⟩
     have hlp9:=g9.keep _ _ nP hlp8
     obtain rfl | rfl:n9 = 0 \/ n9 = 1:=by omega
     ·exact ⟨lp,_,0,.int p0,rfl,rfl,SqL.of hlp9,rfl,hk _ _ ⟨_,rfl,hp0,g9,pp9⟩⟩
     ·exact ⟨lp,_,1,.int p1,rfl,rfl,SqL.of hlp9,rfl,hk _ _ ⟨_,rfl,hp1,g9,pp9⟩⟩
    ·exact hk _ _ ⟨_,rfl,hp0,Grow.refl _ _,pp8⟩
   rintro σ' H9 ⟨bx,rfl,hbx,g9,pp9⟩
   refine c_if (fun σ' H'=>∃ bx:Int,σ' = [some (.ref a),some (.int k),some (.int m),some yb,some (.int s3),some (.bl full),some (.ref lp),some (.ref la),some (.int (0 + (j:Int))),some yd,some (.int bx)] /\ (0 <= bx /\ bx < (m:Int)) /\ Grow [a] H8b H' /\ Pot H' a) ?_ (fun hk=>?_)
   rotate_left
   ·refine ⟨_,rfl,rfl,_,rfl,?_⟩
    refine ite2 (fun c=>?_) (fun c=>?_)
    ·exact ⟨_,rfl,_,rfl,_,_,rfl,a,m,rfl,rfl,pp9,by omega,by omega,fun n10 H10 l10 u10 g10 pp10=>hk _ _ ⟨_,rfl,⟨l10,u10⟩,g9.trans g10,pp10⟩⟩
    ·exact hk _ _ ⟨_,rfl,hbx,g9,pp9⟩
   rintro σ' H10 ⟨bx,rfl,hbx,g10,pp10⟩
   have hd10:=g10.deed hd8
   have g10:=g8.trans g10
   have hA10:=g10.keep _ _ nA hA7
   refine ⟨_,rfl,.inl ⟨rfl,_,SqL.of hA10⟩,_,rfl,_,rfl,la,_,rfl,.inl (SqL.of hA10),_,_,rfl,rfl,_,_,rfl,a,_,rfl,rfl,pp10,by omega,by omega,fun ix H11 l11 u11 g11 pp11=>?_⟩
   refine ⟨_,rfl,_,rfl,_,rfl,szl rfl,fun t ht=>?_⟩
   have hd12:=g11.deed hd10
   have gt:=Grow.new (m:=[a]) ht (.tup [.int (0 + (j:Int)),.int bx,yd])
   have G:Grow [a] H7 (upd H11 t (.tup [.int (0 + (j:Int)),.int bx,yd])):=g10.trans (g11.trans gt)
   have hA13:=G.keep _ _ nA hA7
   have pp13:=pp11.new ht (.tup [.int (0 + (j:Int)),.int bx,yd])
   have et:=zc (H:=H11) (a:=t) (o:=.tup [.int (0 + (j:Int)),.int bx,yd])
   have hd13:=(Grow.new (m:=[]) ht (.tup [.int (0 + (j:Int)),.int bx,yd])).deed hd12
   generalize upd H11 t (.tup [.int (0 + (j:Int)),.int bx,yd]) = H13 at gt G hA13 pp13 et hd13 ⊢
   obtain ⟨rd,rfl,hrd⟩:=hd13
   have ask:vT K H13 (.ref t) ⟨(j:Int),bx,d⟩:=⟨t,rd,rfl,SqT.of (by rw [et,Int.zero_add]),hrd⟩
   have ixl:ix.toNat <= xs.length:=by have u11':ix < (xs.length:Int) + 1:=u11; omega
   refine ⟨la,xs,ix.toNat,.ref t,rfl,by rw [Int.toNat_of_nonneg l11],hA13,ixl,yg (by omega),?_⟩
   have gs:Grow [a,la] H13 (upd H13 la (.lst (xs.take ix.toNat ++ [.ref t] ++ xs.drop ix.toNat))):=Grow.set hA13 (by simp) _
   refine ⟨_,_,_,ks.take ix.toNat ++ [⟨(j:Int),bx,d⟩] ++ ks.drop ix.toNat,_,rfl,g7.trans ((G.mono (by simp)).trans gs),?_,zc,gs.allA (AllA.ins ask (G.allA all7)),?_,S7.ins rfl hbx ok12 sm12⟩
   ·obtain ⟨x0,x1,z1,z2⟩:=pp13
    exact ⟨x0,x1,by rw [zk (Ne.symm naa)]; exact z1,z2⟩
   ·rw [List.length_append,List.length_append,List.length_take,List.length_drop]
    show min _ _ + 1 + _ <= _
    omega
  ·rintro H8 ⟨g8,pp8⟩
   have nA:la ∉ [a]:=by simpa using naa
   exact ⟨_,_,_,ks,xs,rfl,g7.trans (g8.mono (by simp)),pp8,g8.keep _ _ nA hA7,g8.allA all7,by omega,S7.next⟩
 ·rintro σ H7 ⟨e8,e9,e10,ks,xs,rfl,g7,pp7,hA7,all7,kj,S7⟩
  rw [e1k,Int.toNat_natCast,hW] at kj S7
  refine ⟨_,rfl,_,rfl,la,_,rfl,.inl ⟨SqL.of hA7,fun r1 hr1=>⟨szl rfl,fun r hr'=>?_⟩⟩⟩
  have ga:=Grow.new (m:=[a]) hr1 (.tup xs)
  have gb:=Grow.new (m:=[a]) hr' (.tup [yb,.ref r1])
  have gab:=ga.trans gb
  have G:Grow [a] H H7:=(((G6.mono (by simp)):Grow [a,la] H H6).trans g7).less fun d hd=>by
   simp only [List.mem_cons,List.mem_nil_iff,or_false] at hd
   rcases hd with rfl | rfl
   ·exact .inl (by simp)
   ·exact .inr hlaH
  refine q r yb (.ref r1) b ks _ (G.trans gab) ((pp7.new hr1 _).new hr' _) (SqT.of zc) ((g7.trans (gab.mono (by simp))).board hb6) (by omega) (by omega) bB ⟨r1,xs,rfl,gb.sqT (SqT.of zc),gab.allA all7⟩ (by omega) ?_ S7.sm
  rw [bl]; exact S7.done
theorem yY:FnScope ["_law_script","_law_place","_law_cell","_law_prime"] ["_law_script","_law_place"] (ze (top 46)):=⟨rfl,rfl,rfl,by decide +kernel,rfl,by decide +kernel,by decide +kernel⟩
theorem rV (F:Fun K "_law_pot" "_law_pot" (top 46) f fd) (B:Blt mg)      :
  FnOk P w K mg base CX0 (n + 1) f fd ["_law_script","_law_place"] (XB K):=by
 refine F.ok yY yD (fun cdv A outer s H vs Q E hr h=>?_)
 obtain ⟨x,y,rfl,a,ns,k,rfl,rfl,hs,k0,k1,q⟩:=h
 refine ⟨_,(zd (zu (i:=2) yY.nd rfl (Or.inl rfl) zf) (zd (yB (zN YD (pv 1) (zp zx rfl B.len wn (za (pv 0) zb)) (zO _)) (zh (zu (i:=2) yY.nd rfl (Or.inl rfl) (z7 zW (pv 0) (pv 1) (fun _ _=>rfl)))) zC) (zd (zu (i:=3) yY.nd rfl (Or.inl rfl) (z7 zW (xE (za zf (za zf (za zf (za zf zb))))) (zq xQ (pv 1) zf) (fun _ _=>rfl))) (zh (zt (xE (za (zp (uW rfl) rfl B.max W7 (za zf (za (zq yL (zp qa rfl B.abs W6 (za (pv 2) zb)) (zq Xv zf zf)) zb))) (za (zq yK (zq yK (zq xQ (zp qa rfl B.abs W6 (za (pv 2) zb)) (pv 3)) (zq sJ zf (pv 1))) zf) zb)))))))),?_⟩
 obtain ⟨qq,hq,q0,q1⟩:∃ qq:Int,atI [V.int 2147483587,.int 2147483579,.int 2147483563,.int 2147483549] (k % 4) = some (V.int qq) /\ 0 < qq /\ qq < 2147483648:=by
  obtain h | h | h | h:k % 4 = 0 \/ k % 4 = 1 \/ k % 4 = 2 \/ k % 4 = 3:=by omega
  all_goals (rw [h]; exact ⟨_,rfl,by decide,by decide⟩)
 have hl:(ns.map V.int).length = ns.length:=List.length_map ..
 refine ⟨_,rfl,_,rfl,a,_,rfl,.inl hs.sq,_,_,rfl,rfl,_,rfl,?_⟩
 by_cases c:k < ((ns.map V.int).length:Int)
 ·refine sM (decide_eq_true c) ?_
  have hj:k.toNat < ns.length:=by omega
  refine ⟨_,rfl,_,rfl,a,_,_,V.int ns[k.toNat],rfl,rfl,hs.sq,jf (ux k0 (by omega)) (by rw [List.getElem?_map,List.getElem?_eq_getElem hj]; rfl),?_⟩
  refine ⟨szl rfl,fun lp hlp=>?_⟩
  refine ⟨_,rfl,_,_,rfl,rfl,(by show (0:Int) < 4; decide),lp,_,_,_,rfl,rfl,SqL.of zc,hq,?_⟩
  have g0:=Grow.new (m:=[]) hlp (.lst [V.int 2147483587,.int 2147483579,.int 2147483563,.int 2147483549])
  refine ⟨_,rfl,_,rfl,_,_,rfl,rfl,⟨by decide,by decide,by decide⟩,_,_,rfl,rfl,_,_,rfl,?_⟩
  refine ⟨_,rfl,_,rfl,_,rfl,_,_,rfl,rfl,q0,_,rfl,_,_,rfl,rfl,XI ⟨by decide,by decide⟩,_,_,rfl,rfl,_,_,rfl,rfl,szl rfl,fun p hp=>?_⟩
  refine q p _ (g0.free (by simp) hp) (g0.trans (Grow.new hp _)) ⟨_,_,zc,?_⟩
  split <;> omega
 ·refine vS (decide_eq_false c) ?_
  refine ⟨szl rfl,fun lp hlp=>?_⟩
  refine ⟨_,rfl,_,_,rfl,rfl,(by show (0:Int) < 4; decide),lp,_,_,_,rfl,rfl,SqL.of zc,hq,?_⟩
  have g0:=Grow.new (m:=[]) hlp (.lst [V.int 2147483587,.int 2147483579,.int 2147483563,.int 2147483549])
  refine ⟨_,rfl,_,rfl,_,_,rfl,rfl,⟨by decide,by decide,by decide⟩,_,_,rfl,rfl,_,_,rfl,?_⟩
  refine ⟨_,rfl,_,rfl,_,rfl,_,_,rfl,rfl,q0,_,rfl,_,_,rfl,rfl,XI ⟨by decide,by decide⟩,_,_,rfl,rfl,_,_,rfl,rfl,szl rfl,fun p hp=>?_⟩
  refine q p _ (g0.free (by simp) hp) (g0.trans (Grow.new hp _)) ⟨_,_,zc,?_⟩
  split <;> omega
theorem xi:FnScope ["_law_script","_law_place","_law_pot_here","_law_k","_law_board","_law_asks","_law_turn","_law_plain","_law_told","_law_one","_law_other"] ["_law_script"] (ze (top 52)):=⟨rfl,rfl,rfl,by decide +kernel,rfl,by decide +kernel,by decide +kernel⟩
theorem VR (F:Fun K "law" "law" (top 52) f fd) (B:Blt mg) (qc0:zi P w K mg base n "_law_few" ["_law_k","_law_asks","_law_told"] (qT K)) (qc1:zi P w K mg base n "_law_due" ["_law_k","_law_asks","_law_are_joined"] (qS K)) (qc2:zi P w K mg base n "joined_loads" ["k","board","asks"] (Yc K)) (qc3:zi P w K mg base n "plain_loads" ["k","board","asks"] (Yd K)) (qc4:zi P w K mg base n "_law_round" ["_law_pot_here","_law_k"] (qJ K)) (qc5:zi P w K mg base n "_law_take" ["_law_pot_here","_law_many"] (sL K)) (qc6:zi P w K mg base n "_law_pot" ["_law_script","_law_place"] (XB K))  (g_zip:mg "zip" = none)   :
  FnOk P w K mg base CX0 (n + 1) f fd ["_law_script"] (qg K):=by
 refine F.ok xi yT (fun cdv A outer s H vs Q E hr h=>?_)
 obtain ⟨x,rfl,a,ns,rfl,hs,h63,q⟩:=h
 refine ⟨_,(zd (yQ PassesOwn.never rfl (zL rfl B.range (za (zp (uW rfl) rfl B.max W7 (za zf (za (zp (j5 rfl) rfl B.min V3 (za zf (za (zp zx rfl B.len wn (za (pv 0) zb)) zb))) zb))) zb)) (zj (i:=1) xi.nd rfl (Or.inl rfl)) (zd (zu (i:=2) xi.nd rfl (Or.inl rfl) (zg qc6 hr rfl (za (pv 0) (za (pv 1) zb)))) (zd (zu (i:=3) xi.nd rfl (Or.inl rfl) (zg qc5 hr rfl (za (pv 2) (za zf zb)))) (zd (wW (zg qc4 hr rfl (za (pv 2) (za (pv 3) zb))) (xD rfl (zo (zj (i:=4) xi.nd rfl (Or.inl rfl)) (zo (zj (i:=5) xi.nd rfl (Or.inl rfl)) z6)))) (zh (yQ PassesOwn.never rfl (zL rfl B.range (za zf zb)) (zj (i:=6) xi.nd rfl (Or.inl rfl)) (zd (zu (i:=7) xi.nd rfl (Or.inl rfl) (zg qc3 hr rfl (za (pv 3) (za (pv 4) (za (pv 5) zb))))) (zd (yB (zN j3 (zp (xo hr) rfl B.repr qd (za (pv 7) zb)) (zp (xo hr) rfl B.repr qd (za (zg qc1 hr rfl (za (pv 3) (za (pv 5) (za wJ zb)))) zb)) (zO _)) (zh (zt wJ)) zC) (zd (zu (i:=8) xi.nd rfl (Or.inl rfl) (zg qc2 hr rfl (za (pv 3) (za (pv 4) (za (pv 5) zb))))) (zd (yB (PW.pt (sH (zN j3 (zp (xo hr) rfl B.repr qd (za (pv 8) zb)) (zp (xo hr) rfl B.repr qd (za (zg qc1 hr rfl (za (pv 3) (za (pv 5) (za wJ zb)))) zb)) (zO _)) (wU (y7 (yJ (zg qc0 hr rfl (za (pv 3) (za (pv 5) (za (pv 8) zb))))))))) (zh (zt wJ)) zC) (zh (yQ PassesOwn.never rfl (XN (K:=K) rfl rfl g_zip (za (pv 8) (za (pv 7) zb))) (xD rfl (zo (zj (i:=9) xi.nd rfl (Or.inl rfl)) (zo (zj (i:=10) xi.nd rfl (Or.inl rfl)) z6))) (zh (yB (y7 (yJ (zp (xS rfl) rfl B.all YJ (za (zT (CSc.of (N':=["_law_few_here","_law_many"]) (sub:=[none,none]) (ze (top 52)) ["_law_script","_law_place","_law_pot_here","_law_k","_law_board","_law_asks","_law_turn","_law_plain","_law_told","_law_one","_law_other"] rfl rfl (by decide +kernel) rfl) rfl (XN (K:=K) rfl rfl g_zip (za (pv 9) (za (pv 10) zb))) (fun _ _ _ _ _ _=>wu (K:=K) 2 rfl rfl (zo (zj (i:=0) (show (["_law_few_here","_law_many"]:List Str).Nodup by decide +kernel) rfl (Or.inl rfl) (Or.inr rfl)) (zo (zj (i:=1) (show (["_law_few_here","_law_many"]:List Str).Nodup by decide +kernel) rfl (Or.inl rfl) (Or.inr rfl)) z6)) rfl rfl) (fun _ _ _ _ _ _=>zA) (fun _ _ _ _ _ _=>(wg j4 (pv 0) (pv 1) (zO _)))) zb)))) (zh (zt wJ)) zC)))))))))))))) (zh (zt wJ))),?_⟩
 have hl:(ns.map V.int).length = ns.length:=List.length_map ..
 refine ⟨_,rfl,a,_,rfl,.inl hs.sq,_,_,rfl,_,_,rfl,_,rfl,?_,?_,?_⟩
 ·split <;> split <;> omega
 ·rw [hl]; split <;> split <;> omega
 refine ye (fun i σ H'=>∃ (e1 e2 e3 e4 e5 e6 e7 e8 e9 e10:Option V),σ = [some (.ref a),e1,e2,e3,e4,e5,e6,e7,e8,e9,e10] /\ Grow [] H H') ⟨_,_,_,_,_,_,_,_,_,_,rfl,Grow.refl _ _⟩ ?_ ?_
 ·rintro i σ H1 hi ⟨e1,e2,e3,e4,e5,e6,e7,e8,e9,e10,rfl,g⟩
  have i63:i < 1000:=by
   have hi':=hi
   revert hi'
   split <;> split <;> omega
  try dsimp only
  refine yv (fun v H'=>∃ p,v = .ref p /\ H1 p = none /\ Grow [] H1 H' /\ Pot H' p) (fun Kk hk=>⟨_,rfl,_,rfl,_,_,rfl,a,ns,_,rfl,rfl,g.scr hs,by omega,by omega,fun p H2 hp g2 pp=>hk _ _ ⟨p,rfl,hp,g2,pp⟩⟩) ?_
  rintro _ H2 ⟨p,rfl,np,g2,pp2⟩
  refine yv (fun v H'=>∃ k:Nat,v = .int k /\ k <= 4 /\ Grow [p] H2 H' /\ Pot H' p) (fun Kk hk=>⟨_,rfl,_,_,rfl,p,5,rfl,rfl,pp2,by decide,by decide,fun t H' t0 t1 g pp'=>hk _ _ ⟨t.toNat,congrArg V.int (by omega),by omega,g,pp'⟩⟩) ?_
  rintro _ H3 ⟨k,rfl,k4,g3,pp3⟩
  have p16:=z8 k4
  refine ⟨_,rfl,_,rfl,_,_,rfl,p,k,rfl,rfl,k4,pp3,fun r yb ya b ks H4 g4 pp4 hr4 hb4 b1 b16 bB ha4 k16 R sm=>⟨r,_,rfl,hr4,rfl,_,_,rfl,_,_,rfl,rfl,?_⟩⟩
  try dsimp only
  have G4:Grow [] H H4:=g.trans ((g2.wk.trans (g3.trans g4)).shrink np)
  have shJ:=WG (ks:=ks) k4 b16
  have shP:=WH (ks:=ks) k4 k16
  refine ⟨_,rfl,by decide,by decide,ye (fun j σ H'=>∃ (e6 e7 e8 e9 e10:Option V),σ = [some (.ref a),some (.int (0 + (i:Int))),some (.ref p),some (.int k),some yb,some ya,e6,e7,e8,e9,e10] /\ Grow [] H4 H') ⟨_,_,_,_,_,rfl,Grow.refl _ _⟩ ?_ ?_⟩
  ·rintro j σ H5 hj ⟨e6,e7,e8,e9,e10,rfl,g5⟩
   try dsimp only
   refine yv (fun v H'=>yf K H' v (plR k ks) /\ Grow [] H5 H') (fun Kk hk=>⟨_,rfl,_,rfl,_,rfl,_,_,_,rfl,k,b,ks,rfl,k4,g5.board hb4,b1,b16,g5.asks ha4,k16,R,fun y H' g h=>hk _ _ ⟨h,g⟩⟩) ?_
   rintro yp H6 ⟨hp6,g6⟩
   have g46:=g5.trans g6
   refine XX (fun c H'=>c = false /\ Grow [] H6 H') (fun Kk hk=>⟨_,rfl,_,_,rfl,xw hp6,shP.1,shP.2.1,Nat.le_trans shP.2.2.2 (by decide),shP.fits (by decide),_,rfl,_,rfl,_,_,_,rfl,k,b.length,ks,false,rfl,k4,g46.asks ha4,k16,R,b16,rfl,fun y H' g h=>⟨_,_,rfl,xw h,shP.1,shP.2.1,Nat.le_trans shP.2.2.2 (by decide),shP.fits (by decide),rfl,_,rfl,hk _ _ ⟨by rw [if_neg (by decide),decide_eq_true rfl]; rfl,g⟩⟩⟩) ?_
   rintro _ H7 ⟨rfl,g7⟩
   refine iteF (XW ?_)
   have g47:=g46.trans g7
   refine yv (fun v H'=>yf K H' v (jlR k ks b.length) /\ Grow [] H7 H') (fun Kk hk=>⟨_,rfl,_,rfl,_,rfl,_,_,_,rfl,k,b,ks,rfl,k4,g47.board hb4,b1,b16,g47.asks ha4,k16,R,fun y H' g h=>hk _ _ ⟨h,g⟩⟩) ?_
   rintro yj H8 ⟨hj8,g8⟩
   have g48:=g47.trans g8
   refine XX (fun c H'=>c = false /\ Grow [] H8 H') (fun Kk hk=>⟨_,rfl,_,_,rfl,xw hj8,shJ.1,shJ.2.1,Nat.le_trans shJ.2.2.2 (by decide),shJ.fits (by decide),_,rfl,_,rfl,_,_,_,rfl,k,b.length,ks,true,rfl,k4,g48.asks ha4,k16,R,b16,rfl,fun y H' g h=>⟨_,_,rfl,xw h,shJ.1,shJ.2.1,Nat.le_trans shJ.2.2.2 (by decide),shJ.fits (by decide),rfl,_,rfl,?_⟩⟩) ?_
   ·refine vS (by rw [if_pos rfl,decide_eq_true rfl]; rfl) ⟨_,rfl,_,rfl,_,rfl,_,_,_,rfl,k,b.length,ks,rfl,k4,(g48.trans g).asks ha4,k16,R,b16,g.rows hj8,fun H'' g''=>⟨_,rfl,hk _ _ ⟨rfl,g.trans g''⟩⟩⟩
   rintro _ H9 ⟨rfl,g9⟩
   refine iteF (XW ?_)
   have g49:=g48.trans g9
   obtain ⟨rj,xj,rfl,hrj,hxj⟩:=g9.rows hj8
   obtain ⟨rp,xp,rfl,hrp,hxp⟩:=((g7.trans g8).trans g9).rows hp6
   have lj:=hxj.len
   have lp:=hxp.len
   rw [qO] at lj
   rw [Xd] at lp
   refine ⟨_,rfl,_,rfl,true,true,rj,rp,rfl,⟨xj,hrj⟩,⟨xp,hrp⟩,Wh (c:=true) (d:=true) (xs:=xj) (ys:=xp) (fun s σ H'=>∃ (e9 e10:Option V),σ = [some (.ref a),some (.int (0 + (i:Int))),some (.ref p),some (.int k),some yb,some ya,some (.int (0 + (j:Int))),some (.ref rp),some (.ref rj),e9,e10] /\ Grow [] H9 H') ⟨_,_,rfl,Grow.refl _ _⟩ (fun s σ H' z=>by obtain ⟨_,_,_,g⟩:=z; exact ⟨(g.sqT hrj:SqT K _ _ _),(g.sqT hrp:SqT K _ _ _)⟩) ?_ ?_⟩
   ·rintro s x y σ H10 T hx hy ⟨e9,e10,rfl,g10⟩ hT
    obtain ⟨rx,hrx,r1,rfl,h1⟩:=hxj.get hx
    obtain ⟨ry,hry,r2,rfl,h2⟩:=hxp.get hy
    have gT:=Grow.new (m:=[]) hT (.tup [.ref r1,.ref r2])
    have hTT:=zc (H:=H10) (a:=T) (o:=.tup [.ref r1,.ref r2])
    have g11:=g10.trans gT
    generalize upd H10 T _ = H11 at gT hTT g11 ⊢
    have sk:s <= k:=by
     have:=(List.getElem?_eq_some_iff.mp hx).1; omega
    have ex:rx = (List.range (2 ^ k)).map fun l=>jcB k ks b.length s l:=by
     unfold jlR at hrx
     rw [List.getElem?_map,List.getElem?_range (show s < k + 1 by omega)] at hrx
     exact (Option.some.inj hrx).symm
    have ey:ry = (List.range (2 ^ k)).map fun l=>yr (ks.map fun a=>zD k a.hand.toNat ((a.box.toNat % 2 ^ k:Nat):Int) s) l:=by
     unfold plR at hry
     rw [List.getElem?_map,List.getElem?_range (show s < k + 1 by omega)] at hry
     exact (Option.some.inj hry).symm
    refine ⟨T,_,rfl,SqT.of hTT,rfl,_,_,rfl,_,_,rfl,rfl,?_⟩
    try dsimp only
    have z1:=g11.sqT h1
    have z2:=g11.sqT h2
    refine ⟨_,rfl,_,rfl,true,true,r1,r2,rfl,⟨_,z1⟩,⟨_,z2⟩,YV (c:=true) (d:=true) (xs:=rx.map V.int) (ys:=ry.map V.int) (fun l zs σ' H'=>(∃ e0 e1:Option V,σ' = [e0,e1]) /\ Grow [] H11 H' /\ zs = (List.replicate l true).map V.bl) ⟨⟨_,_,rfl⟩,Grow.refl _ _,rfl⟩ (fun l zs σ' H' z=>⟨z.2.1.sqT z1,z.2.1.sqT z2⟩) ?_ ?_⟩
    ·rintro l v w zs σ' H12 T2 hv hw ⟨⟨e0,e1,rfl⟩,g12,rfl⟩ hT2
     rw [ex,List.getElem?_map,List.getElem?_map] at hv
     rw [ey,List.getElem?_map,List.getElem?_map] at hw
     obtain ⟨n1,hn1,rfl⟩:=Option.map_eq_some_iff.mp hv
     obtain ⟨l1,hl1,rfl⟩:=Option.map_eq_some_iff.mp hn1
     obtain ⟨n2,hn2,rfl⟩:=Option.map_eq_some_iff.mp hw
     obtain ⟨l2,hl2,rfl⟩:=Option.map_eq_some_iff.mp hn2
     have ll:=(List.getElem?_eq_some_iff.mp hl1).1
     rw [List.length_range] at ll
     rw [List.getElem?_range ll] at hl1 hl2
     cases hl1
     cases hl2
     have gT2:=Grow.new (m:=[]) hT2 (.tup [.int (jcB k ks b.length s l),.int (yr (ks.map fun a=>zD k a.hand.toNat ((a.box.toNat % 2 ^ k:Nat):Int) s) l)])
     refine ⟨T2,_,rfl,SqT.of zc,rfl,_,_,rfl,_,_,rfl,rfl,?_⟩
     have le:=WC R k4 sk ll
     refine ⟨_,rfl,_,rfl,_,_,rfl,rfl,by rw [List.length_map,List.length_replicate]; exact zH (by omega),⟨_,_,rfl⟩,g12.trans gT2,?_⟩
     rw [List.replicate_succ',List.map_append]
     exact congrArg (fun c=>_ ++ [V.bl c]) (decide_eq_true le)
    ·rintro zs σ' H12 ⟨_,g12,rfl⟩ l12 hl12
     refine ⟨l12,_,rfl,SqL.of zc,_,rfl,?_⟩
     rw [show (List.replicate (min (rx.map V.int).length (ry.map V.int).length) true).all id = true by simp]
     refine iteF ?_
     exact ⟨_,_,rfl,g11.trans (g12.trans (Grow.new hl12 _))⟩
   ·rintro σ H10 ⟨e9,e10,rfl,g10⟩
    exact ⟨_,_,_,_,_,rfl,g49.trans g10⟩
  ·rintro σ H5 ⟨e6,e7,e8,e9,e10,rfl,g5⟩
   exact ⟨_,_,_,_,_,_,_,_,_,_,rfl,G4.trans g5⟩
 ·rintro σ H1 _
  exact q _
end
theorem xk:∀ {us:List Value},us.length = 1 -> ∃ x0,us = [x0]
 | [x0],_=>⟨x0,rfl⟩
theorem yG:∀ {us:List Value},us.length = 2 -> ∃ x0,∃ x1,us = [x0,x1]
 | [x0,x1],_=>⟨x0,x1,rfl⟩
theorem yH:∀ {us:List Value},us.length = 3 -> ∃ x0,∃ x1,∃ x2,us = [x0,x1,x2]
 | [x0,x1,x2],_=>⟨x0,x1,x2,rfl⟩
theorem vQ:∀ {us:List Value},us.length = 4 -> ∃ x0,∃ x1,∃ x2,∃ x3,us = [x0,x1,x2,x3]
 | [x0,x1,x2,x3],_=>⟨x0,x1,x2,x3,rfl⟩
def FA (K:FG7) (x:Str) (t:Stmt) (f:Addr) (d:FuncData):Prop:=PySem.W.nsIn K mainGlobals x = some (some (.ref f)) /\ Fun K x x t f d
theorem FA.cl {P:Program} {w:World} {K:FG7} {h base:Heap} {mg:Str -> Option Value} {x:Str} {t:Stmt} {f:Addr} {d:FuncData} {k:Nat} {ps:List Str} {sp:Sp} (a:FA K x t f d) (X:K.In h) (G:h.Ns mainGlobals mg) (F:FnOk P w K mg base CX0 k f d ps sp) (b:wZ K d ps []):zi P w K mg base k x ps sp:=⟨_,_,F,b,a.2.kp,PySem.W.mg_of X G a.1⟩
theorem all_mk {l:PySem.W.OpenLaw} {w:World} {K:FG7} {h:Heap} {mg:Str -> Option Value} {fa f1 f2 f3 f4 f5 f6 f7 f8 f9 f10 f11 f12 f13 f14 f15 f16 f17 f18 f19 f20 f21 f22 f23 f24 f25 f26 f27 f28 f29 f30 f31 f32 f33 f34 f35 f36:Addr} (X:K.In h) (G:h.Ns mainGlobals mg) (hfa:mg "law" = some (.ref fa))
    {d1 d2 d3 d4 d5 d6 d7 d8 d9 d10 d11 d12 d13 d14 d15 d16 d17 d18 d19 d20 d21 d22 d23 d24 d25 d26 d27 d28 d29 d30 d31 d32 d33 d34 d35 d36:FuncData}
 (h1:FA K "_law_few" ((top 51)) f1 d1)
 (h2:FA K "_law_line" ((top 49)) f2 d2)
 (h3:FA K "_law_due" ((top 50)) f3 d3)
 (h4:FA K "counted_on" ((top 42)) f4 d4)
 (h5:FA K "tidy" ((top 22)) f5 d5)
 (h6:FA K "made" ((top 21)) f6 d6)
 (h7:FA K "joined" ((top 23)) f7 d7)
 (h8:FA K "switch_at" ((top 16)) f8 d8)
 (h9:FA K "figure" ((top 13)) f9 d9)
 (h10:FA K "with_figure" ((top 14)) f10 d10)
 (h11:FA K "onward" ((top 15)) f11 d11)
 (h12:FA K "side_for" ((top 36)) f12 d12)
 (h13:FA K "in_order" ((top 38)) f13 d13)
 (h14:FA K "pass_stage" ((top 39)) f14 d14)
 (h15:FA K "pass_net" ((top 40)) f15 d15)
 (h16:FA K "switches_in_a_stage" ((top 33)) f16 d16)
 (h17:FA K "is_whole" ((top 7)) f17 d17)
 (h18:FA K "is_within" ((top 8)) f18 d18)
 (h19:FA K "need_net" ((top 11)) f19 d19)
 (h20:FA K "straight" ((top 34)) f20 d20)
 (h21:FA K "is_line" ((top 12)) f21 d21)
 (h22:FA K "is_end" ((top 19)) f22 d22)
 (h23:FA K "is_deed" ((top 20)) f23 d23)
 (h24:FA K "is_ask" ((top 29)) f24 d24)
 (h25:FA K "is_board" ((top 27)) f25 d25)
 (h26:FA K "need_board" ((top 28)) f26 d26)
 (h27:FA K "are_asks" ((top 30)) f27 d27)
 (h28:FA K "need_asks" ((top 31)) f28 d28)
 (h29:FA K "need_round" ((top 37)) f29 d29)
 (h30:FA K "joined_loads" ((top 43)) f30 d30)
 (h31:FA K "way_of" ((top 17)) f31 d31)
 (h32:FA K "plain_loads" ((top 44)) f32 d32)
 (h33:FA K "_law_take" ((top 47)) f33 d33)
 (h34:FA K "_law_round" ((top 48)) f34 d34)
 (h35:FA K "_law_pot" ((top 46)) f35 d35)
 (h36:FA K "law" ((top 52)) f36 d36)
    {t_DEEPEST:Tok} (ga_DEEPEST:PySem.W.nsIn K mainGlobals "DEEPEST" = some (some (.int 4 t_DEEPEST)))
    {t_LAST_HAND:Tok} (ga_LAST_HAND:PySem.W.nsIn K mainGlobals "LAST_HAND" = some (some (.int 15 t_LAST_HAND)))
    {t_MOST_BOXES:Tok} (ga_MOST_BOXES:PySem.W.nsIn K mainGlobals "MOST_BOXES" = some (some (.int 16 t_MOST_BOXES)))
    (ga_set:PySem.W.nsIn K mainGlobals "set" = some none)
    (ga_sorted:PySem.W.nsIn K mainGlobals "sorted" = some none)
    (ga_zip:PySem.W.nsIn K mainGlobals "zip" = some none)
    (z_abs:PySem.W.nsIn K mainGlobals "abs" = some none)
    (z_len:PySem.W.nsIn K mainGlobals "len" = some none)
    (z_max:PySem.W.nsIn K mainGlobals "max" = some none)
    (z_min:PySem.W.nsIn K mainGlobals "min" = some none)
    (z_divmod:PySem.W.nsIn K mainGlobals "divmod" = some none)
    (z_repr:PySem.W.nsIn K mainGlobals "repr" = some none)
    (z_isinstance:PySem.W.nsIn K mainGlobals "isinstance" = some none)
    (z_all:PySem.W.nsIn K mainGlobals "all" = some none)
    (z_range:PySem.W.nsIn K mainGlobals "range" = some none)
    (z_int:PySem.W.nsIn K mainGlobals "int" = some none)
    (z_bool:PySem.W.nsIn K mainGlobals "bool" = some none)
    (z_str:PySem.W.nsIn K mainGlobals "str" = some none)
    (z_tuple:PySem.W.nsIn K mainGlobals "tuple" = some none)
    (z_list:PySem.W.nsIn K mainGlobals "list" = some none)
    (z_dict:PySem.W.nsIn K mainGlobals "dict" = some none)
    :
    ∃ fd:FuncData,(∀ (s:Shared) (v:Value),BindsTo s fd ⟨[v],[]⟩ [("_law_script",v)]) /\ ∀ base:Heap,K.In base -> base.Ns mainGlobals mg -> FnOk l.prog w K mg base CX0 9 fa fd ["_law_script"] (qg K):=by
  have e:=hfa.symm.trans (PySem.W.mg_of X G h36.1)
  cases e
  have B:Blt mg:=⟨PySem.W.mg_none_of X G z_abs,PySem.W.mg_none_of X G z_len,PySem.W.mg_none_of X G z_max,PySem.W.mg_none_of X G z_min,PySem.W.mg_none_of X G z_divmod,PySem.W.mg_none_of X G z_repr,PySem.W.mg_none_of X G z_isinstance,PySem.W.mg_none_of X G z_all,PySem.W.mg_none_of X G z_range,PySem.W.mg_none_of X G z_int,PySem.W.mg_none_of X G z_bool,PySem.W.mg_none_of X G z_str,PySem.W.mg_none_of X G z_tuple,PySem.W.mg_none_of X G z_list,PySem.W.mg_none_of X G z_dict⟩
  obtain ⟨oc,od,kV,dc,pm,an,cd,ct,sl,rfl,lk,hc⟩:=h36.2.ex
  refine ⟨PySem.W.fnOf "law" "law" (w5 (top 52)) (wm (top 52)) (ze (top 52)) .none kV dc pm an cd ct,fun s v=>.of_eq rfl,fun base _ _=>?_⟩
  have C1:zi l.prog w K mg base 1 _ _ _:=h1.cl X G (rD h1.2 B     (PySem.W.mg_none_of X G ga_sorted) (PySem.W.mg_none_of X G ga_set)  ) (h1.2.binds fun _ _ _ _ _ _ us hl=>by obtain ⟨_,_,_,rfl⟩:=yH hl; rfl)
  have C2:zi l.prog w K mg base 1 _ _ _:=h2.cl X G (su h2.2 B       ) (h2.2.binds fun _ _ _ _ _ _ us hl=>by obtain ⟨_,_,_,_,rfl⟩:=vQ hl; rfl)
  have C3:zi l.prog w K mg base 2 _ _ _:=h3.cl X G (rE h3.2 B    (C2.mono (by decide)) (PySem.W.mg_none_of X G ga_sorted) (PySem.W.mg_none_of X G ga_set)  ) (h3.2.binds fun _ _ _ _ _ _ us hl=>by obtain ⟨_,_,_,rfl⟩:=yH hl; rfl)
  have C4:zi l.prog w K mg base 1 _ _ _:=h4.cl X G (uM h4.2 B       ) (h4.2.binds fun _ _ _ _ _ _ us hl=>by obtain ⟨_,_,rfl⟩:=yG hl; rfl)
  have C5:zi l.prog w K mg base 1 _ _ _:=h5.cl X G (Zk h5.2 B       ) (h5.2.binds fun _ _ _ _ _ _ us hl=>by obtain ⟨_,_,_,rfl⟩:=yH hl; rfl)
  have C6:zi l.prog w K mg base 1 _ _ _:=h6.cl X G (WJ h6.2 B       ) (h6.2.binds fun _ _ _ _ _ _ us hl=>by obtain ⟨_,_,rfl⟩:=yG hl; rfl)
  have C7:zi l.prog w K mg base 2 _ _ _:=h7.cl X G (Yt h7.2 B    (C5.mono (by decide)) (C6.mono (by decide))   ) (h7.2.binds fun _ _ _ _ _ _ us hl=>by obtain ⟨_,_,rfl⟩:=yG hl; rfl)
  have C8:zi l.prog w K mg base 1 _ _ _:=h8.cl X G (sv h8.2 B       ) (h8.2.binds fun _ _ _ _ _ _ us hl=>by obtain ⟨_,_,_,rfl⟩:=yH hl; rfl)
  have C9:zi l.prog w K mg base 1 _ _ _:=h9.cl X G (Yv h9.2 B       ) (h9.2.binds fun _ _ _ _ _ _ us hl=>by obtain ⟨_,_,_,rfl⟩:=yH hl; rfl)
  have C10:zi l.prog w K mg base 2 _ _ _:=h10.cl X G (vX h10.2 B    (C9.mono (by decide))   ) (h10.2.binds fun _ _ _ _ _ _ us hl=>by obtain ⟨_,_,_,_,rfl⟩:=vQ hl; rfl)
  have C11:zi l.prog w K mg base 3 _ _ _:=h11.cl X G (Yx h11.2 B    (C10.mono (by decide)) (C9.mono (by decide))   ) (h11.2.binds fun _ _ _ _ _ _ us hl=>by obtain ⟨_,_,_,_,rfl⟩:=vQ hl; rfl)
  have C12:zi l.prog w K mg base 1 _ _ _:=h12.cl X G (rG h12.2 B       ) (h12.2.binds fun _ _ _ _ _ _ us hl=>by obtain ⟨_,_,rfl⟩:=yG hl; rfl)
  have C13:zi l.prog w K mg base 3 _ _ _:=h13.cl X G (rH h13.2 B    (C10.mono (by decide)) (C8.mono (by decide))   ) (h13.2.binds fun _ _ _ _ _ _ us hl=>by obtain ⟨_,_,_,_,rfl⟩:=vQ hl; rfl)
  have C14:zi l.prog w K mg base 4 _ _ _:=h14.cl X G (uN h14.2 B    (C7.mono (by decide)) (C8.mono (by decide)) (C11.mono (by decide)) (C12.mono (by decide)) (C13.mono (by decide))   ) (h14.2.binds fun _ _ _ _ _ _ us hl=>by obtain ⟨_,_,_,_,rfl⟩:=vQ hl; rfl)
  have C15:zi l.prog w K mg base 5 _ _ _:=h15.cl X G (rJ h15.2 B    (C14.mono (by decide))   ) (h15.2.binds fun _ _ _ _ _ _ us hl=>by obtain ⟨_,_,_,rfl⟩:=yH hl; rfl)
  have C16:zi l.prog w K mg base 1 _ _ _:=h16.cl X G (y4 h16.2 B       ) (h16.2.binds fun _ _ _ _ _ _ us hl=>by obtain ⟨_,rfl⟩:=xk hl; rfl)
  have C17:zi l.prog w K mg base 1 _ _ _:=h17.cl X G (rL h17.2 B       ) (h17.2.binds fun _ _ _ _ _ _ us hl=>by obtain ⟨_,rfl⟩:=xk hl; rfl)
  have C18:zi l.prog w K mg base 2 _ _ _:=h18.cl X G (sy h18.2 B    (C17.mono (by decide))   ) (h18.2.binds fun _ _ _ _ _ _ us hl=>by obtain ⟨_,_,_,rfl⟩:=yH hl; rfl)
  have C19:zi l.prog w K mg base 3 _ _ _:=h19.cl X G (rN h19.2 B    (C18.mono (by decide))  (PySem.W.mg_of X G ga_DEEPEST) ) (h19.2.binds fun _ _ _ _ _ _ us hl=>by obtain ⟨_,rfl⟩:=xk hl; rfl)
  have C20:zi l.prog w K mg base 4 _ _ _:=h20.cl X G (rP h20.2 B    (C16.mono (by decide)) (C19.mono (by decide))   ) (h20.2.binds fun _ _ _ _ _ _ us hl=>by obtain ⟨_,rfl⟩:=xk hl; rfl)
  have C21:zi l.prog w K mg base 3 _ _ _:=h21.cl X G (jM h21.2 B    (C18.mono (by decide))   ) (h21.2.binds fun _ _ _ _ _ _ us hl=>by obtain ⟨_,_,rfl⟩:=yG hl; rfl)
  have C22:zi l.prog w K mg base 2 _ _ _:=h22.cl X G (Yz h22.2 B    (C17.mono (by decide))   ) (h22.2.binds fun _ _ _ _ _ _ us hl=>by obtain ⟨_,rfl⟩:=xk hl; rfl)
  have C23:zi l.prog w K mg base 3 _ _ _:=h23.cl X G (jN h23.2 B    (C22.mono (by decide)) (C17.mono (by decide))   ) (h23.2.binds fun _ _ _ _ _ _ us hl=>by obtain ⟨_,rfl⟩:=xk hl; rfl)
  have C24:zi l.prog w K mg base 4 _ _ _:=h24.cl X G (YA h24.2 B    (C23.mono (by decide)) (C18.mono (by decide))  (PySem.W.mg_of X G ga_LAST_HAND) ) (h24.2.binds fun _ _ _ _ _ _ us hl=>by obtain ⟨_,_,rfl⟩:=yG hl; rfl)
  have C25:zi l.prog w K mg base 2 _ _ _:=h25.cl X G (rR h25.2 B    (C17.mono (by decide))  (PySem.W.mg_of X G ga_MOST_BOXES) ) (h25.2.binds fun _ _ _ _ _ _ us hl=>by obtain ⟨_,rfl⟩:=xk hl; rfl)
  have C26:zi l.prog w K mg base 3 _ _ _:=h26.cl X G (uP h26.2 B    (C25.mono (by decide))   ) (h26.2.binds fun _ _ _ _ _ _ us hl=>by obtain ⟨_,rfl⟩:=xk hl; rfl)
  have C27:zi l.prog w K mg base 5 _ _ _:=h27.cl X G (rT h27.2 B    (C24.mono (by decide)) (C26.mono (by decide))   ) (h27.2.binds fun _ _ _ _ _ _ us hl=>by obtain ⟨_,_,rfl⟩:=yG hl; rfl)
  have C28:zi l.prog w K mg base 6 _ _ _:=h28.cl X G (sB h28.2 B    (C27.mono (by decide))   ) (h28.2.binds fun _ _ _ _ _ _ us hl=>by obtain ⟨_,_,rfl⟩:=yG hl; rfl)
  have C29:zi l.prog w K mg base 7 _ _ _:=h29.cl X G (uQ h29.2 B    (C21.mono (by decide)) (C28.mono (by decide)) (C19.mono (by decide)) (PySem.W.mg_none_of X G ga_set)  ) (h29.2.binds fun _ _ _ _ _ _ us hl=>by obtain ⟨_,_,_,rfl⟩:=yH hl; rfl)
  have C30:zi l.prog w K mg base 8 _ _ _:=h30.cl X G (vO h30.2 B    (C4.mono (by decide)) (C15.mono (by decide)) (C20.mono (by decide)) (C29.mono (by decide))   ) (h30.2.binds fun _ _ _ _ _ _ us hl=>by obtain ⟨_,_,_,rfl⟩:=yH hl; rfl)
  have C31:zi l.prog w K mg base 4 _ _ _:=h31.cl X G (YB h31.2 B    (C11.mono (by decide))   ) (h31.2.binds fun _ _ _ _ _ _ us hl=>by obtain ⟨_,_,_,rfl⟩:=yH hl; rfl)
  have C32:zi l.prog w K mg base 8 _ _ _:=h32.cl X G (vY h32.2 B    (C4.mono (by decide)) (C31.mono (by decide)) (C12.mono (by decide)) (C29.mono (by decide))   ) (h32.2.binds fun _ _ _ _ _ _ us hl=>by obtain ⟨_,_,_,rfl⟩:=yH hl; rfl)
  have C33:zi l.prog w K mg base 1 _ _ _:=h33.cl X G (sC h33.2 B       ) (h33.2.binds fun _ _ _ _ _ _ us hl=>by obtain ⟨_,_,rfl⟩:=yG hl; rfl)
  have C34:zi l.prog w K mg base 2 _ _ _:=h34.cl X G (uR h34.2 B    (C33.mono (by decide))   ) (h34.2.binds fun _ _ _ _ _ _ us hl=>by obtain ⟨_,_,rfl⟩:=yG hl; rfl)
  have C35:zi l.prog w K mg base 1 _ _ _:=h35.cl X G (rV h35.2 B       ) (h35.2.binds fun _ _ _ _ _ _ us hl=>by obtain ⟨_,_,rfl⟩:=yG hl; rfl)
  exact VR (P:=l.prog) (w:=w) (base:=base) (n:=8) h36.2 B    (C1.mono (by decide)) (C3.mono (by decide)) (C30.mono (by decide)) (C32.mono (by decide)) (C34.mono (by decide)) (C33.mono (by decide)) (C35.mono (by decide)) (PySem.W.mg_none_of X G ga_zip)
theorem walk {l:PySem.W.OpenLaw} {q:Program} {loose:List Str} {XP:(Str -> Option Value) -> Heap -> Prop} {YP:World -> Heap -> Prop} {d:DefRec} {K:Params -> FG7} (hn:l.most = some 63) (hdf:d.params.defaults = [])
  (hY:∀ (w:World) (h:Heap),YP w h -> (K w.params).In h)
  (F:∀ (w:World) (mg:Str -> Option Value) (fa:Addr) (h:Heap),(K w.params).In h -> h.Ns mainGlobals mg -> mg d.name = some (.ref fa) →
   ∃ fd:FuncData,(∀ (s:Shared) (u:Value),BindsTo s fd ⟨[u],[]⟩ [("_law_script",u)]) /\ ∀ base:Heap,(K w.params).In base -> base.Ns mainGlobals mg -> FnOk l.prog w (K w.params) mg base CX0 9 fa fd ["_law_script"] (qg (K w.params))) :
  PySem.W.WalkO q loose XP YP l.row.toRowW d [] (fun f vs=>PySem.call f vs) :=
 L2.walk_of (n:=63) (k:=9) (x:="_law_script") (CX:=fun _=>CX0) (sp:=fun w=>qg (K w.params)) hn (by decide) hdf ⟨rfl,by decide,by decide,rfl⟩ hY F (fun _ _ a ns hl hO hS=>⟨_,rfl,a,ns,rfl,Scr.of hO hS,hl,fun _=>rfl⟩) fun _ _ _ _ _ z=>z
theorem walkX {q:Program} {loose:List Str} {XP:(Str -> Option Value) -> Heap -> Prop} {K:Params -> FG7} {as:List Addr} {n t:Nat} {r:PySem.W.RowW} {d:DefRec} {kwd:List (Str × Expr)} {run:Value -> List Value -> Sem Value}
  (e:∀ P,as = (K P).map (·.1)) (W:PySem.W.WalkO q loose XP (PySem.W.InK K) r d kwd run):PySem.W.WalkX q loose XP (PySem.W.X.obsZ as) (PySem.W.X.valZ K n t) r d kwd run :=
 fun w s₀ s₁ mg mb G Y a o pm cd doc dV kV h2 h3 h4 h5 h6 h7 args vals as' L hpre hlay hrd hwl hlo =>
  W w s₀ s₁ mg mb G (PySem.W.InK.keeps w s₀.heap s₁.heap (PySem.W.X.z_facts e Y).2.1 L.keeps) a o pm cd doc dV kV h2 h3 h4 h5 h6 h7 args vals as' hpre hlay hrd hwl hlo
end My
open PySem PySem.W PyProof.Rows
def PySem.W.Fast.tw3027995696686078494:Unit:=()
def PySem.W.Fast.tw9491517933264450445:Unit:=()
def PySem.W.Fast.tw6102936813161221699:Unit:=()
def PySem.W.Fast.tw15455824516251912056:Unit:=()
def PySem.W.Fast.tw7818416458503829516:Unit:=()
def PySem.W.Fast.tw17172847121456025156:Unit:=()
def PySem.W.Fast.tw15711586290760491342:Unit:=()
def PySem.W.Fast.tw2865723703057535138:Unit:=()
def PySem.W.Fast.tw13278027560314269126:Unit:=()
def PySem.W.Fast.tw9060355756764759182:Unit:=()
def PySem.W.Fast.tw2875677633607361990:Unit:=()
def PySem.W.Fast.tw8212096636358980690:Unit:=()
def PySem.W.Fast.tw383466559507325290:Unit:=()
def PySem.W.Fast.tw5337870006744999100:Unit:=()
def PySem.W.Fast.tw10688822575886750983:Unit:=()
def PySem.W.Fast.tw5833094987415962450:Unit:=()
def PySem.W.Fast.tw5707230089255903661:Unit:=()
def PySem.W.Fast.tw13056555841715219512:Unit:=()
def PySem.W.Fast.tw6383934410086314593:Unit:=()
def PySem.W.Fast.tw12238068784058809254:Unit:=()
def PySem.W.Fast.tw17090911671087013727:Unit:=()
def PySem.W.Fast.tw10939952369123983523:Unit:=()
def PySem.W.Fast.tw8580951216166294575:Unit:=()
def PySem.W.Fast.tw9575602539032585192:Unit:=()
def PySem.W.Fast.tw5570248949441707264:Unit:=()
def PySem.W.Fast.tw2571508678126361970:Unit:=()
def PySem.W.Fast.tw14088594207561856045:Unit:=()
def PySem.W.Fast.tw15006909215029926289:Unit:=()
def PySem.W.Fast.tw12859320456392084955:Unit:=()
def PySem.W.Fast.tw17017790716797023628:Unit:=()
def PySem.W.Fast.tw14102297627558326417:Unit:=()
def PySem.W.Fast.tw3791382374216904295:Unit:=()
def PySem.W.Fast.tw11977742981266496869:Unit:=()
def PySem.W.Fast.tw12818431812817044067:Unit:=()
def PySem.W.Fast.tw1785390317128851092:Unit:=()
def PySem.W.Fast.tw3715189744410333900:Unit:=()
def PySem.W.Fast.tw267526798116478868:Unit:=()
def PySem.W.Fast.tw11760856681111836765:Unit:=()
def PySem.W.Fast.tw3752075339027359495:Unit:=()
def PySem.W.Fast.tw6274387703814880121:Unit:=()
def PySem.W.Fast.tw909043342880286002:Unit:=()
def PySem.W.Fast.tw9256959230206791063:Unit:=()
def PySem.W.Fast.tw2280373164797587370:Unit:=()
def PySem.W.Fast.tw7355375307027699576:Unit:=()
def PySem.W.Fast.tw8642854375009839693:Unit:=()
def PySem.W.Fast.tw10097739858332792613:Unit:=()
def PySem.W.Fast.tw11732559216507010916:Unit:=()
def PySem.W.Fast.tw16807110232562108480:Unit:=()
def PySem.W.Fast.tw1099690114130110455:Unit:=()
def PySem.W.Fast.tw647640583059762664:Unit:=()
def PySem.W.Fast.tw11430819616224381574:Unit:=()
def PySem.W.Fast.tw401087348804008846:Unit:=()
def PySem.W.Fast.tw6566816735606312976:Unit:=()
def PySem.W.Fast.tw9243477623855074091:Unit:=()
def PySem.W.Fast.tw3125172661731082895:Unit:=()
def PySem.W.Fast.tw230426420941495616:Unit:=()
def PySem.W.Fast.tw4952452615873803306:Unit:=()
def PySem.W.Fast.tw1897987284384855524:Unit:=()
def PySem.W.Fast.tw18349245208970358928:Unit:=()
def PySem.W.Fast.tw11189243184283600478:Unit:=()
def PySem.W.Fast.tw16906269916714853690:Unit:=()
def PySem.W.Fast.tw11497556300602675708:Unit:=()
def PySem.W.Fast.tw14297508320477897963:Unit:=()
def PySem.W.Fast.tw14320008294673282249:Unit:=()
def PySem.W.Fast.tw1565392020513981084:Unit:=()
def PySem.W.Fast.tw1959329095007201025:Unit:=()
def PySem.W.Fast.tw3578753124566421623:Unit:=()
def PySem.W.Fast.tw8918178606016832717:Unit:=()
def PySem.W.Fast.tw16435136363625460479:Unit:=()
def PySem.W.Fast.tw4080083872583951211:Unit:=()
def PySem.W.Fast.tw4250955620314230586:Unit:=()
def PySem.W.Fast.tw11227172706589849418:Unit:=()
def PySem.W.Fast.tw6571903091033344222:Unit:=()
def PySem.W.Fast.tw17075097397904705757:Unit:=()
def PySem.W.Fast.tw15983547149167654656:Unit:=()
def PySem.W.Fast.tw13740331343420552646:Unit:=()
def PySem.W.Fast.tw8684999312752447199:Unit:=()
def PySem.W.Fast.tw3711874562957926552:Unit:=()
def PySem.W.Fast.tw17466110119452795198:Unit:=()
def PySem.W.Fast.tw10994781419078808397:Unit:=()
def PySem.W.Fast.tw16201974627409777019:Unit:=()
def PySem.W.Fast.tw16231488640053046024:Unit:=()
def PySem.W.Fast.tw15827792279277505435:Unit:=()
def PySem.W.Fast.tw16842054007343414909:Unit:=()
def PySem.W.Fast.tw2392472254445071507:Unit:=()
def PySem.W.Fast.tw13492619617994100568:Unit:=()
def PySem.W.Fast.tw687023826083023447:Unit:=()
def PySem.W.Fast.tw1069740999287636740:Unit:=()
def PySem.W.Fast.tw10039514236664429589:Unit:=()
def PySem.W.Fast.tw17482710278960587471:Unit:=()
def PySem.W.Fast.tw17091299408843761455:Unit:=()
def PySem.W.Fast.tw11718811583757827874:Unit:=()
def PySem.W.Fast.tw14013112085799127768:Unit:=()
def PySem.W.Fast.tw14562417678087635624:Unit:=()
def PySem.W.Fast.tw9643592166505848251:Unit:=()
def PySem.W.Fast.tw7622850946267033522:Unit:=()
def PySem.W.Fast.tw15388460078447723129:Unit:=()
def PySem.W.Fast.tw10449112580202454120:Unit:=()
def PySem.W.Fast.tw9120691533679167882:Unit:=()
def PySem.W.Fast.tw5325965834156772408:Unit:=()
def PySem.W.Fast.tw1880392106102659031:Unit:=()
def PySem.W.Fast.tw6322099535333659857:Unit:=()
def PySem.W.Fast.tw5798490611618026632:Unit:=()
def PySem.W.Fast.tw6191173248538710290:Unit:=()
def PySem.W.Fast.tw16893431074567259221:Unit:=()
def PySem.W.Fast.tw4609485196606752935:Unit:=()
def PySem.W.Fast.tw10233556795638238278:Unit:=()
def PySem.W.Fast.tw12460185011089556850:Unit:=()
def PySem.W.Fast.tw9618333175898256284:Unit:=()
def PySem.W.Fast.tw2172741793436937361:Unit:=()
def PySem.W.Fast.tw4362182493846583706:Unit:=()
def PySem.W.Fast.tw1824671736997973720:Unit:=()
def PySem.W.Fast.tw6219382599219437990:Unit:=()
def PySem.W.Fast.tw1950758894058702040:Unit:=()
def PySem.W.Fast.tw2234365956306375807:Unit:=()
def PySem.W.Fast.tw15793179428756246070:Unit:=()
def PySem.W.Fast.tw6757946596433440166:Unit:=()
def PySem.W.Fast.tw15700700174489257021:Unit:=()
def PySem.W.Fast.tw11592985719332085132:Unit:=()
def PySem.W.Fast.tw8191096155020124627:Unit:=()
def PySem.W.Fast.tw14562456621081720717:Unit:=()
def PySem.W.Fast.tw9422272263874323007:Unit:=()
def PySem.W.Fast.tw6987594825708158221:Unit:=()
def PySem.W.Fast.tw10531498778024853011:Unit:=()
def PySem.W.Fast.tw10338490737883269527:Unit:=()
def PySem.W.Fast.tw17643806151511045939:Unit:=()
def PySem.W.Fast.tw16158586424858115798:Unit:=()
def PySem.W.Fast.tw1158562611656080364:Unit:=()
def PySem.W.Fast.tw10060819316414100633:Unit:=()
def PySem.W.Fast.tw3563076953765205527:Unit:=()
def PySem.W.Fast.tw3555763706915794736:Unit:=()
def PySem.W.Fast.tw679743393637690879:Unit:=()
def PySem.W.Fast.tw1759665246472160444:Unit:=()
def PySem.W.Fast.tw4942897519195194519:Unit:=()
def PySem.W.Fast.tw3509028977876313807:Unit:=()
def PySem.W.Fast.tw18106753699046517003:Unit:=()
def PySem.W.Fast.tw10219352879830536365:Unit:=()
def PySem.W.Fast.tw4508691789036108520:Unit:=()
def PySem.W.Fast.tw8386938313802774932:Unit:=()
def PySem.W.Fast.tw8851108824760190088:Unit:=()
def PySem.W.Fast.tw1767247418445285596:Unit:=()
def PySem.W.Fast.tw10021586924489440155:Unit:=()
def PySem.W.Fast.tw696766271957058813:Unit:=()
def PySem.W.Fast.tw6324281377679160523:Unit:=()
def PySem.W.Fast.tw3351646103971925824:Unit:=()
def PySem.W.Fast.tw2775738550337774924:Unit:=()
def PySem.W.Fast.tw14323836457921939235:Unit:=()
def PySem.W.Fast.tw4031042634168657079:Unit:=()
def PySem.W.Fast.tw1316041274298901020:Unit:=()
def PySem.W.Fast.tw12906248351220379344:Unit:=()
def PySem.W.Fast.tw16222676194692110511:Unit:=()
def PySem.W.Fast.tw7391924064457983271:Unit:=()
def PySem.W.Fast.tw4960929617663773615:Unit:=()
def PySem.W.Fast.tw4179833203103727988:Unit:=()
def PySem.W.Fast.tw5178928825761685530:Unit:=()
def PySem.W.Fast.tw11168215100951699485:Unit:=()
def PySem.W.Fast.tw16615273041221153725:Unit:=()
def PySem.W.Fast.tw9835752733105756337:Unit:=()
def PySem.W.Fast.tw10788149680175816947:Unit:=()
def PySem.W.Fast.tw10118032296469186316:Unit:=()
def PySem.W.Fast.tw2532349826786423173:Unit:=()
def PySem.W.Fast.tw1538630885129294151:Unit:=()
def PySem.W.Fast.tw12117053575644758190:Unit:=()
def PySem.W.Fast.tw6698306795830319401:Unit:=()
def PySem.W.Fast.tw5175212725169237420:Unit:=()
def PySem.W.Fast.tw5934691345619702253:Unit:=()
def PySem.W.Fast.tw9748798492169605911:Unit:=()
def PySem.W.Fast.tw10966577709552504595:Unit:=()
def PySem.W.Fast.tw8282198333215911687:Unit:=()
def PySem.W.Fast.tw11959682810975471078:Unit:=()
def PySem.W.Fast.tw4685228534676929270:Unit:=()
def PySem.W.Fast.tw17221924243540646337:Unit:=()
def PySem.W.Fast.tw13056745437462384378:Unit:=()
def PySem.W.Fast.tw11994686291310838221:Unit:=()
def PySem.W.Fast.tw13451445464394888960:Unit:=()
def PySem.W.Fast.tw3453987290948665963:Unit:=()
def PySem.W.Fast.tw3805643245477502146:Unit:=()
def PySem.W.Fast.tw9275312276203262298:Unit:=()
def PySem.W.Fast.tw8136020709586341587:Unit:=()
def PySem.W.Fast.tw16570525130174461406:Unit:=()
def PySem.W.Fast.tw12455622556030893822:Unit:=()
def PySem.W.Fast.tw16551868225158756344:Unit:=()
def PySem.W.Fast.tw4184119535141732163:Unit:=()
set_option maxRecDepth 100000 in
theorem PySem.Challenge.cw_joinedasks_k45_whole_loads_holds : PySem.Challenge.rw_joinedasks_k45_whole_loads.Holds := by
 w_on; o_law; z_head; (case hw=>w_witness2)
 refine My.walkX (fun _=>by kernel_rfl) (My.walk (l:=PySem.Challenge.rw_joinedasks_k45_whole_loads) rfl rfl (fun w h Y=>Y) ?F)
 case F =>
  intro w mg fa h KX G hmg
  refine' My.all_mk KX G hmg        ?h1 ?h2 ?h3 ?h4 ?h5 ?h6 ?h7 ?h8 ?h9 ?h10 ?h11 ?h12 ?h13 ?h14 ?h15 ?h16 ?h17 ?h18 ?h19 ?h20 ?h21 ?h22 ?h23 ?h24 ?h25 ?h26 ?h27 ?h28 ?h29 ?h30 ?h31 ?h32 ?h33 ?h34 ?h35 ?h36 ?ga_DEEPEST ?ga_LAST_HAND ?ga_MOST_BOXES ?ga_set ?ga_sorted ?ga_zip ?z_abs ?z_len ?z_max ?z_min ?z_divmod ?z_repr ?z_isinstance ?z_all ?z_range ?z_int ?z_bool ?z_str ?z_tuple ?z_list ?z_dict
  (case h1=>exact ⟨by k_is,L2.fun_mk (by k_is) (by k_is) (by k_is)⟩)
  (case h2=>exact ⟨by k_is,L2.fun_mk (by k_is) (by k_is) (by k_is)⟩)
  (case h3=>exact ⟨by k_is,L2.fun_mk (by k_is) (by k_is) (by k_is)⟩)
  (case h4=>exact ⟨by k_is,L2.fun_mk (by k_is) (by k_is) (by k_is)⟩)
  (case h5=>exact ⟨by k_is,L2.fun_mk (by k_is) (by k_is) (by k_is)⟩)
  (case h6=>exact ⟨by k_is,L2.fun_mk (by k_is) (by k_is) (by k_is)⟩)
  (case h7=>exact ⟨by k_is,L2.fun_mk (by k_is) (by k_is) (by k_is)⟩)
  (case h8=>exact ⟨by k_is,L2.fun_mk (by k_is) (by k_is) (by k_is)⟩)
  (case h9=>exact ⟨by k_is,L2.fun_mk (by k_is) (by k_is) (by k_is)⟩)
  (case h10=>exact ⟨by k_is,L2.fun_mk (by k_is) (by k_is) (by k_is)⟩)
  (case h11=>exact ⟨by k_is,L2.fun_mk (by k_is) (by k_is) (by k_is)⟩)
  (case h12=>exact ⟨by k_is,L2.fun_mk (by k_is) (by k_is) (by k_is)⟩)
  (case h13=>exact ⟨by k_is,L2.fun_mk (by k_is) (by k_is) (by k_is)⟩)
  (case h14=>exact ⟨by k_is,L2.fun_mk (by k_is) (by k_is) (by k_is)⟩)
  (case h15=>exact ⟨by k_is,L2.fun_mk (by k_is) (by k_is) (by k_is)⟩)
  (case h16=>exact ⟨by k_is,L2.fun_mk (by k_is) (by k_is) (by k_is)⟩)
  (case h17=>exact ⟨by k_is,L2.fun_mk (by k_is) (by k_is) (by k_is)⟩)
  (case h18=>exact ⟨by k_is,L2.fun_mk (by k_is) (by k_is) (by k_is)⟩)
  (case h19=>exact ⟨by k_is,L2.fun_mk (by k_is) (by k_is) (by k_is)⟩)
  (case h20=>exact ⟨by k_is,L2.fun_mk (by k_is) (by k_is) (by k_is)⟩)
  (case h21=>exact ⟨by k_is,L2.fun_mk (by k_is) (by k_is) (by k_is)⟩)
  (case h22=>exact ⟨by k_is,L2.fun_mk (by k_is) (by k_is) (by k_is)⟩)
  (case h23=>exact ⟨by k_is,L2.fun_mk (by k_is) (by k_is) (by k_is)⟩)
  (case h24=>exact ⟨by k_is,L2.fun_mk (by k_is) (by k_is) (by k_is)⟩)
  (case h25=>exact ⟨by k_is,L2.fun_mk (by k_is) (by k_is) (by k_is)⟩)
  (case h26=>exact ⟨by k_is,L2.fun_mk (by k_is) (by k_is) (by k_is)⟩)
  (case h27=>exact ⟨by k_is,L2.fun_mk (by k_is) (by k_is) (by k_is)⟩)
  (case h28=>exact ⟨by k_is,L2.fun_mk (by k_is) (by k_is) (by k_is)⟩)
  (case h29=>exact ⟨by k_is,L2.fun_mk (by k_is) (by k_is) (by k_is)⟩)
  (case h30=>exact ⟨by k_is,L2.fun_mk (by k_is) (by k_is) (by k_is)⟩)
  (case h31=>exact ⟨by k_is,L2.fun_mk (by k_is) (by k_is) (by k_is)⟩)
  (case h32=>exact ⟨by k_is,L2.fun_mk (by k_is) (by k_is) (by k_is)⟩)
  (case h33=>exact ⟨by k_is,L2.fun_mk (by k_is) (by k_is) (by k_is)⟩)
  (case h34=>exact ⟨by k_is,L2.fun_mk (by k_is) (by k_is) (by k_is)⟩)
  (case h35=>exact ⟨by k_is,L2.fun_mk (by k_is) (by k_is) (by k_is)⟩)
  (case h36=>exact ⟨by k_is,L2.fun_mk (by k_is) (by k_is) (by k_is)⟩)
  (case ga_DEEPEST=>k_is)
  (case ga_LAST_HAND=>k_is)
  (case ga_MOST_BOXES=>k_is)
  (case ga_set=>k_is)
  (case ga_sorted=>k_is)
  (case ga_zip=>k_is)
  (case z_abs=>k_is); (case z_len=>k_is); (case z_max=>k_is); (case z_min=>k_is); (case z_divmod=>k_is); (case z_repr=>k_is); (case z_isinstance=>k_is); (case z_all=>k_is); (case z_range=>k_is); (case z_int=>k_is); (case z_bool=>k_is); (case z_str=>k_is); (case z_tuple=>k_is); (case z_list=>k_is); (case z_dict=>k_is)
