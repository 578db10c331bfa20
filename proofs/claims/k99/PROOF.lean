import PyProof.Rows.All
import Wide.All
import OpenK.AllK
import Wide.FinOn
import Lean
import PyProof.EqAt
import PyProof.EqKinds
import PyProof.TupleCall
import PyProof.NeKinds
import PyProof.ReprRoads
import PyProof.ReprLen
import PyProof.Rows.RegStrFacts
import PyProof.Draws
import PyProof.EnumStmt
import PyProof.ZipIter
import PyProof.ListNew
import PyProof.TupleOfGen
import PyProof.ListRange
import PyProof.Rows.Range3
import PyProof.SumWalkG
import PyProof.Rows.RuleB_lshift
import PyProof.AutoSeq1
import PyProof.Cells
import PyProof.AutoListH
import PyProof.DictTable
import PyProof.RulesAs
import PyProof.NsDelKeeps
import KE.KDictList
import PyProof.DictCompW
import PyProof.DictItems
import PyProof.Rows.SetFrom
import PyProof.SetRoads
import PyProof.IsiH_list
import PyProof.AttrMiss
import KE.KDictOf
import KE.KSortTup
import PyProof.DictWalks
import PyProof.Rows.CallKw2
import PySem.Challenge.RW_joinedasks_k99_whole_loads_and_settings
set_option Elab.async false
set_option linter.all false
set_option maxRecDepth 100000
set_option maxHeartbeats 0
abbrev FG7:=PySem.W.Frag
abbrev VS7:=PySem.Value -> PySem.Shared -> Prop
namespace L2
open PySem PySem.Spec PyProof.Rows
abbrev Key:=Sum Int Str
def jS:Key -> Value -> Bool
 | .inl k,v=>Value.isInt k v
 | .inr x,v=>Value.isStrOf x v
def keyH (w:World):Key -> Int
 | .inl k=>hashInt k
 | .inr x=>hashStr w x
theorem zX:∀ {k:Key} {v:Value},jS k v = true -> (∃ i t,k = Sum.inl i /\ v = Value.int i t) \/ (∃ x t,k = Sum.inr x /\ v = Value.str x t)
 | .inl i,v,h=>by
  obtain ⟨t,e⟩:=Value.isInt_shape (k:=i) (v:=v) h
  exact .inl ⟨i,t,rfl,e⟩
 | .inr x,v,h=>by
  obtain ⟨t,e⟩:=Value.isStrOf_shape (x:=x) (v:=v) h
  exact .inr ⟨x,t,rfl,e⟩
theorem Zu (i:Int) (t:Tok):jS (.inl i) (.int i t) = true:=by simp [jS,Value.isInt]
theorem Zv (x:Str) (t:Tok):jS (.inr x) (.str x t) = true:=by simp [jS,Value.isStrOf]
theorem W5 (a b:Int):decide ((Sum.inl a:Key) = Sum.inl b) = (a == b):=by
 by_cases e:a = b
 ·subst e; simp
 ·have h:¬ (Sum.inl a:Key) = Sum.inl b:=fun q=>e (Sum.inl.inj q)
  rw [decide_eq_false h]
  exact (beq_eq_false_iff_ne.mpr e).symm
theorem W6 (a b:Str):decide ((Sum.inr a:Key) = Sum.inr b) = decide (a = b):=by
 by_cases e:a = b
 ·subst e; simp
 ·have h:¬ (Sum.inr a:Key) = Sum.inr b:=fun q=>e (Sum.inr.inj q)
  rw [decide_eq_false h,decide_eq_false e]
theorem W7 (a:Int) (b:Str):decide ((Sum.inl a:Key) = Sum.inr b) = false:=decide_eq_false (fun q=>nomatch q)
theorem W8 (a:Str) (b:Int):decide ((Sum.inr a:Key) = Sum.inl b) = false:=decide_eq_false (fun q=>nomatch q)
def yb (prog:Program) (w:World):PySem.KeyKind prog w Key where
 is:=jS
 hash:=keyH w
 inj:=fun v a b ha hb=>by
  rcases zX ha with ⟨i,t,rfl,rfl⟩ | ⟨x,t,rfl,rfl⟩
  ·rcases zX hb with ⟨j,u,rfl,e⟩ | ⟨y,u,rfl,e⟩
   ·injection e with e1 _; rw [e1]
   ·exact nomatch e
  ·rcases zX hb with ⟨j,u,rfl,e⟩ | ⟨y,u,rfl,e⟩
   ·exact nomatch e
   ·injection e with e1 _; rw [e1]
 byValue:=fun k v h=>by
  rcases zX h with ⟨i,t,rfl,rfl⟩ | ⟨x,t,rfl,rfl⟩ <;> rfl
 pyHash:=fun hv h=>by
  rcases zX hv with ⟨i,t,rfl,rfl⟩ | ⟨x,t,rfl,rfl⟩
  ·exact wpAny_pyHash_int h
  ·exact wpAny_pyHash_str h
 eqBool:=fun hu hv h=>by
  rcases zX hu with ⟨i,t,rfl,rfl⟩ | ⟨x,t,rfl,rfl⟩
  ·rcases zX hv with ⟨j,u,rfl,rfl⟩ | ⟨y,u,rfl,rfl⟩
   ·rw [W5] at h; exact wpAny_eqBool_int h
   ·rw [W7] at h; exact SeqAt.EqAt.int_str i t y u _ _ _ _ h
  ·rcases zX hv with ⟨j,u,rfl,rfl⟩ | ⟨y,u,rfl,rfl⟩
   ·rw [W8] at h; exact SeqAt.EqAt.str_int x t j u _ _ _ _ h
   ·rw [W6] at h; exact wpAny_eqBool_str h
 «strs»:=fun k x t v h=>by
  rcases zX h with ⟨i,u,rfl,e⟩ | ⟨y,u,rfl,e⟩
  ·exact nomatch e
  ·injection e with e1 _
   subst e1
   cases v <;> rfl
theorem rW (prog:Program) (w:World) (i:Int) (t:Tok):(yb prog w).is (.inl i) (.int i t) = true:=Zu i t
theorem rX (prog:Program) (w:World) (x:Str) (t:Tok):(yb prog w).is (.inr x) (.str x t) = true:=Zv x t
end L2
namespace L2
open PySem PySem.Spec PyProof.Rows
inductive V where
 | non | bl (b:Bool) | int (i:Int) | str (x:Str) | byt (b:Array UInt8) | flt (b:UInt64) | ref (a:Addr) | ty (n:String)
 deriving DecidableEq
def RelV:V -> Value -> Prop
 | .non,u=>u = Value.none
 | .bl b,u=>u = Value.bool b
 | .int i,u=>∃ t,u = Value.int i t
 | .str x,u=>∃ t,u = Value.str x t
 | .byt b,u=>∃ t,u = Value.bytes b t
 | .flt b,u=>∃ t,u = Value.float b t
 | .ref a,u=>u = Value.ref a
 | .ty n,u=>u = Value.type n
abbrev Vals:List V -> List Value -> Prop:=Paired RelV
theorem Vals.length {xs:List V} {us:List Value} (r:Vals xs us):xs.length = us.length:=Paired.length r
theorem Vals.get:∀ {xs:List V} {us:List Value} {i:Nat} {x:V},Vals xs us -> xs[i]? = some x -> ∃ u,us[i]? = some u /\ RelV x u
 | _,_,_,_,.nil,e=>by simp at e
 | _,_,0,_,.cons r _,e=>by simp at e; subst e; exact ⟨_,rfl,r⟩
 | _,_,i + 1,x,.cons _ t,e=>by
  obtain ⟨u,h1,h2⟩:=Vals.get (i:=i) (x:=x) t (by simpa using e)
  exact ⟨u,by simpa using h1,h2⟩
theorem Vals.set {x:V} {u:Value} (r:RelV x u):∀ {xs:List V} {us:List Value} (i:Nat),Vals xs us -> Vals (xs.set i x) (us.set i u)
 | _,_,_,.nil=>.nil
 | _,_,0,.cons _ t=>.cons r t
 | _,_,i + 1,.cons q t=>.cons q (Vals.set r i t)
theorem Vals.append:∀ {xs ys:List V} {us ws:List Value},Vals xs us -> Vals ys ws -> Vals (xs ++ ys) (us ++ ws)
 | _,_,_,_,.nil,s=>s
 | _,_,_,_,.cons r t,s=>.cons r (Vals.append t s)
theorem Vals.take:∀ {xs:List V} {us:List Value} (n:Nat),Vals xs us -> Vals (xs.take n) (us.take n)
 | _,_,0,_=>.nil
 | _,_,_ + 1,.nil=>.nil
 | _,_,n + 1,.cons r t=>.cons r (Vals.take n t)
theorem Vals.drop:∀ {xs:List V} {us:List Value} (n:Nat),Vals xs us -> Vals (xs.drop n) (us.drop n)
 | _,_,0,r=>r
 | _,_,_ + 1,.nil=>.nil
 | _,_,n + 1,.cons _ t=>Vals.drop n t
def RelO:Option V -> Option Value -> Prop
 | some v,some u=>RelV v u
 | none,none=>True
 | _,_=>False
def KV {κ:Type}:List (κ × V) -> List (κ × Value) -> Prop:=Paired fun (p:κ × V) (q:κ × Value)=>p.1 = q.1 /\ RelV p.2 q.2
def kV:Key -> V
 | .inl i=>.int i
 | .inr x=>.str x
inductive HO where
 /-- a list -/
 | lst (xs:List V)
 /-- a tuple (never changes) -/
 | tup (xs:List V)
 /-- a dict whose keys are ints and texts; one whose keys are tuples of ints and texts (the empty one is both) -/
 | dK (kvs:List (Key × V)) | dT (kvs:List (List Key × V))
 /-- a set of ints: its members,its size -/
 | set (S:Int -> Bool) (n:Nat)
 /-- an instance of the class at C,its dict at dx,its attributes -/
 | ins (C dx:Addr) (fs:List (Str × V))
 /-- the dict of the instance at x -/
 | own (x:Addr)
 /-- the dict of an exception -/
 | xd (fs:List (Str × V))
 /-- a bound method,f of x -/
 | met (f x:Addr)
 /-- a range object lo,lo + 1,.. below hi -/
 | rng (lo hi:Int)
 /-- a thing that is known to the object (the script; a dict while a loop walks it): read,never written while it is so -/
 | frz (o:Obj) (u:HO)
 /-- a code object's table -/
 | tbl (ps:Array Value)
 /-- any other thing,by what is true of its one object (a def of one's own: SetO a S n:=HO.ext fun h=>..) -/
 | ext (φ:Heap -> Prop)
abbrev Hp:=Addr -> Option HO
def upd (H:Hp) (a:Addr) (o:HO):Hp:=fun b=>if b = a then some o else H b
theorem zc {H:Hp} {a:Addr} {o:HO}:upd H a o a = some o:=by unfold upd; rw [if_pos rfl]
theorem zm {H:Hp} {a b:Addr} {o:HO} (h:b ≠ a):upd H a o b = H b:=by unfold upd; rw [if_neg h]
theorem Wb {H:Hp} {a b:Addr} {o u:HO} (h:H a = some o) (h':H b = some u) (d:o ≠ u):a ≠ b:=by
 intro e; subst e; rw [h] at h'; exact d (Option.some.inj h')
theorem zq {H:Hp} {a b:Addr} {o:HO} (h:H a = some o) (h':H b = none):a ≠ b:=by
 intro e; subst e; rw [h] at h'; cases h'
section
variable (P:Program) (w:World)
def zV (H:Hp) (h:Heap) (a:Addr):HO -> Prop
 | .lst xs=>xs.length <= sizeLine /\ ∃ (its:List Value) (n:Nat),Vals xs its /\ h.get? a = some { cls:=.type "list",data:=.seq its.toArray n }
 | .tup xs=>xs.length <= sizeLine /\ ∃ its:List Value,Vals xs its /\ IsTup h a its.toArray
 | .dK kvs=>kvs.length <= sizeLine /\ (a == sysModules) = false /\ ∃ vs,KV kvs vs /\ h.DictOf (yb P w) a vs
 | .dT kvs=>kvs.length <= sizeLine /\ (a == sysModules) = false /\ ∃ xs:List (List Key × Addr × Value),
   Paired (fun (p:List Key × V) (q:List Key × Addr × Value)=>p.1 = q.1 /\ H q.2.1 = some (.tup (p.1.map kV)) /\ RelV p.2 q.2.2) kvs xs ∧
   ∃ o es ep,h.get? a = some o /\ o.ExactDict /\ o.data = .dict es ep /\ es.toList = xs.map (entryOfKey (tupleKind (yb P w))) /\ (xs.map (·.1)).Nodup
 | .set S n=>h.SetOf (intKind P w) a S n
 | .ins C dx fs=>H dx = some (.own a) /\ fs.length <= 1000 /\ dx ≠ a /\ h.get? a = some (PySem.W.instObj C dx) ∧
   ∃ mA,h.Ns1 dx mA /\ (∀ f,RelO (fs.lookup f) (mA f)) /\ PySem.Within mA (fs.map (·.1))
 | .own _=>∃ o,h.get? a = some o
 | .xd fs=>∃ mA,h.Ns1 a mA /\ ∀ f,RelO (fs.lookup f) (mA f)
 | .rng lo hi=>∃ t u v,h.get? a = some { cls:=.type "range",data:=.fields #[.int lo t,.int hi u,.int 1 v] }
 | .frz o u=>h.get? a = some o /\ zV H h a u
 | .tbl ps=>h.get? a = some { cls:=.none,data:=.fields ps }
 | .met f x=>h.get? a = some (PySem.W.methodObj (.ref f) (.ref x))
 | .ext φ=>φ h /\ (∃ o,h.get? a = some o) /\ ∀ h1 h2:Heap,φ h1 -> (∀ o,h1.get? a = some o -> h2.get? a = some o) -> φ h2
def HOk (H:Hp) (h:Heap):Prop:=∀ a o,H a = some o -> zV P w H h a o
end
section
variable {P:Program} {w:World} {H H':Hp} {h h':Heap} {a:Addr} {o:HO}
theorem zV.lt (x:zV P w H h a o):a < h.objs.size:=by
 cases o with
 | lst xs=>obtain ⟨_,_,_,_,e⟩:=x; exact Heap.lt_size e
 | tup xs=>obtain ⟨_,_,_,p⟩:=x; exact p.lt
 | dK kvs=>obtain ⟨_,_,_,_,o,_,_,e,_⟩:=x; exact Heap.lt_size e
 | dT kvs=>obtain ⟨_,_,_,_,o,_,_,e,_⟩:=x; exact Heap.lt_size e
 | set S n=>obtain ⟨o,_,_,_,e,_⟩:=x; exact Heap.lt_size e
 | ins C dx fs=>obtain ⟨_,_,_,e,_⟩:=x; exact Heap.lt_size e
 | own y=>obtain ⟨_,e⟩:=x; exact Heap.lt_size e
 | xd fs=>obtain ⟨_,⟨_,_,_,e,_⟩,_⟩:=x; exact Heap.lt_size e
 | rng lo hi=>obtain ⟨_,_,_,e⟩:=x; exact Heap.lt_size e
 | frz ob u=>obtain ⟨e,_⟩:=x; exact Heap.lt_size e
 | tbl ps=>exact Heap.lt_size (show h.get? a = some _ from x)
 | met f y=>exact Heap.lt_size (show h.get? a = some _ from x)
 | ext φ=>obtain ⟨_,⟨_,e⟩,_⟩:=x; exact Heap.lt_size e
theorem Paired.mapP {α β:Type} {F G:α -> β -> Prop}:∀ {l₁:List α} {l₂:List β},Paired F l₁ l₂ -> (∀ a b,F a b -> G a b) -> Paired G l₁ l₂
 | _,_,.nil,_=>.nil
 | _,_,.cons r t,f=>.cons (f _ _ r) (Paired.mapP t f)
theorem zV.stay (x:zV P w H h a o) (k:∀ b u,(b = a \/ H b = some (.own a)) -> h.get? b = some u -> h'.get? b = some u)
  (ho:∀ b,H b = some (.own a) -> H' b = some (.own a)) (ht:∀ b xs,H b = some (.tup xs) -> H' b = some (.tup xs)):zV P w H' h' a o:=by
 induction o with
 | lst xs=>obtain ⟨z,its,n,r,e⟩:=x; exact ⟨z,its,n,r,k _ _ (.inl rfl) e⟩
 | tup xs=>obtain ⟨z,its,r,ob,e,c⟩:=x; exact ⟨z,its,r,ob,k _ _ (.inl rfl) e,c⟩
 | dK kvs=>obtain ⟨z,y,vs,r,ob,es,ep,e,c⟩:=x; exact ⟨z,y,vs,r,ob,es,ep,k _ _ (.inl rfl) e,c⟩
 | dT kvs =>
  obtain ⟨z,y,xs,r,ob,es,ep,e,c⟩:=x
  exact ⟨z,y,xs,Paired.mapP r fun p q z=>⟨z.1,ht _ _ z.2.1,z.2.2⟩,ob,es,ep,k _ _ (.inl rfl) e,c⟩
 | set S n=>obtain ⟨ob,es,ep,t,e,c⟩:=x; exact ⟨ob,es,ep,t,k _ _ (.inl rfl) e,c⟩
 | ins C dx fs =>
  obtain ⟨d,z,ne,e,mA,⟨od,es,ep,e2,c⟩,r⟩:=x
  exact ⟨ho _ d,z,ne,k _ _ (.inl rfl) e,mA,⟨od,es,ep,k _ _ (.inr d) e2,c⟩,r⟩
 | own y=>obtain ⟨ob,e⟩:=x; exact ⟨ob,k _ _ (.inl rfl) e⟩
 | xd fs=>obtain ⟨mA,⟨od,es,ep,e,c⟩,r⟩:=x; exact ⟨mA,⟨od,es,ep,k _ _ (.inl rfl) e,c⟩,r⟩
 | rng lo hi=>obtain ⟨t,u,v,e⟩:=x; exact ⟨t,u,v,k _ _ (.inl rfl) e⟩
 | frz ob u ih=>obtain ⟨e,q⟩:=x; exact ⟨k _ _ (.inl rfl) e,ih q⟩
 | tbl ps =>
  have e:h.get? a = some { cls:=.none,data:=.fields ps }:=x
  show h'.get? a = some { cls:=.none,data:=.fields ps }
  exact k a _ (.inl rfl) e
 | met f y =>
  have e:h.get? a = some (PySem.W.methodObj (.ref f) (.ref y)):=x
  show h'.get? a = some (PySem.W.methodObj (.ref f) (.ref y))
  exact k a _ (.inl rfl) e
 | ext φ=>obtain ⟨p,⟨o,e⟩,st⟩:=x; exact ⟨st _ _ p fun o q=>k _ _ (.inl rfl) q,⟨o,k _ _ (.inl rfl) e⟩,st⟩
theorem HOk.lt (x:HOk P w H h) (e:H a = some o):a < h.objs.size:=(x a o e).lt
theorem HOk.fresh (x:HOk P w H h) (e:h.objs.size <= a):H a = none:=by
 cases q:H a with
 | none=>rfl
 | some u=>exact absurd (Nat.lt_of_lt_of_le (x.lt q) e) (Nat.lt_irrefl _)
theorem HOk.kept (x:HOk P w H h) (k:∀ b u,h.get? b = some u -> h'.get? b = some u):HOk P w H h':=fun a o e =>
 (x a o e).stay (fun b u _ q=>k b u q) (fun _ q=>q) fun _ _ q=>q
theorem HOk.laid (x:HOk P w H h) (k:∀ b u,h.get? b = some u -> h'.get? b = some u) (hp:h.objs.size <= a) (new:zV P w (upd H a o) h' a o):HOk P w (upd H a o) h':=fun b u e=>by
 have hn:=x.fresh hp
 by_cases hb:b = a
 ·subst hb; rw [zc] at e; cases e; exact new
 ·rw [zm hb] at e
  exact (x b u e).stay (fun c v _ q=>k c v q) (fun c q=>by rw [zm (zq q hn)]; exact q) fun c xs q=>by rw [zm (zq q hn)]; exact q
end
def Rd (H:Hp) (a:Addr) (u:HO):Prop:=H a = some u \/ ∃ o,H a = some (.frz o u)
theorem Rd.ok {P:Program} {w:World} {H:Hp} {h:Heap} {a:Addr} {u:HO} (r:Rd H a u) (x:HOk P w H h):zV P w H h a u:=by
 rcases r with r | ⟨o,r⟩
 ·exact x a u r
 ·obtain ⟨_,q⟩:=x a _ r
  exact q
def Mut:Option HO -> Prop
 | some (.lst _)=>True
 | some (.dK _)=>True
 | some (.dT _)=>True
 | some (.set _ _)=>True
 | some (.ins _ _ _)=>True
 | some (.ext _)=>True
 | _=>False
section
variable {P:Program} {w:World} {H:Hp} {h h':Heap} {x e:Addr} {o':HO}
theorem HOk.write (ok:HOk P w H h) (mu:Mut (H x)) (he:e = x \/ H e = some (.own x)) (k:∀ b u,b ≠ e -> h.get? b = some u -> h'.get? b = some u) (heo:∃ u,h'.get? e = some u)
  (new:zV P w (upd H x o') h' x o'):HOk P w (upd H x o') h':=fun b u q=>by
 have nown:∀ c y,H c = some (.own y) -> c ≠ x:=fun c y r z=>by subst z; rw [r] at mu; exact mu
 have ntup:∀ c xs,H c = some (.tup xs) -> c ≠ x:=fun c xs r z=>by subst z; rw [r] at mu; exact mu
 by_cases hb:b = x
 ·subst hb; rw [zc] at q; cases q; exact new
 ·rw [zm hb] at q
  by_cases hbe:b = e
  ·have q':H b = some (.own x):=by
    rcases he with z | z
    ·exact absurd (hbe.trans z) hb
    ·rw [hbe]; exact z
   rw [q] at q'; cases q'
   obtain ⟨v,hv⟩:=heo
   exact ⟨v,by rw [hbe]; exact hv⟩
  ·refine (ok b u q).stay (fun c v hc r=>k c v ?_ r) (fun c r=>by rw [zm (nown c b r)]; exact r) fun c xs r=>by rw [zm (ntup c xs r)]; exact r
   rcases hc with rfl | hc
   ·exact hbe
   ·rintro rfl
    rcases he with z | z
    ·exact nown c b hc z
    ·rw [hc] at z; cases z; exact hb rfl
end
structure Un (fs ex:List Addr) (H H':Hp) (h h':Heap):Prop where
 keep:∀ b o,h.get? b = some o -> H b = none -> b ∉ fs -> b ∉ ex -> h'.get? b = some o
 slot:∀ b o,h.get? b = some o -> H b = none -> b ∈ fs -> b ∉ ex -> ∃ sl,h'.get? b = some { o with slots:=sl }
 free:∀ b o,h.get? b = some o -> H b = none -> b ∉ ex -> H' b = none
 there:∀ b o,h.get? b = some o -> b ∉ ex -> ∃ o',h'.get? b = some o'
 tups:∀ b xs,H b = some (.tup xs) -> H' b = some (.tup xs)
 frzs:∀ b o u,H b = some (.frz o u) -> H' b = some (.frz o u)
 tbls:∀ b ps,H b = some (.tbl ps) -> ∃ more,H' b = some (.tbl (ps ++ more))
section
variable {fs fs' ex ex':List Addr} {H H1 H2:Hp} {h h1 h2 h':Heap} {a x e:Addr} {o:HO}
theorem Un.any (u:Un fs ex H H1 h h1) {b:Addr} {ob:Obj} (q:h.get? b = some ob) (n:H b = none) (hx:b ∉ ex):∃ sl,h1.get? b = some { ob with slots:=sl }:=by
 by_cases hb:b ∈ fs
 ·exact u.slot b ob q n hb hx
 ·exact ⟨ob.slots,u.keep b ob q n hb hx⟩
theorem Un.kept (k:∀ b u,h.get? b = some u -> h'.get? b = some u):Un fs ex H H h h' :=
 ⟨fun b ob q _ _ _=>k b ob q,fun b ob q _ _ _=>⟨ob.slots,k b ob q⟩,fun _ _ _ n _=>n,fun b ob q _=>⟨ob,k b ob q⟩,fun _ _ q=>q,fun _ _ _ q=>q,fun _ ps q=>⟨#[],by rw [q]; simp⟩⟩
theorem Un.refl:Un fs ex H H h h:=Un.kept fun _ _ q=>q
theorem Un.laid (k:∀ b u,h.get? b = some u -> h'.get? b = some u) (hp:h.objs.size <= a) (hn:H a = none):Un fs ex H (upd H a o) h h' where
 keep:=fun b u q _ _ _=>k b u q
 slot:=fun b u q _ _ _=>⟨u.slots,k b u q⟩
 free:=fun b u q n _=>by rw [zm (Nat.ne_of_lt (Nat.lt_of_lt_of_le (Heap.lt_size q) hp))]; exact n
 there:=fun b u q _=>⟨u,k b u q⟩
 tups:=fun b xs q=>by rw [zm (zq q hn)]; exact q
 frzs:=fun b u xs q=>by rw [zm (zq q hn)]; exact q
 tbls:=fun b ps q=>⟨#[],by rw [zm (zq q hn),q]; simp⟩
theorem Un.write (mu:Mut (H x)) (he:e = x \/ H e = some (.own x)) (k:∀ b u,b ≠ e -> h.get? b = some u -> h'.get? b = some u) (heo:∃ u,h'.get? e = some u):Un fs ex H (upd H x o) h h':=by
 have hx:∀ b,H b = none -> b ≠ x:=fun b n z=>by subst z; rw [n] at mu; exact mu
 have hb:∀ b,H b = none -> b ≠ e:=fun b n z=>by
  subst z
  rcases he with r | r
  ·exact hx b n r
  ·rw [n] at r; cases r
 have hm:∀ b u,H b = some u -> ¬ Mut (some u) -> b ≠ x:=fun b u q nm z=>by subst z; rw [q] at mu; exact nm mu
 refine ⟨fun b u q n _ _=>k b u (hb b n) q,fun b u q n _ _=>⟨u.slots,k b u (hb b n) q⟩,fun b u q n _=>by rw [zm (hx b n)]; exact n,fun b u q _=>?_,
  fun b xs q=>by rw [zm (hm b _ q fun z=>z)]; exact q,fun b u xs q=>by rw [zm (hm b _ q fun z=>z)]; exact q,fun b ps q=>⟨#[],by rw [zm (hm b _ q fun z=>z),q]; simp⟩⟩
 by_cases hbe:b = e
 ·subst hbe; exact heo
 ·exact ⟨u,k b u hbe q⟩
end
def trk (h:Heap) (H:Hp):List Addr:=(List.range h.objs.size).filter fun a=>(H a).isSome
def hidT (h:Heap) (H:Hp):Heap:=PySem.W.hideAll h (trk h H)
theorem Zw (h:Heap) (H:Hp):(hidT h H).objs.size = h.objs.size:=PySem.W.hideAll_size _ _
theorem YY {h:Heap} {H:Hp} {b:Addr} {o:Obj} (e:h.get? b = some o) (n:H b = none):(hidT h H).get? b = some o :=
 PySem.W.hideAll_get _ e fun hm=>by
  have q:(H b).isSome = true:=(List.mem_filter.mp hm).2
  rw [n] at q; simp at q
theorem Wc {h:Heap} {H:Hp} {b:Addr} {o:Obj} (e:(hidT h H).get? b = some o):h.get? b = some o /\ H b = none:=by
 have e':h.get? b = some o:=PySem.W.of_hideAll (trk h H) e
 refine ⟨e',?_⟩
 cases q:H b with
 | none=>rfl
 | some x =>
  have hm:b ∈ trk h H:=List.mem_filter.mpr ⟨List.mem_range.mpr (Heap.lt_size e'),by simp [q]⟩
  have z:(hidT h H).get? b = none:=PySem.W.hideAll_none (trk h H) hm
  rw [z] at e; cases e
def Wd (g h:Heap) (L:Addr):List (Addr × Obj):=(List.range h.objs.size).filterMap fun a=>if a = L \/ (g.get? a).isSome = true then none else (h.get? a).map fun o=>(a,o)
def rest (g h:Heap) (L d:Addr):List (Addr × Obj):=(Wd g h L).filter fun p=>decide (p.1 ≠ d)
end L2
namespace L2
open PySem PySem.Spec PyProof.Rows
structure Mod (K:FG7) (mg:Str -> Option Value) (base:Heap):Prop where
 kin:K.In base
 glob:base.Ns mainGlobals mg
 blt:∃ mb,base.Ns builtinsNs mb /\ ∀ x:Str,x ≠ "__name__" -> mb x = bootBuiltins x
 nolimit:base.NoLimit
structure Cx where
 prog:Program
 w:World
 K:FG7
 mg:Str -> Option Value
 base:Heap
 A:Around
 N:List Str
 s₀:Shared
 H₀:Hp
 env:Env
 outer:List Env
 stack:List Env
 ex:List Addr
 fn:Str -> Bool
 calm:Bool
 pn:List (Addr × Obj)
 xe:VS7
def frs (l:List Env):List Addr:=l.filterMap (·.frame)
abbrev Cx.fs (X:Cx):List Addr:=frs X.outer
def Vis (sc:Scope) (x:Str):Prop:=sc.names.lookup x = some .local \/ sc.names.lookup x = some .cell \/ sc.names.lookup x = some .free
def Loc (sc:Scope) (x:Str):Prop:=sc.names.lookup x = some .local \/ sc.names.lookup x = some .cell
def Look (env:Env) (h:Heap) (m:Str -> Option Value) (x:Str) (u:Value):Prop :=
 (env.kindOf x = some .local /\ m x = some u) \/ ((env.kindOf x = some .cell \/ env.kindOf x = some .free) /\ ∃ c,env.cells.lookup x = some c /\ h.IsCell c (some u))
structure Cx.Ok (X:Cx):Prop where
 mod:Mod X.K X.mg X.base
 kind:X.env.scope.kind = .function
 glob:X.env.globals = mainGlobals
 blt:X.env.builtins = builtinsNs
 above:X.s₀.heap.objs.size <= X.env.locals
 inj:∀ x y c,X.env.cells.lookup x = some c -> X.env.cells.lookup y = some c -> x = y
 has:∀ x,(X.env.kindOf x = some .cell \/ X.env.kindOf x = some .free) -> ∃ c,X.env.cells.lookup x = some c
 cab:∀ x c,X.fn x = true -> X.env.cells.lookup x = some c -> X.s₀.heap.objs.size <= c
 hd:X.calm = true -> X.A.handled = none
 frames:X.A.frames = some X.stack
 stk:X.stack = X.outer \/ (X.stack = X.env :: X.outer /\ X.env.frame = some X.env.locals)
 exf:∀ b ∈ X.ex,b ≠ X.env.locals /\ ∀ x c,X.env.cells.lookup x = some c -> c ≠ b
 bs:∀ b o,X.base.get? b = some o -> X.s₀.heap.get? b = some o /\ X.H₀ b = none
 bsz:X.base.objs.size <= X.s₀.heap.objs.size
 noex:∀ b o,X.base.get? b = some o -> b ∉ X.ex
 exfs:∀ b ∈ X.ex,b ∉ X.fs
 funs:X.s₀.heap.FunFrames X.base X.outer
 frf:∀ b ∈ X.fs,X.H₀ b = none
structure Inv (X:Cx) (pins:List (Addr × Obj)) (σ:List (Option V)) (H:Hp) (s:Shared):Prop where
 ok:X.Ok
 os:s.os = X.s₀.os
 bare:AllBare s.gens
 base:Un X.fs X.ex X.H₀ H X.s₀.heap s.heap
 loc:∃ m,s.heap.Ns X.env.locals m /\ ∀ (i:Nat) (x:Str) (v:V),X.N[i]? = some x -> σ[i]? = some (some v) -> Vis X.env.scope x -> ∃ u,RelV v u /\ Look X.env s.heap m x u
 cell:∀ x c,X.env.cells.lookup x = some c -> ∃ v,s.heap.IsCell c v
 free:H X.env.locals = none
 freeC:∀ x c,X.env.cells.lookup x = some c -> H c = none
 pin:∀ p ∈ X.pn ++ pins,s.heap.get? p.1 = some p.2 /\ H p.1 = none /\ p.1 ≠ X.env.locals /\ p.1 ∉ X.fs /\ ∀ v,p.2.data ≠ .cell v
 hok:HOk X.prog X.w H s.heap
 len:σ.length = X.N.length
section
variable {X:Cx} {pins:List (Addr × Obj)} {σ:List (Option V)} {H H':Hp} {s:Shared} {h':Heap}
theorem Cx.Ok.nofr (ok:X.Ok) {b:Addr} {o:Obj} (e:X.base.get? b = some o):b ∉ X.fs:=fun hb=>by
 have:=(ok.funs.mem hb).1
 rw [e] at this; cases this
theorem Inv.bs (I:Inv X pins σ H s):∀ b o,X.base.get? b = some o -> s.heap.get? b = some o /\ H b = none:=fun b o e =>
 ⟨I.base.keep b o (I.ok.bs b o e).1 (I.ok.bs b o e).2 (I.ok.nofr e) (I.ok.noex b o e),I.base.free b o (I.ok.bs b o e).1 (I.ok.bs b o e).2 (I.ok.noex b o e)⟩
theorem Inv.bk (I:Inv X pins σ H s):∀ b o,X.base.get? b = some o -> s.heap.get? b = some o:=fun b o e=>(I.bs b o e).1
theorem Inv.mod (I:Inv X pins σ H s):Mod X.K X.mg X.base:=I.ok.mod
theorem Inv.kIn (I:Inv X pins σ H s):X.K.In s.heap:=I.ok.mod.kin.keeps I.bk
theorem Inv.lt (I:Inv X pins σ H s):X.env.locals < s.heap.objs.size:=let ⟨_,hn,_⟩:=I.loc; hn.lt
theorem Inv.sz (I:Inv X pins σ H s):X.s₀.heap.objs.size <= s.heap.objs.size:=Nat.le_trans I.ok.above (Nat.le_of_lt I.lt)
theorem Inv.nofs (I:Inv X pins σ H s) {a:Addr} (h:s.heap.objs.size <= a):a ∉ X.fs:=fun hb=>by
 obtain ⟨_,o,ho,_⟩:=I.ok.funs.mem hb
 exact absurd (Nat.lt_of_lt_of_le (Heap.lt_size ho) (Nat.le_trans I.sz h)) (Nat.lt_irrefl _)
theorem Inv.cne (I:Inv X pins σ H s):∀ x c,X.env.cells.lookup x = some c -> c ≠ X.env.locals:=fun x c e z=>by
 obtain ⟨v,o,ho,hd⟩:=I.cell x c e
 obtain ⟨m,⟨o',es,ep,ho',hd',_⟩,_⟩:=I.loc
 rw [z,ho'] at ho; cases ho; rw [hd'] at hd; cases hd
theorem Inv.funs (I:Inv X pins σ H s):s.heap.FunFrames X.base X.outer:=by
 have all:∀ (l:List Env),(∀ b ∈ frs l,b ∈ X.fs) -> X.s₀.heap.FunFrames X.base l -> s.heap.FunFrames X.base l:=by
  intro l
  induction l with
  | nil=>intro _ _; trivial
  | cons env r ih =>
   intro hs hl
   obtain ⟨hk,⟨L,o,hf,hn,ho,hd⟩,hr⟩:=hl
   have hL:L ∈ X.fs:=hs L (by unfold frs; rw [List.filterMap_cons,hf]; exact List.mem_cons_self)
   obtain ⟨sl,e⟩:=I.base.slot L o ho (I.ok.frf L hL) hL fun z=>I.ok.exfs L z hL
   exact ⟨hk,⟨L,_,hf,hn,e,hd⟩,ih (fun b hb=>hs b (by unfold frs; rw [List.filterMap_cons,hf]; exact List.mem_cons_of_mem _ hb)) hr⟩
 exact all X.outer (fun _ hb=>hb) I.ok.funs
theorem Inv.stack (I:Inv X pins σ H s):s.heap.FunFrames X.base X.stack:=by
 rcases I.ok.stk with e | ⟨e,hf⟩
 ·rw [e]; exact I.funs
 ·rw [e]
  obtain ⟨m,hn,_⟩:=I.loc
  refine .cons (by rw [I.ok.kind]; decide) hf hn ?_ I.funs
  exact Heap.get?_none_of_le (Nat.le_trans I.ok.bsz I.ok.above)
theorem Inv.stkSub (I:Inv X pins σ H s):∀ b ∈ frs X.stack,b ∈ X.env.locals :: X.fs:=fun b hb=>by
 rcases I.ok.stk with e | ⟨e,hf⟩
 ·rw [e] at hb; exact List.mem_cons_of_mem _ hb
 ·rw [e] at hb
  unfold frs at hb
  rw [List.filterMap_cons,hf] at hb
  exact hb
theorem Inv.stkFree (I:Inv X pins σ H s):∀ b ∈ frs X.stack,H b = none:=fun b hb=>by
 rcases List.mem_cons.mp (I.stkSub b hb) with e | hb
 ·rw [e]; exact I.free
 ·obtain ⟨_,o,ho,_⟩:=I.ok.funs.mem hb
  exact I.base.free b o ho (I.ok.frf b hb) fun z=>I.ok.exfs b z hb
theorem Inv.step {g':Array GenState} {t':Nat} {d':Drawn} {ch:List Addr} (I:Inv X pins σ H s)
  (hch:∀ b ∈ ch,(b ∈ X.ex \/ X.s₀.heap.objs.size <= b) /\ b ≠ X.env.locals /\ (∀ x c,X.env.cells.lookup x = some c -> c ≠ b) /\ ∀ p ∈ X.pn ++ pins,p.1 ≠ b)
  (keep:∀ b o,b ≠ X.env.locals -> b ∉ X.fs -> b ∉ ch -> s.heap.get? b = some o -> H b = none -> h'.get? b = some o)
  (slot:∀ b o,b ≠ X.env.locals -> b ∈ X.fs -> b ∉ ch -> s.heap.get? b = some o -> H b = none -> ∃ sl,h'.get? b = some { o with slots:=sl }) (free:∀ b o,b ∉ ch -> s.heap.get? b = some o -> H b = none -> H' b = none)
  (there:∀ b o,b ∉ ch -> s.heap.get? b = some o -> ∃ o',h'.get? b = some o')
  (tups:∀ b xs,H b = some (.tup xs) -> H' b = some (.tup xs)) (frzs:∀ b o u,H b = some (.frz o u) -> H' b = some (.frz o u)) (tbls:∀ b ps,H b = some (.tbl ps) -> ∃ more,H' b = some (.tbl (ps ++ more)))
  (ns:∀ m,s.heap.Ns X.env.locals m -> h'.Ns X.env.locals m) (hok:HOk X.prog X.w H' h') (hg:AllBare g') :
  Inv X pins σ H' { s with heap:=h',gens:=g',drawn:=d',toks:=t' }:=by
 have neL:∀ b o,X.s₀.heap.get? b = some o -> b ≠ X.env.locals:=fun b o e=>Nat.ne_of_lt (Nat.lt_of_lt_of_le (Heap.lt_size e) I.ok.above)
 have neC:∀ b o,X.s₀.heap.get? b = some o -> b ∉ X.ex -> b ∉ ch:=fun b o e hx hb=>by
  rcases (hch b hb).1 with z | z
  ·exact hx z
  ·exact absurd (Nat.lt_of_lt_of_le (Heap.lt_size e) z) (Nat.lt_irrefl _)
 have cellK:∀ x c,X.env.cells.lookup x = some c -> ∀ v,s.heap.IsCell c v -> h'.IsCell c v:=fun x c e v ⟨o,ho,hd⟩=>by
  have nch:c ∉ ch:=fun z=>(hch c z).2.2.1 x c e rfl
  by_cases hc:c ∈ X.fs
  ·obtain ⟨sl,q⟩:=slot c o (I.cne x c e) hc nch ho (I.freeC x c e)
   exact ⟨_,q,hd⟩
  ·exact ⟨o,keep c o (I.cne x c e) hc nch ho (I.freeC x c e),hd⟩
 refine ⟨I.ok,I.os,hg,⟨fun b o e n hb hx=>?_,fun b o e n hb hx=>?_,fun b o e n hx=>?_,fun b o e hx=>?_,fun b xs e=>tups b xs (I.base.tups b xs e),fun b o xs e=>frzs b o xs (I.base.frzs b o xs e),fun b ps e=>?_⟩,?_,fun x c e=>?_,?_,fun x c e=>?_,fun p hp=>?_,hok,I.len⟩
 ·exact keep b o (neL b o e) hb (neC b o e hx) (I.base.keep b o e n hb hx) (I.base.free b o e n hx)
 ·obtain ⟨sl,e1⟩:=I.base.slot b o e n hb hx
  obtain ⟨sl',e2⟩:=slot b _ (neL b o e) hb (neC b o e hx) e1 (I.base.free b o e n hx)
  exact ⟨sl',e2⟩
 ·obtain ⟨o',e1⟩:=I.base.there b o e hx
  exact free b o' (neC b o e hx) e1 (I.base.free b o e n hx)
 ·obtain ⟨o',e1⟩:=I.base.there b o e hx
  exact there b o' (neC b o e hx) e1
 ·obtain ⟨m1,e1⟩:=I.base.tbls b ps e
  obtain ⟨m2,e2⟩:=tbls b _ e1
  exact ⟨m1 ++ m2,by rw [e2,Array.append_assoc]⟩
 ·obtain ⟨m,hn,hl⟩:=I.loc
  refine ⟨m,ns m hn,fun i x v e1 e2 e3=>?_⟩
  obtain ⟨u,r,l⟩:=hl i x v e1 e2 e3
  refine ⟨u,r,?_⟩
  rcases l with l | ⟨k,c,e,z⟩
  ·exact .inl l
  ·exact .inr ⟨k,c,e,cellK x c e _ z⟩
 ·obtain ⟨v,z⟩:=I.cell x c e
  exact ⟨v,cellK x c e v z⟩
 ·obtain ⟨m,⟨o,_,_,ho,_⟩,_⟩:=I.loc
  exact free _ o (fun z=>(hch _ z).2.1 rfl) ho I.free
 ·obtain ⟨v,o,ho,hd⟩:=I.cell x c e
  exact free c o (fun z=>(hch c z).2.2.1 x c e rfl) ho (I.freeC x c e)
 ·obtain ⟨e,n,ne,nf,d⟩:=I.pin p hp
  have nch:p.1 ∉ ch:=fun z=>(hch p.1 z).2.2.2 p hp rfl
  exact ⟨keep p.1 p.2 ne nf nch e n,free p.1 p.2 nch e n,ne,nf,d⟩
theorem Inv.un {t':Nat} (I:Inv X pins σ H s) (u:Un X.fs [] H H' s.heap h') (hok:HOk X.prog X.w H' h'):Inv X pins σ H' { s with heap:=h',toks:=t' }:=by
 obtain ⟨m,⟨o,es,ep,ho,r⟩,_⟩:=id I.loc
 obtain ⟨sl,hL⟩:=u.any ho I.free (by simp)
 exact I.step (g':=s.gens) (d':=s.drawn) (ch:=[]) (fun _ z=>nomatch z) (fun b o _ hb _ e n=>u.keep b o e n hb (by simp)) (fun b o _ hb _ e n=>u.slot b o e n hb (by simp)) (fun b o _ e n=>u.free b o e n (by simp)) (fun b o _ e=>u.there b o e (by simp)) u.tups u.frzs u.tbls (fun m' hm=>by
  obtain ⟨o',es',ep',ho',r'⟩:=hm
  rw [ho] at ho'; cases ho'
  exact ⟨_,es',ep',hL,r'⟩) hok I.bare
theorem Inv.call {g':Array GenState} {t':Nat} {d':Drawn} {ch:List Addr} (I:Inv X pins σ H s) (u:Un (frs X.stack) ch H H' s.heap h') (hok:HOk X.prog X.w H' h') (hg:AllBare g')
  (hch:∀ b ∈ ch,(b ∈ X.ex \/ X.s₀.heap.objs.size <= b) /\ b ≠ X.env.locals /\ (∀ x c,X.env.cells.lookup x = some c -> c ≠ b) /\ ∀ p ∈ X.pn ++ pins,p.1 ≠ b) :
  Inv X pins σ H' { s with heap:=h',gens:=g',drawn:=d',toks:=t' }:=by
 obtain ⟨m,⟨o,es,ep,ho,r⟩,_⟩:=id I.loc
 obtain ⟨sl,hL⟩:=u.any ho I.free fun z=>(hch _ z).2.1 rfl
 exact I.step (ch:=ch) hch (fun b o hL hb hc e n=>u.keep b o e n (fun z=>(List.mem_cons.mp (I.stkSub b z)).elim hL hb) hc) (fun b o _ _ hc e n=>u.any e n hc) (fun b o hc e n=>u.free b o e n hc) (fun b o hc e=>u.there b o e hc) u.tups u.frzs u.tbls (fun m' hm=>by
  obtain ⟨o',es',ep',ho',r'⟩:=hm
  rw [ho] at ho'; cases ho'
  exact ⟨_,es',ep',hL,r'⟩) hok hg
theorem Inv.turned {t':Nat} {it:Addr} (I:Inv X pins σ H s) (k:∀ b o,b ≠ it -> s.heap.get? b = some o -> h'.get? b = some o) (hn:H it = none) (hL:it ≠ X.env.locals)
  (h1:it ∈ X.ex \/ X.s₀.heap.objs.size <= it) (h2:∀ x c,X.env.cells.lookup x = some c -> c ≠ it) (h3:∀ p ∈ X.pn ++ pins,p.1 ≠ it):Inv X pins σ H { s with heap:=h',toks:=t' }:=by
 have nit:∀ b u,H b = some u -> b ≠ it:=fun b u e z=>by rw [z,hn] at e; cases e
 refine I.step (g':=s.gens) (d':=s.drawn) (ch:=[it]) (fun b hb=>?_) (fun b o _ _ hc e _=>k b o (fun z=>hc (by simp [z])) e) (fun b o _ _ hc e _=>⟨o.slots,k b o (fun z=>hc (by simp [z])) e⟩) (fun _ _ _ _ n=>n)
  (fun b o hc e=>⟨o,k b o (fun z=>hc (by simp [z])) e⟩) (fun _ _ e=>e) (fun _ _ _ e=>e) (fun b ps e=>⟨#[],by rw [e]; simp⟩) (fun m hm=>?_) (fun b u e=>?_) I.bare
 ·have e:b = it:=by simpa using hb
  subst e
  exact ⟨h1,hL,h2,h3⟩
 ·obtain ⟨o,es,ep,ho,r⟩:=hm
  exact ⟨o,es,ep,k _ o (Ne.symm hL) ho,r⟩
 ·refine (I.hok b u e).stay (fun c v hc q=>k c v ?_ q) (fun _ q=>q) fun _ _ q=>q
  rcases hc with z | z
  ·rw [z]; exact nit b u e
  ·exact nit c _ z
theorem Inv.tok (I:Inv X pins σ H s) (t:Nat):Inv X pins σ H { s with toks:=t }:=I.un (h':=s.heap) (t':=t) Un.refl I.hok
theorem Inv.kept {t':Nat} (I:Inv X pins σ H s) (k:∀ b u,s.heap.get? b = some u -> h'.get? b = some u):Inv X pins σ H { s with heap:=h',toks:=t' }:=I.un (Un.kept k) (I.hok.kept k)
theorem Inv.laid {a:Addr} {o:HO} {t':Nat} (I:Inv X pins σ H s) (k:∀ b u,s.heap.get? b = some u -> h'.get? b = some u) (hp:s.heap.objs.size <= a) (new:zV X.prog X.w (upd H a o) h' a o) :
  Inv X pins σ (upd H a o) { s with heap:=h',toks:=t' }:=I.un (Un.laid k hp (I.hok.fresh hp)) (I.hok.laid k hp new)
theorem Inv.write {x e:Addr} {o:HO} {t':Nat} (I:Inv X pins σ H s) (mu:Mut (H x)) (he:e = x \/ H e = some (.own x)) (k:∀ b u,b ≠ e -> s.heap.get? b = some u -> h'.get? b = some u) (heo:∃ u,h'.get? e = some u)
  (new:zV X.prog X.w (upd H x o) h' x o):Inv X pins σ (upd H x o) { s with heap:=h',toks:=t' }:=I.un (Un.write mu he k heo) (I.hok.write mu he k heo new)
theorem Inv.pins_of {pins':List (Addr × Obj)} (I:Inv X pins σ H s) (h:∀ p ∈ pins',s.heap.get? p.1 = some p.2 /\ H p.1 = none /\ p.1 ≠ X.env.locals /\ p.1 ∉ X.fs /\ ∀ v,p.2.data ≠ .cell v):Inv X pins' σ H s :=
 ⟨I.ok,I.os,I.bare,I.base,I.loc,I.cell,I.free,I.freeC,fun p hp=>(List.mem_append.mp hp).elim (fun z=>I.pin p (List.mem_append_left _ z)) (h p),I.hok,I.len⟩
theorem qW {N:List Str} (hN:N.Nodup) {i j:Nat} {x:Str} (a:N[i]? = some x) (b:N[j]? = some x):i = j:=by
 obtain ⟨h1,e1⟩:=List.getElem?_eq_some_iff.mp a
 obtain ⟨h2,e2⟩:=List.getElem?_eq_some_iff.mp b
 exact (List.getElem_inj hN).mp (e1.trans e2.symm)
theorem Zx {M:Model} {A:Around} {E:VS7} {i:Nat} {x:Str} {v:V} {u:Value} {Q:Unit -> Shared -> Prop} (I:Inv X pins σ H s) (hN:X.N.Nodup) (hi:X.N[i]? = some x) (hx:Loc X.env.scope x) (r:RelV v u)
  (h:∀ s',Inv X pins (σ.set i (some v)) H s' -> (∃ a,Heap.SameBut a s.heap s'.heap /\ (a = X.env.locals \/ X.env.cells.lookup x = some a)) -> Q () s') (hf:X.fn x = true \/ X.env.scope.names.lookup x = some .local :=by first | exact .inl rfl | exact .inr rfl | assumption):wpAny M A (storeName X.env x u) Q E s:=by
 obtain ⟨m,hn,hl⟩:=id I.loc
 have hcls:(X.env.scope.kind == .class || (X.env.scope.kind == .module && X.env.locals != X.env.globals)) = false:=by rw [I.ok.kind]; rfl
 have hiσ:i < σ.length:=by rw [I.len]; exact (List.getElem?_eq_some_iff.mp hi).1
 have cne:=I.cne
 have tracked:∀ {a:Addr} {h':Heap},(∃ o,s.heap.get? a = some o /\ H a = none) -> Heap.SameBut a s.heap h' -> HOk X.prog X.w H h':=fun {a h'} ha hs b ob e=>by
  obtain ⟨_,_,hfree⟩:=ha
  refine (I.hok b ob e).stay (fun c w' hc q=>(hs.2 c ?_).trans q) (fun _ q=>q) fun _ _ q=>q
  rintro rfl
  rcases hc with rfl | hc
  ·rw [hfree] at e; cases e
  ·rw [hfree] at hc; cases hc
 rcases hx with hk | hk
 ·refine wpAny_storeName_local hk hn (fun h' hn' hs=>?_) hcls
  obtain ⟨oL,_,_,hoL,_⟩:=id hn
  refine h _ ⟨I.ok,I.os,I.bare,⟨fun b o e n hb hx=>?_,fun b o e n hb hx=>?_,I.base.free,fun b o e hx=>?_,I.base.tups,I.base.frzs,I.base.tbls⟩,⟨_,hn',fun j y v' e1 e2 e3=>?_⟩,fun y c e=>?_,I.free,I.freeC,fun p hp=>?_,tracked ⟨oL,hoL,I.free⟩ hs,by simpa using I.len⟩ ⟨_,hs,.inl rfl⟩
  ·exact (hs.2 b (Nat.ne_of_lt (Nat.lt_of_lt_of_le (Heap.lt_size e) I.ok.above))).trans (I.base.keep b o e n hb hx)
  ·obtain ⟨sl,e1⟩:=I.base.slot b o e n hb hx
   exact ⟨sl,(hs.2 b (Nat.ne_of_lt (Nat.lt_of_lt_of_le (Heap.lt_size e) I.ok.above))).trans e1⟩
  ·obtain ⟨o',e1⟩:=I.base.there b o e hx
   exact ⟨o',(hs.2 b (Nat.ne_of_lt (Nat.lt_of_lt_of_le (Heap.lt_size e) I.ok.above))).trans e1⟩
  ·by_cases hj:j = i
   ·subst hj
    rw [hi] at e1; cases e1
    rw [List.getElem?_set_self hiσ] at e2
    cases e2
    exact ⟨u,r,.inl ⟨hk,by simp⟩⟩
   ·rw [List.getElem?_set_ne (Ne.symm hj)] at e2
    obtain ⟨u',r',q⟩:=hl j y v' e1 e2 e3
    refine ⟨u',r',?_⟩
    rcases q with ⟨k,e⟩ | ⟨k,c,e,z⟩
    ·refine .inl ⟨k,?_⟩
     have:y ≠ x:=fun e=>hj (qW hN e1 (e ▸ hi))
     simp [this,e]
    ·exact .inr ⟨k,c,e,z.sameBut hs (cne y c e)⟩
  ·obtain ⟨w',z⟩:=I.cell y c e
   exact ⟨w',z.sameBut hs (cne y c e)⟩
  ·obtain ⟨e,n,ne,nf,d⟩:=I.pin p hp
   exact ⟨(hs.2 p.1 ne).trans e,n,ne,nf,d⟩
 ·have hfn:X.fn x = true:=by
   rcases hf with z | z
   ·exact z
   ·rw [z] at hk; cases hk
  obtain ⟨c,hc⟩:=I.ok.has x (.inl hk)
  obtain ⟨w',z⟩:=I.cell x c hc
  refine wpAny_storeName_cell I.ok.kind hk hc z (fun h' hc' hs=>?_)
  obtain ⟨oc,hoc,hocd⟩:=id z
  refine h { s with heap:=h' } ⟨I.ok,I.os,I.bare,⟨fun b o e n hb hx=>?_,fun b o e n hb hx=>?_,I.base.free,fun b o e hx=>?_,I.base.tups,I.base.frzs,I.base.tbls⟩,⟨m,hn.sameBut hs (Ne.symm (cne x c hc)),fun j y v' e1 e2 e3=>?_⟩,fun y c' e=>?_,I.free,I.freeC,fun p hp=>?_,tracked ⟨oc,hoc,I.freeC x c hc⟩ hs,by simpa using I.len⟩ ⟨c,hs,.inr hc⟩
  ·exact (hs.2 b (Nat.ne_of_lt (Nat.lt_of_lt_of_le (Heap.lt_size e) (I.ok.cab x c hfn hc)))).trans (I.base.keep b o e n hb hx)
  ·obtain ⟨sl,e1⟩:=I.base.slot b o e n hb hx
   exact ⟨sl,(hs.2 b (Nat.ne_of_lt (Nat.lt_of_lt_of_le (Heap.lt_size e) (I.ok.cab x c hfn hc)))).trans e1⟩
  ·obtain ⟨o',e1⟩:=I.base.there b o e hx
   exact ⟨o',(hs.2 b (Nat.ne_of_lt (Nat.lt_of_lt_of_le (Heap.lt_size e) (I.ok.cab x c hfn hc)))).trans e1⟩
  ·by_cases hj:j = i
   ·subst hj
    rw [hi] at e1; cases e1
    rw [List.getElem?_set_self hiσ] at e2
    cases e2
    exact ⟨u,r,.inr ⟨.inl hk,c,hc,hc'⟩⟩
   ·rw [List.getElem?_set_ne (Ne.symm hj)] at e2
    obtain ⟨u',r',q⟩:=hl j y v' e1 e2 e3
    refine ⟨u',r',?_⟩
    rcases q with q | ⟨k,c',e,z'⟩
    ·exact .inl q
    ·refine .inr ⟨k,c',e,z'.sameBut hs ?_⟩
     rintro rfl
     exact hj (qW hN e1 (I.ok.inj _ _ _ e hc ▸ hi))
  ·by_cases hcc:c' = c
   ·subst hcc; exact ⟨_,hc'⟩
   ·obtain ⟨w2,z2⟩:=I.cell y c' e
    exact ⟨w2,z2.sameBut hs hcc⟩
  ·obtain ⟨e,n,ne,nf,d⟩:=I.pin p hp
   refine ⟨(hs.2 p.1 ?_).trans e,n,ne,nf,d⟩
   intro q
   rw [q,hoc] at e
   have q':oc = p.2:=Option.some.inj e
   exact d w' (by rw [← q']; exact hocd)
theorem vU {M:Model} {A:Around} {E:VS7} {i:Nat} {x:Str} {v:V} {u:Value} {Q:Unit -> Shared -> Prop} (I:Inv X pins σ H s) (hN:X.N.Nodup) (hi:X.N[i]? = some x) (hx:Loc X.env.scope x) (r:RelV v u)
  (h:∀ s',Inv X pins (σ.set i (some v)) H s' -> Q () s') (hf:X.fn x = true \/ X.env.scope.names.lookup x = some .local :=by first | exact .inl rfl | exact .inr rfl | assumption):wpAny M A (storeName X.env x u) Q E s :=
 Zx I hN hi hx r (fun s' I' _=>h s' I') hf
theorem Inv.call' {s':Shared} {ch:List Addr} (I:Inv X pins σ H s) (ho:s'.os = s.os) (u:Un (frs X.stack) ch H H' s.heap s'.heap) (hok:HOk X.prog X.w H' s'.heap) (hg:AllBare s'.gens)
  (hch:∀ b ∈ ch,(b ∈ X.ex \/ X.s₀.heap.objs.size <= b) /\ b ≠ X.env.locals /\ (∀ x c,X.env.cells.lookup x = some c -> c ≠ b) /\ ∀ p ∈ X.pn ++ pins,p.1 ≠ b):Inv X pins σ H' s':=by
 obtain ⟨h',g',d',t',o'⟩:=s'
 have e:o' = s.os:=ho
 subst e
 exact I.call (g':=g') (t':=t') (d':=d') u hok hg hch
end
abbrev XK:=Value -> Option Addr -> Hp -> Prop
abbrev St:=List (Option V)
abbrev VK:=V -> Hp -> Prop
abbrev TE:=St -> Hp -> VK -> Prop
abbrev TT:=St -> Hp -> (Bool -> Hp -> Prop) -> Prop
abbrev TA:=St -> Hp -> (List V -> Hp -> Prop) -> Prop
structure Ends where
 nx:St -> Hp -> Prop
 rt:VK
 bk:St -> Hp -> Prop:=fun _ _=>False
 ct:St -> Hp -> Prop:=fun _ _=>False
abbrev TS:=Ends -> St -> Hp -> Prop
def EP (X:Cx) (pins:List (Addr × Obj)) (σ:St) (Q:VK) (u:Value) (s':Shared):Prop:=∃ v H',Inv X pins σ H' s' /\ RelV v u /\ Q v H'
def TP (X:Cx) (pins:List (Addr × Obj)) (σ:St) (Q:Bool -> Hp -> Prop) (b:Bool) (s':Shared):Prop:=∃ H',Inv X pins σ H' s' /\ Q b H'
def AP (X:Cx) (pins:List (Addr × Obj)) (σ:St) (Q:List V -> Hp -> Prop) (us:List Value) (s':Shared):Prop:=∃ vs H',Inv X pins σ H' s' /\ Vals vs us /\ Q vs H'
def SP (X:Cx) (pins:List (Addr × Obj)) (D:Ends) (f:Flow) (s':Shared):Prop :=
 match f with
 | .next=>∃ σ' H',Inv X pins σ' H' s' /\ D.nx σ' H'
 | .brk=>∃ σ' H',Inv X pins σ' H' s' /\ D.bk σ' H'
 | .cont=>∃ σ' H',Inv X pins σ' H' s' /\ D.ct σ' H'
 | .ret u=>∃ v σ' H',Inv X pins σ' H' s' /\ RelV v u /\ D.rt v H'
def PE (X:Cx) (e:Expr) (t:TE):Prop :=
 ∀ (pins:List (Addr × Obj)) (s:Shared) (σ:St) (H:Hp) (Q:VK),Inv X pins σ H s -> t σ H Q -> wpAny (model X.prog X.w) X.A (eval e X.env) (EP X pins σ Q) X.xe s
def PT (X:Cx) (e:Expr) (t:TT):Prop :=
 ∀ (pins:List (Addr × Obj)) (s:Shared) (σ:St) (H:Hp) (Q:Bool -> Hp -> Prop),Inv X pins σ H s -> t σ H Q -> wpAny (model X.prog X.w) X.A (isTrue e X.env (eval e X.env)) (TP X pins σ Q) X.xe s
def PW (X:Cx) (e:Expr) (t:TT):Prop :=
 ∀ (whole:Sem Value) (pins:List (Addr × Obj)) (s:Shared) (σ:St) (H:Hp) (Q:Bool -> Hp -> Prop),Inv X pins σ H s -> t σ H Q -> wpAny (model X.prog X.w) X.A (isTrue e X.env whole) (TP X pins σ Q) X.xe s
theorem PW.pt {X:Cx} {e:Expr} {t:TT} (h:PW X e t):PT X e t:=h _
def PA (X:Cx) (es:List Expr) (t:TA):Prop :=
 ∀ (pos:Pos) (pins:List (Addr × Obj)) (s:Shared) (σ:St) (H:Hp) (Q:List V -> Hp -> Prop),Inv X pins σ H s -> t σ H Q -> wpAny (model X.prog X.w) X.A (spliced (backTo pos (starEach es X.env))) (AP X pins σ Q) X.xe s
def PS (X:Cx) (st:Stmt) (t:TS):Prop :=
 ∀ (pins:List (Addr × Obj)) (s:Shared) (σ:St) (H:Hp) (D:Ends),Inv X pins σ H s -> t D σ H -> wpAny (model X.prog X.w) X.A (exec st X.env) (SP X pins D) X.xe s
def PSs (X:Cx) (st:List Stmt) (t:TS):Prop :=
 ∀ (pins:List (Addr × Obj)) (s:Shared) (σ:St) (H:Hp) (D:Ends),Inv X pins σ H s -> t D σ H -> wpAny (model X.prog X.w) X.A (execs st X.env) (SP X pins D) X.xe s
theorem thn {α:Type} {t:Sem α} {Q Q':α -> Shared -> Prop} {M:Model} {A:Around} {E:VS7} {s:Shared} (h:wpAny M A t Q E s) (hQ:∀ a s,Q a s -> Q' a s):wpAny M A t Q' E s:=wpAny_mono h hQ fun _ _ x=>x
end L2
namespace L2
open PySem PySem.Spec PyProof.Rows
section
variable {X:Cx}
def tVar (i:Nat):TE:=fun σ H Q=>∃ v,σ[i]? = some (some v) /\ Q v H
def tC (v:V):TE:=fun _ H Q=>Q v H
theorem W9 {i:Nat} {x:Str} {pos:Pos} (hN:X.N[i]? = some x) (hv:Vis X.env.scope x) (hd:(x == ("__debug__":Str)) = false:=by decide) (hcd:(x == ("__classdict__":Str)) = false:=by decide):PE X (.Name x pos) (tVar i):=by
 intro pins s σ H Q I h
 obtain ⟨v,e,h⟩:=h
 obtain ⟨m,hn,hl⟩:=I.loc
 obtain ⟨u,r,l⟩:=hl i x v hN e hv
 have fin:EP X pins σ Q u s:=⟨v,H,I,r,h⟩
 rcases l with ⟨hk,hm⟩ | ⟨hk,c,hc,hcell⟩
 ·exact wpAny_Name (wpAny_loadName_local I.ok.kind hk hn hm fin) hd
 ·rcases hk with hk | hk
  ·exact wpAny_Name (wpAny_loadName_cell I.ok.kind hk hc hcell fin) hd
  ·exact wpAny_Name (wpAny_loadName_free I.ok.kind hk hc hcell fin hcd) hd
theorem zj {i j pos}:PE X (.Constant (.int i) j pos) (tC (.int i)):=fun _ _ _ H _ I h=>wpAny_Constant_int ⟨.int i,H,I.tok _,⟨_,rfl⟩,h⟩
theorem wD {b j pos}:PE X (.Constant (.bool b) j pos) (tC (.bl b)):=fun _ _ _ H _ I h=>Constant_bool ⟨.bl b,H,I,rfl,h⟩
theorem vX {j pos}:PE X (.Constant .none j pos) (tC .non):=fun _ _ _ H _ I h=>Constant_none ⟨.non,H,I,rfl,h⟩
theorem qX {x j pos}:PE X (.Constant (.str x) j pos) (tC (.str x)):=fun _ _ _ H _ I h=>Calls.Constant_str ⟨.str x,H,I.tok _,⟨_,rfl⟩,h⟩
def Gl (X:Cx) (x:Str):Prop:=X.env.kindOf x = some .globalImplicit
theorem Zy {E:VS7} {pins:List (Addr × Obj)} {s:Shared} {σ:St} {H:Hp} {x:Str} {u:Value} {pos:Pos} {Q:VS7} (I:Inv X pins σ H s) (hg:Gl X x) (hm:X.mg x = some u) (h:Q u s)
  (hd:(x == ("__debug__":Str)) = false:=by decide):wpAny (model X.prog X.w) X.A (eval (.Name x pos) X.env) Q E s :=
 Calls.Name_function_global I.ok.kind hg (Calls.loadGlobal_global (by rw [I.ok.glob]; exact I.mod.glob.keeps I.bk) hm h) hd
theorem we {E:VS7} {pins:List (Addr × Obj)} {s:Shared} {σ:St} {H:Hp} {x:Str} {u:Value} {pos:Pos} {Q:VS7} (I:Inv X pins σ H s) (hg:Gl X x) (hm:X.mg x = none) (hv:bootBuiltins x = some u) (h:Q u s)
  (hn:x ≠ "__name__":=by decide) (hd:(x == ("__debug__":Str)) = false:=by decide):wpAny (model X.prog X.w) X.A (eval (.Name x pos) X.env) Q E s:=by
 obtain ⟨mb,h1,h2⟩:=I.mod.blt
 exact Calls.Name_function_global I.ok.kind hg (Calls.loadGlobal_builtin (by rw [I.ok.glob]; exact I.mod.glob.keeps I.bk) hm (by rw [I.ok.blt]; exact h1.keeps I.bk) ((h2 x hn).trans hv) h) hd
theorem tE {x:Str} {v:V} {u:Value} {pos:Pos} (hg:Gl X x) (hm:X.mg x = some u) (r:RelV v u) (hd:(x == ("__debug__":Str)) = false:=by decide):PE X (.Name x pos) (tC v) :=
 fun _ _ _ H _ I h=>Zy I hg hm ⟨v,H,I,r,h⟩ hd
theorem We {x:Str} {v:V} {u:Value} {pos:Pos} (hg:Gl X x) (hm:X.mg x = none) (hv:bootBuiltins x = some u) (r:RelV v u) (hn:x ≠ "__name__":=by decide) (hd:(x == ("__debug__":Str)) = false:=by decide):PE X (.Name x pos) (tC v) :=
 fun _ _ _ H _ I h=>we I hg hm hv ⟨v,H,I,r,h⟩ hn hd
variable {a b:Expr} {ta tb:TE} {pos:Pos}
def PC (X:Cx) (op:CmpOp) (a b:Expr) (t:TE):Prop :=
 ∀ (pins:List (Addr × Obj)) (s:Shared) (σ:St) (H:Hp) (Q:VK),Inv X pins σ H s -> t σ H Q →
  wpAny (model X.prog X.w) X.A (eval a X.env) (fun v s₁=>wpAny (model X.prog X.w) X.A (eval b X.env) (fun u s₂=>wpAny (model X.prog X.w) X.A (compareOp op v u) (EP X pins σ Q) X.xe s₂) X.xe s₁) X.xe s
theorem qY (b:Expr) {op:CmpOp} (h:op ≠ .In) (h2:op ≠ .NotIn):behindInMarks op b = false:=by
 have e1:(op == CmpOp.In) = false:=by cases op <;> first | rfl | exact absurd rfl h
 have e2:(op == CmpOp.NotIn) = false:=by cases op <;> first | rfl | exact absurd rfl h2
 cases b <;> simp [behindInMarks,e1,e2]
def tIsN (ta:TE):TE:=fun σ H Q=>ta σ H fun x H1=>Q (.bl (decide (x = .non))) H1
def V9 (ta:TE):TE:=fun σ H Q=>ta σ H fun x H1=>Q (.bl (!decide (x = .non))) H1
theorem RelV.none_iff {x:V} {v:Value} (r:RelV x v):(v == Value.none) = decide (x = .non):=by
 cases x with
 | non=>cases r; rfl
 | bl _=>cases r; rfl
 | int _=>obtain ⟨t,rfl⟩:=r; rfl
 | str _=>obtain ⟨t,rfl⟩:=r; rfl
 | byt _=>obtain ⟨t,rfl⟩:=r; rfl
 | flt _=>obtain ⟨t,rfl⟩:=r; rfl
 | ref _=>cases r; rfl
 | ty _=>cases r; rfl
theorem vY {j pos'} (ha:PE X a ta):PC X .Is a (.Constant .none j pos') (tIsN ta):=by
 intro pins s σ H Q I h
 refine thn (ha pins s σ H _ I h) fun v s1 ⟨x,H1,I1,r1,q1⟩=>?_
 exact Constant_none (is_none_gen ⟨.bl _,H1,I1,by rw [r1.none_iff]; rfl,q1⟩)
theorem vZ {j pos'} (ha:PE X a ta):PC X .IsNot a (.Constant .none j pos') (V9 ta):=by
 intro pins s σ H Q I h
 refine thn (ha pins s σ H _ I h) fun v s1 ⟨x,H1,I1,r1,q1⟩=>?_
 exact Constant_none (isnot_none_gen ⟨.bl _,H1,I1,by rw [r1.none_iff]; rfl,q1⟩)
def tB (t:TE):TT:=fun σ H Q=>t σ H fun x H1=>∃ c,x = .bl c /\ Q c H1
theorem XQ {op:CmpOp} {t:TE} (h:PC X op a b t) (h1:behindInMarks op b = false:=by first | exact qY _ (by decide) (by decide) | rfl):PE X (.Compare a [op] [b] pos) t:=fun pins s σ H Q I hw=>wpAny_Compare1 (h pins s σ H Q I hw) h1
theorem wf {op:CmpOp} {t:TE} (h:PC X op a b t) (h1:behindInMarks op b = false:=by first | exact qY _ (by decide) (by decide) | rfl):PT X (.Compare a [op] [b] pos) (tB t):=by
 intro pins s σ H Q I hw
 refine wpAny_isTrue_Compare1 (thn (h pins s σ H _ I hw) fun v s1 h1=>thn h1 fun u s2 h2=>thn h2 fun c s3 ⟨x,H1,I1,r1,q1⟩=>?_) h1
 obtain ⟨d,rfl,q⟩:=q1
 cases r1
 exact wpAny_truthy_bool ⟨H1,I1,q⟩
theorem zW {e:Expr} {t:TE} (h:PE X e t) (he:∀ whole,isTrue e X.env whole = (do let v ← whole; standAt e.pos; holding [v] (truthy v)):=by intro _; rfl):PT X e (tB t):=by
 intro pins s σ H Q I hw
 refine isTrue_plain (thn (h pins s σ H _ I hw) fun v s1 ⟨x,H1,I1,r1,q1⟩=>?_) (he _)
 obtain ⟨d,rfl,q⟩:=q1
 cases r1
 exact wpAny_truthy_bool ⟨H1,I1,q⟩
variable {tA tB':TT} {rest:List Expr}
def tAnd (t u:TT):TT:=fun σ H Q=>t σ H fun c H1=>if c = true then u σ H1 Q else Q false H1
def tOr (t u:TT):TT:=fun σ H Q=>t σ H fun c H1=>if c = true then Q true H1 else u σ H1 Q
def tNot (t:TT):TT:=fun σ H Q=>t σ H fun c H1=>Q (!c) H1
theorem vm (ha:PT X a tA):PW X (.BoolOp .And [a] pos) tA:=by
 intro wh pins s σ H Q I h
 refine isTrue_and (thn (ha pins s σ H Q I h) fun c s1 e=>?_)
 cases c with
 | true=>exact isTrue_and_nil e
 | false=>exact e
theorem xZ (ha:PT X a tA):PW X (.BoolOp .Or [a] pos) tA:=by
 intro wh pins s σ H Q I h
 refine isTrue_or (thn (ha pins s σ H Q I h) fun c s1 e=>?_)
 cases c with
 | false=>exact isTrue_or_nil e
 | true=>exact e
theorem v2 (ha:PT X a tA) (hb:PW X (.BoolOp .And (b :: rest) pos) tB'):PW X (.BoolOp .And (a :: b :: rest) pos) (tAnd tA tB'):=by
 intro wh pins s σ H Q I h
 refine isTrue_and (thn (ha pins s σ H _ I h) fun c s1 ⟨H1,I1,q1⟩=>?_)
 cases c with
 | true=>exact hb wh pins s1 σ H1 Q I1 q1
 | false=>exact ⟨H1,I1,q1⟩
theorem vM (ha:PT X a tA) (hb:PW X (.BoolOp .Or (b :: rest) pos) tB'):PW X (.BoolOp .Or (a :: b :: rest) pos) (tOr tA tB'):=by
 intro wh pins s σ H Q I h
 refine isTrue_or (thn (ha pins s σ H _ I h) fun c s1 ⟨H1,I1,q1⟩=>?_)
 cases c with
 | true=>exact ⟨H1,I1,q1⟩
 | false=>exact hb wh pins s1 σ H1 Q I1 q1
theorem yf (ha:PT X a tA):PT X (.UnaryOp .Not a pos) (tNot tA):=by
 intro pins s σ H Q I h
 exact isTrue_not (ha pins s σ H (fun c H1=>Q (!c) H1) I h)
def Ua (ta tb:TE):TE:=fun σ H Q=>ta σ H fun x H1=>∃ c,x = .bl c /\ if c = true then tb σ H1 Q else Q (.bl false) H1
def tOrV (ta tb:TE):TE:=fun σ H Q=>ta σ H fun x H1=>∃ c,x = .bl c /\ if c = true then Q (.bl true) H1 else tb σ H1 Q
def Ub (ta:TE):TE:=fun σ H Q=>ta σ H fun x H1=>∃ c,x = .bl c /\ Q (.bl (!c)) H1
theorem wg {op} {t:TE} (h:PE X a t):PE X (.BoolOp op [a] pos) t:=fun pins s σ H Q I hw=>BoolOp_one (h pins s σ H Q I hw)
theorem wQ (ha:PE X a ta) (hb:PE X (.BoolOp .And (b :: rest) pos) tb):PE X (.BoolOp .And (a :: b :: rest) pos) (Ua ta tb):=by
 intro pins s σ H Q I h
 refine BoolOp_and (thn (ha pins s σ H _ I h) fun v s1 ⟨x,H1,I1,r1,q1⟩=>?_)
 obtain ⟨c,rfl,q1⟩:=q1
 cases r1
 refine wpAny_truthy_bool ?_
 cases c with
 | true=>exact hb pins s1 σ H1 Q I1 q1
 | false=>exact ⟨.bl false,H1,I1,rfl,q1⟩
theorem Wg (ha:PE X a ta) (hb:PE X (.BoolOp .Or (b :: rest) pos) tb):PE X (.BoolOp .Or (a :: b :: rest) pos) (tOrV ta tb):=by
 intro pins s σ H Q I h
 refine BoolOp_or (thn (ha pins s σ H _ I h) fun v s1 ⟨x,H1,I1,r1,q1⟩=>?_)
 obtain ⟨c,rfl,q1⟩:=q1
 cases r1
 refine wpAny_truthy_bool ?_
 cases c with
 | false=>exact hb pins s1 σ H1 Q I1 q1
 | true=>exact ⟨.bl true,H1,I1,rfl,q1⟩
theorem Va (ha:PE X a ta):PE X (.UnaryOp .Not a pos) (Ub ta):=by
 intro pins s σ H Q I h
 refine UnaryOp_ (thn (ha pins s σ H _ I h) fun v s1 ⟨x,H1,I1,r1,q1⟩=>?_)
 obtain ⟨c,rfl,q1⟩:=q1
 cases r1
 exact not_of (wpAny_truthy_bool ⟨.bl (!c),H1,I1,rfl,q1⟩)
def tIf (t:TT) (ta tb:TE):TE:=fun σ H Q=>t σ H fun c H1=>if c = true then ta σ H1 Q else tb σ H1 Q
theorem tF {c:Expr} (hc:PT X c tA) (ha:PE X a ta) (hb:PE X b tb):PE X (.IfExp c a b pos) (tIf tA ta tb):=by
 intro pins s σ H Q I h
 refine wpAny_IfExp (thn (hc pins s σ H _ I h) fun d s1 ⟨H1,I1,q1⟩=>?_)
 cases d with
 | true=>exact ha pins s1 σ H1 Q I1 q1
 | false=>exact hb pins s1 σ H1 Q I1 q1
end
end L2
namespace L2
open PySem PySem.Spec PyProof.Rows
def SqL (K:FG7) (H:Hp) (a:Addr) (xs:List V):Prop :=
 Rd H a (.lst xs) ∨
  ∃ (o:Obj) (its:Array Value) (n:Nat),K.lookup a = some o /\ o.cls = .type "list" /\ o.dict = none /\ o.data = .seq its n /\ its.size <= sizeLine /\ Vals xs its.toList
def SqT (K:FG7) (H:Hp) (a:Addr) (xs:List V):Prop :=
 Rd H a (.tup xs) ∨
  ∃ (o:Obj) (its:Array Value) (n:Nat),K.lookup a = some o /\ o.cls = .type "tuple" /\ o.data = .seq its n /\ its.size <= sizeLine /\ Vals xs its.toList
def absV:Value -> Option V
 | .none=>some .non
 | .bool b=>some (.bl b)
 | .int i _=>some (.int i)
 | .str x _=>some (.str x)
 | .bytes b _=>some (.byt b)
 | .float b _=>some (.flt b)
 | .ref a=>some (.ref a)
 | .type n=>some (.ty n)
 | _=>none
theorem RelV.abs {x:V} {u:Value} (r:RelV x u):absV u = some x:=by
 cases x with
 | non=>cases r; rfl
 | bl _=>cases r; rfl
 | int _=>obtain ⟨t,rfl⟩:=r; rfl
 | str _=>obtain ⟨t,rfl⟩:=r; rfl
 | byt _=>obtain ⟨t,rfl⟩:=r; rfl
 | flt _=>obtain ⟨t,rfl⟩:=r; rfl
 | ref _=>cases r; rfl
 | ty _=>cases r; rfl
theorem RelV.inj {x y:V} {u:Value} (r:RelV x u) (q:RelV y u):x = y:=Option.some.inj (r.abs.symm.trans q.abs)
theorem Vals.inj:∀ {xs ys:List V} {us:List Value},Vals xs us -> Vals ys us -> xs = ys
 | _,_,_,.nil,.nil=>rfl
 | _,_,_,.cons r t,.cons r' t'=>by rw [r.inj r',Vals.inj t t']
section
variable {X:Cx} {pins:List (Addr × Obj)} {σ:St} {H:Hp} {s:Shared} {a:Addr} {xs ys:List V}
theorem SqL.of {K:FG7} (h:H a = some (.lst xs)):SqL K H a xs:=.inl (.inl h)
theorem SqT.of {K:FG7} (h:H a = some (.tup xs)):SqT K H a xs:=.inl (.inl h)
theorem Inv.list (I:Inv X pins σ H s) (h:SqL X.K H a xs):∃ its:List Value,Vals xs its /\ PlainL s.heap a its.toArray /\ xs.length <= sizeLine:=by
 rcases h with h | ⟨o,its,n,hk,hc,hd,hs,hz,r⟩
 ·obtain ⟨z,its,n,r,e⟩:=h.ok I.hok
  exact ⟨its,r,⟨_,n,e,rfl,rfl,rfl⟩,z⟩
 ·refine ⟨its.toList,r,⟨o,n,I.kIn a o hk,hc,hd,by simpa using hs⟩,?_⟩
  have e:=r.length
  simp only [Array.length_toList] at e
  omega
theorem Inv.tuple (I:Inv X pins σ H s) (h:SqT X.K H a xs):∃ its:List Value,Vals xs its /\ IsTup s.heap a its.toArray /\ xs.length <= sizeLine:=by
 rcases h with h | ⟨o,its,n,hk,hc,hs,hz,r⟩
 ·obtain ⟨z,its,r,p⟩:=h.ok I.hok
  exact ⟨its,r,p,z⟩
 ·refine ⟨its.toList,r,⟨o,I.kIn a o hk,hc,n,by simpa using hs⟩,?_⟩
  have e:=r.length
  simp only [Array.length_toList] at e
  omega
theorem Inv.list_inj (I:Inv X pins σ H s) (h:SqL X.K H a xs) (h':SqL X.K H a ys):xs = ys:=by
 obtain ⟨its,r,⟨o,n,e,_,_,d⟩,_⟩:=I.list h
 obtain ⟨its',r',⟨o',n',e',_,_,d'⟩,_⟩:=I.list h'
 rw [e] at e'; cases e'
 rw [d] at d'
 injection d' with d1 _
 have:its = its':=by simpa using congrArg Array.toList d1
 subst this
 exact r.inj r'
theorem Inv.tuple_inj (I:Inv X pins σ H s) (h:SqT X.K H a xs) (h':SqT X.K H a ys):xs = ys:=by
 obtain ⟨its,r,⟨o,e,_,n,d⟩,_⟩:=I.tuple h
 obtain ⟨its',r',⟨o',e',_,n',d'⟩,_⟩:=I.tuple h'
 rw [e] at e'; cases e'
 rw [d] at d'
 injection d' with d1 _
 have:its = its':=by simpa using congrArg Array.toList d1
 subst this
 exact r.inj r'
end
abbrev Cx.wish (X:Cx) (E:VS7):Cx:={ X with xe:=E }
abbrev Cx.nox (X:Cx):Cx:=X.wish fun _ _=>False
theorem Cx.Ok.wish {X:Cx} (ok:X.Ok) (E:VS7):(X.wish E).Ok :=
 ⟨ok.mod,ok.kind,ok.glob,ok.blt,ok.above,ok.inj,ok.has,ok.cab,ok.hd,ok.frames,ok.stk,ok.exf,ok.bs,ok.bsz,ok.noex,ok.exfs,ok.funs,ok.frf⟩
theorem Cx.Ok.unwish {X:Cx} {E:VS7} (ok:(X.wish E).Ok):X.Ok :=
 ⟨ok.mod,ok.kind,ok.glob,ok.blt,ok.above,ok.inj,ok.has,ok.cab,ok.hd,ok.frames,ok.stk,ok.exf,ok.bs,ok.bsz,ok.noex,ok.exfs,ok.funs,ok.frf⟩
section
variable {X:Cx} {pins:List (Addr × Obj)} {σ:St} {H:Hp} {s:Shared} {E:VS7}
theorem Inv.wish (I:Inv X pins σ H s) (E:VS7):Inv (X.wish E) pins σ H s:=⟨I.ok.wish E,I.os,I.bare,I.base,I.loc,I.cell,I.free,I.freeC,I.pin,I.hok,I.len⟩
theorem Inv.unwish (I:Inv (X.wish E) pins σ H s):Inv X pins σ H s:=⟨I.ok.unwish,I.os,I.bare,I.base,I.loc,I.cell,I.free,I.freeC,I.pin,I.hok,I.len⟩
theorem SP.unwish {D:Ends} {f:Flow} {s':Shared} (h:SP (X.wish E) pins D f s'):SP X pins D f s':=by
 cases f with
 | next=>obtain ⟨σ',H',I,q⟩:=h; exact ⟨σ',H',I.unwish,q⟩
 | brk=>obtain ⟨σ',H',I,q⟩:=h; exact ⟨σ',H',I.unwish,q⟩
 | cont=>obtain ⟨σ',H',I,q⟩:=h; exact ⟨σ',H',I.unwish,q⟩
 | ret u=>obtain ⟨v,σ',H',I,r,q⟩:=h; exact ⟨v,σ',H',I.unwish,r,q⟩
theorem PSs.nox {st:List Stmt} {t:TS} (h:PSs X.nox st t):PSs X st t:=fun pins s σ H D I hw =>
 wpAny_mono (h pins s σ H D (I.wish _) hw) (fun _ _ q=>q.unwish) fun _ _ z=>False.elim z
end
section
variable {X:Cx} {st:Stmt} {rest:List Stmt} {t u:TS} {e:Expr} {te:TE} {pos:Pos}
def Vb:TS:=fun D σ H=>D.nx σ H
def tSeq (t u:TS):TS:=fun D σ H=>t { D with nx:=u D } σ H
theorem zv:PSs X [] Vb:=fun _ _ σ H _ I h=>wpAny_execs_nil ⟨σ,H,I,h⟩
theorem zd (h1:PS X st t) (h2:PSs X rest u):PSs X (st :: rest) (tSeq t u):=by
 intro pins s σ H D I h
 refine wpAny_execs_cons (thn (h1 pins s σ H { D with nx:=u D } I h) fun f s1 q=>?_)
 cases f with
 | next =>
  obtain ⟨σ',H',I',q⟩:=q
  exact h2 pins s1 σ' H' D I' q
 | ret v=>exact q
 | brk=>exact q
 | cont=>exact q
theorem zh (h1:PS X st t):PSs X [st] t:=by
 intro pins s σ H D I h
 refine wpAny_execs_cons (thn (h1 pins s σ H D I h) fun f s1 q=>?_)
 cases f with
 | next=>exact wpAny_execs_nil q
 | ret v=>exact q
 | brk=>exact q
 | cont=>exact q
theorem Inv.quiet {pins:List (Addr × Obj)} {σ:St} {H:Hp} {s:Shared} (I:Inv X pins σ H s):interactive X.env = false:=by simp [interactive,I.ok.kind]
def Uc (te:TE):TS:=fun D σ H=>te σ H fun _ H1=>D.nx σ H1
theorem zI (he:PE X e te) (hs:swapsWith e none pos.line X.env = pure false:=by rfl):PS X (.Expr e pos) (Uc te):=by
 intro pins s σ H D I h
 exact wpAny_Expr_any (thn (he pins s σ H _ I h) fun v s1 ⟨x,H1,I1,r1,q1⟩=>⟨σ,H1,I1,q1⟩) I.quiet hs
def tRet (te:TE):TS:=fun D σ H=>te σ H D.rt
theorem zn (he:PE X e te):PS X (.Return (some e) pos) (tRet te):=by
 intro pins s σ H D I h
 exact wpAny_Return_some (thn (he pins s σ H _ I h) fun v s1 ⟨x,H1,I1,r1,q1⟩=>⟨x,σ,H1,I1,r1,q1⟩)
def tIfS (c:TT) (t u:TS):TS:=fun D σ H=>c σ H fun b H1=>if b = true then t D σ H1 else u D σ H1
theorem yc {c:Expr} {a b:List Stmt} {tc:TT} (hc:PT X c tc) (ha:PSs X a t) (hb:PSs X b u):PS X (.If c a b pos) (tIfS tc t u):=by
 intro pins s σ H D I h
 refine wpAny_If (thn (hc pins s σ H _ I h) fun d s1 ⟨H1,I1,q1⟩=>?_)
 cases d with
 | true=>exact ha pins s1 σ H1 D I1 q1
 | false=>exact hb pins s1 σ H1 D I1 q1
def Vc:TS:=fun _ _ _=>False
theorem xf:PS X st Vc:=fun _ _ _ _ _ _ h=>h.elim
end
abbrev TG:=V -> St -> Hp -> (St -> Hp -> Prop) -> Prop
abbrev TGs:=List V -> St -> Hp -> (St -> Hp -> Prop) -> Prop
def PG (X:Cx) (target:Expr) (t:TG):Prop :=
 ∀ (pins:List (Addr × Obj)) (s:Shared) (σ:St) (H:Hp) (v:V) (u:Value) (Q:St -> Hp -> Prop),Inv X pins σ H s -> RelV v u -> t v σ H Q →
  wpAny (model X.prog X.w) X.A (assign target X.env u) (fun _ s'=>∃ σ' H',Inv X pins σ' H' s' /\ Q σ' H') X.xe s
def PGs (X:Cx) (ts:List Expr) (t:TGs):Prop :=
 ∀ (pins:List (Addr × Obj)) (s:Shared) (σ:St) (H:Hp) (vs:List V) (us:List Value) (Q:St -> Hp -> Prop),Inv X pins σ H s -> Vals vs us -> t vs σ H Q →
  wpAny (model X.prog X.w) X.A (assignInOrder ((assignEach ts X.env).map (·.2)) us) (fun _ s'=>∃ σ' H',Inv X pins σ' H' s' /\ Q σ' H') X.xe s
abbrev TSet:=V -> V -> V -> Hp -> (Hp -> Prop) -> Prop
def PSet (X:Cx) (t:TSet):Prop :=
 ∀ (pins:List (Addr × Obj)) (s:Shared) (σ:St) (H:Hp) (o i v:V) (ov iv u:Value) (Q:Hp -> Prop),Inv X pins σ H s -> RelV o ov -> RelV i iv -> RelV v u -> t o i v H Q →
  wpAny (model X.prog X.w) X.A (setItem ov iv u) (fun _ s'=>∃ H',Inv X pins σ H' s' /\ Q H') X.xe s
section
variable {X:Cx} {pos:Pos}
def wL (i:Nat):TG:=fun v σ H Q=>Q (σ.set i (some v)) H
theorem zi {i:Nat} {x:Str} (hN:X.N.Nodup) (hi:X.N[i]? = some x) (hx:Loc X.env.scope x) (hf:X.fn x = true \/ X.env.scope.names.lookup x = some .local :=by first | exact .inl rfl | exact .inr rfl | assumption):PG X (.Name x pos) (wL i):=by
 intro pins s σ H v u Q I r h
 exact wpAny_assign_Name (vU I hN hi hx r (fun s' I'=>⟨_,H,I',h⟩) hf)
def gNil:TGs:=fun vs σ H Q=>vs = [] /\ Q σ H
def Ud (t:TG) (u:TGs):TGs:=fun vs σ H Q=>∃ v r,vs = v :: r /\ t v σ H fun σ' H'=>u r σ' H' Q
theorem zF:PGs X [] gNil:=by
 intro pins s σ H vs us Q I r h
 obtain ⟨e,h⟩:=h
 subst e
 cases r
 exact assignInOrder_nil ⟨σ,H,I,h⟩
theorem zk {e:Expr} {es:List Expr} {t:TG} {u:TGs} (h1:PG X e t) (h2:PGs X es u)
  (hs:(assignEach (e :: es) X.env).map (·.2) = assign e X.env :: (assignEach es X.env).map (·.2):=by rfl):PGs X (e :: es) (Ud t u):=by
 intro pins s σ H vs us Q I r h
 obtain ⟨v,vr,e1,h⟩:=h
 subst e1
 cases r with
 | cons r rr =>
  rw [hs]
  refine assignInOrder_cons (thn (h1 pins s σ H _ _ _ I r h) fun _ s1 ⟨σ1,H1,I1,q1⟩=>?_)
  exact h2 pins s1 σ1 H1 _ _ Q I1 rr q1
def gTup (K:FG7) (n:Nat) (t:TGs):TG:=fun v σ H Q=>∃ a xs,v = .ref a /\ SqT K H a xs /\ xs.length = n /\ t xs σ H Q
theorem yV {es:List Expr} {k:Nat} {t:TGs} {n:Nat} (hc:X.calm = true) (h:PGs X es t)
  (hn:(assignEach es X.env).length = n:=by rfl) (hst:(assignEach es X.env).findIdx? (·.1) = none:=by rfl):PG X (.Tuple es k pos) (gTup X.K n t):=by
 intro pins s σ H v u Q I r hw
 obtain ⟨a,xs,e1,hq,hl,hw⟩:=hw
 subst e1
 cases r
 obtain ⟨its,rv,ht,hz⟩:=I.tuple hq
 refine assign_Tuple_tuple (I.ok.hd hc) ht (by simp [hn,← hl,rv.length]) hst fun h' hx=>?_
 have I1:Inv X pins σ H { s with heap:=h' }:=I.kept (t':=s.toks) fun b o e=>hx b o (Nat.ne_of_lt (Heap.lt_size e)) e
 exact h pins _ σ H xs _ Q I1 (by simpa using rv) hw
def gSub (to ti:TE) (t:TSet):TG:=fun v σ H Q=>to σ H fun o H1=>ti σ H1 fun i H2=>t o i v H2 fun H3=>Q σ H3
theorem vB {o i:Expr} {to ti:TE} {t:TSet} (ho:PE X o to) (hi:PE X i ti) (hs:PSet X t)
  (ha:∀ v,assign (.Subscript o i pos) X.env v = (do
   let ov ← holding [v] (eval o X.env)
   let iv ← holding [v,ov] (eval i X.env)
   standAt pos
   holding [v,ov,iv] (setItem ov iv v)
   release [v,ov,iv] []):=by intro _; rfl):PG X (.Subscript o i pos) (gSub to ti t):=by
 intro pins s σ H v u Q I r h
 rw [ha]
 refine wpAny_bind (wpAny_holding (thn (ho pins s σ H _ I h) fun ov s1 ⟨x,H1,I1,r1,q1⟩=>?_))
 refine wpAny_bind (wpAny_holding (thn (hi pins s1 σ H1 _ I1 q1) fun iv s2 ⟨y,H2,I2,r2,q2⟩=>?_))
 refine wpAny_bind (wpAny_standAt (wpAny_bind (wpAny_holding (thn (hs pins s2 σ H2 x y v ov iv u _ I2 r1 r2 r q2) fun _ s3 ⟨H3,I3,q3⟩=>?_))))
 exact wpAny_release ⟨σ,H3,I3,q3⟩
def tAsg (te:TE) (g:TG):TS:=fun D σ H=>te σ H fun x H1=>g x σ H1 D.nx
theorem wm {tg e:Expr} {te:TE} {g:TG} (he:PE X e te) (hg:PG X tg g) (hs:swapsWithSole [tg] e pos.line X.env = pure false:=by rfl) (hw:swappedStores [tg] e X.env = pure none:=by rfl)
  (h1:(assignEach [tg] X.env).map (·.2) = [assign tg X.env]:=by rfl):PS X (.Assign [tg] e pos) (tAsg te g):=by
 intro pins s σ H D I h
 refine wpAny_Assign_stores (thn (he pins s σ H _ I h) fun v s1 ⟨x,H1,I1,r1,q1⟩=>?_) hs hw
 rw [h1]
 exact thn (hg pins s1 σ H1 x v _ I1 r1 q1) fun _ s2 q=>q
theorem zu {i:Nat} {x:Str} {e:Expr} {te:TE} {pos':Pos} (hN:X.N.Nodup) (hi:X.N[i]? = some x) (hx:Loc X.env.scope x) (he:PE X e te) (hs:swapsWith e (some (.Name x pos')) pos.line X.env = pure false:=by rfl) (hf:X.fn x = true \/ X.env.scope.names.lookup x = some .local :=by first | exact .inl rfl | exact .inr rfl | assumption) :
  PS X (.Assign [.Name x pos'] e pos) (tAsg te (wL i)):=by
 intro pins s σ H D I h
 refine wpAny_Assign_Name (thn (he pins s σ H _ I h) fun v s1 ⟨y,H1,I1,r1,q1⟩=>?_) hs
 exact vU I1 hN hi hx r1 (fun s2 I2=>⟨_,H1,I2,q1⟩) hf
def tPar (i j:Nat) (ta:TA):TS:=fun D σ H=>ta σ H fun vs H1=>∃ v w,vs = [v,w] /\ D.nx ((σ.set i (some v)).set j (some w)) H1
theorem Vd {i j:Nat} {x y:Str} {a b:Expr} {ta:TA} {px py pt:Pos} {kt k2 pt2} (hc:X.calm = true) (hN:X.N.Nodup) (hi:X.N[i]? = some x) (hj:X.N[j]? = some y) (hij:i ≠ j)
  (hx:X.env.scope.names.lookup x = some .local) (hy:X.env.scope.names.lookup y = some .local) (ha:PA X [a,b] ta)
  (hw:swappedStores [.Tuple [.Name x px,.Name y py] kt pt] (.Tuple [a,b] k2 pt2) X.env = pure (some [x,y]))
  (hs:swapsWithSole [.Tuple [.Name x px,.Name y py] kt pt] (.Tuple [a,b] k2 pt2) pos.line X.env = pure false:=by rfl) :
  PS X (.Assign [.Tuple [.Name x px,.Name y py] kt pt] (.Tuple [a,b] k2 pt2) pos) (tPar i j ta):=by
 intro pins s σ H D I h
 rw [exec_Assign_arm]
 refine wpAny_bind (wpAny_standAt ?_)
 rw [hs]
 refine wpAny_bind (wpAny_pure ?_)
 rw [if_neg (by decide)]
 refine wpAny_bind (Tuple_ (thn (ha _ pins s σ H _ I h) fun us s1 ⟨vs,H1,I1,r1,q1⟩=>?_))
 obtain ⟨v,w,e1,q1⟩:=q1
 subst e1
 obtain ⟨u1,u2,rfl,rv,rw'⟩:∃ u1 u2,us = [u1,u2] /\ RelV v u1 /\ RelV w u2:=by
  cases r1 with
  | cons p q =>
   cases q with
   | cons p' q' =>
    cases q'
    exact ⟨_,_,rfl,p,p'⟩
 refine wpAny_newObj_type ?_ (by show 2 <= sizeLine; decide)
 have I2:Inv X pins σ H1 { s1 with heap:=s1.heap.push { cls:=.type "tuple",data:=.seq [u1,u2].toArray } }:=I1.kept (t':=s1.toks) fun b o e=>Heap.get?_push_of_some _ e
 rw [hw]
 refine wpAny_bind (wpAny_pure ?_)
 show wpAny (model X.prog X.w) X.A (do rule "assign.swapped-stores"; let items ← unpackItems (.ref s1.heap.objs.size) 2 none; assignInOrder [fun v=>bindName X.env y v,fun v=>bindName X.env x v] items.reverse; pure Flow.next) _ _ _
 refine wpAny_bind (wpAny_rule (wpAny_bind (unpackItems_tuple (items:=#[u1,u2]) (I.ok.hd hc) (IsTup.new s1.heap _) fun h' hx'=>?_)))
 have I3:=I2.kept (h':=h') (t':=s1.toks) fun b o e=>hx' b o (Nat.ne_of_lt (Heap.lt_size e)) e
 show wpAny _ _ (assignInOrder [fun v=>bindName X.env y v,fun v=>bindName X.env x v] [u2,u1] >>= fun _=>pure Flow.next) _ _ _
 refine wpAny_bind (assignInOrder_cons (wpAny_bindName (vU I3 hN hj (.inl hy) rw' (fun s2 I4=>?_) (.inr hy))))
 refine assignInOrder_cons (wpAny_bindName (vU I4 hN hi (.inl hx) rv (fun s3 I5=>assignInOrder_nil (wpAny_pure ?_)) (.inr hx)))
 rw [List.set_comm _ _ (Ne.symm hij)] at I5
 exact ⟨_,H1,I5,q1⟩
end
section
variable {X:Cx} {pos:Pos}
def Ve (c:TT) (tb:TS):TS:=fun D σ H=>∃ W:Nat -> St -> Hp -> Prop,(∃ m,W m σ H) /\ ∀ m σ H,W m σ H →
 c σ H fun b H1=>if b = true then ∃ N:St -> Hp -> Prop,(∀ σ' H',N σ' H' -> ∃ m',m' < m /\ W m' σ' H') /\ tb { D with nx:=N,ct:=N,bk:=D.nx } σ H1 else D.nx σ H1
theorem YZ {c:Expr} {body:List Stmt} {tc:TT} {tb:TS} (hp:PassesOwn (model X.prog X.w) X.A X.env X.xe) (hc:PT X c tc) (hb:PSs X body tb):PS X (.While c body [] pos) (Ve tc tb):=by
 intro pins s σ H D I h
 obtain ⟨W,⟨m0,w0⟩,turn⟩:=h
 refine wpAny_While (codeAny_whileLoop (fun n s'=>∃ σ' H',Inv X pins σ' H' s' /\ W n σ' H') ?_ m0 ⟨σ,H,I,w0⟩)
 rintro n s1 ⟨σ1,H1,I1,w1⟩
 refine wpAny_passesOwn hp (thn (hc pins s1 σ1 H1 _ I1 (turn n σ1 H1 w1)) fun b s2 ⟨H2,I2,q2⟩=>?_)
 cases b with
 | true =>
  obtain ⟨N,hN,q2⟩:=q2
  rw [if_pos rfl]
  refine wpAny_passesOwn hp (thn (hb pins s2 σ1 H2 _ I2 q2) fun f s3 q3=>?_)
  cases f with
  | next =>
   obtain ⟨σ3,H3,I3,n3⟩:=q3
   obtain ⟨m',hm,w3⟩:=hN σ3 H3 n3
   exact ⟨m',hm,σ3,H3,I3,w3⟩
  | cont =>
   obtain ⟨σ3,H3,I3,n3⟩:=q3
   obtain ⟨m',hm,w3⟩:=hN σ3 H3 n3
   exact ⟨m',hm,σ3,H3,I3,w3⟩
  | brk=>exact q3
  | ret v=>exact q3
 | false =>
  rw [if_neg Bool.false_ne_true]
  exact wpAny_execs_nil ⟨σ1,H2,I2,q2⟩
end
structure It where
 go:Nat -> Hp -> Prop
 yld:Nat -> Hp -> V -> Hp -> Prop
 stop:Nat -> Hp -> Prop
def FpOk (X:Cx) (pins:List (Addr × Obj)) (H:Hp) (b:Addr):Prop :=
 H b = none /\ b ≠ X.env.locals /\ b ∉ X.fs /\ (b ∈ X.ex \/ X.s₀.heap.objs.size <= b) /\ (∀ x c,X.env.cells.lookup x = some c -> c ≠ b) /\ ∀ p ∈ X.pn ++ pins,p.1 ≠ b
theorem Inv.fpOk {X:Cx} {pins:List (Addr × Obj)} {σ:St} {H H':Hp} {s:Shared} {b:Addr} (I:Inv X pins σ H s) (hb:s.heap.objs.size <= b) (hn:H' b = none):FpOk X pins H' b:=by
 refine ⟨hn,Nat.ne_of_gt (Nat.lt_of_lt_of_le I.lt hb),I.nofs hb,.inr (Nat.le_trans I.sz hb),fun x c e z=>?_,fun p hp z=>?_⟩
 ·obtain ⟨v,q⟩:=I.cell x c e
  exact absurd (Nat.lt_of_lt_of_le q.lt (by rw [z]; exact hb)) (Nat.lt_irrefl _)
 ·exact absurd (Nat.lt_of_lt_of_le (Heap.lt_size (I.pin p hp).1) (by rw [z]; exact hb)) (Nat.lt_irrefl _)
structure Turn (P:Program) (w:World) (K:FG7) (tg:Expr) (J:It) (fp:List Addr) (it:Addr) (tn:Nat -> Heap -> Prop):Prop where
 mem:it ∈ fp
 obj:∀ i h,tn i h -> ∀ b ∈ fp,∃ o,h.get? b = some o /\ ∀ v,o.data ≠ .cell v
 keep:∀ i h h',tn i h -> (∀ b ∈ fp,∀ o,h.get? b = some o -> h'.get? b = some o) -> tn i h'
 item:∀ (X:Cx),X.prog = P -> X.w = w -> X.K = K -> X.calm = true -> ∀ (i:Nat) (pins:List (Addr × Obj)) (s:Shared) (σ:St) (H:Hp) (E:VS7),Inv X pins σ H s -> (∀ b ∈ fp,FpOk X pins H b) -> tn i s.heap -> J.go i H →
  wpAny (model P w) X.A (pyNext (.ref it)) (fun r s1=>∃ u,r = some u ∧
   wpAny (model P w) X.A (letOwnedTupleGo tg (.ref it) u) (fun _ s2=>∃ x H',Inv X pins σ H' s2 /\ RelV x u /\ J.yld i H x H' /\ tn (i + 1) s2.heap /\ ∀ b ∈ fp,H' b = none) E s1) E s
 done:∀ (X:Cx),X.prog = P -> X.w = w -> X.K = K -> X.calm = true -> ∀ (i:Nat) (pins:List (Addr × Obj)) (s:Shared) (σ:St) (H:Hp) (E:VS7),Inv X pins σ H s -> (∀ b ∈ fp,FpOk X pins H b) -> tn i s.heap -> J.stop i H →
  wpAny (model P w) X.A (pyNext (.ref it)) (fun r s1=>r = none /\ Inv X pins σ H s1) E s
 self:∀ (A:Around) (i:Nat) (s:Shared) (Q:VS7) (E:VS7),tn i s.heap -> Q (.ref it) s -> wpAny (model P w) A (pyIter (.ref it)) Q E s
abbrev TI:=St -> Hp -> (It -> Hp -> Prop) -> Prop
def PIE (X:Cx) (pins:List (Addr × Obj)) (σ:St) (tg:Expr) (R:It -> Hp -> Prop) (itv:Value) (s2:Shared):Prop :=
 ∃ (it:Addr) (fp:List Addr) (tn:Nat -> Heap -> Prop) (J:It) (H':Hp),itv = .ref it /\ Inv X pins σ H' s2 /\ Turn X.prog X.w X.K tg J fp it tn /\ tn 0 s2.heap /\ (∀ b ∈ fp,FpOk X pins H' b) /\ R J H'
def PI (X:Cx) (tg iter:Expr) (wi:TI):Prop :=
 ∀ (pins:List (Addr × Obj)) (s:Shared) (σ:St) (H:Hp) (R:It -> Hp -> Prop),Inv X pins σ H s -> wi σ H R →
  wpAny (model X.prog X.w) X.A (eval iter X.env) (fun v s1=>wpAny (model X.prog X.w) X.A (pyIter v) (PIE X pins σ tg R) X.xe s1) X.xe s
theorem Y0 {M:Model} {A:Around} {E:VS7} {s:Shared} {tg:Expr} {it:Addr} {u:Value} {o:Obj} {n:String} {vs:Array Value} {Q:Unit -> Shared -> Prop} (ho:s.heap.get? it = some o) (hc:o.cls = .type n) (hd:o.data = .fields vs)
    (hn:["enumerate","zip","dict_itemiterator","dict_reverseitemiterator","odict_iterator","itertools.zip_longest","itertools.pairwise"].contains n = false) (hQ:Q () s):wpAny M A (letOwnedTupleGo tg (.ref it) u) Q E s:=by
  unfold letOwnedTupleGo
  cases tg <;> first
    | exact wpAny_pure hQ
    | (cases u <;> first
        | exact wpAny_pure hQ
        | (refine wpAny_bind (wpAny_load ho ?_)
           rw [hc,hd]
           show wpAny M A (if (["enumerate","zip","dict_itemiterator","dict_reverseitemiterator","odict_iterator","itertools.zip_longest","itertools.pairwise"].contains n && vs[0]? == some (rawInt _)) = true then _ else _) Q E s
           rw [if_neg (by intro h; rw [hn,Bool.false_and] at h; cases h)]
           exact wpAny_pure hQ))
def Itl (K:FG7) (a:Addr):It :=
 ⟨fun i H=>∃ xs x,SqL K H a xs /\ xs[i]? = some x,fun i H x H'=>H' = H /\ ∀ xs,SqL K H a xs -> xs[i]? = some x,fun i H=>∃ xs,SqL K H a xs /\ xs.length <= i⟩
def Itt (K:FG7) (a:Addr):It :=
 ⟨fun i H=>∃ xs x,SqT K H a xs /\ xs[i]? = some x,fun i H x H'=>H' = H /\ ∀ xs,SqT K H a xs -> xs[i]? = some x,fun i H=>∃ xs,SqT K H a xs /\ xs.length <= i⟩
def Itr (lo:Int) (n:Nat):It:=⟨fun i _=>i < n,fun i H x H'=>H' = H /\ x = .int (lo + i),fun i _=>n <= i⟩
theorem Zz {P:Program} {w:World} {K:FG7} {tg:Expr} (a it:Addr):Turn P w K tg (Itl K a) [it] it (fun i h=>h.IsListIter it a i) where
 mem:=by simp
 obj:=fun i h st b hb=>by
  have e:b = it:=by simpa using hb
  subst e
  obtain ⟨o,e,c,d⟩:=st
  exact ⟨o,e,fun v z=>by rw [d] at z; cases z⟩
 keep:=fun i h h' st k=>st.at fun o e=>k it (by simp) o e
 item:=by
  intro X hP hw hK hc i pins s σ H E I hf st hg
  subst hP hw hK
  obtain ⟨xs,x,hq,hx⟩:=hg
  obtain ⟨its,rv,p,hz⟩:=I.list hq
  obtain ⟨u,hu,ru⟩:=rv.get hx
  obtain ⟨f0,f1,f2,f3,f4,f5⟩:=hf it (by simp)
  refine wpAny_pyNext_list_item st p.isList (x:=u) (by simpa using hu) fun h' st' sb=>?_
  have I1:Inv X pins σ H { s with heap:=h' }:=I.turned (t':=s.toks) (fun b o hb e=>(sb.2 b hb).trans e) f0 f1 f3 f4 f5
  obtain ⟨o,e,c,d⟩:=id st'
  exact ⟨u,rfl,Y0 (s:={ s with heap:=h' }) e c d (by decide) ⟨x,H,I1,ru,⟨rfl,fun ys hy=>by rw [I.list_inj hy hq]; exact hx⟩,st',fun b hb=>(hf b hb).1⟩⟩
 done:=by
  intro X hP hw hK hc i pins s σ H E I hf st hg
  subst hP hw hK
  obtain ⟨xs,hq,hx⟩:=hg
  obtain ⟨its,rv,p,hz⟩:=I.list hq
  obtain ⟨f0,f1,f2,f3,f4,f5⟩:=hf it (by simp)
  have hl:=rv.length
  exact wpAny_pyNext_list_end (I.ok.hd hc) st p.isList (by simp; omega) fun h' eb=>⟨rfl,I.turned (t':=s.toks) (fun b o hb e=>eb b o hb e) f0 f1 f3 f4 f5⟩
 self:=fun _ _ _ _ _ st h=>wpAny_pyIter_listiter st h
theorem jT {P:Program} {w:World} {K:FG7} {tg:Expr} (a it:Addr):Turn P w K tg (Itt K a) [it] it (fun i h=>h.IsTupleIter it a i) where
 mem:=by simp
 obj:=fun i h st b hb=>by
  have e:b = it:=by simpa using hb
  subst e
  obtain ⟨o,e,c,d⟩:=st
  exact ⟨o,e,fun v z=>by rw [d] at z; cases z⟩
 keep:=fun i h h' st k=>st.at fun o e=>k it (by simp) o e
 item:=by
  intro X hP hw hK hc i pins s σ H E I hf st hg
  subst hP hw hK
  obtain ⟨xs,x,hq,hx⟩:=hg
  obtain ⟨its,rv,p,hz⟩:=I.tuple hq
  obtain ⟨u,hu,ru⟩:=rv.get hx
  obtain ⟨f0,f1,f2,f3,f4,f5⟩:=hf it (by simp)
  refine wpAny_pyNext_tuple_item st (show s.heap.IsTuple a its.toArray from p) (x:=u) (by simpa using hu) fun h' st' sb=>?_
  have I1:Inv X pins σ H { s with heap:=h' }:=I.turned (t':=s.toks) (fun b o hb e=>(sb.2 b hb).trans e) f0 f1 f3 f4 f5
  obtain ⟨o,e,c,d⟩:=id st'
  exact ⟨u,rfl,Y0 (s:={ s with heap:=h' }) e c d (by decide) ⟨x,H,I1,ru,⟨rfl,fun ys hy=>by rw [I.tuple_inj hy hq]; exact hx⟩,st',fun b hb=>(hf b hb).1⟩⟩
 done:=by
  intro X hP hw hK hc i pins s σ H E I hf st hg
  subst hP hw hK
  obtain ⟨xs,hq,hx⟩:=hg
  obtain ⟨its,rv,p,hz⟩:=I.tuple hq
  obtain ⟨f0,f1,f2,f3,f4,f5⟩:=hf it (by simp)
  have hl:=rv.length
  exact wpAny_pyNext_tuple_end (I.ok.hd hc) st (show s.heap.IsTuple a its.toArray from p) (by simp; omega) fun h' eb=>⟨rfl,I.turned (t':=s.toks) (fun b o hb e=>eb b o hb e) f0 f1 f3 f4 f5⟩
 self:=fun _ _ _ _ _ st h=>wpAny_pyIter_tupleiter st h
theorem jU {P:Program} {w:World} {K:FG7} {tg:Expr} (it:Addr) (lo:Int) (n:Nat):Turn P w K tg (Itr lo n) [it] it (fun i h=>IsRangeIter h it (lo + (i:Nat) * 1) ((n:Int) - (i:Nat)) 1) where
 mem:=by simp
 obj:=fun i h st b hb=>by
  have e:b = it:=by simpa using hb
  subst e
  exact ⟨_,st,fun v z=>by
   have z':Data.fields _ = Data.cell v:=z
   cases z'⟩
 keep:=fun i h h' st k=>k it (by simp) _ st
 item:=by
  intro X hP hw hK hc i pins s σ H E I hf st hg
  subst hP hw hK
  obtain ⟨f0,f1,f2,f3,f4,f5⟩:=hf it (by simp)
  have W:=Walks.range (prog:=X.prog) (w:=X.w) (I.ok.hd hc) it lo 1 n
  refine W.item i s _ _ hg st fun v h' tk hv st' kk=>?_
  obtain ⟨t,rfl⟩:=hv
  have I1:Inv X pins σ H { s with heap:=h',toks:=tk }:=I.turned (fun b o hb e=>kk b o (by simpa using hb) e) f0 f1 f3 f4 f5
  refine ⟨_,rfl,Y0 (s:={ s with heap:=h',toks:=tk }) (n:="range_iterator") st' rfl rfl (by decide) ⟨.int (lo + i),H,I1,⟨t,?_⟩,⟨rfl,rfl⟩,st',fun b hb=>(hf b hb).1⟩⟩
  rw [Int.mul_one]
 done:=by
  intro X hP hw hK hc i pins s σ H E I hf st hg
  subst hP hw hK
  obtain ⟨f0,f1,f2,f3,f4,f5⟩:=hf it (by simp)
  exact wpAny_pyNext_range_end (I.ok.hd hc) st (by have:n <= i:=hg; omega) fun h' eb=>⟨rfl,I.turned (t':=s.toks) (fun b o hb e=>eb b o hb e) f0 f1 f3 f4 f5⟩
 self:=fun _ _ _ _ _ st h=>wpAny_pyIter_rangeiter st h
end L2
namespace L2
open PySem PySem.Spec PyProof.Rows
section
variable {X:Cx} {tg:Expr}
def Vf (K:FG7) (tl:TE):TI:=fun σ H R=>tl σ H fun x H1=>∃ a,x = .ref a /\ (∃ xs,SqL K H1 a xs) /\ R (Itl K a) H1
def iTup (K:FG7) (tl:TE):TI:=fun σ H R=>tl σ H fun x H1=>∃ a,x = .ref a /\ (∃ xs,SqT K H1 a xs) /\ R (Itt K a) H1
theorem xO {l:Expr} {tl:TE} (hl:PE X l tl):PI X tg l (Vf X.K tl):=by
 intro pins s σ H R I h
 refine thn (hl pins s σ H _ I h) fun v s1 ⟨x,H1,I1,r1,q1⟩=>?_
 obtain ⟨a,e,⟨xs,hq⟩,q⟩:=q1
 subst e
 cases r1
 obtain ⟨its,rv,p,hz⟩:=I1.list hq
 refine wpAny_pyIter_list p.isList ?_
 refine ⟨s1.heap.objs.size,[s1.heap.objs.size],_,_,H1,rfl,I1.kept (t':=s1.toks) fun b o e=>Heap.get?_push_of_some _ e,Zz a _,⟨_,Heap.get?_push_size _ rfl,rfl,rfl⟩,fun b hb=>?_,q⟩
 have e:b = s1.heap.objs.size:=by simpa using hb
 subst e
 exact I1.fpOk (Nat.le_refl _) (I1.hok.fresh (Nat.le_refl _))
theorem ym {l:Expr} {tl:TE} (hl:PE X l tl):PI X tg l (iTup X.K tl):=by
 intro pins s σ H R I h
 refine thn (hl pins s σ H _ I h) fun v s1 ⟨x,H1,I1,r1,q1⟩=>?_
 obtain ⟨a,e,⟨xs,hq⟩,q⟩:=q1
 subst e
 cases r1
 obtain ⟨its,rv,p,hz⟩:=I1.tuple hq
 refine wpAny_pyIter_tuple (show s1.heap.IsTuple a its.toArray from p) ?_
 refine ⟨s1.heap.objs.size,[s1.heap.objs.size],_,_,H1,rfl,I1.kept (t':=s1.toks) fun b o e=>Heap.get?_push_of_some _ e,jT a _,⟨_,Heap.get?_push_size _ rfl,rfl,rfl⟩,fun b hb=>?_,q⟩
 have e:b = s1.heap.objs.size:=by simpa using hb
 subst e
 exact I1.fpOk (Nat.le_refl _) (I1.hok.fresh (Nat.le_refl _))
theorem qZ {pins:List (Addr × Obj)} {σ:St} {H:Hp} {s:Shared} {R:It -> Hp -> Prop} {E:VS7} {lo hi:Int} {t u v:Tok} {tk:Nat} (I:Inv X pins σ H s) (h1:-(2 ^ 62) <= lo) (h2:lo < 2 ^ 62) (h3:-(2 ^ 62) <= hi) (h4:hi < 2 ^ 62)
  (q:R (Itr lo (hi - lo).toNat) H):wpAny (model X.prog X.w) X.A (pyIter (.ref s.heap.objs.size)) (PIE X pins σ tg R) E { s with heap:=s.heap.push { cls:=.type "range",data:=.fields #[.int lo t,.int hi u,.int 1 v] },toks:=tk }:=by
 refine wpAny_pyIter_range (IsRange.new ..) (small_one h1 h2 h3 h4) ?_
 have I1:Inv X pins σ H { s with heap:=s.heap.push { cls:=.type "range",data:=.fields #[.int lo t,.int hi u,.int 1 v] },toks:=tk }:=I.kept fun b o e=>Heap.get?_push_of_some _ e
 refine ⟨(s.heap.push { cls:=.type "range",data:=.fields #[.int lo t,.int hi u,.int 1 v] }).objs.size,[(s.heap.push { cls:=.type "range",data:=.fields #[.int lo t,.int hi u,.int 1 v] }).objs.size],_,_,H,rfl,
  I1.kept (t':=tk) fun b o e=>Heap.get?_push_of_some _ e,jU _ lo (hi - lo).toNat,?_,fun b hb=>?_,q⟩
 ·have e1:lo + ((0:Nat):Int) * 1 = lo:=by simp
  have e2:(((hi - lo).toNat:Nat):Int) - ((0:Nat):Int) = Builtin.Range.rangeSize lo hi 1:=by rw [rangeSize_one]; split <;> omega
  show IsRangeIter _ _ (lo + ((0:Nat):Int) * 1) ((((hi - lo).toNat:Nat):Int) - ((0:Nat):Int)) 1
  rw [e1,e2]
  exact Heap.get?_push_size _ rfl
 ·have e:b = (s.heap.push { cls:=.type "range",data:=.fields #[.int lo t,.int hi u,.int 1 v] }).objs.size:=by simpa using hb
  subst e
  exact I1.fpOk (Nat.le_refl _) (I1.hok.fresh (Nat.le_refl _))
def Ue (ta:TA):TI:=fun σ H R=>ta σ H fun vs H1=>∃ j:Int,vs = [.int j] /\ -(2 ^ 62) <= j /\ j < 2 ^ 62 /\ R (Itr 0 j.toNat) H1
def Uf (ta:TA):TI:=fun σ H R=>ta σ H fun vs H1=>∃ i j:Int,vs = [.int i,.int j] /\ (-(2 ^ 62) <= i /\ i < 2 ^ 62 /\ -(2 ^ 62) <= j /\ j < 2 ^ 62) /\ R (Itr i (j - i).toNat) H1
theorem yi {a:Expr} {ta:TA} {p pos:Pos} (hg:Gl X "range") (hm:X.mg "range" = none) (ha:PA X [a] ta) (hs:starEach [a] X.env = [(false,eval a X.env)]:=by rfl):PI X tg (.Call (.Name "range" p) [a] [] pos) (Ue ta):=by
 intro pins s σ H R I h
 refine Call_ (we I hg hm boot_range (PyProof.Rows.callWith_type1 (thn (ha pos pins s σ H _ I h) fun us s1 ⟨vs,H1,I1,r1,q1⟩=>?_) hs rfl))
 obtain ⟨j,e,q1,q2,q⟩:=q1
 subst e
 cases r1 with
 | cons r rr =>
  cases rr
  obtain ⟨t,rfl⟩:=r
  exact call_range_1 (qZ I1 (by omega) (by omega) q1 q2 (by simpa using q))
theorem wR {a b:Expr} {ta:TA} {p pos:Pos} (hg:Gl X "range") (hm:X.mg "range" = none) (ha:PA X [a,b] ta) (hs:starEach [a,b] X.env = [(false,eval a X.env),(false,eval b X.env)]:=by rfl) (hs2:starEach [b] X.env = [(false,eval b X.env)]:=by rfl) :
  PI X tg (.Call (.Name "range" p) [a,b] [] pos) (Uf ta):=by
 intro pins s σ H R I h
 refine Call_ (we I hg hm boot_range (PyProof.Rows.callWith_type1 (thn (ha pos pins s σ H _ I h) fun us s1 ⟨vs,H1,I1,r1,q1⟩=>?_) (by rw [hs,hs2]) (by rw [hs2]; rfl)))
 obtain ⟨i,j,e,⟨q1,q2,q3,q4⟩,q⟩:=q1
 subst e
 cases r1 with
 | cons r rr =>
  cases rr with
  | cons r' rr =>
   cases rr
   obtain ⟨t,rfl⟩:=r
   obtain ⟨t',rfl⟩:=r'
   exact call_range_2 (qZ I1 q1 q2 q3 q4 q)
def tFor (wi:TI) (g:TG) (tb:TS):TS:=fun D σ H=>wi σ H fun J H1=>∃ W:Nat -> Nat -> St -> Hp -> Prop,(∃ m,W 0 m σ H1) /\ ∀ i m σ H,W i m σ H →
 (J.stop i H /\ D.nx σ H) \/ (J.go i H /\ ∃ N:St -> Hp -> Prop,(∀ σ' H',N σ' H' -> ∃ m',m' < m /\ W (i + 1) m' σ' H') /\ ∀ x H',J.yld i H x H' -> g x σ H' fun σ2 H2=>tb { D with nx:=N,ct:=N,bk:=D.nx } σ2 H2)
def v3 (fp:List Addr) (h:Heap):List (Addr × Obj):=fp.filterMap fun b=>(h.get? b).map fun o=>(b,o)
theorem yy {fp:List Addr} {h:Heap} {b:Addr} {o:Obj} (hb:b ∈ fp) (e:h.get? b = some o):(b,o) ∈ v3 fp h:=List.mem_filterMap.mpr ⟨b,hb,by rw [e]; rfl⟩
theorem ZA {fp:List Addr} {h:Heap} {p:Addr × Obj} (hp:p ∈ v3 fp h):p.1 ∈ fp /\ h.get? p.1 = some p.2:=by
 obtain ⟨b,hb,e⟩:=List.mem_filterMap.mp hp
 cases q:h.get? b with
 | none=>rw [q] at e; cases e
 | some o =>
  rw [q] at e
  have e':(b,o) = p:=Option.some.inj e
  subst e'
  exact ⟨hb,q⟩
theorem Inv.pinned {pins:List (Addr × Obj)} {σ:St} {H:Hp} {s:Shared} {fp:List Addr} (I:Inv X pins σ H s) (hf:∀ b ∈ fp,FpOk X pins H b) (ho:∀ b ∈ fp,∃ o,s.heap.get? b = some o /\ ∀ v,o.data ≠ .cell v):Inv X (pins ++ v3 fp s.heap) σ H s :=
 I.pins_of fun p hp=>(List.mem_append.mp hp).elim (fun z=>I.pin p (List.mem_append_right _ z)) fun z=>by
  obtain ⟨hb,e⟩:=ZA z
  obtain ⟨f0,f1,f2,_⟩:=hf p.1 hb
  obtain ⟨o,e',d⟩:=ho p.1 hb
  rw [e] at e'; cases e'
  exact ⟨e,f0,f1,f2,d⟩
theorem Inv.unpinned {pins pl:List (Addr × Obj)} {σ:St} {H:Hp} {s:Shared} (I:Inv X (pins ++ pl) σ H s):Inv X pins σ H s:=I.pins_of fun p hp=>I.pin p (List.mem_append_right _ (List.mem_append_left _ hp))
theorem yH {iter:Expr} {body:List Stmt} {wi:TI} {g:TG} {tb:TS} {pos:Pos} (hp:PassesOwn (model X.prog X.w) X.A X.env X.xe) (hc:X.calm = true) (hi:PI X tg iter wi) (hg:PG X tg g) (hb:PSs X body tb)
  (hs:∀ x,foldedSetIterable iter X.env x = pure x:=by intro _; rfl):PS X (.For tg iter body [] pos) (tFor wi g tb):=by
 intro pins s σ H D I h
 refine wpAny_For (thn (hi pins s σ H _ I h) fun v s1 h1=>thn h1 fun itv s2 h2=>?_) hs
 obtain ⟨it,fp,tn,J,H2,e,I2,T,st2,f2,W,⟨m0,w0⟩,turn⟩:=h2
 subst e
 -- what stays true of the iterator's objects through the loop
 have stat:∀ {H':Hp},(∀ b ∈ fp,H' b = none) -> ∀ b ∈ fp,FpOk X pins H' b:=fun hn b hb=>⟨hn b hb,(f2 b hb).2⟩
 refine codeAny_forLoop_any (fun n s'=>∃ i σ' H',Inv X pins σ' H' s' /\ tn i s'.heap /\ (∀ b ∈ fp,H' b = none) /\ W i n σ' H') ?_ m0 ⟨0,σ,H2,I2,st2,fun b hb=>(f2 b hb).1,w0⟩
 rintro n s3 ⟨i,σ3,H3,I3,st3,fr3,w3⟩
 rcases turn i n σ3 H3 w3 with ⟨stop,qn⟩ | ⟨go,N,hN,step⟩
 ·refine wpAny_passesOwn hp (thn (T.done X rfl rfl rfl hc i pins s3 σ3 H3 X.xe I3 (stat fr3) st3 stop) fun r s4 ⟨hr,I4⟩=>?_)
  subst hr
  exact wpAny_execs_nil ⟨σ3,H3,I4,qn⟩
 ·refine wpAny_passesOwn hp (thn (T.item X rfl rfl rfl hc i pins s3 σ3 H3 X.xe I3 (stat fr3) st3 go) fun r s4 ⟨u,hr,h4⟩=>?_)
  subst hr
  refine wpAny_passesOwn hp (thn h4 fun _ s5 ⟨x,H5,I5,r5,y5,st5,fr5⟩=>?_)
  have I5':=I5.pinned (stat fr5) (T.obj _ _ st5)
  refine wpAny_passesOwn hp (thn (hg _ s5 σ3 H5 x u _ I5' r5 (step x H5 y5)) fun _ s6 ⟨σ6,H6,I6,q6⟩=>?_)
  refine wpAny_passesOwn hp (thn (hb _ s6 σ6 H6 _ I6 q6) fun f s7 q7=>?_)
  have again:∀ {σ7:St} {H7:Hp},Inv X (pins ++ v3 fp s5.heap) σ7 H7 s7 -> N σ7 H7 -> ∃ m,m < n /\ ∃ i σ' H',Inv X pins σ' H' s7 /\ tn i s7.heap /\ (∀ b ∈ fp,H' b = none) /\ W i m σ' H':=fun {σ7 H7} I7 n7=>by
   obtain ⟨m',hm,w7⟩:=hN σ7 H7 n7
   refine ⟨m',hm,i + 1,σ7,H7,I7.unpinned,T.keep _ _ _ st5 fun b hb o e=>(I7.pin (b,o) (List.mem_append_right _ (List.mem_append_right _ (yy hb e)))).1,fun b hb=>?_,w7⟩
   obtain ⟨o,e,d⟩:=T.obj _ _ st5 b hb
   exact (I7.pin (b,o) (List.mem_append_right _ (List.mem_append_right _ (yy hb e)))).2.1
  cases f with
  | next=>obtain ⟨σ7,H7,I7,n7⟩:=q7; exact again I7 n7
  | cont=>obtain ⟨σ7,H7,I7,n7⟩:=q7; exact again I7 n7
  | brk=>obtain ⟨σ7,H7,I7,q7⟩:=q7; exact ⟨σ7,H7,I7.unpinned,q7⟩
  | ret v=>obtain ⟨x7,σ7,H7,I7,r7,q7⟩:=q7; exact ⟨x7,σ7,H7,I7.unpinned,r7,q7⟩
end
theorem Y1 {K:FG7} {a:Addr} {xs:List V} {g:TG} {tb:TS} {D:Ends} {σ:St} {H:Hp} (Pv:Nat -> St -> Hp -> Prop) (h0:Pv 0 σ H) (hl:∀ i σ H,i <= xs.length -> Pv i σ H -> SqL K H a xs)
  (hs:∀ i x σ H,xs[i]? = some x -> Pv i σ H -> g x σ H fun σ2 H2=>tb { D with nx:=Pv (i + 1),ct:=Pv (i + 1),bk:=D.nx } σ2 H2) (hd:∀ σ H,Pv xs.length σ H -> D.nx σ H) :
  ∃ W:Nat -> Nat -> St -> Hp -> Prop,(∃ m,W 0 m σ H) /\ ∀ i m σ H,W i m σ H →
   ((Itl K a).stop i H /\ D.nx σ H) \/ ((Itl K a).go i H /\ ∃ N:St -> Hp -> Prop,(∀ σ' H',N σ' H' -> ∃ m',m' < m /\ W (i + 1) m' σ' H') /\ ∀ x H',(Itl K a).yld i H x H' -> g x σ H' fun σ2 H2=>tb { D with nx:=N,ct:=N,bk:=D.nx } σ2 H2):=by
 refine ⟨fun i m σ H=>m = xs.length - i /\ i <= xs.length /\ Pv i σ H,⟨xs.length,by simp,Nat.zero_le _,h0⟩,?_⟩
 rintro i m σ H ⟨rfl,hi,p⟩
 have q:=hl i σ H hi p
 by_cases hlt:i < xs.length
 ·refine .inr ⟨⟨xs,xs[i],q,by simp [hlt]⟩,Pv (i + 1),fun σ' H' p'=>⟨xs.length - (i + 1),by omega,rfl,hlt,p'⟩,fun x H' y=>?_⟩
  obtain ⟨e,y⟩:=y
  subst e
  exact hs i x σ _ (y xs q) p
 ·have e:i = xs.length:=by omega
  subst e
  exact .inl ⟨⟨xs,q,Nat.le_refl _⟩,hd σ H p⟩
theorem tG {K:FG7} {a:Addr} {xs:List V} {g:TG} {tb:TS} {D:Ends} {σ:St} {H:Hp} (Pv:Nat -> St -> Hp -> Prop) (h0:Pv 0 σ H) (hl:∀ i σ H,i <= xs.length -> Pv i σ H -> SqT K H a xs)
  (hs:∀ i x σ H,xs[i]? = some x -> Pv i σ H -> g x σ H fun σ2 H2=>tb { D with nx:=Pv (i + 1),ct:=Pv (i + 1),bk:=D.nx } σ2 H2) (hd:∀ σ H,Pv xs.length σ H -> D.nx σ H) :
  ∃ W:Nat -> Nat -> St -> Hp -> Prop,(∃ m,W 0 m σ H) /\ ∀ i m σ H,W i m σ H →
   ((Itt K a).stop i H /\ D.nx σ H) \/ ((Itt K a).go i H /\ ∃ N:St -> Hp -> Prop,(∀ σ' H',N σ' H' -> ∃ m',m' < m /\ W (i + 1) m' σ' H') /\ ∀ x H',(Itt K a).yld i H x H' -> g x σ H' fun σ2 H2=>tb { D with nx:=N,ct:=N,bk:=D.nx } σ2 H2):=by
 refine ⟨fun i m σ H=>m = xs.length - i /\ i <= xs.length /\ Pv i σ H,⟨xs.length,by simp,Nat.zero_le _,h0⟩,?_⟩
 rintro i m σ H ⟨rfl,hi,p⟩
 have q:=hl i σ H hi p
 by_cases hlt:i < xs.length
 ·refine .inr ⟨⟨xs,xs[i],q,by simp [hlt]⟩,Pv (i + 1),fun σ' H' p'=>⟨xs.length - (i + 1),by omega,rfl,hlt,p'⟩,fun x H' y=>?_⟩
  obtain ⟨e,y⟩:=y
  subst e
  exact hs i x σ _ (y xs q) p
 ·have e:i = xs.length:=by omega
  subst e
  exact .inl ⟨⟨xs,q,Nat.le_refl _⟩,hd σ H p⟩
theorem xC {lo:Int} {n:Nat} {g:TG} {tb:TS} {D:Ends} {σ:St} {H:Hp} (Pv:Nat -> St -> Hp -> Prop) (h0:Pv 0 σ H)
  (hs:∀ i σ H,i < n -> Pv i σ H -> g (.int (lo + i)) σ H fun σ2 H2=>tb { D with nx:=Pv (i + 1),ct:=Pv (i + 1),bk:=D.nx } σ2 H2) (hd:∀ σ H,Pv n σ H -> D.nx σ H) :
  ∃ W:Nat -> Nat -> St -> Hp -> Prop,(∃ m,W 0 m σ H) /\ ∀ i m σ H,W i m σ H →
   ((Itr lo n).stop i H /\ D.nx σ H) \/ ((Itr lo n).go i H /\ ∃ N:St -> Hp -> Prop,(∀ σ' H',N σ' H' -> ∃ m',m' < m /\ W (i + 1) m' σ' H') /\ ∀ x H',(Itr lo n).yld i H x H' -> g x σ H' fun σ2 H2=>tb { D with nx:=N,ct:=N,bk:=D.nx } σ2 H2):=by
 refine ⟨fun i m σ H=>m = n - i /\ i <= n /\ Pv i σ H,⟨n,by simp,Nat.zero_le _,h0⟩,?_⟩
 rintro i m σ H ⟨rfl,hi,p⟩
 by_cases hlt:i < n
 ·refine .inr ⟨hlt,Pv (i + 1),fun σ' H' p'=>⟨n - (i + 1),by omega,rfl,hlt,p'⟩,fun x H' y=>?_⟩
  obtain ⟨e,y⟩:=y
  subst e y
  exact hs i σ _ hlt p
 ·have e:i = n:=by omega
  subst e
  exact .inl ⟨Nat.le_refl _,hd σ H p⟩
end L2
namespace L2
open PySem PySem.Spec PyProof.Rows
abbrev R2:=V -> V -> Hp -> VK -> Prop
def OpR (X:Cx) (f:Value -> Value -> Sem Value) (r:R2):Prop :=
 ∀ (pins:List (Addr × Obj)) (s:Shared) (σ:St) (H:Hp) (x y:V) (v u:Value) (Q:VK),Inv X pins σ H s -> RelV x v -> RelV y u -> r x y H Q →
  wpAny (model X.prog X.w) X.A (f v u) (EP X pins σ Q) X.xe s
def UnR (X:Cx) (f:Value -> Sem Value) (r:V -> Hp -> VK -> Prop):Prop :=
 ∀ (pins:List (Addr × Obj)) (s:Shared) (σ:St) (H:Hp) (x:V) (v:Value) (Q:VK),Inv X pins σ H s -> RelV x v -> r x H Q →
  wpAny (model X.prog X.w) X.A (f v) (EP X pins σ Q) X.xe s
def xw (X:Cx) (f:Value) (r:List V -> Hp -> VK -> Prop):Prop :=
 ∀ (pins:List (Addr × Obj)) (s:Shared) (σ:St) (H:Hp) (xs:List V) (us:List Value) (Q:VK),Inv X pins σ H s -> Vals xs us -> r xs H Q →
  wpAny (model X.prog X.w) X.A (call f us) (EP X pins σ Q) X.xe s
def tOp (r:R2) (ta tb:TE):TE:=fun σ H Q=>ta σ H fun x H1=>tb σ H1 fun y H2=>r x y H2 Q
def tUn (r:V -> Hp -> VK -> Prop) (ta:TE):TE:=fun σ H Q=>ta σ H fun x H1=>r x H1 Q
def rI (C:Int -> Int -> Prop) (g:Int -> Int -> V):R2:=fun x y H Q=>∃ i j,x = .int i /\ y = .int j /\ C i j /\ Q (g i j) H
def rI0 (g:Int -> Int -> V):R2:=fun x y H Q=>∃ i j,x = .int i /\ y = .int j /\ Q (g i j) H
def rU (g:Int -> V):V -> Hp -> VK -> Prop:=fun x H Q=>∃ i,x = .int i /\ Q (g i) H
section
variable {X:Cx} {a b c:Expr} {ta tb tc:TE} {pos:Pos}
theorem binT (ha:PE X a ta) (hb:PE X b tb) {pins:List (Addr × Obj)} {s:Shared} {σ:St} {H:Hp} {R:V -> V -> Hp -> Prop} (I:Inv X pins σ H s)
  (h:ta σ H fun x H1=>tb σ H1 fun y H2=>R x y H2) {Q:VS7} {f:Value -> Value -> Sem Value}
  (hf:∀ v u s2 x y H2,Inv X pins σ H2 s2 -> RelV x v -> RelV y u -> R x y H2 -> wpAny (model X.prog X.w) X.A (f v u) Q X.xe s2) :
  wpAny (model X.prog X.w) X.A (eval a X.env) (fun v s₁=>wpAny (model X.prog X.w) X.A (eval b X.env) (fun u s₂=>wpAny (model X.prog X.w) X.A (f v u) Q X.xe s₂) X.xe s₁) X.xe s:=by
 refine thn (ha pins s σ H _ I h) fun v s1 ⟨x,H1,I1,r1,q1⟩=>?_
 refine thn (hb pins s1 σ H1 _ I1 q1) fun u s2 ⟨y,H2,I2,r2,q2⟩=>?_
 exact hf v u s2 x y H2 I2 r1 r2 q2
theorem zr {op:Operator} {r:R2} (ho:OpR X (binaryOp op) r) (ha:PE X a ta) (hb:PE X b tb):PE X (.BinOp a op b pos) (tOp r ta tb):=by
 intro pins s σ H Q I h
 exact wpAny_BinOp (binT ha hb I h fun v u s2 x y H2 I2 rx ry q=>ho pins s2 σ H2 x y v u Q I2 rx ry q)
theorem Vg {op:UnaryOp} {r:V -> Hp -> VK -> Prop} (ho:UnR X (unaryOp op) r) (ha:PE X a ta):PE X (.UnaryOp op a pos) (tUn r ta):=by
 intro pins s σ H Q I h
 exact UnaryOp_ (thn (ha pins s σ H _ I h) fun v s1 ⟨x,H1,I1,r1,q1⟩=>ho pins s1 σ H1 x v Q I1 r1 q1)
theorem opI {f:Value -> Value -> Sem Value} {C:Int -> Int -> Prop} {g:Int -> Int -> Int}
  (rule:∀ (i j:Int) (t u:Tok) (s:Shared) (Q:VS7) (E:VS7),C i j -> Q (.int (g i j) s.toks) { s with toks:=s.toks + 1 } -> wpAny (model X.prog X.w) X.A (f (.int i t) (.int j u)) Q E s) :
  OpR X f (rI C fun i j=>.int (g i j)):=by
 intro pins s σ H x y v u Q I rx ry h
 obtain ⟨i,j,rfl,rfl,hc,q⟩:=h
 obtain ⟨t,rfl⟩:=rx
 obtain ⟨t',rfl⟩:=ry
 exact rule i j t t' s _ _ hc ⟨.int (g i j),H,I.tok _,⟨_,rfl⟩,q⟩
theorem opI0 {f:Value -> Value -> Sem Value} {g:Int -> Int -> Int}
  (rule:∀ (i j:Int) (t u:Tok) (s:Shared) (Q:VS7) (E:VS7),Q (.int (g i j) s.toks) { s with toks:=s.toks + 1 } -> wpAny (model X.prog X.w) X.A (f (.int i t) (.int j u)) Q E s) :
  OpR X f (rI0 fun i j=>.int (g i j)):=by
 intro pins s σ H x y v u Q I rx ry h
 obtain ⟨i,j,rfl,rfl,q⟩:=h
 obtain ⟨t,rfl⟩:=rx
 obtain ⟨t',rfl⟩:=ry
 exact rule i j t t' s _ _ ⟨.int (g i j),H,I.tok _,⟨_,rfl⟩,q⟩
theorem opB0 {f:Value -> Value -> Sem Value} {g:Int -> Int -> Bool}
  (rule:∀ (i j:Int) (t u:Tok) (s:Shared) (Q:VS7) (E:VS7),Q (.bool (g i j)) s -> wpAny (model X.prog X.w) X.A (f (.int i t) (.int j u)) Q E s) :
  OpR X f (rI0 fun i j=>.bl (g i j)):=by
 intro pins s σ H x y v u Q I rx ry h
 obtain ⟨i,j,rfl,rfl,q⟩:=h
 obtain ⟨t,rfl⟩:=rx
 obtain ⟨t',rfl⟩:=ry
 exact rule i j t t' s _ _ ⟨.bl (g i j),H,I,rfl,q⟩
def CPow (i j:Int):Prop:=0 <= j /\ j <= 1000000 /\ i.natAbs < 2 ^ 64
theorem jV (k:Nat):(0:Int) <= 2 ^ k:=by
 rw [two_pow_cast]
 exact Int.natCast_nonneg _
theorem yn:OpR X (binaryOp .Add) (rI0 fun i j=>.int (i + j)):=opI0 fun _ _ _ _ _ _ _ q=>add_int q
theorem xm:OpR X (binaryOp .Sub) (rI0 fun i j=>.int (i - j)):=opI0 fun _ _ _ _ _ _ _ q=>sub_int q
theorem vC:OpR X (binaryOp .Mod) (rI (fun _ j=>0 < j) fun i j=>.int (i % j)):=opI fun i j _ _ _ _ _ hc q=>by
 have h1:(0:Int) < j:=hc
 exact mod_int' (by omega) (by rw [Int.fmod_eq_emod_of_nonneg i (by omega)]; exact q)
theorem XR:OpR X (binaryOp .Pow) (rI CPow fun i j=>.int (i ^ j.toNat)):=opI fun _ _ _ _ _ _ _ hc q=>pow_int_small hc.1 hc.2.1 hc.2.2 q
theorem yB:OpR X (binaryOp .LShift) (rI CPow fun i j=>.int (i * 2 ^ j.toNat)):=opI fun _ _ _ _ _ _ _ hc q=>lshift_int_small hc.1 hc.2.1 hc.2.2 q
theorem q9:OpR X (binaryOp .RShift) (rI (fun _ j=>0 <= j) fun i j=>.int (i / 2 ^ j.toNat)):=opI fun i j _ _ _ _ _ hc q =>
 rshift_int hc (by rw [Int.fdiv_eq_ediv_of_nonneg i (jV _)]; exact q)
theorem ZB:OpR X (binaryOp .BitAnd) (rI0 fun i j=>.int (Builtin.bitAnd i j)):=opI0 fun _ _ _ _ _ _ _ q=>and_int q
theorem Ug:OpR X (binaryOp .BitOr) (rI0 fun i j=>.int (Builtin.bitOr i j)):=opI0 fun _ _ _ _ _ _ _ q=>or_int q
theorem ja:OpR X (binaryOp .BitXor) (rI0 fun i j=>.int (Builtin.bitXor i j)):=opI0 fun _ _ _ _ _ _ _ q=>xor_int q
theorem unI {f:Value -> Sem Value} {g:Int -> Int}
  (rule:∀ (i:Int) (t:Tok) (s:Shared) (Q:VS7) (E:VS7),Q (.int (g i) s.toks) { s with toks:=s.toks + 1 } -> wpAny (model X.prog X.w) X.A (f (.int i t)) Q E s) :
  UnR X f (rU fun i=>.int (g i)):=by
 intro pins s σ H x v Q I rx h
 obtain ⟨i,rfl,q⟩:=h
 obtain ⟨t,rfl⟩:=rx
 exact rule i t s _ _ ⟨.int (g i),H,I.tok _,⟨_,rfl⟩,q⟩
theorem XS:UnR X (unaryOp .USub) (rU fun i=>.int (-i)):=unI fun _ _ _ _ _ q=>neg_int q
end
def scal:V -> V -> Bool
 | .non,.non=>true | .non,.int _=>true | .int _,.non=>true | .non,.bl _=>true | .bl _,.non=>true | .non,.str _=>true | .str _,.non=>true
 | .int _,.int _=>true | .bl _,.bl _=>true | .str _,.str _=>true | .byt _,.byt _=>true
 | .int _,.str _=>true | .str _,.int _=>true | .bl _,.str _=>true | .str _,.bl _=>true
 | _,_=>false
def rEq:R2:=fun x y H Q=>scal x y = true /\ Q (.bl (decide (x = y))) H
def rNe:R2:=fun x y H Q=>scal x y = true /\ Q (.bl (!decide (x = y))) H
theorem ZC {i j:Int}:decide (V.int i = V.int j) = (i == j):=by
 rw [Bool.eq_iff_iff]
 simp
theorem XT {i j:Bool}:decide (V.bl i = V.bl j) = (i == j):=by
 rw [Bool.eq_iff_iff]
 simp
theorem ZD {i j:Str}:decide (V.str i = V.str j) = (i == j):=by
 rw [Bool.eq_iff_iff]
 simp
theorem ZE {i j:Array UInt8}:decide (V.byt i = V.byt j) = (i.toList == j.toList):=by
 rw [Bool.eq_iff_iff]
 cases i
 cases j
 simp
section
variable {X:Cx} {a b c:Expr} {ta tb tc:TE} {pos:Pos}
theorem zN {pins:List (Addr × Obj)} {σ:St} {H:Hp} {s:Shared} {Q:VK} {k k':Bool} (I:Inv X pins σ H s) (q:Q (.bl k) H) (e:k = k'):EP X pins σ Q (.bool k') s:=by
 subst e
 exact ⟨.bl k,H,I,rfl,q⟩
theorem vn:OpR X (compareOp .Eq) rEq:=by
 intro pins s σ H x y v u Q I rx ry h
 obtain ⟨hs,q⟩:=h
 cases x with
 | non =>
  cases rx
  cases y with
  | non=>cases ry; exact PySem.EqNone.eq_none_none (zN I q (by simp))
  | bl j=>cases ry; exact PySem.EqNone.eq_none_bool (zN I q (by simp))
  | int j=>obtain ⟨t',rfl⟩:=ry; exact PySem.EqNone.eq_none_int (zN I q (by simp))
  | str j=>obtain ⟨t',rfl⟩:=ry; exact PySem.EqNone.eq_none_str (zN I q (by simp))
  | _=>exact absurd (show false = true from hs) Bool.false_ne_true
 | bl i =>
  cases rx
  cases y with
  | non=>cases ry; exact PySem.EqNone.eq_bool_none (zN I q (by simp))
  | bl j=>cases ry; exact eq_bool (zN I q XT)
  | str j=>obtain ⟨t',rfl⟩:=ry; exact PySem.EqMixed.eq_bool_str (zN I q (by simp))
  | _=>exact absurd (show false = true from hs) Bool.false_ne_true
 | int i =>
  obtain ⟨t,rfl⟩:=rx
  cases y with
  | non=>cases ry; exact PySem.EqNone.eq_int_none (zN I q (by simp))
  | int j=>obtain ⟨t',rfl⟩:=ry; exact eq_int (zN I q ZC)
  | str j=>obtain ⟨t',rfl⟩:=ry; exact PySem.EqMixed.eq_int_str (zN I q (by simp))
  | _=>exact absurd (show false = true from hs) Bool.false_ne_true
 | str i =>
  obtain ⟨t,rfl⟩:=rx
  cases y with
  | non=>cases ry; exact PySem.EqNone.eq_str_none (zN I q (by simp))
  | bl j=>cases ry; exact PySem.EqMixed.eq_str_bool (zN I q (by simp))
  | int j=>obtain ⟨t',rfl⟩:=ry; exact PySem.EqMixed.eq_str_int (zN I q (by simp))
  | str j=>obtain ⟨t',rfl⟩:=ry; exact eq_str (zN I q ZD)
  | _=>exact absurd (show false = true from hs) Bool.false_ne_true
 | byt i =>
  obtain ⟨t,rfl⟩:=rx
  cases y with
  | byt j=>obtain ⟨t',rfl⟩:=ry; exact PySem.W.eq_bytes (zN I q ZE)
  | _=>exact absurd (show false = true from hs) Bool.false_ne_true
 | _=>cases y <;> exact absurd (show false = true from hs) Bool.false_ne_true
theorem rY:OpR X (compareOp .NotEq) rNe:=by
 intro pins s σ H x y v u Q I rx ry h
 obtain ⟨hs,q⟩:=h
 cases x with
 | non =>
  cases rx
  cases y with
  | non=>cases ry; exact PySem.EqNone.ne_none_none (zN I q (by simp))
  | bl j=>cases ry; exact PySem.EqNone.ne_none_bool (zN I q (by simp))
  | int j=>obtain ⟨t',rfl⟩:=ry; exact PySem.EqNone.ne_none_int (zN I q (by simp))
  | str j=>obtain ⟨t',rfl⟩:=ry; exact PySem.EqNone.ne_none_str (zN I q (by simp))
  | _=>exact absurd (show false = true from hs) Bool.false_ne_true
 | bl i =>
  cases rx
  cases y with
  | non=>cases ry; exact PySem.EqNone.ne_bool_none (zN I q (by simp))
  | bl j=>cases ry; exact ne_bool (zN I q (congrArg not XT))
  | str j=>obtain ⟨t',rfl⟩:=ry; exact PySem.EqMixed.ne_bool_str (zN I q (by simp))
  | _=>exact absurd (show false = true from hs) Bool.false_ne_true
 | int i =>
  obtain ⟨t,rfl⟩:=rx
  cases y with
  | non=>cases ry; exact PySem.EqNone.ne_int_none (zN I q (by simp))
  | int j=>obtain ⟨t',rfl⟩:=ry; exact ne_int (zN I q (congrArg not ZC))
  | str j=>obtain ⟨t',rfl⟩:=ry; exact PySem.EqMixed.ne_int_str (zN I q (by simp))
  | _=>exact absurd (show false = true from hs) Bool.false_ne_true
 | str i =>
  obtain ⟨t,rfl⟩:=rx
  cases y with
  | non=>cases ry; exact PySem.EqNone.ne_str_none (zN I q (by simp))
  | bl j=>cases ry; exact PySem.EqMixed.ne_str_bool (zN I q (by simp))
  | int j=>obtain ⟨t',rfl⟩:=ry; exact PySem.EqMixed.ne_str_int (zN I q (by simp))
  | str j=>obtain ⟨t',rfl⟩:=ry; exact ne_str (zN I q (congrArg not ZD))
  | _=>exact absurd (show false = true from hs) Bool.false_ne_true
 | byt i =>
  obtain ⟨t,rfl⟩:=rx
  cases y with
  | byt j=>obtain ⟨t',rfl⟩:=ry; exact PySem.W.ne_bytes (zN I q (congrArg not ZE))
  | _=>exact absurd (show false = true from hs) Bool.false_ne_true
 | _=>cases y <;> exact absurd (show false = true from hs) Bool.false_ne_true
theorem Y2:OpR X (compareOp .Lt) (rI0 fun i j=>.bl (decide (i < j))):=opB0 fun _ _ _ _ _ _ _ q=>lt_int q
theorem ZF:OpR X (compareOp .LtE) (rI0 fun i j=>.bl (decide (i <= j))):=opB0 fun _ _ _ _ _ _ _ q=>le_int q
theorem Wh:OpR X (compareOp .Gt) (rI0 fun i j=>.bl (decide (j < i))):=opB0 fun _ _ _ _ _ _ _ q=>gt_int q
theorem zH (b:Expr) {op:CmpOp} (h:op ≠ .In:=by decide) (h2:op ≠ .NotIn:=by decide):behindInMarks op b = false:=by
 have e1:(op == CmpOp.In) = false:=by cases op <;> first | rfl | exact absurd rfl h
 have e2:(op == CmpOp.NotIn) = false:=by cases op <;> first | rfl | exact absurd rfl h2
 cases b <;> simp [behindInMarks,e1,e2]
theorem xy {op:CmpOp} {r:R2} (ho:OpR X (compareOp op) r) (ha:PE X a ta) (hb:PE X b tb) (hm:behindInMarks op b = false):PE X (.Compare a [op] [b] pos) (tOp r ta tb):=by
 intro pins s σ H Q I h
 exact wpAny_Compare1 (binT ha hb I h fun v u s2 x y H2 I2 rx ry q=>ho pins s2 σ H2 x y v u Q I2 rx ry q) hm
def Vh (t:TE):TT:=fun σ H Q=>t σ H fun x H'=>∃ k,x = .bl k /\ Q k H'
theorem zJ {op:CmpOp} {r:R2} (ho:OpR X (compareOp op) r) (ha:PE X a ta) (hb:PE X b tb) (hm:behindInMarks op b = false):PT X (.Compare a [op] [b] pos) (Vh (tOp r ta tb)):=by
 intro pins s σ H Q I h
 refine wpAny_isTrue_Compare1 (thn (ha pins s σ H _ I h) fun v s1 ⟨x,H1,I1,r1,q1⟩=>thn (hb pins s1 σ H1 _ I1 q1) fun u s2 ⟨y,H2,I2,r2,q2⟩ =>
  thn (ho pins s2 σ H2 x y v u _ I2 r1 r2 q2) fun c s3 ⟨z,H3,I3,r3,k,e,q3⟩=>?_) hm
 subst e
 cases r3
 exact wpAny_truthy_bool ⟨H3,I3,q3⟩
def XU (r r':R2) (ta tb tc:TE):TE:=fun σ H Q=>ta σ H fun x H1=>tb σ H1 fun y H2=>r x y H2 fun z H3=>∃ k,z = .bl k ∧
 (if k = true then tc σ H3 fun w' H4=>r' y w' H4 Q else Q (.bl false) H3)
theorem Y3 {op op':CmpOp} {r r':R2} (ho:OpR X (compareOp op) r) (ho':OpR X (compareOp op') r') (ha:PE X a ta) (hb:PE X b tb) (hc:PE X c tc)
  (hm:lastMarks [op,op'] [b,c] = false:=by with_unfolding_all rfl):PE X (.Compare a [op,op'] [b,c] pos) (XU r r' ta tb tc):=by
 intro pins s σ H Q I h
 refine Compare_chain (thn (ha pins s σ H _ I h) fun v s1 ⟨x,H1,I1,r1,q1⟩=>chain_link (thn (hb pins s1 σ H1 _ I1 q1) fun u s2 ⟨y,H2,I2,r2,q2⟩ =>
  thn (ho pins s2 σ H2 x y v u _ I2 r1 r2 q2) fun d s3 ⟨z,H3,I3,r3,k,e,q3⟩=>?_)) hm
 subst e
 cases r3
 refine wpAny_truthy_bool ?_
 cases k with
 | false=>exact ite_ff ⟨.bl false,H3,I3,rfl,q3⟩
 | true=>exact ite_tt (chain_last (thn (hc pins s3 σ H3 _ I3 q3) fun w' s4 ⟨z',H4,I4,r4,q4⟩=>ho' pins s4 σ H4 y z' u w' Q I4 r2 r4 q4))
theorem Y4 {op op':CmpOp} {r r':R2} (ho:OpR X (compareOp op) r) (ho':OpR X (compareOp op') r') (ha:PE X a ta) (hb:PE X b tb) (hc:PE X c tc)
  (hm:lastMarks [op,op'] [b,c] = false:=by with_unfolding_all rfl):PT X (.Compare a [op,op'] [b,c] pos) (Vh (XU r r' ta tb tc)):=by
 intro pins s σ H Q I h
 refine isTrue_chain (thn (ha pins s σ H _ I h) fun v s1 ⟨x,H1,I1,r1,q1⟩=>test_link (thn (hb pins s1 σ H1 _ I1 q1) fun u s2 ⟨y,H2,I2,r2,q2⟩ =>
  thn (ho pins s2 σ H2 x y v u _ I2 r1 r2 q2) fun d s3 ⟨z,H3,I3,r3,k,e,q3⟩=>?_)) hm
 subst e
 cases r3
 refine wpAny_truthy_bool ?_
 cases k with
 | false =>
  obtain ⟨k',e',q'⟩:=q3
  cases e'
  exact ite_ff ⟨H3,I3,q'⟩
 | true =>
  refine ite_tt (test_last (thn (hc pins s3 σ H3 _ I3 q3) fun w' s4 ⟨z',H4,I4,r4,q4⟩=>thn (ho' pins s4 σ H4 y z' u w' _ I4 r2 r4 q4) fun d' s5 ⟨z2,H5,I5,r5,k2,e2,q5⟩=>?_))
  subst e2
  cases r5
  exact wpAny_truthy_bool ⟨H5,I5,q5⟩
theorem jb:(sizeLine:Nat) < 2 ^ 63:=by rw [sizeLine_eq]; decide
theorem wM {x:V} {us:List Value} (r:Vals [x] us):∃ u,us = [u] /\ RelV x u:=by
 cases r with
 | cons r1 r2=>cases r2; exact ⟨_,rfl,r1⟩
theorem Y5 {x y:V} {us:List Value} (r:Vals [x,y] us):∃ u w',us = [u,w'] /\ RelV x u /\ RelV y w':=by
 cases r with
 | cons r1 r2 =>
  cases r2 with
  | cons r3 r4=>cases r4; exact ⟨_,_,rfl,r1,r3⟩
theorem Y6:xw X (.builtin "abs") (fun xs H Q=>∃ i,xs = [.int i] /\ Q (.int (if i < 0 then -i else i)) H):=by
 intro pins s σ H xs us Q I r h
 obtain ⟨i,rfl,q⟩:=h
 obtain ⟨u,rfl,t,rfl⟩:=wM r
 exact call_abs_int fun u tk=>⟨.int (if i < 0 then -i else i),H,I.tok _,⟨_,rfl⟩,q⟩
theorem su (hc:X.calm = true):xw X (.builtin "max") (fun xs H Q=>∃ i j,xs = [.int i,.int j] /\ Q (.int (if j > i then j else i)) H):=by
 intro pins s σ H xs us Q I r h
 obtain ⟨i,j,rfl,q⟩:=h
 obtain ⟨u,w',rfl,⟨t,rfl⟩,⟨t',rfl⟩⟩:=Y5 r
 refine max_two_ints (I.ok.hd hc) fun h' tk k=>⟨_,H,I.kept k,?_,q⟩
 by_cases hj:j > i
 ·rw [if_pos hj,if_pos hj]; exact ⟨_,rfl⟩
 ·rw [if_neg hj,if_neg hj]; exact ⟨_,rfl⟩
theorem ZG (hc:X.calm = true):xw X (.builtin "min") (fun xs H Q=>∃ i j,xs = [.int i,.int j] /\ Q (.int (if j < i then j else i)) H):=by
 intro pins s σ H xs us Q I r h
 obtain ⟨i,j,rfl,q⟩:=h
 obtain ⟨u,w',rfl,⟨t,rfl⟩,⟨t',rfl⟩⟩:=Y5 r
 refine min_two_ints (I.ok.hd hc) fun h' tk k=>⟨_,H,I.kept k,?_,q⟩
 by_cases hj:j < i
 ·rw [if_pos hj,if_pos hj]; exact ⟨_,rfl⟩
 ·rw [if_neg hj,if_neg hj]; exact ⟨_,rfl⟩
end
end L2
namespace L2
open PySem PySem.Spec PyProof.Rows
structure ObjM (h:Heap) (x dx C:Addr) (mA:Str -> Option Value):Prop where
 obj:h.get? x = some (PySem.W.instObj C dx)
 ns:h.Ns1 dx mA
 ne:dx ≠ x
theorem ZH {h:Heap} {dx:Addr} {mA:Str -> Option Value} (n:h.Ns1 dx mA):∃ od,h.get? dx = some od /\ ∀ name,PySem.W.lookIn name od = some (mA name):=by
 obtain ⟨o,es,ep,ho,hd,hk,_,hm⟩:=n
 refine ⟨o,ho,fun name=>?_⟩
 have e:=hm name
 unfold nsFind findBy at e
 rw [← Array.find?_toList] at e
 unfold PySem.W.lookIn
 rw [hd]
 dsimp only
 split
 ·rename_i y q
  rw [q] at e
  exact congrArg some e
 ·rename_i q
  rw [q] at e
  have a:es.toList.any (·.refKey) = false:=by
   rw [List.any_eq_false]
   intro y hy
   obtain ⟨z,t,hkey⟩:=hk y (Array.mem_toList_iff.mp hy)
   simp [DictEntry.refKey,hkey]
  have a':¬ es.toList.any (·.refKey) = true:=by rw [a]; exact Bool.false_ne_true
  rw [if_neg a']
  exact congrArg some e
theorem ObjM.look {h:Heap} {x dx C:Addr} {mA:Str -> Option Value} (I:ObjM h x dx C mA):∃ od,PySem.W.InstAt h x (PySem.W.instObj C dx) C (some od) /\ ∀ name,PySem.W.lookIn name od = some (mA name) :=
 let ⟨od,ho,hl⟩:=ZH I.ns
 ⟨od,⟨I.obj,rfl,rfl,ho⟩,hl⟩
theorem RelO.some_of {v:V} {o:Option Value} (r:RelO (some v) o):∃ u,o = some u /\ RelV v u:=by
 cases o with
 | none=>exact (show False from r).elim
 | some u=>exact ⟨u,rfl,r⟩
section
variable {P:Program} {w:World} {H H':Hp} {h h':Heap} {a C dx:Addr} {fs fs':List (Str × V)}
theorem Wi (hok:HOk P w H h) (e:H a = some (.ins C dx fs)):∃ mA,ObjM h a dx C mA /\ (∀ f,RelO (fs.lookup f) (mA f)) /\ PySem.Within mA (fs.map (·.1)) /\ fs.length <= 1000 /\ H dx = some (.own a):=by
 obtain ⟨d,z,ne,ob,mA,n,r,q⟩:=(show zV P w H h a (.ins C dx fs) from hok a _ e)
 exact ⟨mA,⟨ob,n,ne⟩,r,q,z,d⟩
end
structure Cls (K:FG7) (C:Addr):Prop where
 pg:PySem.W.plainGet K C Str.empty = true
 hd:PySem.W.hasDictIn K C = true
 po:PySem.W.plainOver K C = true
 sa:PySem.W.findIn K (.ref C) "__setattr__" = some (some (.builtin "object.__setattr__"))
theorem Cls.get {K:FG7} {C:Addr} (c:Cls K C) (f:Str):PySem.W.plainGet K C f = true:=c.pg
section
variable {X:Cx} {pins:List (Addr × Obj)} {σ:St} {H:Hp} {s:Shared} {A:Around} {E:VS7} {Q:VS7} {c:Value} {b:Bool}
inductive TyOf (K:FG7) (H:Hp):V -> Value -> Prop where
 | non:TyOf K H .non (.type "NoneType")
 | bl (x:Bool):TyOf K H (.bl x) (.type "bool")
 | int (i:Int):TyOf K H (.int i) (.type "int")
 | str (x:Str):TyOf K H (.str x) (.type "str")
 | flt (x:UInt64):TyOf K H (.flt x) (.type "float")
 | lst {a:Addr} {xs:List V} (e:H a = some (.lst xs)):TyOf K H (.ref a) (.type "list")
 | frz {a:Addr} {o:Obj} {xs:List V} (e:H a = some (.frz o (.lst xs))):TyOf K H (.ref a) (.type "list")
 | tup {a:Addr} {xs:List V} (e:H a = some (.tup xs)):TyOf K H (.ref a) (.type "tuple")
 | dK {a:Addr} {kvs:List (Key × V)} (e:H a = some (.dK kvs)):TyOf K H (.ref a) (.type "dict")
 | dT {a:Addr} {kvs:List (List Key × V)} (e:H a = some (.dT kvs)):TyOf K H (.ref a) (.type "dict")
 | ins {a C dx:Addr} {fs:List (Str × V)} (e:H a = some (.ins C dx fs)) (cl:Cls K C) (ha:PySem.W.findIn K (.ref C) "__class__" = some (some (.builtin "object.__class__")))
   (hn:PySem.W.specialIn K (.builtin "object.__class__") "__get__" = some (some (.builtin "getset_descriptor.__get__"))) (htk:PySem.W.takesIn K (.builtin "object.__class__") = some true)
   (hm:PySem.W.mroIn K C (.type "object") = some true):TyOf K H (.ref a) (.ref C)
theorem wn {x:V} {u t:Value} (I:Inv X pins σ H s) (rx:RelV x u) (ty:TyOf X.K H x t) (e:PySem.W.kitOne X.K t c = some b) (h:∀ tk,Q (.bool b) { s with toks:=tk }) :
  wpAny (model X.prog X.w) A (call (.builtin "isinstance") [u,c]) Q E s:=by
 cases ty with
 | non=>cases (show u = Value.none from rx); exact PySem.W.kia_one PySem.W.kitx_none I.kIn True.intro e (fun z=>nomatch z) h
 | bl y=>cases (show u = Value.bool y from rx); exact PySem.W.kia_one PySem.W.kitx_bool I.kIn True.intro e (fun z=>nomatch z) h
 | int i=>obtain ⟨t,q⟩:=(show ∃ t,u = Value.int i t from rx); cases q; exact PySem.W.kia_one PySem.W.kitx_int I.kIn True.intro e (fun z=>nomatch z) h
 | str y=>obtain ⟨t,q⟩:=(show ∃ t,u = Value.str y t from rx); cases q; exact PySem.W.kia_one PySem.W.kitx_str I.kIn True.intro e (fun z=>nomatch z) h
 | flt y=>obtain ⟨t,q⟩:=(show ∃ t,u = Value.float y t from rx); cases q; exact PySem.W.kia_one PySem.W.kitx_float I.kIn True.intro e (fun z=>nomatch z) h
 | @lst a xs ea =>
  cases (show u = Value.ref a from rx)
  obtain ⟨_,_,n,_,h1⟩:=(show zV X.prog X.w H s.heap a (.lst xs) from I.hok a _ ea)
  exact PySem.W.kia_one PySem.W.kitx_list I.kIn ⟨_,h1,rfl⟩ e (fun z=>nomatch z) h
 | @frz a ob xs ea =>
  cases (show u = Value.ref a from rx)
  obtain ⟨_,_,_,n,_,h1⟩:=(show zV X.prog X.w H s.heap a (.frz ob (.lst xs)) from I.hok a _ ea)
  exact PySem.W.kia_one PySem.W.kitx_list I.kIn ⟨_,h1,rfl⟩ e (fun z=>nomatch z) h
 | @tup a xs ea =>
  cases (show u = Value.ref a from rx)
  obtain ⟨_,_,_,p⟩:=(show zV X.prog X.w H s.heap a (.tup xs) from I.hok a _ ea)
  obtain ⟨o,h1,h2,_⟩:=p
  exact PySem.W.kia_one PySem.W.kitx_tuple I.kIn ⟨o,h1,h2⟩ e (fun z=>nomatch z) h
 | @dK a kvs ea =>
  cases (show u = Value.ref a from rx)
  obtain ⟨_,_,vs,_,p⟩:=(show zV X.prog X.w H s.heap a (.dK kvs) from I.hok a _ ea)
  obtain ⟨o,es,ep,h1,h2,_⟩:=p
  exact PySem.W.kia_one PySem.W.kitx_dict I.kIn ⟨o,h1,h2.1⟩ e (fun z=>nomatch z) h
 | @dT a kvs ea =>
  cases (show u = Value.ref a from rx)
  obtain ⟨_,_,xs,_,o,es,ep,h1,h2,_⟩:=(show zV X.prog X.w H s.heap a (.dT kvs) from I.hok a _ ea)
  exact PySem.W.kia_one PySem.W.kitx_dict I.kIn ⟨o,h1,h2.1⟩ e (fun z=>nomatch z) h
 | @ins a C dx fs ea cl ha hn htk hm =>
  cases (show u = Value.ref a from rx)
  obtain ⟨mA,O,_⟩:=Wi I.hok ea
  obtain ⟨od,J,_⟩:=O.look
  exact PySem.W.kia_one (PySem.W.kitx_own (cl.get _) cl.hd ha hn htk hm) I.kIn J e (fun z=>nomatch z) h
end
end L2
namespace L2
open PySem PySem.Spec PyProof.Rows
structure Room (k:Nat) (A:Around):Prop where
 hd:A.handled = none
 dp:A.depth + 3 * k + 5 < recursionLimit
 un:A.units + 16 * k + 200 < cLine
 gd:A.guards = some []
theorem Room.mono {j k:Nat} {A:Around} (r:Room k A) (h:j <= k):Room j A:=⟨r.hd,by have:=r.dp; omega,by have:=r.un; omega,r.gd⟩
theorem Room.deeper {k:Nat} {A:Around} (r:Room (k + 1) A) (env:Env):Room k (A.deeper env) :=
 ⟨r.hd,by have:=r.dp; show A.depth + 1 + 3 * k + 5 < _; omega,by have:=r.un; show A.units + 3 + 16 * k + 200 < _; omega,r.gd⟩
theorem Room.depth {k:Nat} {A:Around} (r:Room k A):A.depth < recursionLimit:=by have:=r.dp; omega
theorem Room.units0 {k:Nat} {A:Around} (r:Room k A):A.units < cLine:=by have:=r.un; omega
def tNil:TA:=fun _ H Q=>Q [] H
def ZI (ta:TE) (tr:TA):TA:=fun σ H Q=>ta σ H fun x H1=>tr σ H1 fun xs H2=>Q (x :: xs) H2
section
variable {X:Cx} {e:Expr} {es:List Expr} {te:TE} {t:TA} {pos:Pos}
theorem zb:PA X [] tNil:=fun _ _ _ _ H Q I h=>Calls.spliced_nil ⟨[],H,I,.nil,h⟩
theorem za (ha:PE X e te) (hr:PA X es t) (hs:starEach (e :: es) X.env = (false,eval e X.env) :: starEach es X.env:=by rfl):PA X (e :: es) (ZI te t):=by
 intro pos pins s σ H Q I h
 rw [hs]
 show wpAny _ _ (spliced ((false,eval e X.env) :: backTo pos (starEach es X.env))) _ _ s
 refine Calls.spliced_cons (thn (ha pins s σ H _ I h) fun u s1 ⟨x,H1,I1,r1,q1⟩=>?_)
 exact thn (hr pos pins s1 σ H1 _ I1 q1) fun us s2 ⟨xs,H2,I2,r2,q2⟩=>⟨x :: xs,H2,I2,.cons r1 r2,q2⟩
def tTup (t:TA):TE:=fun σ H Q=>t σ H fun xs H1=>xs.length <= sizeLine /\ ∀ p,H1 p = none -> Q (.ref p) (upd H1 p (.tup xs))
def tLst (t:TA):TE:=fun σ H Q=>t σ H fun xs H1=>xs.length <= sizeLine /\ ∀ p,H1 p = none -> Q (.ref p) (upd H1 p (.lst xs))
theorem zZ {x1} (h:PA X es t):PE X (.Tuple es x1 pos) (tTup t):=by
 intro pins s σ H Q I hq
 refine wpAny_Tuple_spliced (thn (h pos pins s σ H _ I hq) fun us s1 ⟨xs,H1,I1,r,z,q⟩=>⟨by rw [← r.length]; exact z,?_⟩)
 have hf:H1 s1.heap.objs.size = none:=I1.hok.fresh (Nat.le_refl _)
 refine ⟨.ref s1.heap.objs.size,upd H1 s1.heap.objs.size (.tup xs),I1.laid (t':=s1.toks) (fun b u e=>Heap.get?_push_of_some _ e) (Nat.le_refl _) ?_,rfl,q _ hf⟩
 exact ⟨z,us,r,⟨_,Heap.get?_push_size _ rfl,rfl,_,rfl⟩⟩
theorem x4 (h:PA X es t):PE X (.List es pos) (tLst t):=by
 intro pins s σ H Q I hq
 refine wpAny_List_spliced (thn (h pos pins s σ H _ I hq) fun us s1 ⟨xs,H1,I1,r,z,q⟩=>⟨by rw [← r.length]; exact z,?_⟩)
 have hf:H1 s1.heap.objs.size = none:=I1.hok.fresh (Nat.le_refl _)
 refine ⟨.ref s1.heap.objs.size,upd H1 s1.heap.objs.size (.lst xs),I1.laid (t':=s1.toks) (fun b u e=>Heap.get?_push_of_some _ e) (Nat.le_refl _) ?_,rfl,q _ hf⟩
 exact ⟨z,us,0,r,Heap.get?_push_size _ rfl⟩
end
abbrev Sp:=List V -> Hp -> VK -> XK -> Prop
abbrev CXT:=List Env -> Hp -> Shared -> XK -> Value -> Shared -> Prop
structure Env0 (P:Program) (w:World) (K:FG7) (mg:Str -> Option Value) (base:Heap) (A:Around) (outer:List Env) (s:Shared) (H:Hp):Prop where
 frames:A.frames = some outer
 mod:Mod K mg base
 bs:∀ b o,base.get? b = some o -> s.heap.get? b = some o /\ H b = none
 bsz:base.objs.size <= s.heap.objs.size
 funs:s.heap.FunFrames base outer
 frf:∀ b ∈ frs outer,H b = none
 hok:HOk P w H s.heap
 bare:AllBare s.gens
def CE (outer:List Env) (P:Program) (w:World) (H:Hp) (s:Shared) (Q:VK) (u:Value) (s':Shared):Prop :=
 ∃ v H',s'.os = s.os /\ AllBare s'.gens /\ Un (frs outer) [] H H' s.heap s'.heap /\ HOk P w H' s'.heap /\ RelV v u /\ Q v H'
def CR (CX:CXT) (outer:List Env) (P:Program) (w:World) (H:Hp) (s:Shared) (Q:VK) (E:XK) (r:Result) (s':Shared):Prop :=
 match r with
 | .ok (.ret u)=>CE outer P w H s Q u s'
 | .ok _=>False
 | .error e=>CX outer H s E e s'
structure FnOk (P:Program) (w:World) (K:FG7) (mg:Str -> Option Value) (base:Heap) (CX:CXT) (k:Nat) (f:Addr) (fd:FuncData) (ps:List Str) (sp:Sp):Prop where
 len:∀ vs H Q E,sp vs H Q E -> vs.length = ps.length
 run:∀ (A:Around) (outer:List Env) (s:Shared) (H:Hp) (args:Args) (us:List Value) (vs:List V) (Q:VK) (E:XK),Room k A -> Env0 P w K mg base A outer s H -> BindsTo s fd args (ps.zip us) -> Vals vs us -> sp vs H Q E →
  codeAny (model P w) A (.call (.ref f) args) (CR CX outer P w H s Q E) s
theorem FnOk.mono {P:Program} {w:World} {K:FG7} {mg:Str -> Option Value} {base:Heap} {CX:CXT} {j k:Nat} {f:Addr} {fd:FuncData} {ps:List Str} {sp:Sp} (F:FnOk P w K mg base CX j f fd ps sp) (h:j <= k) :
  FnOk P w K mg base CX k f fd ps sp:=⟨F.len,fun A outer s H args us vs Q E hr=>F.run A outer s H args us vs Q E (hr.mono h)⟩
section
variable {X:Cx} {pins:List (Addr × Obj)} {σ:St} {H:Hp} {s s':Shared}
theorem Inv.env0 (I:Inv X pins σ H s):Env0 X.prog X.w X.K X.mg X.base X.A X.stack s H :=
 ⟨I.ok.frames,I.ok.mod,I.bs,Nat.le_trans I.ok.bsz I.sz,I.stack,I.stkFree,I.hok,I.bare⟩
theorem Inv.after {Q:VK} {u:Value} (I:Inv X pins σ H s) (h:CE X.stack X.prog X.w H s Q u s'):EP X pins σ Q u s':=by
 obtain ⟨v,H',os,bare,un,hok,r,q⟩:=h
 obtain ⟨hh,g,d,t,os'⟩:=s'
 obtain rfl:os' = s.os:=os
 exact ⟨v,H',I.call (h':=hh) (g':=g) (d':=d) (t':=t) (ch:=[]) un hok bare (fun b z=>absurd z (by simp)),r,q⟩
end
def Vi (sp:Sp) (dvs:List V) (E:XK) (t:TA):TE:=fun σ H Q=>t σ H fun vs H1=>sp (vs ++ dvs) H1 Q E
def rZ (K:FG7) (fd:FuncData) (ps:List Str) (ds:List Value):Prop :=
 ∀ (s:Shared) (us:List Value),K.In s.heap -> (us ++ ds).length = ps.length -> BindsTo s fd ⟨us,[]⟩ (ps.zip (us ++ ds))
theorem rZ.all {K:FG7} {fd:FuncData} {ps:List Str} (h:∀ us:List Value,us.length = ps.length -> bindArgs fd ⟨us,[]⟩ = pure (ps.zip us)):rZ K fd ps []:=fun s us _ hl=>by
 rw [List.append_nil] at hl ⊢
 exact .of_eq (h us hl)
def ZJ (CX:CXT) (X:Cx) (E:XK):Prop:=∀ (pins:List (Addr × Obj)) (σ:St) (H:Hp) (s:Shared) (e:Value) (s':Shared),Inv X pins σ H s -> CX X.stack H s E e s' -> X.xe e s'
section
variable {X:Cx} {CX:CXT} {k:Nat} {f C:Addr} {fd:FuncData} {ps:List Str} {sp:Sp} {dvs:List V} {ds:List Value} {E:XK} {x m:Str} {p pos apos:Pos} {e o:Expr} {es:List Expr} {ta:TE} {t:TA}
theorem Vj {pins:List (Addr × Obj)} {σ:St} {H:Hp} {s:Shared} {Q:VK} {us:List Value} {vs:List V} (F:FnOk X.prog X.w X.K X.mg X.base CX k f fd ps sp) (hr:Room k X.A) (hb:rZ X.K fd ps ds) (hd:Vals dvs ds) (hx:ZJ CX X E)
  (I:Inv X pins σ H s) (r:Vals vs us) (h:sp (vs ++ dvs) H Q E):wpAny (model X.prog X.w) X.A (call (.ref f) us) (EP X pins σ Q) X.xe s:=by
 have r2:Vals (vs ++ dvs) (us ++ ds):=r.append hd
 have hl:(us ++ ds).length = ps.length:=by rw [← r2.length]; exact F.len _ _ _ _ h
 refine wpAny_call (codeAny_mono (F.run X.A X.stack s H ⟨us,[]⟩ (us ++ ds) (vs ++ dvs) Q E hr I.env0 (hb s us I.kIn hl) r2 h) fun r s' hq=>?_)
 cases r with
 | error e=>exact hx pins σ H s e s' I hq
 | ok fl =>
  cases fl with
  | ret u=>exact I.after hq
  | next=>exact False.elim hq
  | brk=>exact False.elim hq
  | cont=>exact False.elim hq
theorem Wj (F:FnOk X.prog X.w X.K X.mg X.base CX k f fd ps sp) (hr:Room k X.A) (hg:Gl X x) (hm:X.mg x = some (.ref f)) (hk:PySem.W.keepIn X.K (.ref f) = true) (hb:rZ X.K fd ps ds) (hd:Vals dvs ds) (hx:ZJ CX X E)
  (ha:PA X (e :: es) t) (hdb:(x == ("__debug__":Str)) = false:=by decide) (he:starEach (e :: es) X.env = (false,eval e X.env) :: starEach es X.env:=by rfl) (hpl:(backTo pos (starEach es X.env)).any (·.1) = false:=by rfl) :
  PE X (.Call (.Name x p) (e :: es) [] pos) (Vi sp dvs E t):=by
 intro pins s σ H Q I h
 refine wpAny_Call_Name_kw (Zy I hg hm ?_ hdb)
 refine PySem.W.callWith_K (h₀:=X.base) I.ok.mod.kin hk (thn (ha pos pins s σ H _ I h) fun us s1 ⟨vs,H1,I1,r,q⟩=>⟨I1.kIn,?_⟩) he hpl
 exact Vj F hr hb hd hx I1 r q
end
structure FnScope (N P:List Str) (sc:Scope):Prop where
 kind:sc.kind = .function
 co:sc.isCoroutine = false
 gen:sc.isGenerator = false
 nd:N.Nodup
 pre:N.take P.length = P
 par:∀ x ∈ P,sc.names.lookup x = some .local \/ sc.names.lookup x = some .cell
 nofree:∀ y ∈ sc.names,y.2 ≠ .free
theorem sv {kindOf:Str -> Option NameKind} {x:Str}:∀ {binds:List (Str × Value)} {m:Str -> Option Value},(∀ v,(x,v) ∉ binds) -> bindL kindOf binds m x = m x
 | [],_,_=>rfl
 | (n,v) :: r,m,h=>by
  unfold bindL
  rw [sv fun w hw=>h w (List.mem_cons_of_mem _ hw)]
  split
  ·have:x ≠ n:=by rintro rfl; exact h v List.mem_cons_self
   simp [this]
  ·rfl
theorem sx {kindOf:Str -> Option NameKind} {x:Str}:∀ {binds:List (Str × Value)} {m:Str -> Option Value},(∀ v,(x,v) ∉ binds) -> bindC kindOf binds m x = m x
 | [],_,_=>rfl
 | (n,v) :: r,m,h=>by
  unfold bindC
  rw [sx fun w hw=>h w (List.mem_cons_of_mem _ hw)]
  split
  ·rfl
  ·have:x ≠ n:=by rintro rfl; exact h v List.mem_cons_self
   simp [this]
theorem sy {kindOf:Str -> Option NameKind} {x:Str} {v:Value}:∀ {P:List Str} {vs:List Value} {i:Nat} {m:Str -> Option Value},P.Nodup -> P[i]? = some x -> vs[i]? = some v -> kindOf x = some .local →
  bindL kindOf (P.zip vs) m x = some v
 | [],_,_,_,_,h,_,_=>by simp at h
 | _ :: _,[],_,_,_,_,h,_=>by simp at h
 | p :: P,w :: vs,0,m,nd,h1,h2,hk=>by
  simp at h1 h2; subst h1; subst h2
  show bindL kindOf ((p,w) :: P.zip vs) m p = _
  unfold bindL
  rw [sv fun v hv=>(List.nodup_cons.mp nd).1 (List.of_mem_zip hv).1,if_pos hk]
  simp
 | p :: P,w :: vs,i + 1,m,nd,h1,h2,hk=>by
  show bindL kindOf ((p,w) :: P.zip vs) m x = _
  unfold bindL
  exact sy (i:=i) (List.nodup_cons.mp nd).2 (by simpa using h1) (by simpa using h2) hk
theorem sA {kindOf:Str -> Option NameKind} {x:Str} {v:Value}:∀ {P:List Str} {vs:List Value} {i:Nat} {m:Str -> Option Value},P.Nodup -> P[i]? = some x -> vs[i]? = some v -> kindOf x ≠ some .local →
  bindC kindOf (P.zip vs) m x = some v
 | [],_,_,_,_,h,_,_=>by simp at h
 | _ :: _,[],_,_,_,_,h,_=>by simp at h
 | p :: P,w :: vs,0,m,nd,h1,h2,hk=>by
  simp at h1 h2; subst h1; subst h2
  show bindC kindOf ((p,w) :: P.zip vs) m p = _
  unfold bindC
  rw [sx fun v hv=>(List.nodup_cons.mp nd).1 (List.of_mem_zip hv).1,if_neg hk]
  simp
 | p :: P,w :: vs,i + 1,m,nd,h1,h2,hk=>by
  show bindC kindOf ((p,w) :: P.zip vs) m x = _
  unfold bindC
  exact sA (i:=i) (List.nodup_cons.mp nd).2 (by simpa using h1) (by simpa using h2) hk
def sB (N:List Str) (vs:List V):St:=vs.map some ++ List.replicate (N.length - vs.length) none
def cxOf (CX:CXT) (P:Program) (w:World) (K:FG7) (mg:Str -> Option Value) (base:Heap) (N:List Str) (qual:Str) (scope:Scope) (f:Addr) (cd:Value) (A:Around) (outer:List Env) (s:Shared) (H:Hp) (E:XK):Cx where
 prog:=P
 w:=w
 K:=K
 mg:=mg
 base:=base
 A:=A.deeper (envOfC qual scope s.heap.objs.size f cd)
 N:=N
 s₀:=s
 H₀:=H
 env:=envOfC qual scope s.heap.objs.size f cd
 outer:=outer
 stack:=envOfC qual scope s.heap.objs.size f cd :: outer
 ex:=[]
 calm:=true
 fn:=fun _=>true
 pn:=[]
 xe:=fun e s'=>wpAny (model P w) (A.deeper (envOfC qual scope s.heap.objs.size f cd)) (leaving (envOfC qual scope s.heap.objs.size f cd) e) (fun _ s''=>CX outer H s E e s'') (fun e' s''=>CX outer H s E e' s'') s'
theorem jd {sc:Scope} {n:Nat} {x:Str} (h:sc.names.lookup x = some .cell):∃ c,(cellsFrom n sc.names []).lookup x = some c:=by
 have q:=PySem.W.cellsFrom_some sc.names n [] (.inl h)
 exact Option.isSome_iff_exists.mp q
theorem ZK {CX:CXT} {P:Program} {w:World} {K:FG7} {mg:Str -> Option Value} {base:Heap} {N ps:List Str} {qual:Str} {scope:Scope} {f:Addr} {cd:Value} {A:Around} {outer:List Env} {s s1:Shared} {H:Hp} {E:XK} {us:List Value} {vs:List V}
  (S:FnScope N ps scope) (hd:A.handled = none) (e0:Env0 P w K mg base A outer s H) (hl:vs.length = ps.length) (r:Vals vs us)
  (x:InCallC s s.heap.objs.size (bindL (envOfC qual scope s.heap.objs.size f cd).kindOf (ps.zip us) fun _=>none) (cellsFrom (s.heap.objs.size + 1) scope.names []) (bindC (envOfC qual scope s.heap.objs.size f cd).kindOf (ps.zip us) fun _=>none) s1) :
  Inv (cxOf CX P w K mg base N qual scope f cd A outer s H E) [] (sB N vs) H s1:=by
 have hpl:ps.length <= N.length:=by have:=congrArg List.length S.pre; rw [List.length_take] at this; omega
 obtain ⟨h1,tk,rfl,hk⟩:=x.done
 have noA:∀ b:Addr,b ∉ (cxOf CX P w K mg base N qual scope f cd A outer s H E).ex:=fun b z=>absurd (show b ∈ ([]:List Addr) from z) (by simp)
 refine ⟨⟨e0.mod,S.kind,rfl,rfl,Nat.le_refl _,fun y z c h1 h2=>?_,fun y hy=>?_,fun y c _ h=>?_,fun _=>hd,Around.frames_deeper e0.frames,.inr ⟨rfl,rfl⟩,fun b z=>absurd z (noA b),e0.bs,e0.bsz,fun b _ _=>noA b,fun b z=>absurd z (noA b),e0.funs,e0.frf⟩,
  rfl,e0.bare,Un.kept hk,⟨_,x.toInCall.ns,fun i y v h1 h2 h3=>?_⟩,fun y c h=>⟨_,x.cell y c h⟩,e0.hok.fresh (Nat.le_refl _),fun y c h=>?_,fun p hp=>absurd (show p ∈ ([]:List (Addr × Obj)) from hp) (by simp),e0.hok.kept hk,?_⟩
 ·exact name_of_addr x.apart (PySem.mem_of_lookup h1) (PySem.mem_of_lookup h2)
 ·have hy:scope.names.lookup y = some .cell \/ scope.names.lookup y = some .free:=hy
  rcases hy with hy | hy
  ·exact jd hy
  ·exact absurd rfl (S.nofree _ (PySem.mem_of_lookup hy))
 ·exact Nat.le_of_lt (x.above y c (PySem.mem_of_lookup h))
 ·have hi:i < vs.length:=by
   unfold sB at h2
   by_cases hi:i < vs.length
   ·exact hi
   ·rw [List.getElem?_append_right (by simpa using hi)] at h2
    rw [List.getElem?_replicate] at h2
    split at h2 <;> cases h2
  have ha:vs[i]? = some v:=by
   unfold sB at h2
   rw [List.getElem?_append_left (by simpa using hi),List.getElem?_map] at h2
   cases e:vs[i]? with
   | none=>rw [e] at h2; cases h2
   | some a=>rw [e] at h2; cases h2; rfl
  obtain ⟨u,hu,rv⟩:=r.get ha
  have hp:ps[i]? = some y:=by
   rw [← S.pre,List.getElem?_take_of_lt (by omega)]; exact h1
  have ndP:ps.Nodup:=by rw [← S.pre]; exact S.nd.sublist (List.take_sublist _ _)
  refine ⟨u,rv,?_⟩
  rcases S.par y (List.mem_of_getElem? hp) with k | k
  ·exact .inl ⟨k,sy ndP hp hu k⟩
  ·obtain ⟨c,e⟩:=jd (n:=s.heap.objs.size + 1) k
   refine .inr ⟨.inl k,c,e,?_⟩
   have q:=x.cell y c e
   rw [sA ndP hp hu (by show scope.names.lookup y ≠ _; rw [k]; decide)] at q
   exact q
 ·exact e0.hok.fresh (Nat.le_of_lt (x.above y c (PySem.mem_of_lookup h)))
 ·unfold sB
  show _ = N.length
  rw [List.length_append,List.length_map,List.length_replicate]
  omega
theorem Uh {CX:CXT} {P:Program} {w:World} {K:FG7} {mg:Str -> Option Value} {base:Heap} {k:Nat} {f:Addr} {name qual:Str} {params:Arguments} {body:List Stmt} {scope:Scope} {dV kV doc pm cdv ct oc:Value} {an od:Option Addr}
  {osl:Array (Option Value)} {N ps:List Str} {sp:Sp} (lk:K.lookup f = some ⟨oc,od,.func (PySem.W.fnOf name qual params body scope dV kV doc pm an cdv ct),osl⟩) (hcd:PySem.W.codeIn K cdv qual = true) (S:FnScope N ps scope)
  (len:∀ vs H Q E,sp vs H Q E -> vs.length = ps.length)
  (hbody:∀ (A:Around) (outer:List Env) (s:Shared) (H:Hp) (vs:List V) (Q:VK) (E:XK),Room k (A.deeper (envOfC qual scope s.heap.objs.size f cdv)) -> sp vs H Q E →
   ∃ t,PSs (cxOf CX P w K mg base N qual scope f cdv A outer s H E) body t /\ t { nx:=fun _ H'=>Q .non H',rt:=Q } (sB N vs) H) :
  FnOk P w K mg base CX (k + 1) f (PySem.W.fnOf name qual params body scope dV kV doc pm an cdv ct) ps sp:=by
 refine ⟨len,fun A outer s H args us vs Q E hr e0 hb r hsp=>?_⟩
 have hl:=len _ _ _ _ hsp
 have KX:K.In s.heap:=e0.mod.kin.keeps fun b o e=>(e0.bs b o e).1
 have lim:s.heap.NoLimit:=e0.mod.nolimit.keeps fun b o e=>(e0.bs b o e).1
 have hkind:∀ y ∈ ps.zip us,scope.names.lookup y.1 = some .local \/ (scope.names.lookup y.1 = some .cell /\ ((cellsFrom (s.heap.objs.size + 1) scope.names []).lookup y.1).isSome = true):=fun ⟨n,v⟩ hy=>by
  rcases S.par n (List.of_mem_zip hy).1 with q | q
  ·exact .inl q
  ·exact .inr ⟨q,PySem.W.cellsFrom_some _ _ _ (.inl q)⟩
 refine codeAny_call_function hr.depth (KX _ _ lk) rfl S.co S.gen rfl (PySem.W.codeRec_of KX hcd) (hb _ _ _ _ ?_)
 refine wpAny_newFunctionEnv_cells S.kind hkind fun env he s1 x=>?_
 subst he
 refine ⟨lim.keeps x.toInCall.keep,codeAny_func ?_⟩
 obtain ⟨t,ht,hq⟩:=hbody A outer s H vs Q E (hr.deeper _) hsp
 have I:Inv (cxOf CX P w K mg base N qual scope f cdv A outer s H E) [] (sB N vs) H s1:=ZK S hr.hd e0 hl r x
 refine wpAny_mono (ht [] s1 (sB N vs) H _ I hq) (fun fl s' hs=>?_) fun e s' hs=>hs
 have fin:∀ {σ':St} {H':Hp} {v:V} {u:Value},Inv (cxOf CX P w K mg base N qual scope f cdv A outer s H E) [] σ' H' s' -> RelV v u -> Q v H' -> CE outer P w H s Q u s' :=
  fun {σ' H' v u} J rv q=>⟨v,H',J.os,J.bare,J.base,J.hok,rv,q⟩
 cases fl with
 | ret u =>
  obtain ⟨v,σ',H',J,rv,q⟩:=hs
  exact fin J rv q
 | next =>
  obtain ⟨σ',H',J,q⟩:=hs
  exact fin (v:=V.non) (u:=Value.none) J rfl q
 | brk =>
  obtain ⟨_,_,_,q⟩:=hs
  exact False.elim q
 | cont =>
  obtain ⟨_,_,_,q⟩:=hs
  exact False.elim q
end L2
namespace L2
open PySem PySem.Spec PyProof.Rows
section
variable {X:Cx} {x:Str} {p pos:Pos} {e:Expr} {es:List Expr} {t:TA} {id T:String} {r:List V -> Hp -> VK -> Prop}
def tCB (r:List V -> Hp -> VK -> Prop) (t:TA):TE:=fun σ H Q=>t σ H fun vs H1=>r vs H1 Q
theorem zl (hc:xw X (.builtin id) r) (hg:Gl X x) (hm:X.mg x = none) (hv:bootBuiltins x = some (.builtin id)) (ha:PA X (e :: es) t) (hn:x ≠ "__name__":=by decide) (hdb:(x == ("__debug__":Str)) = false:=by decide)
  (he:starEach (e :: es) X.env = (false,eval e X.env) :: starEach es X.env:=by rfl) (hpl:(backTo pos (starEach es X.env)).any (·.1) = false:=by rfl):PE X (.Call (.Name x p) (e :: es) [] pos) (tCB r t):=by
 intro pins s σ H Q I h
 refine wpAny_Call_Name_kw (we I hg hm hv ?_ hn hdb)
 exact PyProof.Rows.callWith_builtin1 (thn (ha pos pins s σ H _ I h) fun us s1 ⟨vs,H1,I1,r1,q1⟩=>hc pins s1 σ H1 vs us Q I1 r1 q1) he hpl
theorem zD (hc:xw X (.type T) r) (hg:Gl X x) (hm:X.mg x = none) (hv:bootBuiltins x = some (.type T)) (ha:PA X (e :: es) t) (hn:x ≠ "__name__":=by decide) (hdb:(x == ("__debug__":Str)) = false:=by decide)
  (he:starEach (e :: es) X.env = (false,eval e X.env) :: starEach es X.env:=by rfl) (hpl:(backTo pos (starEach es X.env)).any (·.1) = false:=by rfl):PE X (.Call (.Name x p) (e :: es) [] pos) (tCB r t):=by
 intro pins s σ H Q I h
 refine wpAny_Call_Name_kw (we I hg hm hv ?_ hn hdb)
 exact PyProof.Rows.callWith_type1 (thn (ha pos pins s σ H _ I h) fun us s1 ⟨vs,H1,I1,r1,q1⟩=>hc pins s1 σ H1 vs us Q I1 r1 q1) he hpl
end
end L2
namespace HT
open PySem PyProof.Rows
section
variable {prog:Program} {w:World} {A:Around} {E:VS7} {s:Shared}
def sIx (n d:Nat):Option Int -> Nat
 | none=>d
 | some v=>if v < 0 then (v + (n:Int)).toNat else min v.toNat n
theorem sIx_none (n d:Nat):sIx n d none = d:=rfl
theorem sIx_nat (n d k:Nat):sIx n d (some (k:Int)) = min k n:=by
 show (if (k:Int) < 0 then ((k:Int) + (n:Int)).toNat else min (k:Int).toNat n) = min k n
 rw [if_neg (by omega),Int.toNat_natCast]
theorem Vk (n d:Nat) (hd:d <= n) (o:Option Int):sIx n d o <= n:=by
 cases o with
 | none=>exact hd
 | some v =>
  show (if v < 0 then (v + (n:Int)).toNat else min v.toNat n) <= n
  by_cases hv:v < 0
  ·rw [if_pos hv]; omega
  ·rw [if_neg hv]; exact Nat.min_le_right _ _
theorem ZL (v:Int) (n d:Nat):(if v < 0 then max (v + (n:Int)) 0 else min v (n:Int)) = ((sIx n d (some v):Nat):Int):=by
 show (if v < 0 then max (v + (n:Int)) 0 else min v (n:Int)) = (((if v < 0 then (v + (n:Int)).toNat else min v.toNat n):Nat):Int)
 by_cases hv:v < 0
 ·simp only [if_pos hv]; omega
 ·simp only [if_neg hv]; omega
theorem jW (lo hi:Option Int) (n:Nat):Builtin.Slice.sliceAdjust lo hi 1 (n:Int) = (((sIx n 0 lo:Nat):Int),((sIx n n hi:Nat):Int)):=by
 have h1:¬ ((1:Int) < 0):=by omega
 unfold Builtin.Slice.sliceAdjust
 simp only [h1,if_false]
 refine Prod.ext ?_ ?_
 ·cases lo with
  | none=>rfl
  | some v=>exact ZL v n 0
 ·cases hi with
  | none=>rfl
  | some v=>exact ZL v n n
theorem jX (i j:Nat):Builtin.Slice.slicePlaces (i:Int) (j:Int) 1 = j - i:=by
 unfold Builtin.Slice.slicePlaces
 have h1:(1:Int) > 0:=by omega
 simp only [h1,if_true,Int.ediv_one]
 split <;> omega
theorem uS {v:Value} {o:Option Int} {Q:Option Int -> Shared -> Prop} (p:IsPart v o) (h:Q o s):wpAny (model prog w) A (Builtin.Slice.slicePartIndex v) Q E s:=by
 cases p with
 | none=>exact slicePart_none h
 | int i t=>exact slicePart_int h
theorem x6 {sl:Addr} {vl vu:Value} {lo hi:Option Int} {n:Nat} {Q:Int × Int × Nat -> Shared -> Prop} (hs:s.heap.IsSliceOf sl vl vu .none) (pl:IsPart vl lo) (pu:IsPart vu hi)
  (h:Q (((sIx n 0 lo:Nat):Int),1,sIx n n hi - sIx n 0 lo) s):wpAny (model prog w) A (Builtin.Slice.sliceApplied (.ref sl) (pure (n:Int))) Q E s:=by
 obtain ⟨os,hos,hcs,hds⟩:=id hs
 unfold Builtin.Slice.sliceApplied Builtin.Slice.sliceFields
 refine wpAny_bind (wpAny_bind (wpAny_field hos hds (x:=vl) rfl (wpAny_bind (wpAny_field hos hds (x:=vu) rfl (wpAny_bind (wpAny_field hos hds (x:=.none) rfl (wpAny_pure ?_)))))))
 refine wpAny_bind (slicePart_none ?_)
 show wpAny _ _ (if ((1:Int) == 0) = true then _ else _) _ _ s
 rw [if_neg (by decide)]
 refine wpAny_bind (uS pl (wpAny_bind (uS pu (wpAny_bind (wpAny_pure ?_)))))
 show wpAny _ _ (match Builtin.Slice.sliceAdjust lo hi 1 (n:Int) with | (lo,hi)=>pure (lo,(1:Int),Builtin.Slice.slicePlaces lo hi 1)) _ _ s
 rw [jW lo hi n]
 show wpAny _ _ (pure (((sIx n 0 lo:Nat):Int),(1:Int),Builtin.Slice.slicePlaces ((sIx n 0 lo:Nat):Int) ((sIx n n hi:Nat):Int) 1)) _ _ s
 rw [jX]
 exact wpAny_pure h
theorem Y7 (xs:Array Value) (i k:Nat):((List.range k).filterMap fun (m:Nat)=>xs[((i:Int) + (m:Int) * 1).toNat]?).toArray = ((xs.toList.drop i).take k).toArray:=by
 have e:(fun (m:Nat)=>xs[((i:Int) + (m:Int) * 1).toNat]?) = fun m=>xs[i + m]?:=by
  funext m
  have:((i:Int) + (m:Int) * 1).toNat = i + m:=by omega
  rw [this]
 rw [e]
 have:=pick_run xs i k
 rw [List.filterMap_map] at this
 have e2:((fun x=>xs[x]?) ∘ fun x=>i + x) = fun m=>xs[i + m]?:=rfl
 rw [e2] at this
 rw [this]
theorem getItem_tuple_cut {t sl:Addr} {items:Array Value} {vl vu:Value} {lo hi:Option Int} {Q:VS7} (ht:IsTup s.heap t items) (hs:s.heap.IsSliceOf sl vl vu .none) (pl:IsPart vl lo) (pu:IsPart vu hi)
  (hw:¬ (sIx items.size 0 lo = 0 /\ sIx items.size items.size hi = items.size))
  (h:Q (.ref s.heap.objs.size) { s with heap:=s.heap.push { cls:=.type "tuple",data:=.seq ((items.toList.drop (sIx items.size 0 lo)).take (sIx items.size items.size hi - sIx items.size 0 lo)).toArray } })
  (hsz:items.size <= sizeLine):wpAny (model prog w) A (getItem (.ref t) (.ref sl)) Q E s:=by
 have htake:sizeOk (.seq ((items.toList.drop (sIx items.size 0 lo)).take (sIx items.size items.size hi - sIx items.size 0 lo)).toArray):=by
  show ((items.toList.drop (sIx items.size 0 lo)).take (sIx items.size items.size hi - sIx items.size 0 lo)).toArray.size <= sizeLine
  rw [List.size_toArray,List.length_take,List.length_drop,Array.length_toList]
  omega
 have hj:sIx items.size items.size hi <= items.size:=Vk _ _ (Nat.le_refl _) hi
 obtain ⟨os,hos,hcs,hds⟩:=id hs
 have hTs:s.TypeIs (.ref sl) "slice":=⟨os,hos,hcs⟩
 unfold getItem
 try with_reducible refine wpAny_holding ?_
 first | refine wpAny_bind (wpAny_pure ?_) | skip
 refine wpAny_bind (wpAny_sequenceKey ht.typeIs (by decide) ?_)
 refine wpAny_bind (wpAny_callSpecial?_slot (name:=Str.ofString "__getitem__") ht.typeIs PyProof.Rows.slot_tuple_getitem
  (wpAny_call_entry PyProof.Rows.slot_tuple_getitem ht.typeIs entry_tuple_getitem ?_ (args_tuple_getitem _ _)))
 show wpAny _ _ (Builtin.Tuple.tupleItemsOf (.ref t) >>= _) _ _ s
 refine wpAny_bind (tupleItemsOf_ ht ?_)
 refine wpAny_bind (wpAny_typeOf hTs ?_)
 rw [if_pos (by decide)]
 refine wpAny_bind (x6 hs pl pu ?_)
 have hno:¬ ((((sIx items.size 0 lo:Nat):Int) == 0 && (1:Int) == 1 && (sIx items.size items.size hi - sIx items.size 0 lo) == items.size) = true):=by
  intro q
  rw [Bool.and_eq_true,Bool.and_eq_true] at q
  have q1:((sIx items.size 0 lo:Nat):Int) = 0:=eq_of_beq q.1.1
  have q2:sIx items.size items.size hi - sIx items.size 0 lo = items.size:=eq_of_beq q.2
  exact hw ⟨by omega,by omega⟩
 show wpAny _ _ (if (((sIx items.size 0 lo:Nat):Int) == 0 && (1:Int) == 1 && (sIx items.size items.size hi - sIx items.size 0 lo) == items.size) = true then _ else _) _ _ s
 rw [if_neg hno,Y7]
 first
  | exact wpAny_bind (m:=Builtin.Tuple.tupleExact _) (wpAny_newObj_type (wpAny_pure ⟨_,rfl,wpAny_pure h⟩) htake)
  | exact wpAny_bind (m:=Builtin.Tuple.tupleExact _) (wpAny_newObj_type (wpAny_bind (wpAny_pure (wpAny_pure ⟨_,rfl,wpAny_pure h⟩))) htake)
  | exact wpAny_bind (wpAny_bind (m:=Builtin.Tuple.tupleExact _) (wpAny_newObj_type (wpAny_pure (wpAny_pure ⟨_,rfl,wpAny_pure h⟩)) htake))
  | exact wpAny_bind (wpAny_bind (m:=Builtin.Tuple.tupleExact _) (wpAny_newObj_type (wpAny_pure ⟨_,rfl,wpAny_pure h⟩) htake))
end
end HT
namespace L2
open PySem PySem.Spec PyProof.Rows
abbrev TO:=St -> Hp -> (Option Int -> Hp -> Prop) -> Prop
def PO (X:Cx) (e:Option Expr) (t:TO):Prop :=
 ∀ (pins:List (Addr × Obj)) (s:Shared) (σ:St) (H:Hp) (Q:Option Int -> Hp -> Prop),Inv X pins σ H s -> t σ H Q →
  wpAny (model X.prog X.w) X.A (evalPart e X.env) (fun u s'=>∃ o H',Inv X pins σ H' s' /\ IsPart u o /\ Q o H') X.xe s
def Wl:TO:=fun _ H Q=>Q none H
def Ui (t:TE):TO:=fun σ H Q=>t σ H fun x H1=>∃ i,x = .int i /\ Q (some i) H1
theorem jY {ns:List Int}:∀ {us:List Value},Vals (ns.map V.int) us -> IntsAre us ns:=by
 induction ns with
 | nil=>intro us r; rw [List.map_nil] at r; cases r; exact .nil
 | cons n ns ih =>
  intro us r
  rw [List.map_cons] at r
  cases r with
  | cons r1 r2 =>
   obtain ⟨t,e⟩:=r1
   subst e
   exact .cons n t (ih r2)
section
variable {X:Cx} {e:Expr} {te:TE} {lo hi:Option Expr} {tl th:TO} {pos p2:Pos}
theorem ZM:PO X none Wl:=by
 intro pins s σ H Q I h
 rw [evalPart_none]
 exact wpAny_pure ⟨none,H,I,.none,h⟩
theorem ZN (h:PE X e te):PO X (some e) (Ui te):=by
 intro pins s σ H Q I hw
 rw [evalPart_some]
 refine thn (h pins s σ H _ I hw) fun u s1 ⟨x,H1,I1,r1,q1⟩=>?_
 obtain ⟨i,rfl,q⟩:=q1
 obtain ⟨t,rfl⟩:=r1
 exact ⟨some i,H1,I1,.int i t,q⟩
def SlR (X:Cx) (r:V -> Option Int -> Option Int -> Hp -> VK -> Prop):Prop :=
 ∀ (pins:List (Addr × Obj)) (s:Shared) (σ:St) (H:Hp) (x:V) (v vl vu:Value) (lo hi:Option Int) (sl:Addr) (Q:VK),Inv X pins σ H s -> RelV x v -> s.heap.IsSliceOf sl vl vu .none -> IsPart vl lo -> IsPart vu hi -> r x lo hi H Q →
  ∃ T id,typeLookup (.type T) "__getitem__" = pure (some (.builtin id)) /\ s.TypeIs v T /\ wpAny (model X.prog X.w) X.A (getItem v (.ref sl)) (EP X pins σ Q) X.xe s
def tSl (r:V -> Option Int -> Option Int -> Hp -> VK -> Prop) (te:TE) (tl th:TO):TE:=fun σ H Q=>te σ H fun x H1=>tl σ H1 fun l H2=>th σ H2 fun u H3=>r x l u H3 Q
theorem je {r:V -> Option Int -> Option Int -> Hp -> VK -> Prop} (hr:SlR X r) (he:PE X e te) (hl:PO X lo tl) (hu:PO X hi th):PE X (.Subscript e (.Slice lo hi none p2) pos) (tSl r te tl th):=by
 intro pins s σ H Q I h
 refine Subscript_ (thn (he pins s σ H _ I h) fun v s1 ⟨x,H1,I1,r1,q1⟩=>?_)
 refine wpAny_Slice (thn (hl pins s1 σ H1 _ I1 q1) fun vl s2 ⟨l,H2,I2,pl,q2⟩=>thn (hu pins s2 σ H2 _ I2 q2) fun vu s3 ⟨u,H3,I3,pu,q3⟩=>?_)
 rw [evalPart_none]
 refine wpAny_pure ?_
 have I4:Inv X pins σ H3 { s3 with heap:=s3.heap.push { cls:=.type "slice",data:=.fields #[vl,vu,.none] } }:=I3.kept (t':=s3.toks) fun b ob q=>Heap.get?_push_of_some _ q
 obtain ⟨T,id,hT,ht,hg⟩:=hr pins { s3 with heap:=s3.heap.push { cls:=.type "slice",data:=.fields #[vl,vu,.none] } } σ H3 x v vl vu l u s3.heap.objs.size Q I4 r1 (Heap.IsSliceOf.new ..) pl pu q3
 show wpAny (model X.prog X.w) X.A (subscriptTail e (.Slice lo hi none p2) v (.ref s3.heap.objs.size)) (EP X pins σ Q) X.xe { s3 with heap:=s3.heap.push { cls:=.type "slice",data:=.fields #[vl,vu,.none] } }
 exact tail_any (ops:=[.ref s3.heap.objs.size,v]) ht hT hg (by with_unfolding_all rfl)
def cutV (xs:List V) (lo hi:Option Int):List V:=(xs.drop (HT.sIx xs.length 0 lo)).take (HT.sIx xs.length xs.length hi - HT.sIx xs.length 0 lo)
theorem v4 (xs:List V) (lo hi:Option Int):(cutV xs lo hi).length <= xs.length:=by
 unfold cutV
 rw [List.length_take,List.length_drop]
 omega
def rSlT (K:FG7):V -> Option Int -> Option Int -> Hp -> VK -> Prop:=fun x lo hi H Q=>∃ a xs,x = .ref a /\ SqT K H a xs ∧
 ¬ (HT.sIx xs.length 0 lo = 0 /\ HT.sIx xs.length xs.length hi = xs.length) /\ ∀ p,H p = none -> Q (.ref p) (upd H p (.tup (cutV xs lo hi)))
theorem Vl:SlR X (rSlT X.K):=by
 intro pins s σ H x v vl vu lo hi sl Q I rx hs pl pu h
 obtain ⟨a,xs,rfl,hx,hw,q⟩:=h
 cases rx
 obtain ⟨its,r,ht,hz⟩:=I.tuple hx
 have hlen:its.toArray.size = xs.length:=by rw [List.size_toArray]; exact r.length.symm
 refine ⟨"tuple",_,PyProof.Rows.slot_tuple_getitem.lookup,ht.typeIs,?_⟩
 refine HT.getItem_tuple_cut ht hs pl pu (by rw [hlen]; exact hw) ?_ (by rw [hlen]; exact hz)
 rw [hlen]
 refine ⟨.ref s.heap.objs.size,_,I.laid (t':=s.toks) (o:=.tup (cutV xs lo hi)) (fun b ob q=>Heap.get?_push_of_some _ q) (Nat.le_refl _) ?_,rfl,q _ (I.hok.fresh (Nat.le_refl _))⟩
 exact ⟨Nat.le_trans (v4 xs lo hi) hz,_,(r.drop (HT.sIx xs.length 0 lo)).take (HT.sIx xs.length xs.length hi - HT.sIx xs.length 0 lo),IsTup.new _ _⟩
theorem Vals.nil_iff {xs:List V} {us:List Value} (r:Vals xs us):us = [] ↔ xs = []:=by
 cases r with
 | nil=>simp
 | cons _ _=>simp
end
end L2
namespace L2
open PySem PySem.Spec PyProof.Rows
def ixN (n:Nat) (i:Int):Option Nat:=if 0 <= i then (if i < n then some i.toNat else none) else if -(n:Int) <= i then some (i + n).toNat else none
def atI {α:Type} (xs:List α) (i:Int):Option α:=(ixN xs.length i).bind fun j=>xs[j]?
theorem ZO {n:Nat} {i:Int} {j:Nat} (h:ixN n i = some j):seqIndex? i n = some j /\ j < n /\ -(n:Int) <= i /\ i < n:=by
 unfold ixN at h
 by_cases h0:0 <= i
 ·rw [if_pos h0] at h
  by_cases h1:i < n
  ·rw [if_pos h1] at h
   have e:i.toNat = j:=Option.some.inj h
   exact ⟨by rw [seqIndex_of h0 h1,e],by omega,by omega,h1⟩
  ·rw [if_neg h1] at h; cases h
 ·rw [if_neg h0] at h
  by_cases h1:-(n:Int) <= i
  ·rw [if_pos h1] at h
   have e:(i + n).toNat = j:=Option.some.inj h
   exact ⟨by rw [seqIndex_neg (by omega) h1,e],by omega,h1,by omega⟩
  ·rw [if_neg h1] at h; cases h
theorem ZP {α:Type} {xs:List α} {i:Int} {v:α} (h:atI xs i = some v):∃ j,seqIndex? i xs.length = some j /\ xs[j]? = some v /\ j < xs.length /\ -(xs.length:Int) <= i /\ i < xs.length:=by
 unfold atI at h
 cases e:ixN xs.length i with
 | none=>rw [e] at h; cases h
 | some j =>
  rw [e] at h
  obtain ⟨h1,h2,h3,h4⟩:=ZO e
  exact ⟨j,h1,h,h2,h3,h4⟩
theorem tH {α:Type} {xs:List α} {j:Nat} {v:α} (h:xs[j]? = some v):atI xs (j:Int) = some v:=by
 have hj:j < xs.length:=(List.getElem?_eq_some_iff.mp h).1
 have e:ixN xs.length (j:Int) = some j:=by
  unfold ixN
  rw [if_pos (by omega),if_pos (by omega)]; simp
 unfold atI; rw [e]; exact h
def Wm (b:Expr):Prop:=∀ o i,subscripted b false o i = operate [o,i] (getItem o i)
def IxR (X:Cx) (r:R2):Prop :=
 ∀ (value slice:Expr) (pins:List (Addr × Obj)) (s:Shared) (σ:St) (H:Hp) (x y:V) (v u:Value) (Q:VK),Inv X pins σ H s -> RelV x v -> RelV y u -> r x y H Q →
  subscripted slice false v u = operate [v,u] (getItem v u) -> wpAny (model X.prog X.w) X.A (subscriptTail value slice v u) (EP X pins σ Q) X.xe s
def MtR (X:Cx) (id:String) (r:V -> List V -> Hp -> VK -> Prop):Prop :=
 ∀ (pins:List (Addr × Obj)) (s:Shared) (σ:St) (H:Hp) (x:V) (xs:List V) (v:Value) (us:List Value) (Q:VK),Inv X pins σ H s -> RelV x v -> Vals xs us -> r x xs H Q →
  wpAny (model X.prog X.w) X.A (call (.builtin id) (v :: us)) (EP X pins σ Q) X.xe s
section
variable {X:Cx} {a b:Expr} {ta tb:TE} {pos:Pos}
theorem zT {r:R2} (hr:IxR X r) (ha:PE X a ta) (hb:PE X b tb) (hs:Wm b):PE X (.Subscript a b pos) (tOp r ta tb):=by
 intro pins s σ H Q I h
 exact Subscript_ (binT ha hb I h fun v u s2 x y H2 I2 rx ry q=>hr a b pins s2 σ H2 x y v u Q I2 rx ry q (hs _ _))
def rIxL (K:FG7):R2:=fun x y H Q=>∃ p xs i v,x = .ref p /\ y = .int i /\ SqL K H p xs /\ atI xs i = some v /\ Q v H
def rIxT (K:FG7):R2:=fun x y H Q=>∃ p xs i v,x = .ref p /\ y = .int i /\ SqT K H p xs /\ atI xs i = some v /\ Q v H
theorem zK:IxR X (rIxL X.K):=by
 intro value slice pins s σ H x y v u Q I rx ry h hs
 obtain ⟨p,xs,i,z,rfl,rfl,hq,he,q⟩:=h
 cases rx
 obtain ⟨t,rfl⟩:=ry
 obtain ⟨its,r,pl,hz⟩:=I.list hq
 obtain ⟨j,h1,h2,h3,h4,h5⟩:=ZP he
 obtain ⟨w,ew,rw'⟩:=r.get h2
 have hl:=r.length
 have hn:=jb
 have fin:EP X pins σ Q w s:=⟨z,H,I,rw',q⟩
 by_cases h0:0 <= i
 ·have hj:i.toNat = j:=by
   rw [seqIndex_of h0 h5] at h1
   exact Option.some.inj h1
  exact item_listR pl.isList h0 (by omega) (by rw [hj]; simpa using ew) fin hs
 ·have hj:(i + (its.toArray.size:Int)).toNat = j:=by
   rw [seqIndex_neg (by omega) h4] at h1
   rw [List.size_toArray,← hl]
   exact Option.some.inj h1
  exact subscriptTail_builtinR (x:=w) pl.isList.typeIs slot_list_getitem.lookup
   (wpAny_getItem_list_neg (Q:=fun r s'=>r = w /\ EP X pins σ Q r s') pl.isList (by omega) (by rw [List.size_toArray] <;> omega) (by omega) (by rw [hj]; simpa using ew) ⟨rfl,fin⟩) hs
theorem yI:IxR X (rIxT X.K):=by
 intro value slice pins s σ H x y v u Q I rx ry h hs
 obtain ⟨p,xs,i,z,rfl,rfl,hq,he,q⟩:=h
 cases rx
 obtain ⟨t,rfl⟩:=ry
 obtain ⟨its,r,pl,hz⟩:=I.tuple hq
 obtain ⟨j,h1,h2,h3,h4,h5⟩:=ZP he
 obtain ⟨w,ew,rw'⟩:=r.get h2
 have hl:=r.length
 have hn:=jb
 have fin:EP X pins σ Q w s:=⟨z,H,I,rw',q⟩
 exact subscriptTail_builtinR (x:=w) pl.typeIs slot_tuple_getitem.lookup
  (getItem_tuple (j:=j) (Q:=fun r s'=>r = w /\ EP X pins σ Q r s') pl (by omega) (by omega) (by rw [List.size_toArray,← hl]; exact h1) (by simpa using ew) ⟨rfl,fin⟩) hs
theorem jZ (its:List Value) (n j:Nat) (u:Value):Obj.mapSeq (·.setIfInBounds j u) { cls:=.type "list",data:=.seq its.toArray n } = { cls:=.type "list",data:=.seq (its.set j u).toArray n }:=by
 simp [Obj.mapSeq]
theorem Inv.lst {pins:List (Addr × Obj)} {σ:St} {H:Hp} {s:Shared} {p:Addr} {xs:List V} (I:Inv X pins σ H s) (h:H p = some (.lst xs)) :
  ∃ (its:List Value) (n:Nat),Vals xs its /\ s.heap.get? p = some { cls:=.type "list",data:=.seq its.toArray n } /\ xs.length <= sizeLine:=by
 obtain ⟨z,its,n,r,e⟩:=I.hok p _ h
 exact ⟨its,n,r,e,z⟩
theorem Inv.lstUpd {pins:List (Addr × Obj)} {σ:St} {H:Hp} {s:Shared} {p:Addr} {xs ys:List V} {its its':List Value} {n n':Nat} {f:Obj -> Obj} (I:Inv X pins σ H s) (h:H p = some (.lst xs))
  (ho:s.heap.get? p = some { cls:=.type "list",data:=.seq its.toArray n }) (hf:f { cls:=.type "list",data:=.seq its.toArray n } = { cls:=.type "list",data:=.seq its'.toArray n' }) (r:Vals ys its') (hz:ys.length <= sizeLine) (t:Nat) :
  Inv X pins σ (upd H p (.lst ys)) { s with heap:=s.heap.update p f,toks:=t }:=by
 have e:(s.heap.update p f).get? p = some { cls:=.type "list",data:=.seq its'.toArray n' }:=by
  rw [Heap.get?_update_self f ho (by rw [hf] <;> rfl),hf]
 refine I.write (x:=p) (e:=p) (by rw [h]; trivial) (.inl rfl) (fun b u hb q=>(Heap.get?_update_other _ _ (Ne.symm hb)).trans q) ⟨_,e⟩ ?_
 exact ⟨hz,its',n',r,e⟩
def Uj:V -> V -> V -> Hp -> (Hp -> Prop) -> Prop:=fun o i v H Q=>∃ p xs k j,o = .ref p /\ i = .int k /\ H p = some (.lst xs) /\ ixN xs.length k = some j /\ Q (upd H p (.lst (xs.set j v)))
theorem xq:PSet X Uj:=by
 intro pins s σ H o i v ov iv u Q I ro ri rv h
 obtain ⟨p,xs,k,j,rfl,rfl,hp,hj,q⟩:=h
 cases ro
 obtain ⟨t,rfl⟩:=ri
 obtain ⟨its,n,r,ho,hz⟩:=I.lst hp
 obtain ⟨h1,h2,h3,h4⟩:=ZO hj
 have hl:=r.length
 have hn:=jb
 have I':Inv X pins σ (upd H p (.lst (xs.set j v))) { s with heap:=s.heap.update p (Obj.mapSeq (·.setIfInBounds j u)) } :=
  I.lstUpd hp ho (jZ its n j u) (r.set rv j) (by rw [List.length_set]; exact hz) s.toks
 by_cases h0:0 <= k
 ·have hk:k.toNat = j:=by
   rw [seqIndex_of h0 h4] at h1
   exact Option.some.inj h1
  exact PySem.W.ki_setAt ho h0 (by omega) (by rw [List.size_toArray,← hl]; exact h4) (by rw [hk]; exact ⟨_,I',q⟩)
 ·have hk:(k + (its.toArray.size:Int)).toNat = j:=by
   rw [seqIndex_neg (by omega) h3] at h1
   rw [List.size_toArray,← hl]
   exact Option.some.inj h1
  exact PySem.W.ki_setBack ho (by omega) (by rw [List.size_toArray,← hl]; exact h3) (by omega) (by rw [hk]; exact ⟨_,I',q⟩)
theorem sC (lo hi:Option Int) (n:Nat):(sliceBounds lo hi none n).1 = ((HT.sIx n 0 lo:Nat):Int) /\ (sliceBounds lo hi none n).2.1 = ((HT.sIx n n hi:Nat):Int) /\ (sliceBounds lo hi none n).2.2 = 1:=by
 refine ⟨?_,?_,rfl⟩
 ·cases lo with
  | none=>simp [sliceBounds,HT.sIx]
  | some i =>
   simp only [sliceBounds,HT.sIx,Option.getD_none,show (1:Int) > 0 by decide,if_true]
   by_cases h:i < 0
   ·simp only [h,if_true] <;> omega
   ·simp only [h,if_false] <;> omega
 ·cases hi with
  | none=>simp [sliceBounds,HT.sIx]
  | some i =>
   simp only [sliceBounds,HT.sIx,Option.getD_none,show (1:Int) > 0 by decide,if_true]
   by_cases h:i < 0
   ·simp only [h,if_true] <;> omega
   ·simp only [h,if_false] <;> omega
theorem tI (its:List Value) (lo hi:Option Int):slicePick its.toArray lo hi none = ((its.drop (HT.sIx its.length 0 lo)).take (HT.sIx its.length its.length hi - HT.sIx its.length 0 lo)).toArray:=by
 obtain ⟨h1,h2,h3⟩:=sC lo hi its.toArray.size
 unfold slicePick
 rw [h1,h2,h3]
 simp only [sliceRange_one,pick_run,List.size_toArray] <;> rfl
def rSlL (K:FG7):V -> Option Int -> Option Int -> Hp -> VK -> Prop:=fun x lo hi H Q=>∃ a xs,x = .ref a /\ SqL K H a xs /\ ∀ p,H p = none -> Q (.ref p) (upd H p (.lst (cutV xs lo hi)))
theorem Wn:SlR X (rSlL X.K):=by
 intro pins s σ H x v vl vu lo hi sl Q I rx hs pl pu h
 obtain ⟨a,xs,rfl,hx,q⟩:=h
 cases rx
 obtain ⟨its,r,ht,hz⟩:=I.list hx
 have hlen:=r.length
 refine ⟨"list",_,slot_list_getitem.lookup,ht.isList.typeIs,?_⟩
 refine wpAny_getItem_list_slice ht.isList hs pl pu .none (by simp) ?_ (by rw [List.size_toArray] <;> omega)
 rw [tI,← hlen]
 refine ⟨.ref s.heap.objs.size,_,I.laid (t':=s.toks) (o:=.lst (cutV xs lo hi)) (fun b ob q=>Heap.get?_push_of_some _ q) (Nat.le_refl _) ?_,rfl,q _ (I.hok.fresh (Nat.le_refl _))⟩
 exact ⟨Nat.le_trans (v4 xs lo hi) hz,_,0,(r.drop (HT.sIx xs.length 0 lo)).take (HT.sIx xs.length xs.length hi - HT.sIx xs.length 0 lo),Heap.get?_push_size _ rfl⟩
def tJ:V -> Bool
 | .non=>true
 | .bl _=>true
 | .int _=>true
 | .str _=>true
 | _=>false
def eqV:V -> V -> Bool
 | .non,.non=>true
 | .bl a,.bl b=>a == b
 | .bl a,.int b=>(if a then 1 else 0) == b
 | .int a,.bl b=>a == (if b then 1 else 0)
 | .int a,.int b=>a == b
 | .str a,.str b=>a == b
 | _,_=>false
theorem Vm {A:Around} {s:Shared} {y x:V} {u v:Value} (ry:RelV y u) (rx:RelV x v) (fy:tJ y = true) (fx:tJ x = true):SeqAt.EqAt A s u v (eqV y x):=by
 cases y with
 | non =>
  cases ry
  cases x with
  | non=>cases rx; exact SeqAt.EqAt.same _
  | bl b=>cases rx; exact SeqAt.EqAt.none_bool b
  | int b=>obtain ⟨t,rfl⟩:=rx; exact SeqAt.EqAt.none_int b t
  | str b=>obtain ⟨t,rfl⟩:=rx; exact SeqAt.EqAt.none_str b t
  | _=>exact absurd (show false = true from fx) Bool.false_ne_true
 | bl a =>
  cases ry
  cases x with
  | non=>cases rx; exact SeqAt.EqAt.bool_none a
  | bl b=>cases rx; exact SeqAt.EqAt.bool_bool a b
  | int b=>obtain ⟨t,rfl⟩:=rx; exact SeqAt.EqAt.bool_int a b t
  | str b=>obtain ⟨t,rfl⟩:=rx; exact SeqAt.EqAt.bool_str a b t
  | _=>exact absurd (show false = true from fx) Bool.false_ne_true
 | int a =>
  obtain ⟨t',rfl⟩:=ry
  cases x with
  | non=>cases rx; exact SeqAt.EqAt.int_none a t'
  | bl b=>cases rx; exact SeqAt.EqAt.int_bool a t' b
  | int b=>obtain ⟨t,rfl⟩:=rx; exact SeqAt.EqAt.int_int a t' b t
  | str b=>obtain ⟨t,rfl⟩:=rx; exact SeqAt.EqAt.int_str a t' b t
  | _=>exact absurd (show false = true from fx) Bool.false_ne_true
 | str a =>
  obtain ⟨t',rfl⟩:=ry
  cases x with
  | non=>cases rx; exact SeqAt.EqAt.str_none a t'
  | bl b=>cases rx; exact SeqAt.EqAt.str_bool a t' b
  | int b=>obtain ⟨t,rfl⟩:=rx; exact SeqAt.EqAt.str_int a t' b t
  | str b=>obtain ⟨t,rfl⟩:=rx; exact SeqAt.EqAt.str_str a t' b t
  | _=>exact absurd (show false = true from fx) Bool.false_ne_true
 | _=>exact absurd (show false = true from fy) Bool.false_ne_true
def eqU (x:V) (u:Value):Bool:=match u with
 | .none=>eqV .non x
 | .bool b=>eqV (.bl b) x
 | .int i _=>eqV (.int i) x
 | .str z _=>eqV (.str z) x
 | _=>false
theorem XV {x y:V} {u:Value} (r:RelV y u) (f:tJ y = true):eqU x u = eqV y x:=by
 cases y with
 | non=>cases r; rfl
 | bl b=>cases r; rfl
 | int i=>obtain ⟨t,rfl⟩:=r; rfl
 | str z=>obtain ⟨t,rfl⟩:=r; rfl
 | _=>exact absurd (show false = true from f) Bool.false_ne_true
theorem r6 {x:V}:∀ {xs:List V} {us:List Value},Vals xs us -> xs.all tJ = true -> us.any (eqU x) = xs.any fun y=>eqV y x
 | _,_,.nil,_=>rfl
 | y :: xs,u :: us,.cons r t,f=>by
  rw [List.all_cons,Bool.and_eq_true] at f
  rw [List.any_cons,List.any_cons,XV r f.1,r6 t f.2]
theorem tK {A:Around} {s:Shared} {x:V} {v:Value} (rx:RelV x v) (fx:tJ x = true):∀ {xs:List V} {us:List Value},Vals xs us -> xs.all tJ = true -> ∀ u ∈ us,SeqAt.EqAt A s u v (eqU x u)
 | _,_,.nil,_=>fun u hu=>by cases hu
 | y :: xs,u :: us,.cons r t,f=>fun u' hu=>by
  rw [List.all_cons,Bool.and_eq_true] at f
  rcases List.mem_cons.mp hu with rfl | hu
  ·rw [XV r f.1]; exact Vm r rx f.1 fx
  ·exact tK rx fx t f.2 u' hu
def inV (x:V) (xs:List V):Bool:=xs.any fun y=>eqV y x
def rIn (K:FG7) (neg:Bool):R2:=fun x y H Q=>∃ p xs,y = .ref p /\ (SqL K H p xs \/ SqT K H p xs) /\ tJ x = true /\ xs.all tJ = true /\ Q (.bl (if neg then !inV x xs else inV x xs)) H
theorem sD:OpR X (compareOp .NotIn) (rIn X.K true):=by
 intro pins s σ H x y v u Q I rx ry h
 obtain ⟨p,xs,rfl,hq,fx,fs,q⟩:=h
 cases ry
 rcases hq with hq | hq
 ·obtain ⟨its,r,pl,hz⟩:=I.list hq
  refine SeqAt.notIn_listAt (eqU x) pl.isList (fun w hw=>tK rx fx r fs w (by simpa using hw)) ⟨.bl _,H,I,rfl,?_⟩
  rw [show its.toArray.any (eqU x) = its.any (eqU x) by simp,r6 r fs]
  exact q
 ·obtain ⟨its,r,pl,hz⟩:=I.tuple hq
  refine SeqAt.notIn_tupleAt (eqU x) pl (fun w hw=>tK rx fx r fs w (by simpa using hw)) ⟨.bl _,H,I,rfl,?_⟩
  rw [show its.toArray.any (eqU x) = its.any (eqU x) by simp,r6 r fs]
  exact q
theorem zw:xw X (.builtin "len") (fun xs H Q=>∃ p ys,xs = [.ref p] /\ (SqL X.K H p ys \/ SqT X.K H p ys) /\ Q (.int ys.length) H):=by
 intro pins s σ H xs us Q I r h
 obtain ⟨p,ys,rfl,hq,q⟩:=h
 obtain ⟨u,rfl,rx⟩:=wM r
 cases rx
 have hn:=jb
 rcases hq with hq | hq
 ·obtain ⟨its,r',pl,hz⟩:=I.list hq
  have hlen:=r'.length
  exact Calls.call_len_list pl.isList (by simp only [List.size_toArray] <;> omega) ⟨.int ys.length,H,I.tok _,⟨s.toks + 1,by rw [List.size_toArray,hlen]⟩,q⟩
 ·obtain ⟨its,r',pl,hz⟩:=I.tuple hq
  have hlen:=r'.length
  exact len_tuple pl (by simp only [List.size_toArray] <;> omega) ⟨.int ys.length,H,I.tok _,⟨s.toks + 1,by rw [List.size_toArray,hlen]⟩,q⟩
theorem wo:xw X (.type "list") (fun xs H Q=>∃ p ys,xs = [.ref p] /\ (SqL X.K H p ys \/ SqT X.K H p ys) /\ ∀ l,H l = none -> Q (.ref l) (upd H l (.lst ys))):=by
 intro pins s σ H xs us Q I r h
 obtain ⟨p,ys,rfl,hq,q⟩:=h
 obtain ⟨u,rfl,rx⟩:=wM r
 cases rx
 have fin:∀ (its:List Value),Vals ys its -> ys.length <= sizeLine -> ∀ (h':Heap) (c':Nat),(∀ b o',s.heap.get? b = some o' -> h'.get? b = some o') →
   h'.get? s.heap.objs.size = some { cls:=.type "list",dict:=none,data:=.seq its.toArray c',slots:=#[] } -> EP X pins σ Q (.ref s.heap.objs.size) { s with heap:=h' }:=fun its r' hz h' c' kp e =>
  ⟨.ref s.heap.objs.size,_,I.laid (t':=s.toks) kp (Nat.le_refl _) (show zV X.prog X.w _ h' _ (.lst ys) from ⟨hz,its,c',r',e⟩),rfl,q _ (I.hok.fresh (Nat.le_refl _))⟩
 rcases hq with hq | hq
 ·obtain ⟨its,r',pl,hz⟩:=I.list hq
  have hlen:=r'.length
  obtain ⟨o,ho,hc,n,hd⟩:=pl.isList
  exact call_list_seq p (.inl rfl) ho hc hd (fun h' c' kp e=>fin its r' hz h' c' kp e) (by simp only [List.size_toArray] <;> omega)
 ·obtain ⟨its,r',pl,hz⟩:=I.tuple hq
  have hlen:=r'.length
  obtain ⟨o,ho,hc,n,hd⟩:=pl
  exact call_list_seq p (.inr rfl) ho hc hd (fun h' c' kp e=>fin its r' hz h' c' kp e) (by simp only [List.size_toArray] <;> omega)
theorem zx:xw X (.type "tuple") (fun xs H Q=>∃ p ys,xs = [.ref p] /\ ((SqL X.K H p ys /\ ∀ l,H l = none -> Q (.ref l) (upd H l (.tup ys))) \/ (SqT X.K H p ys /\ Q (.ref p) H))):=by
 intro pins s σ H xs us Q I r h
 obtain ⟨p,ys,rfl,h⟩:=h
 obtain ⟨u,rfl,rx⟩:=wM r
 cases rx
 rcases h with ⟨hq,q⟩ | ⟨hq,q⟩
 ·obtain ⟨its,r',pl,hz⟩:=I.list hq
  have hlen:=r'.length
  refine call_tuple_list pl.isList (fun h' kp=>?_) (by simp only [List.size_toArray] <;> omega)
  have I1:Inv X pins σ H { s with heap:=h' }:=I.kept (t':=s.toks) kp
  have I2:Inv X pins σ (upd H h'.objs.size (.tup ys)) { s with heap:=h'.push { cls:=.type "tuple",data:=.seq its.toArray } } :=
   I1.laid (t':=s.toks) (fun b o e=>Heap.get?_push_of_some _ e) (Nat.le_refl _) (show zV X.prog X.w _ _ _ (.tup ys) from ⟨hz,its,r',IsTup.new _ _⟩)
  exact ⟨.ref h'.objs.size,_,I2,rfl,q _ (I1.hok.fresh (Nat.le_refl _))⟩
 ·obtain ⟨its,r',pl,hz⟩:=I.tuple hq
  exact call_tuple_same pl ⟨.ref p,H,I,rfl,q⟩
def tyV (K:FG7) (T:String) (x:V) (H:Hp):Prop:=match x with
 | .str _=>T = "str"
 | .int _=>T = "int"
 | .ref p=>(T = "list" /\ ∃ xs,SqL K H p xs) \/ (T = "tuple" /\ ∃ o,K.lookup p = some o /\ o.cls = .type "tuple" /\ o.dict = none) ∨
   (T = "dict" /\ ((∃ kvs,H p = some (.dK kvs)) \/ ∃ kvs,H p = some (.dT kvs))) \/ (T = "set" /\ ∃ S n,H p = some (.set S n))
 | _=>False
theorem Vn {pins:List (Addr × Obj)} {σ:St} {H:Hp} {s:Shared} {T:String} {x:V} {v:Value} (I:Inv X pins σ H s) (r:RelV x v) (ty:tyV X.K T x H) :
  s.TypeIs v T /\ ∀ a,v = .ref a -> ∃ ob,s.heap.get? a = some ob /\ ob.dict = none:=by
 cases x with
 | str z =>
  obtain ⟨t,rfl⟩:=r
  cases (show T = "str" from ty)
  exact ⟨typeIs_str s z t,fun _ e=>nomatch e⟩
 | int i =>
  obtain ⟨t,rfl⟩:=r
  cases (show T = "int" from ty)
  exact ⟨typeIs_int s i t,fun _ e=>nomatch e⟩
 | ref p =>
  cases r
  rcases ty with ⟨rfl,xs,hq⟩ | ⟨rfl,o,hk,hc,hd⟩ | ⟨rfl,hk⟩ | ⟨rfl,S,n,hk⟩
  ·obtain ⟨its,_,pl,_⟩:=I.list hq
   refine ⟨pl.isList.typeIs,fun a e=>?_⟩
   cases e
   obtain ⟨o,n,e,c,hd,_⟩:=pl
   exact ⟨o,e,hd⟩
  ·refine ⟨⟨o,I.kIn p o hk,hc⟩,fun a e=>?_⟩
   cases e
   exact ⟨o,I.kIn _ o hk,hd⟩
  ·have z:∃ o,s.heap.get? p = some o /\ o.ExactDict:=by
    rcases hk with ⟨kvs,hk⟩ | ⟨kvs,hk⟩
    ·obtain ⟨_,_,_,_,o,_,_,e,ex,_⟩:=I.hok p _ hk
     exact ⟨o,e,ex⟩
    ·obtain ⟨_,_,_,_,o,_,_,e,ex,_⟩:=I.hok p _ hk
     exact ⟨o,e,ex⟩
   obtain ⟨o,e,ex⟩:=z
   refine ⟨⟨o,e,ex.1⟩,fun a e2=>?_⟩
   cases e2
   exact ⟨o,e,ex.2.1⟩
  ·obtain ⟨o,_,_,_,e,ex,_⟩:=I.hok p _ hk
   refine ⟨⟨o,e,ex.1⟩,fun a e2=>?_⟩
   cases e2
   exact ⟨o,e,ex.2.1⟩
 | _=>exact False.elim ty
def tBM (K:FG7) (T:String) (r:V -> List V -> Hp -> VK -> Prop) (to:TE) (t:TA):TE:=fun σ H Q=>to σ H fun x H1=>tyV K T x H1 /\ t σ H1 fun xs H2=>r x xs H2 Q
variable {o e:Expr} {es:List Expr} {to:TE} {t:TA} {name:Str} {apos cpos:Pos} {T id:String} {r:V -> List V -> Hp -> VK -> Prop}
theorem sE (pa:PlainAttrs T) (slot:Slot T name id) (hty:typeOf (.builtin id) = pure (.type "method_descriptor")) (hm:MtR X id r) (ho:PE X o to) (ha:PA X (e :: es) t)
  (hbase:attributeBase o name X.env (eval o X.env) = eval o X.env:=by rfl)
  (hfew:((backTo cpos (starEach (e :: es) X.env)).all (fun x=>!x.1) && (backToKw cpos (keywordEach [] X.env)).all (fun x=>x.1.isSome)
   && decide ((e :: es).length + ([]:List Keyword).length + (if ([]:List Keyword).isEmpty then 0 else 1) < 30)) = true:=by rfl)
  (hline:(apos.endLine == cpos.line) = true:=by rfl) (hs:starEach (e :: es) X.env = (false,eval e X.env) :: starEach es X.env:=by rfl) (hplain:(backTo cpos (starEach es X.env)).any (·.1) = false:=by rfl) :
  PE X (.Call (.Attribute o name apos) (e :: es) [] cpos) (tBM X.K T r to t):=by
 intro pins s σ H Q I h
 refine wpAny_Call_method_late hbase hfew hline rfl (thn (ho pins s σ H _ I h) fun v s1 ⟨x,H1,I1,r1,ty,q1⟩=>?_)
 obtain ⟨h1,h2⟩:=Vn I1 r1 ty
 refine ⟨T,id,pa,slot,hty,h1,h2,?_⟩
 have hA:=ha cpos pins s1 σ H1 _ I1 q1
 rw [hs] at hA ⊢
 refine Calls.callWith_builtin (by show (false || (backTo cpos (starEach es X.env)).any (·.1)) = false; rw [hplain] <;> rfl) (Calls.evalArgs_plain ?_)
 exact thn hA fun us s2 ⟨vs,H2,I2,r2,q2⟩=>hm pins s2 σ H2 x vs v us Q I2 r1 r2 q2
end
end L2
namespace L2
open PySem PySem.Spec PyProof.Rows
def MtM (X:Cx) (id:String) (r:V -> List V -> Hp -> VK -> Prop):Prop :=
 ∀ (pins:List (Addr × Obj)) (s:Shared) (σ:St) (H:Hp) (x:V) (xs:List V) (v:Value) (us:List Value) (Q:VK),Inv X pins σ H s -> RelV x v -> Vals xs us -> r x xs H Q →
  wpAny (model X.prog X.w) X.A (call (.builtin id) (v :: us)) (EP X pins σ Q) X.xe s
theorem Vals.one:∀ {x:V} {us:List Value},Vals [x] us -> ∃ u,us = [u] /\ RelV x u
 | _,_,.cons r .nil=>⟨_,rfl,r⟩
theorem Vals.eraseIdx:∀ {xs:List V} {us:List Value} (i:Nat),Vals xs us -> Vals (xs.eraseIdx i) (us.eraseIdx i)
 | _,_,_,.nil=>.nil
 | _,_,0,.cons _ t=>t
 | _,_,i + 1,.cons r t=>.cons r (Vals.eraseIdx i t)
theorem Vals.rep {xs:List V} {us:List Value} (h:Vals xs us):∀ k:Nat,Vals (List.replicate k xs).flatten (List.replicate k us).flatten
 | 0=>.nil
 | k + 1=>by
  rw [List.replicate_succ,List.replicate_succ,List.flatten_cons,List.flatten_cons]
  exact Vals.append h (Vals.rep h k)
theorem sF {α:Type}:∀ (l:List α) (i:Nat),(l.eraseIdx i).length <= l.length
 | [],_=>Nat.le_refl _
 | _ :: _,0=>Nat.le_succ _
 | _ :: r,i + 1=>Nat.succ_le_succ (sF r i)
theorem v5 (its:List Value):∀ (k:Nat) (acc:List Value),
  List.foldl (fun x1 x2=>x1 ++ x2) acc.toArray (List.replicate k its.toArray) = (acc ++ (List.replicate k its).flatten).toArray
 | 0,acc=>by simp
 | k + 1,acc=>by
  have e:acc.toArray ++ its.toArray = (acc ++ its).toArray:=by simp
  have e2:(acc ++ its) ++ (List.replicate k its).flatten = acc ++ (List.replicate (k + 1) its).flatten:=by
   rw [List.replicate_succ,List.flatten_cons,List.append_assoc]
  rw [← e2,← v5 its k (acc ++ its),← e,List.replicate_succ,List.foldl_cons]
section
variable {X:Cx} {pins:List (Addr × Obj)} {σ:St} {H:Hp} {s:Shared} {l b:Addr} {xs ys zs:List V}
theorem Inv.lset {its its':List Value} {n:Nat} {f:Array Value -> Array Value} {t':Nat} (I:Inv X pins σ H s) (hH:H l = some (.lst xs))
  (e:s.heap.get? l = some { cls:=.type "list",data:=.seq its.toArray n }) (hf:f its.toArray = its'.toArray) (hv:Vals ys its') (hz:ys.length <= sizeLine) :
  Inv X pins σ (upd H l (.lst ys)) { s with heap:=s.heap.update l (Obj.mapSeq f),toks:=t' }:=by
 have q:=PySem.IsL.update e f
 rw [hf] at q
 refine I.write (x:=l) (e:=l) (by rw [hH]; exact trivial) (.inl rfl) (fun b' u hb hu=>(Heap.get?_update_other s.heap (Obj.mapSeq f) (Ne.symm hb)).trans hu) ⟨_,q⟩ ?_
 exact ⟨hz,its',_,hv,q⟩
theorem Inv.lnew {its:List Value} {t':Nat} (I:Inv X pins σ H s) (hv:Vals ys its) (hz:ys.length <= sizeLine) :
  Inv X pins σ (upd H s.heap.objs.size (.lst ys)) { s with heap:=s.heap.push { cls:=.type "list",data:=.seq its.toArray },toks:=t' } :=
 I.laid (fun _ _ q=>Heap.get?_push_of_some _ q) (Nat.le_refl _) ⟨hz,its,0,hv,Heap.get?_push_size _ rfl⟩
theorem Inv.fresh (I:Inv X pins σ H s):H s.heap.objs.size = none:=I.hok.fresh (Nat.le_refl _)
theorem Inv.lstM (I:Inv X pins σ H s) (hH:H l = some (.lst xs)):xs.length <= sizeLine /\ ∃ (its:List Value) (n:Nat),Vals xs its /\ xs.length = its.length /\ s.heap.get? l = some { cls:=.type "list",data:=.seq its.toArray n }:=by
 obtain ⟨z,its,n,r,e⟩:=I.hok l _ hH
 exact ⟨z,its,n,r,r.length,e⟩
theorem Y8 {n:Nat} (h:n <= sizeLine):Builtin.List.listTooLong n = false:=by
 unfold Builtin.List.listTooLong
 exact decide_eq_false (by omega)
end
section
variable {X:Cx}
def Wo:V -> List V -> Hp -> VK -> Prop:=fun x vs H Q=>∃ l xs y,x = .ref l /\ vs = [y] /\ H l = some (.lst xs) /\ xs.length < sizeLine /\ Q .non (upd H l (.lst (xs ++ [y])))
theorem xD:MtM X "list.append" Wo:=by
 intro pins s σ H x vs v us Q I rx rv h
 obtain ⟨l,xs,y,rfl,rfl,hH,hz,q⟩:=h
 cases rx
 obtain ⟨u,rfl,ru⟩:=rv.one
 obtain ⟨z,its,n,r,hl,e⟩:=I.lstM hH
 refine call_meets F.slot_list_append ⟨_,e,rfl⟩ F.entry_list_append (F.args_list_append_2 _ _) (PySem.list_append l its.toArray n u (by rw [List.size_toArray]; omega)) ⟨e,?_⟩
 refine ⟨.non,_,I.lset (its':=its ++ [u]) hH e (by simp) (r.append (.cons ru .nil)) ?_,rfl,q⟩
 rw [List.length_append,List.length_singleton]
 omega
def Vo:V -> List V -> Hp -> VK -> Prop:=fun x vs H Q=>∃ l xs i k y,x = .ref l /\ vs = [.int i] /\ H l = some (.lst xs) /\ -(2 ^ 63) <= i /\ i < 2 ^ 63 /\ seqIndex? i xs.length = some k /\ xs[k]? = some y /\ Q y (upd H l (.lst (xs.eraseIdx k)))
theorem Y9:MtM X "list.pop" Vo:=by
 intro pins s σ H x vs v us Q I rx rv h
 obtain ⟨l,xs,i,k,y,rfl,rfl,hH,h1,h2,hk,hy,q⟩:=h
 cases rx
 obtain ⟨u,rfl,ru⟩:=rv.one
 obtain ⟨t,rfl⟩:=ru
 obtain ⟨z,its,n,r,hl,e⟩:=I.lstM hH
 obtain ⟨w,hw,rw'⟩:=r.get hy
 refine call_meets F.slot_list_pop ⟨_,e,rfl⟩ F.entry_list_pop (F.args_list_pop_2 _ _)
  (MeetsSeq.list_pop_at l its.toArray n i t k w (fitsIndex_both h1 h2) (by rw [List.size_toArray,← hl]; exact hk) (by rw [← Array.getElem?_toList]; exact hw) (by rw [List.size_toArray]; omega)) ⟨e,?_⟩
 refine ⟨y,_,I.lset (its':=its.eraseIdx k) hH e ?_ (r.eraseIdx k) ?_,rw',q⟩
 ·show its.toArray.eraseIdxIfInBounds k = (its.eraseIdx k).toArray
  rw [List.eraseIdxIfInBounds_toArray]
 ·have:=sF xs k
  omega
def rRep:R2:=fun x y H Q=>∃ l k xs,x = .ref l /\ y = .int k /\ H l = some (.lst xs) /\ -(2 ^ 63) <= k /\ k < 2 ^ 63 /\ xs.length * k.toNat <= sizeLine ∧
 ∀ p,H p = none -> Q (.ref p) (upd H p (.lst (List.replicate k.toNat xs).flatten))
theorem qa {α:Type} (xs:List α) (k:Nat):(List.replicate k xs).flatten.length = k * xs.length:=by
 induction k with
 | zero=>simp
 | succ k ih=>rw [List.replicate_succ,List.flatten_cons,List.length_append,ih,Nat.succ_mul,Nat.add_comm]
theorem ZQ:OpR X (binaryOp .Mult) rRep:=by
 intro pins s σ H x y v u Q I rx ry h
 obtain ⟨l,k,xs,rfl,rfl,hH,h1,h2,hz,q⟩:=h
 cases rx
 obtain ⟨t,rfl⟩:=ry
 obtain ⟨z,its,n,r,hl,e⟩:=I.lstM hH
 have hlen:its.toArray.size * k.toNat <= sizeLine:=by rw [List.size_toArray,← hl]; exact hz
 have hcap:¬ its.toArray.size * k.toNat > (2 ^ 63 - 1) / 8:=by
  have:(sizeLine:Nat) <= (2 ^ 63 - 1) / 8:=by decide
  omega
 have hfit:¬ (!Builtin.List.listFitsIndex k) = true:=by
  rw [fitsIndex_both h1 h2]
  exact Bool.false_ne_true
 have hlong:¬ Builtin.List.listTooLong (its.toArray.size * k.toNat) = true:=by
  rw [Y8 hlen]
  exact Bool.false_ne_true
 have hnew:List.foldl (fun x1 x2=>x1 ++ x2) #[] (List.replicate (if its.toArray.isEmpty = true then 0 else k.toNat) its.toArray) = (List.replicate k.toNat its).flatten.toArray:=by
  have f0:∀ m:Nat,List.foldl (fun x1 x2=>x1 ++ x2) #[] (List.replicate m its.toArray) = (List.replicate m its).flatten.toArray:=fun m=>by
   have:=v5 its m []
   rw [List.nil_append] at this
   exact this
  rw [f0]
  cases its with
  | nil=>simp
  | cons a r'=>rw [if_neg (by simp)]
 refine wpAny_binaryOp_repeat_ref (T:="list") (U:="int") (by decide) ⟨_,e,rfl⟩ (fun s'=>typeIs_int s' k t) noFill_list_mul F.fills_int_mul F.slot_int_rmul repeat_list F.slot_int_index.lookup
  (call_meets F.slot_int_rmul (typeIs_int s k t) F.entry_int_rmul (F.args_int_rmul_2 _ _) (int___rmul___int_list k t l its.toArray n)
   ⟨e,rfl,⟨_,e,rfl⟩,call_meets F.slot_list_mul ⟨_,e,rfl⟩ F.entry_list_mul (F.args_list_mul_2 _ _) (AutoListH.list___mul___list_int_3 l its.toArray n k t hfit hcap hlong) ⟨e,?_⟩⟩)
 rw [hnew]
 exact ⟨.ref _,_,I.lnew (t':=s.toks) (r.rep k.toNat) (by rw [qa,Nat.mul_comm]; exact hz),rfl,q _ I.fresh⟩
end
end L2
namespace Att
open PySem PySem.W PySem.Calls PyProof.Rows
theorem v6 {P:Params} {h:Heap}:∀ (ns:List Int) (vs:List Value),WellAll P h vs (ns.map WData.int) -> IntsAre vs ns:=by
 intro ns
 induction ns with
 | nil =>
  intro vs w
  rw [List.map_nil] at w
  cases w
  exact .nil
 | cons n ns ih =>
  intro vs w
  rw [List.map_cons] at w
  cases w with
  | cons a b =>
   cases a
   exact .cons _ _ (ih _ b)
theorem ZR {l:OpenLaw} {n:Nat} (hn:l.most = some n) {P:Params} {h:Heap} {args:List WData} {vals:List Value}
  (hpre:l.row.toRowW.claim.pre args = true) (hwl:WellAll P h vals args) :
  ∃ a vs ns,vals = [Value.ref a] /\ args = [WData.list (ns.map WData.int)] /\ h.get? a = some { cls:=.type "list",data:=.seq vs.toArray } /\ IntsAre vs ns /\ ns.length <= n:=by
 have hsh:WShape.hasAll [] args [.list .int] = true:=(pre_splitW hpre).1
 have hc:l.pre.holds [] { args:=args } = true:=(pre_splitW hpre).2
 obtain ⟨d,r,rfl,h1,h2⟩:=hasAllW_cons hsh
 obtain rfl:=hasAllW_nil h2
 obtain ⟨xs,rfl,h3⟩:=hasW_list h1
 obtain ⟨ns,rfl⟩:=items_int h3
 have hlen:ns.length <= n:=by
  unfold OpenLaw.pre at hc
  have h4:(WTm.not (.lt (.lit (.int (n:Int))) (.len (.arg 0)))).holds [] { args:=[.list (ns.map .int)] } = true:=by
   have h4:=(holds_andW hc).1
   rw [hn] at h4
   exact h4
  have h5:=condW_of h4 (w_not (w_lt w_lit (w_len_list (w_arg rfl))))
  rw [List.length_map] at h5
  refine Nat.le_of_not_lt fun q=>?_
  have q':(n:Int) < ((ns.length:Nat):Int):=by omega
  first
   | (rw [decide_eq_true q'] at h5; exact absurd h5 (by decide))
   | (simp at h5; omega)
 cases hwl with
 | cons w1 w2 =>
  cases w2
  cases w1 with
  | list ho hall=>exact ⟨_,_,ns,rfl,rfl,ho,v6 ns _ hall,hlen⟩
theorem ZS (l:OpenLaw) (args:List WData):l.row.toRowW.claim.post args (.bool true) args = true :=
 postW_of (r:=l.row.toRowW) (X:=(true == true))
  (show WShape.has [] (.bool true) .bool = true by first | rfl | decide | simp [WShape.has,WShape.arms,WShape.armsAll])
  (show (WTm.eq .res (.lit (.bool true))).value [] { args:=args,res:=some (.bool true),after:=args } = some (.bool (true == true)) from w_eq_bool (w_res rfl) w_lit) rfl
theorem attach_call {l:OpenLaw} {n:Nat} {q:Program} {loose:List Str} {XP:(Str -> Option Value) -> Heap -> Prop} {YP:World -> Heap -> Prop} {d:DefRec}
  (hn:l.most = some n) (hdf:d.params.defaults = [])
  (call:∀ (w:World) (s₀ s₁:Shared) (mg mb:Str -> Option Value) (fa:Addr) (o:Obj) (pm cd doc:Value) (a:Addr) (vs:List Value) (ns:List Int),
   Ground q loose [] XP w s₀ mg mb s₁.heap -> YP w s₁.heap →
   s₁.heap.get? fa = some o -> o.data = .func (docDef d.name d.params d.body d.scope pm cd doc) -> s₁.heap.CodeRec cd d.name -> mg d.name = some (.ref fa) →
   s₁.heap.get? a = some { cls:=.type "list",data:=.seq vs.toArray } -> IntsAre vs ns -> ns.length <= n -> s₁.gens = #[] →
   codeAny (model l.prog w) callerA (.call (.ref fa) ⟨[.ref a],[]⟩) (fun r s'=>r = .ok (.ret (.bool true)) /\ OldK s₁.heap s'.heap /\ s'.os = s₁.os /\ AllBare s'.gens) s₁) :
  WalkO q loose XP YP l.row.toRowW d [] (fun f vs=>PySem.call f vs):=by
 intro w s₀ s₁ mg mb G Y fa o pm cd doc dV kV ho hd hcd hD hmg hg args vals as hpre hlay hrd hwl hlo
 obtain rfl:dV = .none:=Dflts.none hD hdf
 obtain rfl:kV = .none:=Dflts.noKw hD
 obtain ⟨a,vs,ns,rfl,rfl,hobj,hints,hlen⟩:=ZR hn hpre hwl
 refine enter_call (codeAny_mono (call w s₀ s₁ mg mb fa o pm cd doc a vs ns G Y ho (fd_plain hd) hcd hmg hobj hints hlen hg) fun r s' hq=>?_)
 obtain ⟨rfl,h2,h3,h4⟩:=hq
 exact ⟨.inl ⟨.bool true,.bool true,[],rfl,fun _=>rfl,.bool true,ZS l _,fun _=>⟨List.Pairwise.nil,fun _ hm=>(nomatch hm)⟩⟩,h2,h3,h4⟩
end Att
namespace L2
open PySem PySem.Spec PyProof.Rows
theorem wS:∀ {vs:List Value} {ns:List Int},IntsAre vs ns -> Vals (ns.map V.int) vs
 | _,_,.nil=>.nil
 | _,_,.cons n t h=>.cons ⟨t,rfl⟩ (wS h)
def Only (H:Hp):Prop:=∀ b,H b = none \/ ∃ o xs,H b = some (.frz o (.lst xs))
theorem Xa {P:Program} {w:World} {K:FG7} {mg mb:Str -> Option Value} {CX:CXT} {k:Nat} {fa a:Addr} {fd:FuncData} {x:Str} {sp:Sp} {s₁:Shared} {vs:List Value} {ns:List Int}
  (KX:K.In s₁.heap) (hns:s₁.heap.Ns mainGlobals mg) (hb:s₁.heap.Ns builtinsNs mb) (hbb:∀ x:Str,x ≠ "__name__" -> mb x = bootBuiltins x) (hlim:s₁.heap.NoLimit) (hg:s₁.gens = #[])
  (ha:s₁.heap.get? a = some { cls:=.type "list",data:=.seq vs.toArray }) (hi:IntsAre vs ns) (hl:ns.length <= sizeLine) (hr:Room k callerA)
  (F:∀ base:Heap,K.In base -> base.Ns mainGlobals mg -> FnOk P w K mg base CX k fa fd [x] sp) (hbind:∀ (s:Shared) (u:Value),BindsTo s fd ⟨[u],[]⟩ [(x,u)])
  (hsp:∀ H:Hp,Only H -> SqL K H a (ns.map V.int) -> sp [.ref a] H (fun v _=>v = .bl true) fun _ _ _=>False)
  (hCX:∀ H e s',CX [] H s₁ (fun _ _ _=>False) e s' -> False) :
  codeAny (model P w) callerA (.call (.ref fa) ⟨[.ref a],[]⟩) (fun r s'=>r = .ok (.ret (.bool true)) /\ OldK s₁.heap s'.heap /\ s'.os = s₁.os /\ AllBare s'.gens) s₁:=by
 have rv:=wS hi
 have lenV:=hi.length
 -- from an abstract heap in which nothing but the script may be tracked
 have core:∀ H:Hp,Only H -> SqL K H a (ns.map V.int) -> HOk P w H s₁.heap -> (∀ b,H b ≠ none -> b = a) -> (H a ≠ none -> K.lookup a = none) →
   codeAny (model P w) callerA (.call (.ref fa) ⟨[.ref a],[]⟩) (fun r s'=>r = .ok (.ret (.bool true)) /\ OldK s₁.heap s'.heap /\ s'.os = s₁.os /\ AllBare s'.gens) s₁:=by
  intro H hO hS hok hA hK
  have base_of:∀ {b:Addr} {o:Obj},s₁.heap.get? b = some o -> H b = none -> (hidT s₁.heap H).get? b = some o:=fun e n=>YY e n
  have noA:∀ {b:Addr} {o:Obj} {es:Array DictEntry} {ep:Nat},s₁.heap.get? b = some o -> o.data = .dict es ep -> H b = none:=fun {b o es ep} e d=>by
   cases q:H b with
   | none=>rfl
   | some u =>
    have e':b = a:=hA b (by rw [q]; simp)
    subst e'
    rw [ha] at e; cases e
    have d':Data.seq vs.toArray _ = Data.dict es ep:=d
    cases d'
  have nsK:∀ {b:Addr} {m:Str -> Option Value},s₁.heap.Ns b m -> (hidT s₁.heap H).Ns b m:=fun {b m} ⟨o,es,ep,e,d,r⟩=>⟨o,es,ep,base_of e (noA e d),d,r⟩
  have hKb:K.In (hidT s₁.heap H):=fun b o e=>base_of (KX b o e) (by
   cases q:H b with
   | none=>rfl
   | some u =>
    have e':b = a:=hA b (by rw [q]; simp)
    subst e'
    rw [hK (by rw [q]; simp)] at e; cases e)
  have hM:Mod K mg (hidT s₁.heap H):=⟨hKb,nsK hns,⟨mb,nsK hb,hbb⟩,let ⟨mc,h1,h2⟩:=hlim; ⟨mc,nsK h1,h2⟩⟩
  have e0:Env0 P w K mg (hidT s₁.heap H) callerA [] s₁ H:=⟨rfl,hM,fun b o e=>Wc e,Nat.le_of_eq (Zw _ _),trivial,fun b hb=>absurd (show b ∈ ([]:List Addr) from hb) (by simp),hok,.of_eq hg⟩
  refine codeAny_mono ((F _ hKb (nsK hns)).run callerA [] s₁ H ⟨[.ref a],[]⟩ [.ref a] [.ref a] _ _ hr e0 (hbind s₁ (.ref a)) (.cons rfl .nil) (hsp H hO hS)) fun r s' h=>?_
  cases r with
  | error e=>exact (hCX H e s' h).elim
  | ok fl =>
   cases fl with
   | next=>exact False.elim h
   | brk=>exact False.elim h
   | cont=>exact False.elim h
   | ret u =>
    obtain ⟨v,H',os,bare,un,hok',r',q⟩:=h
    have q':v = .bl true:=q
    subst q'
    obtain rfl:u = Value.bool true:=r'
    refine ⟨rfl,OldK.of_keep fun b o e=>?_,os,bare⟩
    cases q:H b with
    | none=>exact un.keep b o e q (by intro z; exact absurd (show b ∈ ([]:List Addr) from z) (by simp)) (by simp)
    | some u =>
     rcases hO b with z | ⟨ob,xs,z⟩
     ·rw [q] at z; cases z
     ·have z2:=un.frzs b ob _ z
      obtain ⟨e1,_⟩:=hok b _ z
      obtain ⟨e2,_⟩:=hok' b _ z2
      rw [e] at e1; cases e1
      exact e2
 cases hk:K.lookup a with
 | some o =>
  -- the script is one of the module's own objects
  have e:=KX a o hk
  rw [ha] at e
  cases e
  refine core (fun _=>none) (fun _=>.inl rfl) (.inr ⟨_,vs.toArray,_,hk,rfl,rfl,rfl,by rw [List.size_toArray,lenV]; exact hl,by simpa using rv⟩) (fun b u z=>by have z':(none:Option HO) = some u:=z; cases z') (fun b z=>absurd rfl z) fun z=>absurd rfl z
 | none =>
  refine core (fun b=>if b = a then some (.frz { cls:=.type "list",data:=.seq vs.toArray } (.lst (ns.map V.int))) else none) (fun b=>?_) (.inl (.inr ⟨{ cls:=.type "list",data:=.seq vs.toArray },if_pos rfl⟩)) (fun b u z=>?_) (fun b z=>?_) fun _=>hk
  ·by_cases hb:b = a
   ·exact .inr ⟨_,_,if_pos hb⟩
   ·exact .inl (if_neg hb)
  ·by_cases hb:b = a
   ·have z':=(if_pos hb).symm.trans z
    cases z'
    subst hb
    exact ⟨ha,by rw [List.length_map]; exact hl,vs,_,rv,ha⟩
   ·have z':=(if_neg hb).symm.trans z
    cases z'
  ·by_cases hb:b = a
   ·exact hb
   ·exact absurd (if_neg hb) z
end L2
namespace L2
open PySem PySem.Spec PyProof.Rows
theorem walk_of {l:PySem.W.OpenLaw} {n k:Nat} {q:Program} {loose:List Str} {XP:(Str -> Option Value) -> Heap -> Prop} {YP:World -> Heap -> Prop} {d:DefRec} {K:Params -> FG7} {CX:World -> CXT} {sp:World -> Sp} {x:Str}
  (hn:l.most = some n) (hn2:n <= sizeLine) (hdf:d.params.defaults = []) (hr:Room k callerA)
  (hY:∀ (w:World) (h:Heap),YP w h -> (K w.params).In h)
  (F:∀ (w:World) (mg:Str -> Option Value) (fa:Addr) (h:Heap),(K w.params).In h -> h.Ns mainGlobals mg -> mg d.name = some (.ref fa) →
   ∃ fd:FuncData,(∀ (s:Shared) (u:Value),BindsTo s fd ⟨[u],[]⟩ [(x,u)]) ∧
    ∀ base:Heap,(K w.params).In base -> base.Ns mainGlobals mg -> FnOk l.prog w (K w.params) mg base (CX w) k fa fd [x] (sp w))
  (hsp:∀ (w:World) (H:Hp) (a:Addr) (ns:List Int),ns.length <= n -> Only H -> SqL (K w.params) H a (ns.map V.int) -> sp w [.ref a] H (fun v _=>v = .bl true) fun _ _ _=>False)
  (hCX:∀ (w:World) (H:Hp) (s:Shared) (e:Value) (s':Shared),CX w [] H s (fun _ _ _=>False) e s' -> False) :
  PySem.W.WalkO q loose XP YP l.row.toRowW d [] (fun f vs=>PySem.call f vs):=by
 refine Att.attach_call hn hdf fun w s₀ s₁ mg mb fa o pm cd doc a vs ns G Y ho hd hcd hmg hobj hints hlen hg=>?_
 have KX:=hY w _ Y
 obtain ⟨fd,hb,hF⟩:=F w mg fa _ KX G.T.g hmg
 exact Xa KX G.T.g G.T.b G.T.builtins G.T.nolimit hg hobj hints (Nat.le_trans hlen hn2) hr hF hb (fun H hO hS=>hsp w H a ns hlen hO hS) fun H e s'=>hCX w H s₁ e s'
end L2
namespace L2
open PySem PySem.Spec PyProof.Rows
def v7 (s:Stmt):Arguments:=match s with
 | .FunctionDef _ a _ _ _ _ _ _ _ _=>a
 | _=>{ posonlyargs:=[],args:=[],vararg:=none,kwonlyargs:=[],kw_defaults:=[],kwarg:=none,defaults:=[] }
def vo (s:Stmt):List Stmt:=match s with
 | .FunctionDef _ _ b _ _ _ _ _ _ _=>b
 | _=>[]
def zf (s:Stmt):Scope:=match s with
 | .FunctionDef _ _ _ _ _ _ sc _ _ _=>sc
 | _=>{ kind:=.function,names:=[],isGenerator:=false,isCoroutine:=false }
abbrev CX0:CXT:=fun _ _ _ _ _ _=>False
abbrev E0:XK:=fun _ _ _=>False
theorem Uk {X:Cx}:ZJ CX0 X E0:=fun _ _ _ _ _ _ _ h=>h.elim
structure Fun (K:FG7) (x qual:Str) (st:Stmt) (f:Addr) (fd:FuncData):Prop where
 ex:∃ (oc:Value) (od:Option Addr) (kV doc pm:Value) (an:Option Addr) (cdv ct:Value) (osl:Array (Option Value)),
  fd = PySem.W.fnOf x qual (v7 st) (vo st) (zf st) .none kV doc pm an cdv ct /\ K.lookup f = some ⟨oc,od,.func fd,osl⟩ /\ PySem.W.codeIn K cdv qual = true
 kp:PySem.W.keepIn K (.ref f) = true
section
variable {P:Program} {w:World} {K:FG7} {mg:Str -> Option Value} {base:Heap}
theorem Fun.ok {x qual:Str} {st:Stmt} {f:Addr} {fd:FuncData} {N ps:List Str} {k:Nat} {sp:Sp} (F:Fun K x qual st f fd) (S:FnScope N ps (zf st)) (len:∀ vs H Q E,sp vs H Q E -> vs.length = ps.length)
  (hbody:∀ (cdv:Value) (A:Around) (outer:List Env) (s:Shared) (H:Hp) (vs:List V) (Q:VK) (E:XK),Room k (A.deeper (envOfC qual (zf st) s.heap.objs.size f cdv)) -> sp vs H Q E →
   ∃ t,PSs (cxOf CX0 P w K mg base N qual (zf st) f cdv A outer s H E).nox (vo st) t /\ t { nx:=fun _ H'=>Q .non H',rt:=Q } (sB N vs) H):FnOk P w K mg base CX0 (k + 1) f fd ps sp:=by
 obtain ⟨oc,od,kV,doc,pm,an,cdv,ct,osl,rfl,lk,hcd⟩:=F.ex
 refine Uh lk hcd S len fun A outer s H vs Q E hr hsp=>?_
 obtain ⟨t,h,q⟩:=hbody cdv A outer s H vs Q E hr hsp
 exact ⟨t,h.nox,q⟩
theorem Fun.binds {x qual:Str} {st:Stmt} {f:Addr} {fd:FuncData} {ps:List Str} (F:Fun K x qual st f fd)
  (h:∀ (kV doc pm:Value) (an:Option Addr) (cdv ct:Value) (us:List Value),us.length = ps.length -> bindArgs (PySem.W.fnOf x qual (v7 st) (vo st) (zf st) .none kV doc pm an cdv ct) ⟨us,[]⟩ = pure (ps.zip us)):rZ K fd ps []:=by
 obtain ⟨oc,od,kV,doc,pm,an,cdv,ct,osl,rfl,lk,hcd⟩:=F.ex
 exact .all (h kV doc pm an cdv ct)
theorem fun_mk {x qual:Str} {st:Stmt} {f:Addr} {oc:Value} {od an:Option Addr} {osl:Array (Option Value)} {kV doc pm cdv ct:Value} (l:K.lookup f = some ⟨oc,od,.func (PySem.W.fnOf x qual (v7 st) (vo st) (zf st) .none kV doc pm an cdv ct),osl⟩)
  (c:PySem.W.codeIn K cdv qual = true) (k:PySem.W.keepIn K (.ref f) = true):Fun K x qual st f (PySem.W.fnOf x qual (v7 st) (vo st) (zf st) .none kV doc pm an cdv ct):=⟨⟨oc,od,kV,doc,pm,an,cdv,ct,osl,rfl,l,c⟩,k⟩
end
theorem zp {n:Nat} (h:n <= 1000):n < sizeLine:=Nat.lt_of_le_of_lt h (by decide)
section
variable {X:Cx}
theorem pv (i:Nat) {x:Str} {pos:Pos} (hN:X.N[i]? = some x:=by rfl) (hv:Vis X.env.scope x:=by first | exact Or.inl rfl | exact Or.inr (Or.inl rfl) | exact Or.inr (Or.inr rfl)) (hd:(x == ("__debug__":Str)) = false:=by decide)
  (hcd:(x == ("__classdict__":Str)) = false:=by decide):PE X (.Name x pos) (tVar i):=W9 hN hv hd hcd
end
theorem iteF {A B:Prop} (h:B):if false = true then A else B:=by
 rw [if_neg Bool.false_ne_true]
 exact h
theorem iteT {A B:Prop} (h:A):if true = true then A else B:=by
 rw [if_pos rfl]
 exact h
theorem ite2 {c A B:Prop} [Decidable c] (h1:c -> A) (h2:¬ c -> B):if c then A else B:=by
 by_cases h:c
 ·rw [if_pos h]
  exact h1 h
 ·rw [if_neg h]
  exact h2 h
end L2
namespace L3
open PySem PySem.Spec PyProof.Rows L2
theorem Ul:bootBuiltins "abs" = some (.builtin "abs"):=by decide +kernel
theorem x9:bootBuiltins "len" = some (.builtin "len"):=by decide +kernel
theorem Xb:bootBuiltins "max" = some (.builtin "max"):=by decide +kernel
theorem Um:bootBuiltins "min" = some (.builtin "min"):=by decide +kernel
theorem zA:bootBuiltins "isinstance" = some (.builtin "isinstance"):=by decide +kernel
theorem sG:bootBuiltins "all" = some (.builtin "all"):=by decide +kernel
theorem Vp:bootBuiltins "any" = some (.builtin "any"):=by decide +kernel
theorem Xc:bootBuiltins "sorted" = some (.builtin "sorted"):=by decide +kernel
theorem Uo:bootBuiltins "int" = some (.type "int"):=by decide +kernel
theorem XW:bootBuiltins "bool" = some (.type "bool"):=by decide +kernel
theorem zG:bootBuiltins "tuple" = some (.type "tuple"):=by decide +kernel
theorem jf:bootBuiltins "list" = some (.type "list"):=by decide +kernel
def TyV (K:FG7) (H:Hp) (x:V) (T:String):Prop:=match x with
 | .non=>T = "NoneType"
 | .bl _=>T = "bool"
 | .int _=>T = "int"
 | .str _=>T = "str"
 | .ref a=>(T = "tuple" /\ ∃ xs,SqT K H a xs) \/ (T = "list" /\ ∃ xs,SqL K H a xs) \/ (T = "dict" /\ ∃ kvs,H a = some (.dK kvs))
 | _=>False
section
variable {X:Cx} {a b c:Expr} {ta tb tc:TE} {pos:Pos}
def rIsi (K:FG7):List V -> Hp -> VK -> Prop:=fun xs H Q=>∃ x T t k,xs = [x,.ty T] /\ TyV K H x t /\ PySem.W.kitOne K (.type t) (.type T) = some k /\ Q (.bl k) H
theorem yr:xw X (.builtin "isinstance") (rIsi X.K):=by
 intro pins s σ H xs us Q I r h
 obtain ⟨x,T,t,k,rfl,ty,e,q⟩:=h
 obtain ⟨u,w',rfl,rx,rt⟩:=Y5 r
 cases (show w' = Value.type T from rt)
 have fin:∀ tk,EP X pins σ Q (.bool k) { s with toks:=tk }:=fun tk=>⟨.bl k,H,I.tok _,rfl,q⟩
 cases x with
 | non=>cases (show t = "NoneType" from ty); exact wn I rx .non e fin
 | bl y=>cases (show t = "bool" from ty); exact wn I rx (.bl y) e fin
 | int i=>cases (show t = "int" from ty); exact wn I rx (.int i) e fin
 | str y=>cases (show t = "str" from ty); exact wn I rx (.str y) e fin
 | byt y=>exact ty.elim
 | flt y=>exact ty.elim
 | ty y=>exact ty.elim
 | ref a =>
  cases (show u = Value.ref a from rx)
  rcases ty with ⟨rfl,xs,hq⟩ | ⟨rfl,xs,hq⟩ | ⟨rfl,kvs,hq⟩
  ·obtain ⟨its,_,⟨o,h1,h2,_⟩,_⟩:=I.tuple hq
   exact PySem.W.kia_one PySem.W.kitx_tuple I.kIn ⟨o,h1,h2⟩ e (fun z=>nomatch z) fin
  ·obtain ⟨its,_,pl,_⟩:=I.list hq
   obtain ⟨o,h1,h2,_⟩:=pl.isList
   exact PySem.W.kia_one PySem.W.kitx_list I.kIn ⟨o,h1,h2⟩ e (fun z=>nomatch z) fin
  ·exact wn (x:=V.ref a) I (show RelV (.ref a) (.ref a) from rfl) (.dK hq) e fin
theorem xr {x:Str} {T:String} {pos:Pos} (hg:Gl X x) (hm:X.mg x = none) (hv:bootBuiltins x = some (.type T)) (hn:x ≠ "__name__":=by decide) (hd:(x == ("__debug__":Str)) = false:=by decide):PE X (.Name x pos) (tC (.ty T)) :=
 We hg hm hv (show RelV (.ty T) (Value.type T) from rfl) hn hd
theorem v8:OpR X (binaryOp .Mult) (rI IntMulOk fun i j=>.int (i * j)):=opI fun _ _ _ _ _ _ _ hc q=>mul_int q hc
def Wp (i j:Int):Prop:=0 < j /\ j < 2 ^ 200
theorem Wp.py {i j:Int} (h:Wp i j):Builtin.divisionGoesByPylong i j = false:=by
 refine PyProof.noPylong_of_log2 ?_
 obtain ⟨h1,h2⟩:=h
 have h0:j.natAbs ≠ 0:=by omega
 have h3:j.natAbs < 2 ^ 200:=by
  have:(j.natAbs:Int) = j:=by omega
  have h4:((j.natAbs:Nat):Int) < ((2 ^ 200:Nat):Int):=by rw [this]; exact h2
  exact Int.ofNat_lt.mp h4
 exact Nat.lt_of_lt_of_le ((Nat.log2_lt h0).mpr h3) (by decide)
theorem Xd:OpR X (binaryOp .FloorDiv) (rI Wp fun i j=>.int (i / j)):=opI fun i j _ _ _ _ _ hc q=>by
 have:=hc.1
 refine floordiv_int (by omega) ?_ (.inl hc.py)
 rw [Int.fdiv_eq_ediv_of_nonneg i (by omega)]
 exact q
end
def zg (P:Program) (w:World) (K:FG7) (mg:Str -> Option Value) (base:Heap) (k:Nat) (x:Str) (ps:List Str) (sp:Sp):Prop :=
 ∃ (f:Addr) (fd:FuncData),FnOk P w K mg base CX0 k f fd ps sp /\ rZ K fd ps [] /\ PySem.W.keepIn K (.ref f) = true /\ mg x = some (.ref f)
theorem zg.mono {P:Program} {w:World} {K:FG7} {mg:Str -> Option Value} {base:Heap} {j k:Nat} {x:Str} {ps:List Str} {sp:Sp} (C:zg P w K mg base j x ps sp) (h:j <= k):zg P w K mg base k x ps sp:=by
 obtain ⟨f,fd,F,b,kp,m⟩:=C
 exact ⟨f,fd,F.mono h,b,kp,m⟩
section
variable {X:Cx} {k:Nat} {ps:List Str} {sp:Sp} {x:Str} {p pos:Pos} {e:Expr} {es:List Expr} {t:TA}
theorem ze (C:zg X.prog X.w X.K X.mg X.base k x ps sp) (hr:Room k X.A) (hg:Gl X x)
  (ha:PA X (e :: es) t) (hdb:(x == ("__debug__":Str)) = false:=by decide) (he:starEach (e :: es) X.env = (false,eval e X.env) :: starEach es X.env:=by rfl) (hpl:(backTo pos (starEach es X.env)).any (·.1) = false:=by rfl) :
  PE X (.Call (.Name x p) (e :: es) [] pos) (Vi sp [] E0 t):=by
 obtain ⟨f,fd,F,b,kp,m⟩:=C
 exact Wj F hr hg m kp b .nil Uk ha hdb he hpl
end
structure Grow (m:List Addr) (H H':Hp):Prop where
 keep:∀ b o,b ∉ m -> H b = some o -> H' b = some o
 tup:∀ b xs,H b = some (.tup xs) -> H' b = some (.tup xs)
 frz:∀ b o u,H b = some (.frz o u) -> H' b = some (.frz o u)
theorem Grow.refl (m:List Addr) (H:Hp):Grow m H H:=⟨fun _ _ _ h=>h,fun _ _ h=>h,fun _ _ _ h=>h⟩
theorem Grow.trans {m:List Addr} {H H1 H2:Hp} (a:Grow m H H1) (b:Grow m H1 H2):Grow m H H2 :=
 ⟨fun c o n h=>b.keep c o n (a.keep c o n h),fun c xs h=>b.tup c xs (a.tup c xs h),fun c o u h=>b.frz c o u (a.frz c o u h)⟩
theorem Grow.new {m:List Addr} {H:Hp} {p:Addr} (h:H p = none) (o:HO):Grow m H (upd H p o) :=
 ⟨fun b u _ q=>by rw [zm (zq q h)]; exact q,fun b xs q=>by rw [zm (zq q h)]; exact q,fun b u v q=>by rw [zm (zq q h)]; exact q⟩
theorem Grow.set {m:List Addr} {H:Hp} {p:Addr} {xs:List V} (h:H p = some (.lst xs)) (hm:p ∈ m) (ys:List V):Grow m H (upd H p (.lst ys)) :=
 ⟨fun b u hb q=>by rw [zm (show b ≠ p from fun z=>hb (by rw [z]; exact hm))]; exact q,fun b zs q=>by rw [zm (fun z=>by subst z; rw [h] at q; cases q)]; exact q,fun b u v q=>by rw [zm (fun z=>by subst z; rw [h] at q; cases q)]; exact q⟩
theorem Grow.mono {m m':List Addr} {H H':Hp} (a:Grow m H H') (h:∀ b ∈ m,b ∈ m'):Grow m' H H':=⟨fun b o n q=>a.keep b o (fun z=>n (h b z)) q,a.tup,a.frz⟩
theorem Grow.sqT {m:List Addr} {H H':Hp} (g:Grow m H H') {K:FG7} {a:Addr} {xs:List V} (h:SqT K H a xs):SqT K H' a xs:=by
 rcases h with (h | ⟨o,h⟩) | h
 ·exact .inl (.inl (g.tup _ _ h))
 ·exact .inl (.inr ⟨o,g.frz _ _ _ h⟩)
 ·exact .inr h
theorem Grow.free {H H':Hp} {m:List Addr} (g:Grow m H H') {l:Addr} (hm:l ∉ m) (h:H' l = none):H l = none:=by
 cases q:H l with
 | none=>rfl
 | some o=>rw [g.keep l o hm q] at h; cases h
def Scr (K:FG7) (H:Hp) (a:Addr) (ns:List Int):Prop :=
 (∃ o,H a = some (.frz o (.lst (ns.map V.int)))) ∨
  ∃ (o:Obj) (its:Array Value) (n:Nat),K.lookup a = some o /\ o.cls = .type "list" /\ o.dict = none /\ o.data = .seq its n /\ its.size <= sizeLine /\ Vals (ns.map V.int) its.toList
theorem Scr.sq {K:FG7} {H:Hp} {a:Addr} {ns:List Int} (h:Scr K H a ns):SqL K H a (ns.map V.int):=by
 rcases h with ⟨o,h⟩ | h
 ·exact .inl (.inr ⟨o,h⟩)
 ·exact .inr h
theorem Scr.of {K:FG7} {H:Hp} {a:Addr} {ns:List Int} (hO:Only H) (h:SqL K H a (ns.map V.int)):Scr K H a ns:=by
 rcases h with (h | ⟨o,h⟩) | h
 ·rcases hO a with z | ⟨o,xs,z⟩
  ·rw [h] at z; cases z
  ·rw [h] at z; cases z
 ·exact .inl ⟨o,h⟩
 ·exact .inr h
theorem Grow.scr {m:List Addr} {H H':Hp} (g:Grow m H H') {K:FG7} {a:Addr} {ns:List Int} (h:Scr K H a ns):Scr K H' a ns:=by
 rcases h with ⟨o,h⟩ | h
 ·exact .inl ⟨o,g.frz _ _ _ h⟩
 ·exact .inr h
structure Blt (mg:Str -> Option Value):Prop where
 abs:mg "abs" = none
 len:mg "len" = none
 max:mg "max" = none
 min:mg "min" = none
 divmod:mg "divmod" = none
 repr:mg "repr" = none
 isinstance:mg "isinstance" = none
 all:mg "all" = none
 range:mg "range" = none
 int:mg "int" = none
 bool:mg "bool" = none
 str:mg "str" = none
 tuple:mg "tuple" = none
 list:mg "list" = none
 dict:mg "dict" = none
def sp1 (b:V -> Hp -> VK -> Prop):Sp:=fun vs H Q _=>∃ x,vs = [x] /\ b x H Q
def sp2 (b:V -> V -> Hp -> VK -> Prop):Sp:=fun vs H Q _=>∃ x y,vs = [x,y] /\ b x y H Q
def sp3 (b:V -> V -> V -> Hp -> VK -> Prop):Sp:=fun vs H Q _=>∃ x y z,vs = [x,y,z] /\ b x y z H Q
theorem xn {b:V -> Hp -> VK -> Prop} {p:Str}:∀ vs H Q E,sp1 b vs H Q E -> vs.length = [p].length:=fun vs H Q E h=>by
 obtain ⟨x,rfl,_⟩:=h; rfl
theorem zB {b:V -> V -> Hp -> VK -> Prop} {p q:Str}:∀ vs H Q E,sp2 b vs H Q E -> vs.length = [p,q].length:=fun vs H Q E h=>by
 obtain ⟨x,y,rfl,_⟩:=h; rfl
theorem yK {b:V -> V -> V -> Hp -> VK -> Prop} {p q r:Str}:∀ vs H Q E,sp3 b vs H Q E -> vs.length = [p,q,r].length:=fun vs H Q E h=>by
 obtain ⟨x,y,z,rfl,_⟩:=h; rfl
def sH:V -> Bool
 | .int _=>true
 | _=>false
def endV:V -> Bool
 | .non=>true
 | .int _=>true
 | _=>false
def Kn (K:FG7) (H:Hp) (x:V):Prop:=∃ T,TyV K H x T
structure Deed where
 add:Int
 lo:Option Int
 hi:Option Int
 deriving DecidableEq
def ov:Option Int -> V
 | none=>.non
 | some i=>.int i
def Deed.vs (d:Deed):List V:=[.int d.add,ov d.lo,ov d.hi]
def Deed.Ok (d:Deed):Prop:=∀ l h,d.lo = some l -> d.hi = some h -> l < h \/ (l = h /\ d.add = 0)
def Wq (lo:Option Int) (r:Int):Int:=match lo with
 | none=>r
 | some l=>if l > r then l else r
def ZT (hi:Option Int) (r:Int):Int:=match hi with
 | none=>r
 | some h=>if h < r then h else r
def Deed.mk' (d:Deed) (v:Int):Int:=ZT d.hi (Wq d.lo (v + d.add))
def ordV:V -> V -> V -> Bool
 | .int a,.int l,.int h=>decide (l < h) || (decide (l = h) && decide (a = 0))
 | _,_,_=>true
def vp:List V -> Bool
 | [x,y,z]=>sH x && (endV y && (endV z && ordV x y z))
 | _=>false
theorem j0 {d:Deed} (h:d.Ok):vp d.vs = true:=by
 obtain ⟨a,lo,hi⟩:=d
 cases lo with
 | none=>cases hi <;> rfl
 | some l =>
  cases hi with
  | none=>rfl
  | some u =>
   have:=h l u rfl rfl
   show (decide (l < u) || (decide (l = u) && decide (a = 0))) = true
   rcases this with q | ⟨q,q2⟩
   ·simp [q]
   ·have q2':a = 0:=q2
    simp [q,q2']
theorem ZU {x:V} (h:sH x = true):∃ i,x = .int i:=by
 cases x <;> first | exact ⟨_,rfl⟩ | cases h
theorem XX {x:V} (h:endV x = true):∃ o,x = ov o:=by
 cases x <;> first | exact ⟨none,rfl⟩ | exact ⟨some _,rfl⟩ | cases h
theorem len3 {xs:List V} (h:xs.length = 3):∃ x y z,xs = [x,y,z]:=by
 match xs,h with
 | [x,y,z],_=>exact ⟨x,y,z,rfl⟩
theorem qb {xs:List V} (h:xs.length ≠ 3):vp xs = false:=by
 match xs,h with
 | [],_=>rfl
 | [_],_=>rfl
 | [_,_],_=>rfl
 | [_,_,_],h=>exact absurd rfl h
 | _ :: _ :: _ :: _ :: _,_=>rfl
def yg (K:FG7) (H:Hp) (x:V) (d:Deed):Prop:=∃ a,x = .ref a /\ SqT K H a d.vs
theorem Grow.deed {m:List Addr} {H H':Hp} (g:Grow m H H') {K:FG7} {x:V} {d:Deed} (h:yg K H x d):yg K H' x d:=by
 obtain ⟨a,e,h⟩:=h
 exact ⟨a,e,g.sqT h⟩
theorem jg {K:FG7} {H:Hp} {i:Int}:Kn K H (.int i):=⟨"int",rfl⟩
theorem Vq {K:FG7} {H:Hp}:Kn K H .non:=⟨"NoneType",rfl⟩
theorem Vr {K:FG7} {H:Hp} (o:Option Int):Kn K H (ov o):=by cases o; exact Vq; exact jg
def xo (K:FG7):Sp:=sp1 fun x H Q=>Kn K H x /\ Q (.bl (sH x)) H
def sI (K:FG7):Sp:=sp1 fun x H Q=>Kn K H x /\ Q (.bl (endV x)) H
def uT (K:FG7):Sp:=sp1 fun x H Q=>(∃ T,T ≠ "tuple" /\ TyV K H x T /\ Q (.bl false) H) \/ ∃ a xs,x = .ref a /\ SqT K H a xs /\ (∀ y ∈ xs,Kn K H y) /\ Q (.bl (vp xs)) H
def ZV (K:FG7):Sp:=sp2 fun x y H Q=>∃ d v,yg K H x d /\ y = .int v /\ Q (.int (d.mk' v)) H
def Sm (n:Int):Prop:=-(10 ^ 30) < n /\ n < 10 ^ 30
def Deed.Sm (d:Deed):Prop:=L3.Sm d.add /\ (∀ l,d.lo = some l -> L3.Sm l) /\ ∀ h,d.hi = some h -> L3.Sm h
def jh (K:FG7):Sp:=sp1 fun x H Q=>∃ a ns,x = .ref a /\ Scr K H a ns /\ ns.length <= 63 /\ ∀ H',Q (.bl true) H'
theorem szl {n:Nat} (h:Nat.ble n 1000 = true):n <= sizeLine:=Nat.le_of_lt (zp (Nat.le_of_ble_eq_true h))
theorem Grow.shrink {H H':Hp} {l:Addr} (h:H l = none) (g:Grow [l] H H'):Grow [] H H' :=
 ⟨fun b o _ q=>g.keep b o (fun z=>by rw [List.mem_singleton.mp z] at q; rw [h] at q; cases q) q,g.tup,g.frz⟩
theorem Grow.wk {m:List Addr} {H H':Hp} (g:Grow [] H H'):Grow m H H':=g.mono (by simp)
theorem Vs {i j:Int} (h2:-(2 ^ 60) < j /\ j < 2 ^ 60):IntMulOk i j:=PySem.IntMulOk.of_right (Nat.le_trans ((PySem.intBits_le_iff (m:=60)).mpr (by obtain ⟨a,b⟩:=h2; omega)) (by decide))
section
variable {prog:Program} {w:World} {A:Around} {R:Result -> Shared -> Prop} {s:Shared}
theorem sJ {elt target iter:Expr} {ifs:List Expr} {scope:Scope} {pos:Pos} {it acc:Value} {env:Env} (I:Nat -> Shared -> Prop)
  (turn:∀ n s,I n s -> wpAny (model prog w) A (pyNext it) (fun r s₁=>match r with
   | none=>R (.ok .next) s₁
   | some v=>wpAny (model prog w) A (letOwnedTupleGo target it v) (fun _ s₂=>wpAny (model prog w) A (assign target env v) (fun _ s₃ =>
     wpAny (model prog w) A (forIn ifs true fun c r=>if r = true then do let ok ← isTrue c env (eval c env); pure (ForInStep.yield ok) else pure (ForInStep.yield r)) (fun ok s₄ =>
      if ok = true then wpAny (model prog w) A (eval elt env) (fun x s₅ =>
       wpAny (model prog w) A (call (.builtin "list.append") [acc,x]) (fun _ s₆=>∃ m,m < n /\ I m s₆) (fun _ _=>False) s₅) (fun _ _=>False) s₄
      else ∃ m,m < n /\ I m s₄) (fun _ _=>False) s₃) (fun _ _=>False) s₂) (fun _ _=>False) s₁) (fun _ _=>False) s)
  (n:Nat) (h:I n s) :
  codeAny (model prog w) A (.compLoop (.ListComp elt [⟨target,iter,ifs,0⟩] scope pos) 0 it acc env) R s:=by
 refine codeAny_loop rfl I (fun n s hI=>?_) n h
 show wpAny _ A ((compTurn (.ListComp elt [⟨target,iter,ifs,0⟩] scope pos) 0 it acc env).onRaise (fun x=>do noteFrame x env; theTreesLotGoes x)) _ _ s
 refine wpAny_noted ?_
 rw [compTurn_list]
 have no:∀ (E:VS7) (e:Value) (s:Shared),(fun (_:Value) (_:Shared)=>False) e s -> E e s:=fun _ _ _ f=>f.elim
 refine wpAny_bind (wpAny_standAt (wpAny_bind (wpAny_mono (turn n s hI) (fun r s₁ h₁=>?_) (no _))))
 cases r with
 | none=>exact wpAny_pure h₁
 | some v =>
  refine wpAny_bind (wpAny_mono h₁ (fun _ s₂ h₂=>?_) (no _))
  refine wpAny_bind (wpAny_mono h₂ (fun _ s₃ h₃=>wpAny_bind (wpAny_mono h₃ (fun ok s₄ h₄=>?_) (no _))) (no _))
  cases ok with
  | true =>
   simp only [if_true] at h₄ ⊢
   exact wpAny_bind (wpAny_bind (wpAny_mono h₄ (fun x s₅ h₅=>wpAny_bind (wpAny_mono h₅ (fun _ s₆ h₆=>wpAny_pure (wpAny_pure ⟨rfl,h₆⟩)) (no _))) (no _)))
  | false =>
   simp only [Bool.false_eq_true,if_false] at h₄ ⊢
   first
    | exact wpAny_bind (wpAny_pure (wpAny_pure ⟨rfl,h₄⟩))
    | exact wpAny_pure ⟨rfl,h₄⟩
end
theorem uU {scope:Scope} {env:Env} (hfree:∀ y ∈ scope.names,y.2 = .free -> ∃ c,env.cells.lookup y.1 = some c) :
  ∃ cl,closureFor scope env = pure cl /\ (∀ x c,cl.lookup x = some c -> env.cells.lookup x = some c) /\ ∀ y ∈ scope.names,y.2 = .free -> ∃ c,cl.lookup y.1 = some c:=by
 have key:∀ (l:List (Str × NameKind)) (cs:List (Str × Addr)),(∀ y ∈ l,y.2 = .free -> ∃ c,env.cells.lookup y.1 = some c) -> (∀ x c,cs.lookup x = some c -> env.cells.lookup x = some c) →
   ∃ cl,(forIn l cs (fun (x:Str × NameKind) r=>do if x.2 == .free then do let c ← cellOf env x.1; pure (ForInStep.yield ((x.1,c) :: r)) else pure (ForInStep.yield r)):Sem (List (Str × Addr))) = pure cl ∧
    (∀ x c,cl.lookup x = some c -> env.cells.lookup x = some c) /\ (∀ y ∈ l,y.2 = .free -> ∃ c,cl.lookup y.1 = some c) /\ ∀ x c,cs.lookup x = some c -> ∃ c',cl.lookup x = some c':=by
  intro l
  induction l with
  | nil=>intro cs _ h2; exact ⟨cs,rfl,h2,fun y hy=>absurd hy (by simp),fun x c h=>⟨c,h⟩⟩
  | cons y r ih =>
   intro cs h1 h2
   obtain ⟨n,k⟩:=y
   by_cases hk:k = .free
   ·subst hk
    obtain ⟨c,hc⟩:=h1 (n,.free) (by simp) rfl
    have hc':env.cells.lookup n = some c:=hc
    have e0:cellOf env n = pure c:=by unfold cellOf; rw [hc']
    obtain ⟨cl,e,p1,p2,p3⟩:=ih ((n,c) :: cs) (fun z hz=>h1 z (List.mem_cons_of_mem _ hz)) (fun x d h=>by
     by_cases hx:x = n
     ·subst hx
      rw [List.lookup_cons_self] at h
      cases h; exact hc'
     ·rw [List.lookup_cons,beq_eq_false_iff_ne.mpr hx] at h
      exact h2 x d h)
    refine ⟨cl,?_,p1,fun z hz=>?_,fun x d h=>?_⟩
    ·rw [List.forIn_cons]
     simp only [beq_self_eq_true,if_true,e0,pure_bind]
     exact e
    ·rcases List.mem_cons.mp hz with rfl | hz
     ·intro _
      exact p3 n c List.lookup_cons_self
     ·exact p2 z hz
    ·by_cases hx:x = n
     ·subst hx; exact p3 x c List.lookup_cons_self
     ·exact p3 x d (by rw [List.lookup_cons,beq_eq_false_iff_ne.mpr hx]; exact h)
   ·have hb:(k == NameKind.free) = false:=beq_eq_false_iff_ne.mpr hk
    obtain ⟨cl,e,p1,p2,p3⟩:=ih cs (fun z hz=>h1 z (List.mem_cons_of_mem _ hz)) h2
    refine ⟨cl,?_,p1,fun z hz=>?_,p3⟩
    ·rw [List.forIn_cons]
     simp only [hb,Bool.false_eq_true,if_false,pure_bind]
     exact e
    ·rcases List.mem_cons.mp hz with rfl | hz
     ·intro h; exact absurd h hk
     ·exact p2 z hz
 obtain ⟨cl,e,p1,p2,_⟩:=key scope.names [] hfree (fun x c h=>by cases h)
 refine ⟨cl,?_,p1,p2⟩
 unfold closureFor
 first
  | (rw [show (forIn scope.names [] _:Sem (List (Str × Addr))) = pure cl from e]; rfl)
  | (simp only [bind_pure]; exact e)
  | exact e
def PIfs (X:Cx) (ifs:List Expr) (t:TT):Prop :=
 ∀ (pins:List (Addr × Obj)) (s:Shared) (σ:L2.St) (H:Hp) (Q:Bool -> Hp -> Prop),Inv X pins σ H s -> t σ H Q →
  wpAny (model X.prog X.w) X.A (forIn ifs true fun c r=>if r = true then do let ok ← isTrue c X.env (eval c X.env); pure (ForInStep.yield ok) else pure (ForInStep.yield r)) (TP X pins σ Q) X.xe s
def vq:TT:=fun _ H Q=>Q true H
theorem zo {X:Cx}:PIfs X [] vq:=fun pins s σ H Q I h=>wpAny_pure ⟨H,I,h⟩
theorem Xe {X:Cx} {c:Expr} {t:TT} (hc:PT X c t):PIfs X [c] t:=fun pins s σ H Q I h=>wpAny_tests_one (hc pins s σ H Q I h)
abbrev cxC (X:Cx) (N':List Str) (scope:Scope) (cl:List (Str × Addr)) (C D:Addr) (fp:List Addr) (s:Shared) (H:Hp):Cx :=
 { X with N:=N',s₀:=s,H₀:=H,env:=compEnvC scope cl C X.env,outer:=X.stack,ex:=D :: fp,fn:=fun _=>false,xe:=fun _ _=>False }
def capt (sub:List (Option Nat)) (σ:L2.St):L2.St:=sub.map fun o=>match o with
 | none=>none
 | some i=>(match σ[i]? with | some v=>v | none=>none)
def xE (J:It) (σ0:L2.St) (H1:Hp) (g:TG) (tt:TT) (te:TE) (Q:VK):Prop :=
 ∃ W:Nat -> Nat -> List V -> L2.St -> Hp -> Prop,(∃ m,W 0 m [] σ0 H1) /\ ∀ i m ys σ' H',W i m ys σ' H' →
  (J.stop i H' /\ ∀ l,H' l = none -> Q (.ref l) (upd H' l (.lst ys))) ∨
  (J.go i H' /\ ∃ Nn:List V -> L2.St -> Hp -> Prop,(∀ zs σ2 H2,Nn zs σ2 H2 -> ∃ m',m' < m /\ W (i + 1) m' zs σ2 H2) ∧
   ∀ x H2,J.yld i H' x H2 -> g x σ' H2 fun σ2 H3=>tt σ2 H3 fun b H4=>if b = true then te σ2 H4 fun y H5=>ys.length < sizeLine /\ Nn (ys ++ [y]) σ2 H5 else Nn ys σ2 H4)
def Wr (wi:TI) (sub:List (Option Nat)) (g:TG) (tt:TT) (te:TE):TE:=fun σ H Q=>wi σ H fun J H1=>xE J (capt sub σ) H1 g tt te Q
structure CSc (X:Cx) (scope:Scope) (N':List Str) (sub:List (Option Nat)):Prop where
 free:∀ y ∈ scope.names,y.2 = .free -> X.env.kindOf y.1 = some .cell
 nocell:∀ y ∈ scope.names,y.2 ≠ .cell
 kind:scope.kind = .function
 names:∀ y ∈ scope.names,y.2 = .local -> scope.names.lookup y.1 = some .local
 len:sub.length = N'.length
 cap:∀ (j:Nat) (y:Str) (i:Nat),N'[j]? = some y -> sub[j]? = some (some i) -> X.N[i]? = some y /\ X.env.scope.names.lookup y = some .cell /\ scope.names.lookup y = some .free
theorem HOk.track {P:Program} {w:World} {H:Hp} {h:Heap} {a:Addr} {o:HO} (x:HOk P w H h) (hn:H a = none) (new:zV P w (upd H a o) h a o):HOk P w (upd H a o) h:=fun b u e=>by
 by_cases hb:b = a
 ·subst hb; rw [zc] at e; cases e; exact new
 ·rw [zm hb] at e
  exact (x b u e).stay (fun c v _ q=>q) (fun c q=>by rw [zm (zq q hn)]; exact q) fun c xs q=>by rw [zm (zq q hn)]; exact q
theorem yR {scope:Scope} {env:Env} {y:Str} {k:NameKind} (h:(relabel scope env).names.lookup y = some k) :
  ∃ k',scope.names.lookup y = some k' /\ (k = k' \/ (k = .cell /\ k' = .free)):=by
 have key:∀ l:List (Str × NameKind),(l.map fun (n,k)=>if (k == NameKind.free && env.scope.kind == .function && env.kindOf n == some .cell) then (n,NameKind.cell) else (n,k)).lookup y = some k →
   ∃ k',l.lookup y = some k' /\ (k = k' \/ (k = .cell /\ k' = .free)):=by
  intro l
  induction l with
  | nil=>intro h; cases h
  | cons p r ih =>
   obtain ⟨n,k0⟩:=p
   intro h
   rw [List.map_cons] at h
   by_cases hc:(k0 == NameKind.free && env.scope.kind == .function && env.kindOf n == some .cell) = true
   ·have hf:k0 = .free:=by
     simp only [Bool.and_eq_true,beq_iff_eq] at hc
     exact hc.1.1
    dsimp only at h
    rw [if_pos hc,List.lookup_cons] at h
    rw [List.lookup_cons]
    cases hx:y == n with
    | true=>rw [hx] at h; cases h; exact ⟨k0,rfl,.inr ⟨rfl,hf⟩⟩
    | false=>rw [hx] at h; exact ih h
   ·dsimp only at h
    rw [if_neg hc,List.lookup_cons] at h
    rw [List.lookup_cons]
    cases hx:y == n with
    | true=>rw [hx] at h; cases h; exact ⟨_,rfl,.inl rfl⟩
    | false=>rw [hx] at h; exact ih h
 exact key scope.names h
theorem xt {scope:Scope} {env:Env} {y:Str} (hk:env.scope.kind = .function) (hc:env.kindOf y = some .cell) (h:scope.names.lookup y = some .free):(relabel scope env).names.lookup y = some .cell:=by
 have key:∀ l:List (Str × NameKind),l.lookup y = some .free -> (l.map fun (n,k)=>if (k == NameKind.free && env.scope.kind == .function && env.kindOf n == some .cell) then (n,NameKind.cell) else (n,k)).lookup y = some .cell:=by
  intro l
  induction l with
  | nil=>intro h; cases h
  | cons p r ih =>
   obtain ⟨n,k0⟩:=p
   intro h
   rw [List.map_cons]
   rw [List.lookup_cons] at h
   dsimp only
   cases hx:y == n with
   | true =>
    rw [hx] at h
    cases h
    have e:y = n:=by simpa using hx
    subst e
    rw [if_pos (by simp [hk,hc]),List.lookup_cons,hx]
   | false =>
    rw [hx] at h
    by_cases hc2:(k0 == NameKind.free && env.scope.kind == .function && env.kindOf n == some .cell) = true
    ·rw [if_pos hc2,List.lookup_cons,hx]; exact ih h
    ·rw [if_neg hc2,List.lookup_cons,hx]; exact ih h
 exact key scope.names h
section
variable {X:Cx} {pins:List (Addr × Obj)} {σ:L2.St} {H2:Hp} {s₂:Shared} {it:Addr} {fp:List Addr} {tn:Nat -> Heap -> Prop} {J:It} {scope:Scope} {cl:List (Str × Addr)} {N':List Str} {sub:List (Option Nat)}
theorem uV {h₁:Heap} {tk:Nat} (I:Inv X pins σ H2 s₂) (S:CSc X scope N' sub) (hcl1:∀ x c,cl.lookup x = some c -> X.env.cells.lookup x = some c) (hcl2:∀ y ∈ scope.names,y.2 = .free -> ∃ c,cl.lookup y.1 = some c)
    (f2:∀ b ∈ fp,FpOk X pins H2 b) (hfp:∀ b ∈ fp,b < s₂.heap.objs.size) {m:Str -> Option Value} {ob:Obj}
    (hns:h₁.Ns (s₂.heap.objs.size + 1) m) (hk:∀ b o,(s₂.heap.push ob).get? b = some o -> h₁.get? b = some o) :
    Inv (cxC X N' scope cl (s₂.heap.objs.size + 1) s₂.heap.objs.size fp { s₂ with heap:=s₂.heap.push ob } H2) pins (capt sub σ) H2 { s₂ with heap:=h₁,toks:=tk }:=by
  have old:∀ b o,s₂.heap.get? b = some o -> (s₂.heap.push ob).get? b = some o:=fun b o e=>Heap.get?_push_of_some _ e
  have old2:∀ b o,s₂.heap.get? b = some o -> h₁.get? b = some o:=fun b o e=>hk b o (old b o e)
  have sz:(s₂.heap.push ob).objs.size = s₂.heap.objs.size + 1:=Heap.size_push ..
  have cells:∀ x c,cl.lookup x = some c -> c < s₂.heap.objs.size:=fun x c e=>let ⟨v,q⟩:=I.cell x c (hcl1 x c e); q.lt
  have has:∀ x,((relabel scope X.env).names.lookup x = some .cell \/ (relabel scope X.env).names.lookup x = some .free) -> ∃ c,cl.lookup x = some c:=fun x hx=>by
    rcases hx with hx | hx
    · obtain ⟨k',e,z⟩:=yR hx
      rcases z with z | ⟨_,z⟩
      · subst z; exact absurd rfl (S.nocell _ (PySem.mem_of_lookup e))
      · subst z; exact hcl2 _ (PySem.mem_of_lookup e) rfl
    · obtain ⟨k',e,z⟩:=yR hx
      rcases z with z | ⟨z,_⟩
      · subst z; exact hcl2 _ (PySem.mem_of_lookup e) rfl
      · cases z
  have frsz:∀ b ∈ frs X.stack,b < s₂.heap.objs.size:=fun b hb=>by
    rcases List.mem_cons.mp (I.stkSub b hb) with z | z
    · rw [z]; exact I.lt
    · exact Nat.lt_of_not_le fun q=>I.nofs q z
  refine
    { ok :=
      { mod:=I.ok.mod,kind:=S.kind,glob:=I.ok.glob,blt:=I.ok.blt
        above:=by show (s₂.heap.push ob).objs.size <= s₂.heap.objs.size + 1; rw [sz]; exact Nat.le_refl _
        inj:=fun x y c h1 h2=>I.ok.inj x y c (hcl1 x c h1) (hcl1 y c h2)
        has:=has
        cab:=fun x c z=>by cases z
        hd:=I.ok.hd,frames:=I.ok.frames,stk:=.inl rfl
        exf:=fun b hb=>?exf
        bs:=fun b o e=>⟨old b o (I.bk b o e),(I.bs b o e).2⟩
        bsz:=by show X.base.objs.size <= (s₂.heap.push ob).objs.size; rw [sz]; exact Nat.le_succ_of_le (Nat.le_trans I.ok.bsz I.sz)
        noex:=fun b o e hb=>?noex
        exfs:=fun b hb=>?exfs
        funs:=?funs
        frf:=I.stkFree }
      os:=rfl,bare:=I.bare,base:=Un.kept fun b u e=>hk b u e
      loc:=⟨m,hns,?loc⟩
      cell:=fun x c e=>?cell
      free:=I.hok.fresh (Nat.le_succ _)
      freeC:=fun x c e=>I.freeC x c (hcl1 x c e)
      pin:=fun p hp=>?pin
      hok:=I.hok.kept old2
      len:=?len }
  case exf =>
    rcases List.mem_cons.mp hb with rfl | hb
    · exact ⟨Nat.ne_of_lt (Nat.lt_succ_self _),fun x c e=>Nat.ne_of_lt (cells x c e)⟩
    · exact ⟨Nat.ne_of_lt (Nat.lt_succ_of_lt (hfp b hb)),fun x c e=>(f2 b hb).2.2.2.2.1 x c (hcl1 x c e)⟩
  case noex =>
    have hl:b < X.s₀.heap.objs.size:=Nat.lt_of_lt_of_le (Heap.lt_size e) I.ok.bsz
    rcases List.mem_cons.mp hb with rfl | hb
    · exact absurd (Nat.lt_of_lt_of_le hl I.sz) (Nat.lt_irrefl _)
    · rcases (f2 b hb).2.2.2.1 with z | z
      · exact I.ok.noex b o e z
      · exact absurd (Nat.lt_of_lt_of_le hl z) (Nat.lt_irrefl _)
  case exfs =>
    intro hs
    rcases List.mem_cons.mp hb with rfl | hb
    · exact absurd (frsz _ hs) (Nat.lt_irrefl _)
    · rcases List.mem_cons.mp (I.stkSub b hs) with z | z
      · exact (f2 b hb).2.1 z
      · exact (f2 b hb).2.2.1 z
  case funs=>exact Heap.FunFrames.of_keeps (fun b o e _=>⟨o,old b o e,rfl⟩) I.stack
  case loc =>
    intro j y v hj hv hvis
    obtain ⟨mX,_,lX⟩:=I.loc
    unfold capt at hv
    rw [List.getElem?_map] at hv
    cases hs:sub[j]? with
    | none=>rw [hs] at hv; cases hv
    | some o =>
      rw [hs] at hv
      cases o with
      | none=>cases hv
      | some i =>
        obtain ⟨hN,hc,hf⟩:=S.cap j y i hj hs
        have hv':σ[i]? = some (some v):=by
          have z:(match σ[i]? with | some v=>v | none=>none) = some v:=Option.some.inj hv
          cases q:σ[i]? with
          | none=>rw [q] at z; cases z
          | some w=>rw [q] at z; rw [show w = some v from z]
        obtain ⟨u,ru,hl⟩:=lX i y v hN hv' (.inr (.inl hc))
        refine ⟨u,ru,?_⟩
        have kc:(relabel scope X.env).names.lookup y = some .cell:=xt I.ok.kind hc hf
        rcases hl with ⟨z,_⟩ | ⟨_,c,e,ic⟩
        · have z':X.env.scope.names.lookup y = some .local :=z
          rw [hc] at z'; cases z'
        · obtain ⟨c',e'⟩:=hcl2 _ (PySem.mem_of_lookup hf) rfl
          have:=hcl1 _ _ e'
          rw [e] at this; cases this
          refine .inr ⟨.inl kc,c,e',?_⟩
          obtain ⟨oc,h1,h2⟩:=ic
          exact ⟨oc,old2 _ _ h1,h2⟩
  case cell =>
    obtain ⟨v,oc,h1,h2⟩:=I.cell x c (hcl1 x c e)
    exact ⟨v,oc,old2 _ _ h1,h2⟩
  case pin =>
    obtain ⟨p1,p2,p3,p4,p5⟩:=I.pin p hp
    refine ⟨old2 _ _ p1,p2,Nat.ne_of_lt (Nat.lt_succ_of_lt (Heap.lt_size p1)),fun hs=>?_,p5⟩
    rcases List.mem_cons.mp (I.stkSub _ hs) with z | z
    · exact p3 z
    · exact p4 z
  case len =>
    show (capt sub σ).length = N'.length
    unfold capt
    rw [List.length_map]; exact S.len
theorem Xf {C D:Addr} {s₀:Shared} {s':Shared} {σ':L2.St} {H':Hp} {ys:List V} {us:List Value} {k:Nat} {oC:Obj} (I:Inv X pins σ H2 s₂)
    (hs₀:∀ b o,s₂.heap.get? b = some o -> s₀.heap.get? b = some o) (hos:s₀.os = s₂.os) (hD:s₂.heap.objs.size <= D) (hC:s₂.heap.objs.size <= C) (hDC:D ≠ C) (f2:∀ b ∈ fp,FpOk X pins H2 b)
    (I':Inv (cxC X N' scope cl C D fp s₀ H2) pins σ' H' s') (hn:H' D = none) (hy:s'.heap.get? D = some { cls:=.type "list",data:=.seq us.toArray k }) (rv:Vals ys us) (hz:ys.length <= sizeLine)
    (ho:s'.heap.get? C = some oC) (hd:∀ v,oC.data ≠ .cell v):Inv X (pins ++ [(C,oC)]) σ (upd H' D (.lst ys)) s' /\ FpOk X pins (upd H' D (.lst ys)) C:=by
  have neD:∀ b o,s₂.heap.get? b = some o -> b ≠ D:=fun b o e=>Nat.ne_of_lt (Nat.lt_of_lt_of_le (Heap.lt_size e) hD)
  have nm:∀ b o,s₂.heap.get? b = some o -> b ∉ fp -> b ∉ D :: fp:=fun b o e h z=>(List.mem_cons.mp z).elim (neD b o e) h
  have U:=I'.base
  have HC:upd H' D (.lst ys) C = none:=by rw [zm (Ne.symm hDC)]; exact I'.free
  have fpc:FpOk X pins (upd H' D (.lst ys)) C:=I.fpOk hC HC
  have un:Un (frs X.stack) fp H2 (upd H' D (.lst ys)) s₂.heap s'.heap :=
    { keep:=fun b o e n h1 h2=>U.keep b o (hs₀ b o e) n h1 (nm b o e h2)
      slot:=fun b o e n h1 h2=>U.slot b o (hs₀ b o e) n h1 (nm b o e h2)
      free:=fun b o e n h2=>by rw [zm (neD b o e)]; exact U.free b o (hs₀ b o e) n (nm b o e h2)
      there:=fun b o e h2=>U.there b o (hs₀ b o e) (nm b o e h2)
      tups:=fun b xs e=>by have z:=U.tups b xs e; rw [zm (zq z hn)]; exact z
      frzs:=fun b o u e=>by have z:=U.frzs b o u e; rw [zm (zq z hn)]; exact z
      tbls:=fun b ps e=>by obtain ⟨more,z⟩:=U.tbls b ps e; exact ⟨more,by rw [zm (zq z hn)]; exact z⟩ }
  have hok:HOk X.prog X.w (upd H' D (.lst ys)) s'.heap:=HOk.track I'.hok hn ⟨hz,us,k,rv,hy⟩
  have IX:Inv X pins σ (upd H' D (.lst ys)) s':=I.call' (I'.os.trans hos) un hok I'.bare fun b hb=>⟨(f2 b hb).2.2.2.1,(f2 b hb).2.1,(f2 b hb).2.2.2.2.1,(f2 b hb).2.2.2.2.2⟩
  refine ⟨IX.pins_of fun p hp=>?_,fpc⟩
  rcases List.mem_append.mp hp with hp | hp
  · exact IX.pin p (List.mem_append_right _ hp)
  · rw [List.mem_singleton.mp hp]
    exact ⟨ho,HC,fpc.2.1,fpc.2.2.1,hd⟩
end
section
variable {X:Cx} {scope:Scope} {N':List Str} {sub:List (Option Nat)} {x:Str} {px pos:Pos} {elt iter:Expr} {ifs:List Expr} {wi:TI} {g:TG} {tt:TT} {te:TE}
theorem CSc.clos {pins:List (Addr × Obj)} {σ:L2.St} {H:Hp} {s:Shared} (S:CSc X scope N' sub) (I:Inv X pins σ H s):∃ cl,closureFor scope X.env = pure cl /\ (∀ x c,cl.lookup x = some c -> X.env.cells.lookup x = some c) /\ ∀ y ∈ scope.names,y.2 = .free -> ∃ c,cl.lookup y.1 = some c :=
 uU fun y hy hf=>I.ok.has y.1 (.inl (S.free y hy hf))
end
theorem Ws {xs:List V} {us:List Value} (r:Vals xs us) (j:Nat) (h:j < us.length):∃ x,xs[j]? = some x /\ RelV x us[j]:=by
 have hl:=r.length
 have hx:xs[j]? = some xs[j]:=List.getElem?_eq_getElem (by omega)
 obtain ⟨u,e,q⟩:=r.get hx
 rw [List.getElem?_eq_getElem h] at e
 cases e
 exact ⟨_,hx,q⟩
section
variable {X:Cx}
theorem xj {h:Heap} {a:Addr} {its:Array Value} (t:IsTup h a its):h.IsTuple a its:=t
end
section
variable {X:Cx} {pos:Pos}
theorem v9:∀ {bs:List Bool} {us:List Value},Vals (bs.map V.bl) us -> LSm.BoolsAre us bs
 | [],_,.nil=>.nil
 | b :: bs,_,.cons r t=>by
  cases r
  exact .cons b (v9 t)
theorem yW (hcalm:X.calm = true):xw X (.builtin "all") (fun xs H Q=>∃ (l:Addr) (bs:List Bool),xs = [.ref l] /\ SqL X.K H l (bs.map V.bl) /\ Q (.bl (bs.all id)) H):=by
 intro pins s σ H xs us Q I r h
 obtain ⟨l,bs,rfl,hl,q⟩:=h
 obtain ⟨u,rfl,rx⟩:=wM r
 cases (show u = Value.ref l from rx)
 obtain ⟨vs,rv,pl,_⟩:=I.list hl
 have hl':s.heap.IsList l vs.toArray:=pl.isList
 have hb:LSm.BoolsAre vs bs:=v9 rv
 have hlt:l < s.heap.objs.size:=by obtain ⟨_,e,_⟩:=hl'; exact Heap.lt_size e
 refine call_all_walk (wpAny_pyIter_list hl' ?_)
 refine ⟨s.heap.objs.size,[s.heap.objs.size,l],[s.heap.objs.size],vs.toArray.size,_,_,fun i=>(bs[i]?).getD true,rfl,Walks.list (A:=X.A.in1) (I.ok.hd hcalm) _ l (Nat.ne_of_lt hlt) vs.toArray,
  ⟨⟨_,Heap.get?_push_size _ rfl,rfl,rfl⟩,hl'.push _⟩,fun i v s' Q' E' hP hQ=>?_,fun h' tk hk=>?_⟩
 ·obtain ⟨b,e,rfl⟩:=hb.get i v (by simpa using hP)
  simp only [e,Option.getD_some] at hQ
  exact wpAny_truthy_bool hQ
 ·have e:((List.range vs.toArray.size).all fun i=>(bs[i]?).getD true) = bs.all id:=by
   have hlen:bs.length = vs.length:=by rw [← rv.length,List.length_map]
   rw [List.size_toArray,← hlen,Bool.eq_iff_iff,List.all_eq_true,List.all_eq_true]
   constructor
   ·intro z b hb'
    obtain ⟨i,hi,rfl⟩:=List.getElem_of_mem hb'
    have:=z i (List.mem_range.mpr hi)
    simpa [List.getElem?_eq_getElem hi] using this
   ·intro z i hi
    have hi':=List.mem_range.mp hi
    simpa [List.getElem?_eq_getElem hi'] using z _ (List.getElem_mem hi')
  rw [e]
  exact ⟨.bl (bs.all id),H,I.kept (t':=tk) (h':=h') (LSm.kept_iter hk),rfl,q⟩
end
theorem CSc.of {X:Cx} {scope:Scope} {N':List Str} {sub:List (Option Nat)} (sc:Scope) (NN:List Str) (e:X.env.scope = sc) (en:X.N = NN)
  (h:((scope.names.all fun y=>(y.2 != .free || sc.names.lookup y.1 == some .cell) && (y.2 != .cell) && (y.2 != .local || scope.names.lookup y.1 == some .local)) && (sub.length == N'.length) &&
   ((N'.zip sub).all fun p=>match p.2 with | none=>true | some i=>NN[i]? == some p.1 && sc.names.lookup p.1 == some .cell && scope.names.lookup p.1 == some .free)) = true)
  (hk:scope.kind = .function):CSc X scope N' sub:=by
 rw [Bool.and_eq_true,Bool.and_eq_true] at h
 obtain ⟨⟨h1,h2⟩,h3⟩:=h
 have k1:=fun y hy=>List.all_eq_true.mp h1 y hy
 refine ⟨fun y hy hf=>?_,fun y hy hc=>?_,hk,fun y hy hl=>?_,by simpa using h2,fun j y i hj hs=>?_⟩
 ·have:=k1 y hy
  simp only [hf,Bool.and_eq_true] at this
  have z:=this.1.1
  show X.env.scope.names.lookup y.1 = _
  rw [e]; simpa using z
 ·have:=k1 y hy
  simp only [hc,Bool.and_eq_true] at this
  simp at this
 ·have:=k1 y hy
  simp only [hl,Bool.and_eq_true] at this
  simpa using this.2
 ·have hm:(y,some i) ∈ N'.zip sub:=by
   have:(N'.zip sub)[j]? = some (y,some i):=by
    rw [List.getElem?_zip_eq_some]; exact ⟨hj,hs⟩
   exact List.mem_of_getElem? this
  have:=List.all_eq_true.mp h3 _ hm
  simp only [Bool.and_eq_true,beq_iff_eq] at this
  rw [e,en]
  exact ⟨this.1.1,this.1.2,this.2⟩
def uJ (a:Int) (lo hi:Option Int):Deed:=if lo ≠ none /\ lo = hi then ⟨0,lo,hi⟩ else ⟨a,lo,hi⟩
def thrO (e:Deed) (o:Option Int) (d:Option Int):Option Int:=match o with
 | none=>d
 | some l=>some (e.mk' l)
def qc (d e:Deed):Deed:=uJ (d.add + e.add) (thrO e d.lo e.lo) (thrO e d.hi e.hi)
theorem ZW {a:Int} {lo hi:Option Int} (h:∀ l u,lo = some l -> hi = some u -> l <= u):(uJ a lo hi).Ok:=by
 unfold uJ
 split
 ·rename_i c
  intro l u e1 e2
  have e1':lo = some l:=e1
  have e2':hi = some u:=e2
  right
  refine ⟨?_,rfl⟩
  have:=c.2
  rw [e1',e2'] at this
  exact Option.some.inj this
 ·rename_i c
  intro l u e1 e2
  have e1':lo = some l:=e1
  have e2':hi = some u:=e2
  left
  have:=h l u e1' e2'
  have ne:l ≠ u:=fun z=>c ⟨by rw [e1']; simp,by rw [e1',e2',z]⟩
  omega
theorem ZX {σ:L2.St} {H:Hp} {A B:Hp -> Prop} (h:A H):vq σ H (fun b H4=>if b = true then A H4 else B H4):=by
 show if true = true then A H else B H
 rw [if_pos rfl]; exact h
theorem yX {c:Bool} {A B:Prop} (e:c = false) (h:B):if c = true then A else B:=by rw [e]; exact iteF h
theorem wT {c:Bool} {A B:Prop} (e:c = true) (h:A):if c = true then A else B:=by rw [e]; exact iteT h
theorem wU {K:FG7} {a:Addr} {xs:List V} {g:TG} {tt:TT} {te:TE} {Q:VK} {σ:L2.St} {H:Hp} (Pv:Nat -> List V -> L2.St -> Hp -> Prop) (h0:Pv 0 [] σ H) (hl:∀ i ys σ H,i <= xs.length -> Pv i ys σ H -> SqT K H a xs)
  (hs:∀ i x ys σ H,xs[i]? = some x -> Pv i ys σ H -> g x σ H fun σ2 H3=>tt σ2 H3 fun b H4=>if b = true then te σ2 H4 fun y H5=>ys.length < sizeLine /\ Pv (i + 1) (ys ++ [y]) σ2 H5 else Pv (i + 1) ys σ2 H4)
  (hd:∀ ys σ H,Pv xs.length ys σ H -> ∀ l,H l = none -> Q (.ref l) (upd H l (.lst ys))) :
  xE (Itt K a) σ H g tt te Q:=by
 refine ⟨fun i m ys σ H=>m = xs.length - i /\ i <= xs.length /\ Pv i ys σ H,⟨xs.length,by simp,Nat.zero_le _,h0⟩,?_⟩
 rintro i m ys σ H ⟨rfl,hi,p⟩
 have q:=hl i ys σ H hi p
 by_cases hlt:i < xs.length
 ·refine .inr ⟨⟨xs,xs[i],q,by simp [hlt]⟩,Pv (i + 1),fun zs σ' H' p'=>⟨xs.length - (i + 1),by omega,rfl,hlt,p'⟩,fun x H' y=>?_⟩
  obtain ⟨e,y⟩:=y
  subst e
  exact hs i x ys σ _ (y xs q) p
 ·have e:i = xs.length:=by omega
  subst e
  exact .inl ⟨⟨xs,q,Nat.le_refl _⟩,hd ys σ H p⟩
theorem ua {K:FG7} {a:Addr} {xs:List V} {g:TG} {tt:TT} {te:TE} {Q:VK} {σ:L2.St} {H:Hp} (Pv:Nat -> List V -> L2.St -> Hp -> Prop) (h0:Pv 0 [] σ H) (hl:∀ i ys σ H,i <= xs.length -> Pv i ys σ H -> SqL K H a xs)
  (hs:∀ i x ys σ H,xs[i]? = some x -> Pv i ys σ H -> g x σ H fun σ2 H3=>tt σ2 H3 fun b H4=>if b = true then te σ2 H4 fun y H5=>ys.length < sizeLine /\ Pv (i + 1) (ys ++ [y]) σ2 H5 else Pv (i + 1) ys σ2 H4)
  (hd:∀ ys σ H,Pv xs.length ys σ H -> ∀ l,H l = none -> Q (.ref l) (upd H l (.lst ys))) :
  xE (Itl K a) σ H g tt te Q:=by
 refine ⟨fun i m ys σ H=>m = xs.length - i /\ i <= xs.length /\ Pv i ys σ H,⟨xs.length,by simp,Nat.zero_le _,h0⟩,?_⟩
 rintro i m ys σ H ⟨rfl,hi,p⟩
 have q:=hl i ys σ H hi p
 by_cases hlt:i < xs.length
 ·refine .inr ⟨⟨xs,xs[i],q,by simp [hlt]⟩,Pv (i + 1),fun zs σ' H' p'=>⟨xs.length - (i + 1),by omega,rfl,hlt,p'⟩,fun x H' y=>?_⟩
  obtain ⟨e,y⟩:=y
  subst e
  exact hs i x ys σ _ (y xs q) p
 ·have e:i = xs.length:=by omega
  subst e
  exact .inl ⟨⟨xs,q,Nat.le_refl _⟩,hd ys σ H p⟩
theorem ZY {X:Cx} {K:FG7} (h:X.K = K):IxR X (rIxT K):=by subst h; exact yI
theorem Vt {a:Int} {hi:Option Int}:uJ a none hi = ⟨a,none,hi⟩:=by simp [uJ]
theorem Vu {a l:Int}:uJ a (some l) (some l) = ⟨0,some l,some l⟩:=by simp [uJ]
theorem XY {a l:Int} {hi:Option Int} (h:some l ≠ hi):uJ a (some l) hi = ⟨a,some l,hi⟩:=by simp [uJ,h]
def ZZ (_:FG7):Sp:=sp3 fun x y z H Q=>∃ a lo hi,x = .int a /\ y = ov lo /\ z = ov hi /\ ∀ t,H t = none -> Q (.ref t) (upd H t (.tup (uJ a lo hi).vs))
def sK (K:FG7):Sp:=sp2 fun x y H Q=>∃ d e,yg K H x d /\ yg K H y e /\ ∀ t,H t = none -> Q (.ref t) (upd H t (.tup (qc d e).vs))
theorem Z0 {xs:List Int}:(xs.map V.int).all tJ = true:=by
 rw [List.all_eq_true]; intro x hx; obtain ⟨i,_,rfl⟩:=List.mem_map.mp hx; rfl
theorem Grow.sqL {H H':Hp} (g:Grow [] H H') {K:FG7} {a:Addr} {xs:List V} (h:SqL K H a xs):SqL K H' a xs:=by
 rcases h with (h | ⟨o,h⟩) | h
 ·exact .inl (.inl (g.keep _ _ (by simp) h))
 ·exact .inl (.inr ⟨o,g.frz _ _ _ h⟩)
 ·exact .inr h
section
variable {K:FG7} {a:Addr} {xs:List V} {n:Nat} {tt:TT} {te:TE} {Q:VK} {σ:L2.St} {H:Hp}
theorem wV {p:V -> Bool} {f:V -> V} {i:Nat} {x:V} (hx:xs[i]? = some x):((xs.take (i + 1)).filter p).map f = ((xs.take i).filter p).map f ++ (if p x = true then [f x] else []):=by
 rw [List.take_add_one,hx,List.filter_append,List.map_append]
 congr 1
 show ((([x]:List V)).filter p).map f = _
 by_cases c:p x = true
 ·rw [if_pos c,List.filter_cons_of_pos c]; rfl
 ·rw [if_neg c,List.filter_cons_of_neg c]; rfl
theorem ji {p:V -> Bool} {f:V -> V} {i:Nat} (h:xs.length <= 1000):(((xs.take i).filter p).map f).length < sizeLine:=by
 rw [List.length_map]
 refine zp ?_
 have:=List.length_filter_le p (xs.take i)
 have:=List.length_take_le i xs
 have:(xs.take i).length <= xs.length:=by rw [List.length_take]; omega
 omega
theorem jj {p:V -> Bool} {f:V -> V}:((xs.take xs.length).filter p).map f = (xs.filter p).map f:=by rw [List.take_length]
theorem j2 (p:V -> Bool) (f:V -> V) (hl:SqL K H a xs) (hlen:xs.length <= 1000)
  (ht:∀ x H' (R:Bool -> Hp -> Prop),x ∈ xs -> Grow [] H H' -> (∀ H2,Grow [] H' H2 -> R (p x) H2) -> tt (σ.set n (some x)) H' R)
  (hs:∀ x H' (R:VK),x ∈ xs -> p x = true -> Grow [] H H' -> (∀ H2,Grow [] H' H2 -> R (f x) H2) -> te (σ.set n (some x)) H' R)
  (hd:∀ H' l,Grow [] H H' -> H' l = none -> Q (.ref l) (upd H' l (.lst ((xs.filter p).map f)))):xE (Itl K a) σ H (wL n) tt te Q:=by
 refine ua (xs:=xs) (fun i ys σ' H'=>Grow [] H H' /\ (σ' = σ \/ ∃ e,σ' = σ.set n e) /\ ys = ((xs.take i).filter p).map f) ⟨Grow.refl _ _,.inl rfl,rfl⟩ ?_ ?_ ?_
 ·rintro i ys σ' H' _ ⟨g,_⟩
  exact g.sqL hl
 ·rintro i x ys σ' H' hx ⟨g,hσ,rfl⟩
  have e:σ'.set n (some x) = σ.set n (some x):=by
   rcases hσ with rfl | ⟨e,rfl⟩
   ·rfl
   ·rw [List.set_set]
  show tt (σ'.set n (some x)) H' _
  rw [e]
  refine ht x H' _ (List.mem_of_getElem? hx) g fun H2 g2=>?_
  by_cases c:p x = true
  ·rw [if_pos c]
   refine hs x H2 _ (List.mem_of_getElem? hx) c (g.trans g2) fun H3 g3=>⟨ji hlen,(g.trans g2).trans g3,.inr ⟨_,rfl⟩,?_⟩
   rw [wV hx,if_pos c]
  ·rw [if_neg c]
   refine ⟨g.trans g2,.inr ⟨_,rfl⟩,?_⟩
   rw [wV hx,if_neg c,List.append_nil]
 ·rintro ys σ' H' ⟨g,_,rfl⟩ l hl
  rw [jj]
  exact hd H' l g hl
theorem j3 (p:V -> Bool) (f:V -> V) (hl:SqT K H a xs) (hlen:xs.length <= 1000)
  (ht:∀ x H' (R:Bool -> Hp -> Prop),x ∈ xs -> Grow [] H H' -> (∀ H2,Grow [] H' H2 -> R (p x) H2) -> tt (σ.set n (some x)) H' R)
  (hs:∀ x H' (R:VK),x ∈ xs -> p x = true -> Grow [] H H' -> (∀ H2,Grow [] H' H2 -> R (f x) H2) -> te (σ.set n (some x)) H' R)
  (hd:∀ H' l,Grow [] H H' -> H' l = none -> Q (.ref l) (upd H' l (.lst ((xs.filter p).map f)))):xE (Itt K a) σ H (wL n) tt te Q:=by
 refine wU (xs:=xs) (fun i ys σ' H'=>Grow [] H H' /\ (σ' = σ \/ ∃ e,σ' = σ.set n e) /\ ys = ((xs.take i).filter p).map f) ⟨Grow.refl _ _,.inl rfl,rfl⟩ ?_ ?_ ?_
 ·rintro i ys σ' H' _ ⟨g,_⟩
  exact g.sqT hl
 ·rintro i x ys σ' H' hx ⟨g,hσ,rfl⟩
  have e:σ'.set n (some x) = σ.set n (some x):=by
   rcases hσ with rfl | ⟨e,rfl⟩
   ·rfl
   ·rw [List.set_set]
  show tt (σ'.set n (some x)) H' _
  rw [e]
  refine ht x H' _ (List.mem_of_getElem? hx) g fun H2 g2=>?_
  by_cases c:p x = true
  ·rw [if_pos c]
   refine hs x H2 _ (List.mem_of_getElem? hx) c (g.trans g2) fun H3 g3=>⟨ji hlen,(g.trans g2).trans g3,.inr ⟨_,rfl⟩,?_⟩
   rw [wV hx,if_pos c]
  ·rw [if_neg c]
   refine ⟨g.trans g2,.inr ⟨_,rfl⟩,?_⟩
   rw [wV hx,if_neg c,List.append_nil]
 ·rintro ys σ' H' ⟨g,_,rfl⟩ l hl
  rw [jj]
  exact hd H' l g hl
theorem jk {p:V -> Bool} (h:∀ x,p x = true):xs.filter p = xs:=List.filter_eq_self.mpr fun x _=>h x
theorem Z1 (f:V -> V) (hl:SqL K H a xs) (hlen:xs.length <= 1000)
  (hs:∀ x H' (R:VK),x ∈ xs -> Grow [] H H' -> (∀ H2,Grow [] H' H2 -> R (f x) H2) -> te (σ.set n (some x)) H' R)
  (hd:∀ H' l,Grow [] H H' -> H' l = none -> Q (.ref l) (upd H' l (.lst (xs.map f)))):xE (Itl K a) σ H (wL n) vq te Q :=
 j2 (fun _=>true) f hl hlen (fun x H' R _ _ k=>k H' (Grow.refl _ _)) (fun x H' R hx _ g k=>hs x H' R hx g k) (fun H' l g hl=>by rw [jk fun _=>rfl]; exact hd H' l g hl)
theorem yC (f:V -> V) (hl:SqT K H a xs) (hlen:xs.length <= 1000)
  (hs:∀ x H' (R:VK),x ∈ xs -> Grow [] H H' -> (∀ H2,Grow [] H' H2 -> R (f x) H2) -> te (σ.set n (some x)) H' R)
  (hd:∀ H' l,Grow [] H H' -> H' l = none -> Q (.ref l) (upd H' l (.lst (xs.map f)))):xE (Itt K a) σ H (wL n) vq te Q :=
 j3 (fun _=>true) f hl hlen (fun x H' R _ _ k=>k H' (Grow.refl _ _)) (fun x H' R hx _ g k=>hs x H' R hx g k) (fun H' l g hl=>by rw [jk fun _=>rfl]; exact hd H' l g hl)
def vi (f:Int -> Int):V -> V
 | .int i=>.int (f i)
 | v=>v
theorem Vv (f:Int -> Int) (ns:List Int):(ns.map V.int).map (vi f) = (ns.map f).map V.int:=by
 rw [List.map_map,List.map_map]; rfl
theorem j4 {ns:List Int} (f:Int -> Int) (hl:SqL K H a (ns.map V.int)) (hlen:ns.length <= 1000)
  (hs:∀ i H' (R:VK),i ∈ ns -> Grow [] H H' -> (∀ H2,Grow [] H' H2 -> R (.int (f i)) H2) -> te (σ.set n (some (.int i))) H' R)
  (hd:∀ H' l,Grow [] H H' -> H' l = none -> Q (.ref l) (upd H' l (.lst ((ns.map f).map V.int)))):xE (Itl K a) σ H (wL n) vq te Q :=
 Z1 (vi f) hl (by rw [List.length_map]; exact hlen) (fun x H' R hx g k=>by obtain ⟨i,hi,rfl⟩:=List.mem_map.mp hx; exact hs i H' R hi g k) (fun H' l g hl=>by rw [Vv]; exact hd H' l g hl)
end
theorem nd {d e:Deed} (h:d = e):(!decide (d = e)) = false:=by rw [decide_eq_true h]; rfl
mutual
inductive Dat (K:FG7) (H:Hp):V -> PyData -> Prop
 | non:Dat K H .non .none
 | bl (b:Bool):Dat K H (.bl b) (.bool b)
 | int (i:Int):Dat K H (.int i) (.int i)
 | tup {a:Addr} {xs:List V} {ds:List PyData}:SqT K H a xs -> DatAll K H xs ds -> Dat K H (.ref a) (.tuple ds)
 | lst {a:Addr} {xs:List V} {ds:List PyData}:SqL K H a xs -> DatAll K H xs ds -> Dat K H (.ref a) (.list ds)
inductive DatAll (K:FG7) (H:Hp):List V -> List PyData -> Prop
 | nil:DatAll K H [] []
 | cons {x:V} {xs:List V} {d:PyData} {ds:List PyData}:Dat K H x d -> DatAll K H xs ds -> DatAll K H (x :: xs) (d :: ds)
end
def oD:Option Int -> PyData
 | none=>.none
 | some i=>.int i
theorem XZ {K:FG7} {H:Hp} (o:Option Int):Dat K H (ov o) (oD o):=by cases o; exact .non; exact .int _
theorem xG {α:Type} (xs:List α):(xs.map (fun _=>true)).all id = true:=by rw [List.all_eq_true]; intro x hx; obtain ⟨_,_,rfl⟩:=List.mem_map.mp hx; rfl
theorem Xg (gs:List Int):(gs.map V.int).map (fun _=>V.bl true) = (gs.map (fun _=>true)).map V.bl:=by rw [List.map_map,List.map_map]; rfl
section
variable {K:FG7} {a:Addr} {xs:List V} {lo:Int} {n k:Nat} {te:TE} {Q:VK} {σ:L2.St} {H:Hp}
theorem xg (Pv:Nat -> List V -> Hp -> Prop) (h0:Pv 0 [] H)
  (hs:∀ i ys H',i < n -> Pv i ys H' -> te (σ.set k (some (.int (lo + i)))) H' fun y H5=>ys.length < sizeLine /\ Pv (i + 1) (ys ++ [y]) H5)
  (hd:∀ ys H',Pv n ys H' -> ∀ l,H' l = none -> Q (.ref l) (upd H' l (.lst ys))):xE (Itr lo n) σ H (wL k) vq te Q:=by
 refine ⟨fun i m ys σ' H'=>m = n - i /\ i <= n /\ (σ' = σ \/ ∃ e,σ' = σ.set k e) /\ Pv i ys H',⟨n,by simp,Nat.zero_le _,.inl rfl,h0⟩,?_⟩
 rintro i m ys σ' H' ⟨rfl,hi,hσ,p⟩
 by_cases hlt:i < n
 ·refine .inr ⟨hlt,fun zs σ2 H2=>(σ2 = σ \/ ∃ e,σ2 = σ.set k e) /\ Pv (i + 1) zs H2,fun zs σ2 H2 p'=>⟨n - (i + 1),by omega,rfl,hlt,p'.1,p'.2⟩,fun x H2 y=>?_⟩
  obtain ⟨e,y⟩:=y
  subst e y
  have e:σ'.set k (some (V.int (lo + i))) = σ.set k (some (V.int (lo + i))):=by
   rcases hσ with rfl | ⟨e,rfl⟩
   ·rfl
   ·rw [List.set_set]
  show if true = true then te (σ'.set k (some (V.int (lo + i)))) H2 (fun y H5=>ys.length < sizeLine /\ ((σ'.set k (some (V.int (lo + i))) = σ \/ ∃ e,σ'.set k (some (V.int (lo + i))) = σ.set k e) /\ Pv (i + 1) (ys ++ [y]) H5)) else ((σ'.set k (some (V.int (lo + i))) = σ \/ ∃ e,σ'.set k (some (V.int (lo + i))) = σ.set k e) /\ Pv (i + 1) ys H2)
  rw [if_pos rfl,e]
  have e2:(fun (y:V) (H5:Hp)=>ys.length < sizeLine /\ ((σ.set k (some (V.int (lo + i))) = σ \/ ∃ e,σ.set k (some (V.int (lo + i))) = σ.set k e) /\ Pv (i + 1) (ys ++ [y]) H5)) = fun y H5=>ys.length < sizeLine /\ Pv (i + 1) (ys ++ [y]) H5:=by
   funext y H5
   exact propext ⟨fun z=>⟨z.1,z.2.2⟩,fun z=>⟨z.1,.inr ⟨_,rfl⟩,z.2⟩⟩
  rw [e2]
  exact hs i ys H2 hlt p
 ·have e:i = n:=by omega
  subst e
  exact .inl ⟨Nat.le_refl _,hd ys H' p⟩
theorem xH (Pv:Nat -> List V -> Hp -> Prop) (h0:Pv 0 [] H) (hl:∀ i ys H',Pv i ys H' -> SqL K H' a xs)
  (hs:∀ i x ys H',xs[i]? = some x -> Pv i ys H' -> te (σ.set k (some x)) H' fun y H5=>ys.length < sizeLine /\ Pv (i + 1) (ys ++ [y]) H5)
  (hd:∀ ys H',Pv xs.length ys H' -> ∀ l,H' l = none -> Q (.ref l) (upd H' l (.lst ys))):xE (Itl K a) σ H (wL k) vq te Q:=by
 refine ua (xs:=xs) (fun i ys σ' H'=>(σ' = σ \/ ∃ e,σ' = σ.set k e) /\ Pv i ys H') ⟨.inl rfl,h0⟩ (fun i ys σ' H' _ p=>hl i ys H' p.2) ?_ (fun ys σ' H' p l hl=>hd ys H' p.2 l hl)
 rintro i x ys σ' H' hx ⟨hσ,p⟩
 have e:σ'.set k (some x) = σ.set k (some x):=by
  rcases hσ with rfl | ⟨e,rfl⟩
  ·rfl
  ·rw [List.set_set]
 show if true = true then te (σ'.set k (some x)) H' (fun y H5=>ys.length < sizeLine /\ ((σ'.set k (some x) = σ \/ ∃ e,σ'.set k (some x) = σ.set k e) /\ Pv (i + 1) (ys ++ [y]) H5)) else ((σ'.set k (some x) = σ \/ ∃ e,σ'.set k (some x) = σ.set k e) /\ Pv (i + 1) ys H')
 rw [if_pos rfl,e]
 have e2:(fun (y:V) (H5:Hp)=>ys.length < sizeLine /\ ((σ.set k (some x) = σ \/ ∃ e,σ.set k (some x) = σ.set k e) /\ Pv (i + 1) (ys ++ [y]) H5)) = fun y H5=>ys.length < sizeLine /\ Pv (i + 1) (ys ++ [y]) H5:=by
  funext y H5
  exact propext ⟨fun z=>⟨z.1,z.2.2⟩,fun z=>⟨z.1,.inr ⟨_,rfl⟩,z.2⟩⟩
 rw [e2]
 exact hs i x ys H' hx p
end
theorem Grow.fresh {m:List Addr} {H H':Hp} (h:∀ b ∈ m,H b = none) (g:Grow m H H'):Grow [] H H' :=
 ⟨fun b o _ q=>g.keep b o (fun z=>by rw [h b z] at q; cases q) q,g.tup,g.frz⟩
theorem Grow.less {m m':List Addr} {H H':Hp} (g:Grow m H H') (h:∀ b ∈ m,b ∈ m' \/ H b = none):Grow m' H H' :=
 ⟨fun b o n q=>g.keep b o (fun z=>by
  rcases h b z with w | w
  ·exact n w
  ·rw [w] at q; cases q) q,g.tup,g.frz⟩
theorem xz {n:Nat} {i:Int} (h0:0 <= i) (h:i.toNat < n):ixN n i = some i.toNat:=by
 unfold ixN; rw [if_pos h0,if_pos (by omega)]
theorem qd {xs:List V} {i:Int} {j:Nat} {v:V} (h:ixN xs.length i = some j) (hv:xs[j]? = some v):atI xs i = some v:=by
 unfold atI; rw [h]; exact hv
structure Ask where
 hand:Int
 box:Int
 deed:Deed
def tL (K:FG7) (H:Hp) (x:V) (k:Ask):Prop:=∃ r rd,x = .ref r /\ SqT K H r [.int k.hand,.int k.box,.ref rd] /\ SqT K H rd k.deed.vs
def AllA (K:FG7) (H:Hp):List V -> List Ask -> Prop
 | [],[]=>True
 | x :: xs,k :: ks=>tL K H x k /\ AllA K H xs ks
 | _,_=>False
def xu (K:FG7) (H:Hp) (x:V) (ks:List Ask):Prop:=∃ r xs,x = .ref r /\ SqT K H r xs /\ AllA K H xs ks
def zy (K:FG7) (H:Hp) (x:V) (b:List Int):Prop:=∃ r,x = .ref r /\ SqT K H r (b.map V.int)
def Xh (m:Nat) (k:Ask):Prop:=0 <= k.hand /\ k.hand <= 15 /\ 0 <= k.box /\ k.box < m /\ k.deed.Ok
theorem Grow.ask {m:List Addr} {H H':Hp} (g:Grow m H H') {K:FG7} {x:V} {k:Ask} (h:tL K H x k):tL K H' x k:=by
 obtain ⟨r,rd,e,h1,h2⟩:=h
 exact ⟨r,rd,e,g.sqT h1,g.sqT h2⟩
theorem Grow.allA {m:List Addr} {H H':Hp} (g:Grow m H H') {K:FG7}:∀ {xs:List V} {ks:List Ask},AllA K H xs ks -> AllA K H' xs ks
 | [],[],_=>trivial
 | _ :: _,_ :: _,⟨h,t⟩=>⟨g.ask h,g.allA t⟩
 | [],_ :: _,h=>h.elim
 | _ :: _,[],h=>h.elim
theorem Grow.asks {m:List Addr} {H H':Hp} (g:Grow m H H') {K:FG7} {x:V} {ks:List Ask} (h:xu K H x ks):xu K H' x ks:=by
 obtain ⟨r,xs,e,h1,h2⟩:=h
 exact ⟨r,xs,e,g.sqT h1,g.allA h2⟩
theorem Grow.board {m:List Addr} {H H':Hp} (g:Grow m H H') {K:FG7} {x:V} {b:List Int} (h:zy K H x b):zy K H' x b:=by
 obtain ⟨r,e,h1⟩:=h
 exact ⟨r,e,g.sqT h1⟩
theorem AllA.len {K:FG7} {H:Hp}:∀ {xs:List V} {ks:List Ask},AllA K H xs ks -> xs.length = ks.length
 | [],[],_=>rfl
 | _ :: xs,_ :: ks,⟨_,t⟩=>congrArg (· + 1) (AllA.len t)
 | [],_ :: _,h=>h.elim
 | _ :: _,[],h=>h.elim
theorem AllA.get {K:FG7} {H:Hp}:∀ {xs:List V} {ks:List Ask} {i:Nat} {x:V},AllA K H xs ks -> xs[i]? = some x -> ∃ k,ks[i]? = some k /\ tL K H x k
 | _ :: _,k :: _,0,x,⟨h,_⟩,e=>by
  obtain rfl:=Option.some.inj e
  exact ⟨k,rfl,h⟩
 | _ :: _,_ :: _,i + 1,x,⟨_,t⟩,e=>AllA.get (i:=i) t e
 | [],[],i,x,_,e=>by cases e
 | [],_ :: _,_,_,h,_=>h.elim
 | _ :: _,[],_,_,h,_=>h.elim
theorem qe {xs:List Int} {i:Nat} (h:i < xs.length):xs[i]? = some (xs.getD i 0):=by
 rw [List.getD_eq_getElem?_getD,List.getElem?_eq_getElem h]; rfl
def Vw (d:Deed):PyData:=.tuple [.int d.add,oD d.lo,oD d.hi]
def askD (k:Ask):PyData:=.tuple [.int k.hand,.int k.box,Vw k.deed]
theorem Xi {K:FG7} {H:Hp}:∀ xs:List Int,DatAll K H (xs.map V.int) (xs.map PyData.int)
 | []=>.nil
 | x :: xs=>.cons (.int x) (Xi xs)
theorem Xj {K:FG7} {H:Hp} {r:Addr} {d:Deed} (h:SqT K H r d.vs):Dat K H (.ref r) (Vw d):=.tup h (.cons (.int _) (.cons (XZ _) (.cons (XZ _) .nil)))
theorem tL.dat {K:FG7} {H:Hp} {x:V} {k:Ask} (h:tL K H x k):Dat K H x (askD k):=by
 obtain ⟨r,rd,rfl,h1,h2⟩:=h
 exact .tup h1 (.cons (.int _) (.cons (.int _) (.cons (Xj h2) .nil)))
theorem AllA.dat {K:FG7} {H:Hp}:∀ {xs:List V} {ks:List Ask},AllA K H xs ks -> DatAll K H xs (ks.map askD)
 | [],[],_=>.nil
 | _ :: _,_ :: _,⟨h,t⟩=>.cons h.dat (AllA.dat t)
 | [],_ :: _,h=>h.elim
 | _ :: _,[],h=>h.elim
def yY (K:FG7):Sp:=sp3 fun x y z H Q=>∃ i l u,x = .int i /\ y = .int l /\ z = .int u /\ Q (.bl (decide (l <= i) && decide (i <= u))) H
def ub (K:FG7):Sp:=sp1 fun x H Q=>∃ b,zy K H x b /\ 1 <= b.length /\ b.length <= 16 /\ ∀ H',Grow [] H H' -> Q (.bl true) H'
def wW (K:FG7):Sp:=sp1 fun x H Q=>∃ b,zy K H x b /\ 1 <= b.length /\ b.length <= 16 /\ ∀ H',Grow [] H H' -> Q .non H'
def sL (K:FG7):Sp:=sp2 fun x y H Q=>∃ b k,zy K H x b /\ tL K H y k /\ Xh b.length k /\ Q (.bl true) H
def uc (K:FG7):Sp:=sp2 fun x y H Q=>∃ b ks,zy K H x b /\ 1 <= b.length /\ b.length <= 16 /\ xu K H y ks /\ ks.length <= 1000 /\ (∀ k ∈ ks,Xh b.length k) /\ ∀ H',Grow [] H H' -> Q (.bl true) H'
def vD (K:FG7):Sp:=sp2 fun x y H Q=>∃ b ks,zy K H x b /\ 1 <= b.length /\ b.length <= 16 /\ xu K H y ks /\ ks.length <= 1000 /\ (∀ k ∈ ks,Xh b.length k) /\ ∀ H',Grow [] H H' -> Q .non H'
def sp4 (b:V -> V -> V -> V -> Hp -> VK -> Prop):Sp:=fun vs H Q _=>∃ x y z u,vs = [x,y,z,u] /\ b x y z u H Q
theorem ud {b:V -> V -> V -> V -> Hp -> VK -> Prop} {p q r s:Str}:∀ vs H Q E,sp4 b vs H Q E -> vs.length = [p,q,r,s].length:=fun vs H Q E h=>by
 obtain ⟨x,y,z,u,rfl,_⟩:=h; rfl
def AllR {α:Type} (R:V -> α -> Prop):List V -> List α -> Prop
 | [],[]=>True
 | x :: xs,k :: ks=>R x k /\ AllR R xs ks
 | _,_=>False
section
variable {α:Type} {R S:V -> α -> Prop}
theorem AllR.imp (h:∀ x k,R x k -> S x k):∀ {xs:List V} {ks:List α},AllR R xs ks -> AllR S xs ks
 | [],[],_=>trivial
 | _ :: _,_ :: _,⟨a,t⟩=>⟨h _ _ a,AllR.imp h t⟩
 | [],_ :: _,z=>z.elim
 | _ :: _,[],z=>z.elim
theorem AllR.len:∀ {xs:List V} {ks:List α},AllR R xs ks -> xs.length = ks.length
 | [],[],_=>rfl
 | _ :: xs,_ :: ks,⟨_,t⟩=>congrArg (· + 1) (AllR.len t)
 | [],_ :: _,h=>h.elim
 | _ :: _,[],h=>h.elim
theorem AllR.get:∀ {xs:List V} {ks:List α} {i:Nat} {x:V},AllR R xs ks -> xs[i]? = some x -> ∃ k,ks[i]? = some k /\ R x k
 | _ :: _,k :: _,0,x,⟨h,_⟩,e=>by
  obtain rfl:=Option.some.inj e
  exact ⟨k,rfl,h⟩
 | _ :: _,_ :: _,i + 1,x,⟨_,t⟩,e=>AllR.get (i:=i) t e
 | [],[],i,x,_,e=>by cases e
 | [],_ :: _,_,_,h,_=>h.elim
 | _ :: _,[],_,_,h,_=>h.elim
theorem AllR.getR:∀ {xs:List V} {ks:List α} {i:Nat} {k:α},AllR R xs ks -> ks[i]? = some k -> ∃ x,xs[i]? = some x /\ R x k
 | x :: _,_ :: _,0,k,⟨h,_⟩,e=>by
  obtain rfl:=Option.some.inj e
  exact ⟨x,rfl,h⟩
 | _ :: _,_ :: _,i + 1,k,⟨_,t⟩,e=>AllR.getR (i:=i) t e
 | [],[],i,k,_,e=>by cases e
 | [],_ :: _,_,_,h,_=>h.elim
 | _ :: _,[],_,_,h,_=>h.elim
theorem AllR.app:∀ {xs ys:List V} {ks js:List α},AllR R xs ks -> AllR R ys js -> AllR R (xs ++ ys) (ks ++ js)
 | [],_,[],_,_,h=>h
 | _ :: _,_,_ :: _,_,⟨h,t⟩,q=>⟨h,AllR.app t q⟩
 | [],_,_ :: _,_,h,_=>h.elim
 | _ :: _,_,[],_,h,_=>h.elim
theorem AllR.one {x:V} {k:α} (h:R x k):AllR R [x] [k]:=⟨h,trivial⟩
theorem AllR.take:∀ {xs:List V} {ks:List α} {n:Nat},AllR R xs ks -> AllR R (xs.take n) (ks.take n)
 | [],[],n,_=>by rw [List.take_nil,List.take_nil]; trivial
 | _ :: _,_ :: _,0,_=>trivial
 | _ :: _,_ :: _,n + 1,⟨h,t⟩=>⟨h,AllR.take t⟩
 | [],_ :: _,_,h=>h.elim
 | _ :: _,[],_,h=>h.elim
end
theorem CSc.nest {X0:Cx} {scope scope2:Scope} {N' N2:List Str} {sub sub2:List (Option Nat)} {cl:List (Str × Addr)} {C D:Addr} {fp:List Addr} {s:Shared} {H:Hp} (S:CSc X0 scope N' sub) (hk0:X0.env.scope.kind = .function)
  (h:((scope2.names.all fun y=>(y.2 != .free || scope.names.lookup y.1 == some .free) && (y.2 != .cell) && (y.2 != .local || scope2.names.lookup y.1 == some .local)) && (sub2.length == N2.length) &&
   ((N2.zip sub2).all fun p=>match p.2 with | none=>true | some i=>N'[i]? == some p.1 && scope.names.lookup p.1 == some .free && scope2.names.lookup p.1 == some .free)) = true)
  (hk:scope2.kind = .function):CSc (cxC X0 N' scope cl C D fp s H) scope2 N2 sub2:=by
 rw [Bool.and_eq_true,Bool.and_eq_true] at h
 obtain ⟨⟨h1,h2⟩,h3⟩:=h
 have k1:=fun y hy=>List.all_eq_true.mp h1 y hy
 have cellOf:∀ y:Str,scope.names.lookup y = some .free -> (relabel scope X0.env).names.lookup y = some .cell:=fun y hy=>xt hk0 (S.free (y,.free) (PySem.mem_of_lookup hy) rfl) hy
 refine ⟨fun y hy hf=>?_,fun y hy hc=>?_,hk,fun y hy hl=>?_,by simpa using h2,fun j y i hj hs=>?_⟩
 ·have:=k1 y hy
  simp only [hf,Bool.and_eq_true] at this
  have z:=this.1.1
  exact cellOf y.1 (by simpa using z)
 ·have:=k1 y hy
  simp only [hc,Bool.and_eq_true] at this
  simp at this
 ·have:=k1 y hy
  simp only [hl,Bool.and_eq_true] at this
  simpa using this.2
 ·have hm:(y,some i) ∈ N2.zip sub2:=by
   have:(N2.zip sub2)[j]? = some (y,some i):=by
    rw [List.getElem?_zip_eq_some]; exact ⟨hj,hs⟩
   exact List.mem_of_getElem? this
  have:=List.all_eq_true.mp h3 _ hm
  simp only [Bool.and_eq_true,beq_iff_eq] at this
  exact ⟨this.1.1,cellOf y this.1.2,this.2⟩
theorem sM {X:Cx} {K:FG7} (h:X.K = K):xw X (.builtin "len") (fun xs H Q=>∃ p ys,xs = [.ref p] /\ (SqL K H p ys \/ SqT K H p ys) /\ Q (.int ys.length) H):=by subst h; exact zw
def y9 (K:FG7) (H:Hp) (x:V) (rows:List (List Int)):Prop:=∃ r xs,x = .ref r /\ SqT K H r xs /\ AllR (zy K H) xs rows
theorem Grow.boardsR {m:List Addr} {H H':Hp} (g:Grow m H H') {K:FG7} {xs:List V} {rows:List (List Int)} (h:AllR (zy K H) xs rows):AllR (zy K H') xs rows:=h.imp fun _ _ z=>g.board z
theorem Grow.rows {m:List Addr} {H H':Hp} (g:Grow m H H') {K:FG7} {x:V} {rows:List (List Int)} (h:y9 K H x rows):y9 K H' x rows:=by
 obtain ⟨r,xs,e,h1,h2⟩:=h
 exact ⟨r,xs,e,g.sqT h1,g.boardsR h2⟩
theorem getI {xs:List Int} {i:Int} (h0:0 <= i) (h:i < xs.length):atI (xs.map V.int) i = some (V.int (xs.getD i.toNat 0)):=by
 have hj:i.toNat < xs.length:=by omega
 exact qd (xz h0 (by rw [List.length_map]; exact hj)) (by rw [List.getElem?_map,qe hj]; rfl)
theorem X1 {K:FG7} {H:Hp} {xs:List V} {rows:List (List Int)} (h:AllR (zy K H) xs rows) {i:Int} (h0:0 <= i) (h1:i < rows.length):∃ a,atI xs i = some (V.ref a) /\ SqT K H a ((rows.getD i.toNat []).map V.int):=by
 have hj:i.toNat < rows.length:=by omega
 have e:rows[i.toNat]? = some (rows.getD i.toNat []):=by rw [List.getD_eq_getElem?_getD,List.getElem?_eq_getElem hj]; rfl
 obtain ⟨x,hx,a,rfl,hs⟩:=h.getR e
 exact ⟨a,qd (xz h0 (by rw [h.len]; exact hj)) hx,hs⟩
section
variable {prog:Program} {w:World} {A:Around} {E:VS7} {s:Shared}
theorem qf {jt t:Addr} {i:Nat} {vs:Array Value} {v:Value} {Q:VS7} (hit:s.heap.IsTupleIter jt t i) (ht:s.heap.IsTuple t vs) (hv:vs[i]? = some v)
  (hQ:∀ h',h'.IsTupleIter jt t (i + 1) -> Heap.SameBut jt s.heap h' -> Q v { s with heap:=h' }):wpAny (model prog w) A (Builtin.SmallTypes.nextOf (.ref jt)) Q E s:=by
 obtain ⟨oj,hoj,cj,dj⟩:=id hit
 obtain ⟨ot,hot,_,nt,dt⟩:=ht
 unfold Builtin.SmallTypes.nextOf
 refine wpAny_bind (wpAny_callSpecial?_slot (name:=Str.ofString "__next__") hit.typeIs F.slot_tuple_iterator_next (wpAny_call_entry F.slot_tuple_iterator_next hit.typeIs F.entry_tuple_iterator_next ?_ (F.args_tuple_iterator_next_1 _)))
 show wpAny _ _ (field (.ref jt) 0 >>= _) _ _ s
 refine wpAny_bind (wpAny_field hoj dj (x:=.ref t) rfl ?_); show wpAny _ _ (if (Value.ref t == Value.none) = true then _ else _) _ _ s
 rw [if_neg (show ¬ ((Value.ref t == Value.none) = true) by exact Bool.false_ne_true)]; show wpAny _ _ (field (.ref jt) 1 >>= _) _ _ s
 refine wpAny_bind (wpAny_field hoj dj (x:=.int i 0) rfl ?_); show wpAny _ _ (seqItems? (.ref t) >>= _) _ _ s
 refine wpAny_bind (wpAny_seqItems hot dt ?_); simp only [Int.toNat_natCast,hv]
 refine wpAny_bind (wpAny_setField hoj dj (by simp) (wpAny_pure ⟨v,rfl,wpAny_pure (hQ _ ⟨_,Heap.get?_update_self _ hoj (Obj.isFreed_of_fields (Obj.data_mapFields dj _)),(Obj.cls_mapFields ..).trans cj,by rw [Obj.data_mapFields dj]; simp [rawInt]⟩ (Heap.SameBut.update ..))⟩))
theorem uW {jt t:Addr} {i:Nat} {vs:Array Value} {Q:VS7} (hh:A.handled = none) (hit:s.heap.IsTupleIter jt t i) (ht:s.heap.IsTuple t vs) (hv:vs[i]? = none)
  (hE:∀ h' e,Heap.ExtBut jt s.heap h' -> (∃ o,h'.get? e = some o /\ o.cls = .type "StopIteration") -> E (.ref e) { s with heap:=h' }):wpAny (model prog w) A (Builtin.SmallTypes.nextOf (.ref jt)) Q E s:=by
 obtain ⟨oj,hoj,cj,dj⟩:=id hit
 obtain ⟨ot,hot,_,nt,dt⟩:=ht
 unfold Builtin.SmallTypes.nextOf
 refine wpAny_bind (wpAny_callSpecial?_slot (name:=Str.ofString "__next__") hit.typeIs F.slot_tuple_iterator_next (wpAny_call_entry F.slot_tuple_iterator_next hit.typeIs F.entry_tuple_iterator_next ?_ (F.args_tuple_iterator_next_1 _)))
 show wpAny _ _ (field (.ref jt) 0 >>= _) _ _ s
 refine wpAny_bind (wpAny_field hoj dj (x:=.ref t) rfl ?_); show wpAny _ _ (if (Value.ref t == Value.none) = true then _ else _) _ _ s
 rw [if_neg (show ¬ ((Value.ref t == Value.none) = true) by exact Bool.false_ne_true)]; show wpAny _ _ (field (.ref jt) 1 >>= _) _ _ s
 refine wpAny_bind (wpAny_field hoj dj (x:=.int i 0) rfl ?_); show wpAny _ _ (seqItems? (.ref t) >>= _) _ _ s
 refine wpAny_bind (wpAny_seqItems hot dt ?_); simp only [Int.toNat_natCast,hv]
 refine wpAny_bind (wpAny_rule (wpAny_bind (wpAny_setField hoj dj (by simp) ?_))); show wpAny _ _ (newExc (.type "StopIteration") [] >>= _) _ _ _
 refine wpAny_bind ?_; simp only [newExc,newTuple]
 refine wpAny_bind (wpAny_newObj_type ?_ (by size_fits)); refine wpAny_bind (m:=firstArgMember _ _) (wpAny_of_eq (a:=Value.none) (by first | rfl | (simp only [firstArgMember]; rfl)) ?_)
 refine wpAny_newObj_type ?_ (by size_fits); simp only [raiseNew]
 refine wpAny_bind (wpAny_handled ?_); (first | rw [show A.in1.handled = none from hh] | rw [hh])
 exact wpAny_bind (wpAny_pure (wpAny_throw (hE _ _ (((Heap.SameBut.update ..).extBut.push _).push _) ⟨_,Heap.get?_push_size _ rfl,rfl⟩)))
end
theorem Z2 {prog:Program} {w:World} {A:Around} (hh:A.handled = none) (jt t:Addr) (hne:t ≠ jt) (vs:Array Value) :
  Draws prog w A jt [jt,t] vs.size (fun i v=>vs[i]? = some v) (fun i h=>h.IsTupleIter jt t i /\ h.IsTuple t vs) where
 live:=fun _ _ st=>let ⟨o,ho,_⟩:=st.1; ⟨o,ho⟩
 frame:=fun _ _ _ st hk=>⟨st.1.at (hk jt (by simp)),st.2.at (hk t (by simp))⟩
 item:=fun i s Q E hi st hQ=>qf st.1 st.2 (v:=vs[i]) (by simp [hi]) fun h' hit' hs'=>hQ _ h' s.toks (by simp [hi]) ⟨hit',st.2.extBut hs'.extBut hne⟩ hs'
 done:=fun s Q E st hE=>uW hh st.1 st.2 (by simp) hE
theorem Z3 {prog:Program} {w:World} {A:Around} (hh:A.handled = none) (jt t:Addr) (vs:Array Value) {i:Nat} (hv:vs[i]? = none) :
  Draws prog w A jt [jt,t] i (fun _ _=>True) (fun j h=>j = i /\ h.IsTupleIter jt t i /\ h.IsTuple t vs) where
 live:=fun _ _ st=>let ⟨o,ho,_⟩:=st.2.1; ⟨o,ho⟩
 frame:=fun _ _ _ st hk=>⟨st.1,st.2.1.at (hk jt (by simp)),st.2.2.at (hk t (by simp))⟩
 item:=fun j s Q E hj st hQ=>absurd st.1 (Nat.ne_of_lt hj)
 done:=fun s Q E st hE=>uW hh st.2.1 st.2.2 hv hE
section
variable {X:Cx} {pins:List (Addr × Obj)} {σ:L2.St} {H:Hp} {s:Shared} {h':Heap}
theorem tM {fp:List Addr} {t':Nat} (I:Inv X pins σ H s) (k:∀ b o,b ∉ fp -> s.heap.get? b = some o -> h'.get? b = some o) (ff:∀ b ∈ fp,FpOk X pins H b):Inv X pins σ H { s with heap:=h',toks:=t' }:=by
 have nit:∀ b u,H b = some u -> b ∉ fp:=fun b u e z=>by rw [(ff b z).1] at e; cases e
 refine I.step (g':=s.gens) (d':=s.drawn) (ch:=fp) (fun b hb=>?_) (fun b o _ _ hc e _=>k b o hc e) (fun b o _ _ hc e _=>⟨o.slots,k b o hc e⟩) (fun _ _ _ _ n=>n) (fun b o hc e=>⟨o,k b o hc e⟩) (fun _ _ e=>e) (fun _ _ _ e=>e) (fun b ps e=>⟨#[],by rw [e]; simp⟩) (fun m hm=>?_) (fun b u e=>?_) I.bare
 ·obtain ⟨_,f1,_,f3,f4,f5⟩:=ff b hb
  exact ⟨f3,f1,f4,f5⟩
 ·obtain ⟨o,es,ep,ho,r⟩:=hm
  exact ⟨o,es,ep,k _ o (fun z=>(ff _ z).2.1 rfl) ho,r⟩
 ·refine (I.hok b u e).stay (fun c v hc q=>k c v ?_ q) (fun _ q=>q) fun _ _ q=>q
  rcases hc with z | z
  ·rw [z]; exact nit b u e
  ·exact nit c _ z
theorem jm {fp:List Addr} {T:Addr} {o:HO} {t':Nat} (I:Inv X pins σ H s) (k:∀ b o,b ∉ fp -> s.heap.get? b = some o -> h'.get? b = some o) (ff:∀ b ∈ fp,FpOk X pins H b) (hT:s.heap.objs.size <= T)
  (new:zV X.prog X.w (upd H T o) h' T o):Inv X pins σ (upd H T o) { s with heap:=h',toks:=t' }:=by
 have hn:H T = none:=I.hok.fresh hT
 have I1:Inv X pins σ H { s with heap:=h',toks:=t' }:=tM I k ff
 have hok:HOk X.prog X.w (upd H T o) h':=HOk.track I1.hok hn new
 refine I.step (g':=s.gens) (d':=s.drawn) (ch:=fp) (fun b hb=>?_) (fun b o _ _ hc e _=>k b o hc e) (fun b o _ _ hc e _=>⟨o.slots,k b o hc e⟩) (fun b u _ e n=>by rw [zm (Nat.ne_of_lt (Nat.lt_of_lt_of_le (Heap.lt_size e) hT))]; exact n) (fun b o hc e=>⟨o,k b o hc e⟩)
  (fun b xs e=>by rw [zm (zq e hn)]; exact e) (fun b u xs e=>by rw [zm (zq e hn)]; exact e) (fun b ps e=>⟨#[],by rw [zm (zq e hn),e]; simp⟩) (fun m hm=>?_) hok I.bare
 ·obtain ⟨_,f1,_,f3,f4,f5⟩:=ff b hb
  exact ⟨f3,f1,f4,f5⟩
 ·obtain ⟨o,es,ep,ho,r⟩:=hm
  exact ⟨o,es,ep,k _ o (fun z=>(ff _ z).2.1 rfl) ho,r⟩
end
def Ite (K:FG7) (a:Addr):It :=
 ⟨fun i H=>∃ xs x,SqT K H a xs /\ xs[i]? = some x,fun i H x H'=>∃ T v,H T = none /\ x = .ref T /\ H' = upd H T (.tup [.int i,v]) /\ ∀ xs,SqT K H a xs -> xs[i]? = some v,fun i H=>∃ xs,SqT K H a xs /\ xs.length <= i⟩
section
variable {X:Cx} {elts:List Expr} {kt:Nat} {pt:Pos}
theorem X2:bootBuiltins "enumerate" = some (.type "enumerate"):=by decide +kernel
end
theorem Xk {K:FG7} {a:Addr} {xs:List V} {g:TG} {tb:TS} {D:Ends} {σ:L2.St} {H:Hp} (Pv:Nat -> L2.St -> Hp -> Prop) (h0:Pv 0 σ H) (hl:∀ i σ H,i <= xs.length -> Pv i σ H -> SqT K H a xs)
  (hs:∀ i x σ H T,xs[i]? = some x -> Pv i σ H -> H T = none -> g (.ref T) σ (upd H T (.tup [.int i,x])) fun σ2 H2=>tb { D with nx:=Pv (i + 1),ct:=Pv (i + 1),bk:=D.nx } σ2 H2) (hd:∀ σ H,Pv xs.length σ H -> D.nx σ H) :
  ∃ W:Nat -> Nat -> L2.St -> Hp -> Prop,(∃ m,W 0 m σ H) /\ ∀ i m σ H,W i m σ H →
   ((Ite K a).stop i H /\ D.nx σ H) \/ ((Ite K a).go i H /\ ∃ N:L2.St -> Hp -> Prop,(∀ σ' H',N σ' H' -> ∃ m',m' < m /\ W (i + 1) m' σ' H') /\ ∀ x H',(Ite K a).yld i H x H' -> g x σ H' fun σ2 H2=>tb { D with nx:=N,ct:=N,bk:=D.nx } σ2 H2):=by
 refine ⟨fun i m σ H=>m = xs.length - i /\ i <= xs.length /\ Pv i σ H,⟨xs.length,by simp,Nat.zero_le _,h0⟩,?_⟩
 rintro i m σ H ⟨rfl,hi,p⟩
 have q:=hl i σ H hi p
 by_cases hlt:i < xs.length
 ·refine .inr ⟨⟨xs,xs[i],q,by simp [hlt]⟩,Pv (i + 1),fun σ' H' p'=>⟨xs.length - (i + 1),by omega,rfl,hlt,p'⟩,fun x H' y=>?_⟩
  obtain ⟨T,v,hT,rfl,rfl,y⟩:=y
  exact hs i v σ H T (y xs q) p hT
 ·have e:i = xs.length:=by omega
  subst e
  exact .inl ⟨⟨xs,q,Nat.le_refl _⟩,hd σ H p⟩
section
variable {K:FG7} {a:Addr} {xs:List V} {k:Nat} {tt:TT} {te:TE} {Q:VK} {σ:L2.St} {H:Hp}
theorem j5 (p:V -> Bool) (Pv:Nat -> List V -> Hp -> Prop) (h0:Pv 0 [] H) (hl:∀ i ys H',Pv i ys H' -> SqT K H' a xs)
  (ht:∀ x H' (R:Bool -> Hp -> Prop),x ∈ xs -> R (p x) H' -> tt (σ.set k (some x)) H' R)
  (hs:∀ i x ys H',xs[i]? = some x -> Pv i ys H' -> p x = true -> te (σ.set k (some x)) H' fun y H5=>ys.length < sizeLine /\ Pv (i + 1) (ys ++ [y]) H5)
  (hn:∀ i x ys H',xs[i]? = some x -> Pv i ys H' -> p x = false -> Pv (i + 1) ys H')
  (hd:∀ ys H',Pv xs.length ys H' -> ∀ l,H' l = none -> Q (.ref l) (upd H' l (.lst ys))):xE (Itt K a) σ H (wL k) tt te Q:=by
 refine wU (xs:=xs) (fun i ys σ' H'=>(σ' = σ \/ ∃ e,σ' = σ.set k e) /\ Pv i ys H') ⟨.inl rfl,h0⟩ (fun i ys σ' H' _ p=>hl i ys H' p.2) ?_ (fun ys σ' H' p l hl=>hd ys H' p.2 l hl)
 rintro i x ys σ' H' hx ⟨hσ,pv⟩
 have e:σ'.set k (some x) = σ.set k (some x):=by
  rcases hσ with rfl | ⟨e,rfl⟩
  ·rfl
  ·rw [List.set_set]
 show tt (σ'.set k (some x)) H' _
 rw [e]
 refine ht x H' _ (List.mem_of_getElem? hx) ?_
 by_cases c:p x = true
 ·rw [if_pos c]
  have e2:(fun (y:V) (H5:Hp)=>ys.length < sizeLine /\ ((σ.set k (some x) = σ \/ ∃ e,σ.set k (some x) = σ.set k e) /\ Pv (i + 1) (ys ++ [y]) H5)) = fun y H5=>ys.length < sizeLine /\ Pv (i + 1) (ys ++ [y]) H5:=by
   funext y H5
   exact propext ⟨fun z=>⟨z.1,z.2.2⟩,fun z=>⟨z.1,.inr ⟨_,rfl⟩,z.2⟩⟩
  have z:=hs i x ys H' hx pv c
  rw [← e2] at z
  exact z
 ·rw [if_neg c]
  exact ⟨.inr ⟨_,rfl⟩,hn i x ys H' hx pv (by simpa using c)⟩
end
def figI (k st l:Int):Int:=Builtin.bitAnd (l / 2 ^ (k - st).toNat) 1
def wfI (k st l w:Int):Int:=Builtin.bitXor l (Builtin.bitXor (figI k st l) w * 2 ^ (k - st).toNat)
def wayN (k h s:Int):Nat -> Int
 | 0=>h
 | n + 1=>wfI k (1 + n) (wayN k h s n) (figI k (1 + n) s)
def swI (k st l:Int):Int:=Builtin.bitOr (l / 2 ^ (k - st + 1).toNat * 2 ^ (k - st).toNat) (Builtin.bitAnd l (1 * 2 ^ (k - st).toNat - 1))
def xI (k n:Int):List Int:=(List.range k.toNat).map fun i:Nat=>Builtin.bitAnd (n / 2 ^ (k - 1 - (0 + (i:Int))).toNat) 1
def numL (xs:List Int):Int:=xs.foldl (fun f o=>2 * f + o) 0
def zE (k h g:Int) (n:Nat):Int:=numL ((xI k g).take n ++ (xI k h).drop n)
def wE (k l:Int) (st:Nat):Int:=numL ((xI k l).take (st - 1) ++ (xI k l).drop st)
theorem Z4:∀ k:Fin 5,∀ h:Fin 16,∀ g:Fin 16,h.val < 2 ^ k.val -> g.val < 2 ^ k.val -> ∀ n:Fin 5,n.val <= k.val →
  (wayN k.val h.val g.val n.val = zE k.val h.val g.val n.val /\ 0 <= zE k.val h.val g.val n.val /\ zE k.val h.val g.val n.val < 2 ^ k.val) ∧
  (1 <= n.val -> swI k.val n.val (zE k.val h.val g.val n.val) = wE k.val (zE k.val h.val g.val (n.val - 1)) n.val /\ wE k.val (zE k.val h.val g.val n.val) n.val = wE k.val (zE k.val h.val g.val (n.val - 1)) n.val /\ 0 <= wE k.val (zE k.val h.val g.val (n.val - 1)) n.val /\ wE k.val (zE k.val h.val g.val (n.val - 1)) n.val < 16):=by
 decide +kernel
theorem Z5:∀ k:Fin 5,∀ st:Fin 5,st.val <= k.val -> ∀ l:Fin 16,(figI k.val st.val l.val = 0 \/ figI k.val st.val l.val = 1) /\ ∀ w:Fin 2,(Builtin.bitXor (figI k.val st.val l.val) w.val).natAbs < 2:=by
 decide +kernel
section
variable {X:Cx}
theorem sN (hcalm:X.calm = true):xw X (.builtin "any") (fun xs H Q=>∃ (l:Addr) (bs:List Bool),xs = [.ref l] /\ SqL X.K H l (bs.map V.bl) /\ Q (.bl (bs.any id)) H):=by
 intro pins s σ H xs us Q I r h
 obtain ⟨l,bs,rfl,hl,q⟩:=h
 obtain ⟨u,rfl,rx⟩:=wM r
 cases (show u = Value.ref l from rx)
 obtain ⟨vs,rv,pl,_⟩:=I.list hl
 have hl':s.heap.IsList l vs.toArray:=pl.isList
 have hb:LSm.BoolsAre vs bs:=v9 rv
 have hlt:l < s.heap.objs.size:=by obtain ⟨_,e,_⟩:=hl'; exact Heap.lt_size e
 refine call_any_walk (wpAny_pyIter_list hl' ?_)
 refine ⟨s.heap.objs.size,[s.heap.objs.size,l],[s.heap.objs.size],vs.toArray.size,_,_,fun i=>(bs[i]?).getD true,rfl,Walks.list (A:=X.A.in1) (I.ok.hd hcalm) _ l (Nat.ne_of_lt hlt) vs.toArray,
  ⟨⟨_,Heap.get?_push_size _ rfl,rfl,rfl⟩,hl'.push _⟩,fun i v s' Q' E' hP hQ=>?_,fun h' tk hk=>?_⟩
 ·obtain ⟨b,e,rfl⟩:=hb.get i v (by simpa using hP)
  simp only [e,Option.getD_some] at hQ
  exact wpAny_truthy_bool hQ
 ·have e:((List.range vs.toArray.size).any fun i=>(bs[i]?).getD true) = bs.any id:=by
   have hlen:bs.length = vs.length:=by rw [← rv.length,List.length_map]
   rw [List.size_toArray,← hlen,Bool.eq_iff_iff,List.any_eq_true,List.any_eq_true]
   constructor
   ·rintro ⟨i,hi,z⟩
    have hi':=List.mem_range.mp hi
    exact ⟨bs[i],List.getElem_mem hi',by simpa [List.getElem?_eq_getElem hi'] using z⟩
   ·rintro ⟨b,hb',z⟩
    obtain ⟨i,hi,rfl⟩:=List.getElem_of_mem hb'
    exact ⟨i,List.mem_range.mpr hi,by simpa [List.getElem?_eq_getElem hi] using z⟩
  rw [e]
  exact ⟨.bl (bs.any id),H,I.kept (t':=tk) (h':=h') (LSm.kept_iter hk),rfl,q⟩
theorem ue {K:FG7} (h:X.K = K):xw X (.builtin "isinstance") (rIsi K):=by subst h; exact yr
end
theorem jn {i j:Int} (h:-(2 ^ 60) < i /\ i < 2 ^ 60):IntMulOk i j:=PySem.IntMulOk.of_left (Nat.le_trans ((PySem.intBits_le_iff (m:=60)).mpr (by obtain ⟨a,b⟩:=h; omega)) (by decide))
theorem vE {k:Nat} (h:k <= 4):CPow 1 (k:Int):=⟨by omega,by omega,by decide⟩
theorem zU {k:Nat} (h:k <= 4):(2:Nat) ^ k <= 16:=Nat.le_trans (Nat.pow_le_pow_right (by decide) h) (by decide)
theorem yL {k:Nat}:(1:Int) * 2 ^ ((k:Int)).toNat = ((2 ^ k:Nat):Int):=by rw [Int.toNat_natCast,Int.one_mul,Int.natCast_pow]; rfl
theorem Wt {k h g n:Nat} (k4:k <= 4) (hh:h < 2 ^ k) (hg:g < 2 ^ k) (hn:n <= k):wayN k h g n = zE k h g n /\ 0 <= zE k h g n /\ zE k h g n < 16:=by
 have p:=zU k4
 have z:=(Z4 ⟨k,by omega⟩ ⟨h,by omega⟩ ⟨g,by omega⟩ hh hg ⟨n,by omega⟩ hn).1
 refine ⟨z.1,z.2.1,?_⟩
 have z3:zE k h g n < (2:Int) ^ k:=z.2.2
 have:((2 ^ k:Nat):Int) = (2:Int) ^ k:=Int.natCast_pow 2 k
 omega
theorem figF {k st:Nat} {l:Int} (k4:k <= 4) (hs:st <= k) (l0:0 <= l) (l1:l < 16):(figI k st l = 0 \/ figI k st l = 1) /\ ∀ w:Int,w = 0 \/ w = 1 -> (Builtin.bitXor (figI k st l) w).natAbs < 2 ^ 64:=by
 obtain ⟨n,rfl⟩:∃ n:Nat,l = n:=⟨l.toNat,by omega⟩
 have z:=Z5 ⟨k,by omega⟩ ⟨st,by omega⟩ hs ⟨n,by omega⟩
 refine ⟨z.1,fun w hw=>?_⟩
 rcases hw with rfl | rfl
 ·exact Nat.lt_trans (z.2 0) (by decide)
 ·exact Nat.lt_trans (z.2 1) (by decide)
def zO (k h g:Nat):List Int:=(List.range (k + 1)).map fun n=>zE k h g n
theorem uX {k h g n:Nat} (hn:n <= k):(zO k h g).getD n 0 = zE k h g n:=by
 unfold zO
 rw [List.getD_eq_getElem?_getD,List.getElem?_map,List.getElem?_range (by omega)]; rfl
theorem Up {ys:List Int} {v:Int}:atI ((ys ++ [v]).map V.int) (-1) = some (V.int v):=by
 refine qd (j:=ys.length) ?_ ?_
 ·unfold ixN
  rw [List.length_map,List.length_append,if_neg (by decide),if_pos (by show -((ys.length + 1:Nat):Int) <= -1; omega)]
  exact congrArg some (by show (-1 + ((ys.length + 1:Nat):Int)).toNat = ys.length; omega)
 ·rw [List.getElem?_map]; simp
def xJ (_:FG7):Sp:=sp2 fun x y H Q=>∃ k l:Nat,x = .int k /\ y = .int l /\ k <= 4 /\ l < 2 ^ k /\ Q (.bl true) H
def yu (_:FG7):Sp:=sp1 fun x H Q=>∃ k:Nat,x = .int k /\ k <= 4 /\ Q .non H
def yz (_:FG7):Sp:=sp2 fun x y H Q=>∃ k l:Nat,x = .int k /\ y = .int l /\ k <= 4 /\ l < 2 ^ k /\ Q .non H
def wp (_:FG7):Sp:=sp3 fun x y z H Q=>∃ (k st:Nat) (l:Int),x = .int k /\ y = .int st /\ z = .int l /\ st <= k /\ Q (.int (figI k st l)) H
def yS (_:FG7):Sp:=sp4 fun x y z u H Q=>∃ (k st:Nat) (l w:Int),x = .int k /\ y = .int st /\ z = .int l /\ u = .int w /\ k <= 4 /\ st <= k /\ 0 <= l /\ l < 16 /\ (w = 0 \/ w = 1) /\ Q (.int (wfI k st l w)) H
def uf (_:FG7):Sp:=sp4 fun x y z u H Q=>∃ (k st:Nat) (l s:Int),x = .int k /\ y = .int st /\ z = .int l /\ u = .int s /\ k <= 4 /\ st <= k /\ 0 <= l /\ l < 16 /\ 0 <= s /\ s < 16 /\ Q (.int (wfI k st l (figI k st s))) H
def vF (K:FG7):Sp:=sp3 fun x y z H Q=>∃ k h g:Nat,x = .int k /\ y = .int h /\ z = .int g /\ k <= 4 /\ h < 2 ^ k /\ g < 2 ^ k /\ ∀ y H',Grow [] H H' -> zy K H' y (zO k h g) -> Q y H'
def yZ (_:FG7):Sp:=sp3 fun x y z H Q=>∃ (k st:Nat) (l:Int),x = .int k /\ y = .int st /\ z = .int l /\ k <= 4 /\ st <= k /\ 0 <= l /\ l < 16 /\ Q (.int (swI k st l)) H
section
variable {X:Cx}
theorem qg:∀ {ns:List Int} {us:List Value},Vals (ns.map V.int) us -> ∀ (i:Nat) (v:Value),us[i]? = some v -> ∃ t,v = Value.int ((ns[i]?).getD 0) t
 | [],_,.nil,i,v,e=>by cases e
 | n :: ns,_,.cons r t,0,v,e=>by
  obtain ⟨u,rfl⟩:=r
  obtain rfl:=Option.some.inj e
  exact ⟨u,rfl⟩
 | n :: ns,_,.cons r t,i + 1,v,e=>qg t i v e
theorem Z6 (hcalm:X.calm = true):xw X (.builtin "max") (fun xs H Q=>∃ (l:Addr) (ns:List Int),xs = [.ref l] /\ SqL X.K H l (ns.map V.int) /\ 0 < ns.length /\ ∀ M,M ∈ ns -> (∀ a ∈ ns,a <= M) -> Q (.int M) H):=by
 intro pins s σ H xs us Q I r h
 obtain ⟨l,ns,rfl,hl,h0,q⟩:=h
 obtain ⟨u,rfl,rx⟩:=wM r
 cases (show u = Value.ref l from rx)
 obtain ⟨vs,rv,pl,_⟩:=I.list hl
 have hl':s.heap.IsList l vs.toArray:=pl.isList
 have hb:=qg rv
 have hlen:ns.length = vs.length:=by rw [← rv.length,List.length_map]
 have hlt:l < s.heap.objs.size:=by obtain ⟨_,e,_⟩:=hl'; exact Heap.lt_size e
 have best:=argBest_gt (fun i=>(ns[i]?).getD 0) (vs.length - 1)
 refine call_max_walk (wpAny_pyIter_list hl' ?_)
 refine ⟨s.heap.objs.size,[s.heap.objs.size,l],[s.heap.objs.size],vs.toArray.size,_,_,fun i j=>decide ((ns[i]?).getD 0 > (ns[j]?).getD 0),rfl,Walks.list (A:=X.A.in1) (I.ok.hd hcalm) _ l (Nat.ne_of_lt hlt) vs.toArray,
  ⟨⟨_,Heap.get?_push_size _ rfl,rfl,rfl⟩,hl'.push _⟩,?_,?_,CmpOf.ints_gt _ (fun i v hP=>hb i v (by simpa using hP)),fun v h' tk hP hk=>?_⟩
 ·intro b hb
  have sz:(s.heap.push { cls:=.type "list_iterator",data:=.fields #[.ref l,.int 0 0] }).objs.size = s.heap.objs.size + 1:=Heap.size_push ..
  rcases List.mem_cons.mp hb with z | z
  ·rw [z]; show _ < (s.heap.push _).objs.size; rw [sz]; omega
  ·rw [List.mem_singleton.mp z]; show _ < (s.heap.push _).objs.size; rw [sz]; exact Nat.lt_succ_of_lt hlt
 ·rw [List.size_toArray]; omega
 ·rw [List.size_toArray] at hP
  obtain ⟨t,rfl⟩:=hb _ v (by simpa using hP)
  have hi:argBest (fun i j=>decide ((ns[i]?).getD 0 > (ns[j]?).getD 0)) (vs.length - 1) < ns.length:=by have:=best.1; omega
  refine ⟨.int ((ns[argBest (fun i j=>decide ((ns[i]?).getD 0 > (ns[j]?).getD 0)) (vs.length - 1)]?).getD 0),H,I.kept (t':=tk) (h':=h') (LSm.kept_iter hk),⟨t,rfl⟩,q _ ?_ ?_⟩
  ·rw [List.getElem?_eq_getElem hi]; exact List.getElem_mem hi
  ·intro a ha
   obtain ⟨j,hj,rfl⟩:=List.getElem_of_mem ha
   have:=best.2 j (by omega)
   rw [List.getElem?_eq_getElem hj] at this
   exact this
end
theorem Wu {X:Cx} {K:FG7} {tg l:Expr} {tl:TE} (h:X.K = K) (hl:PE X l tl):PI X tg l (iTup K tl):=by subst h; exact ym hl
section
variable {X:Cx} {pins:List (Addr × Obj)} {σ:L2.St} {H2:Hp} {s₂:Shared} {it:Addr} {fp:List Addr} {tn:Nat -> Heap -> Prop} {J:It} {scope:Scope} {cl:List (Str × Addr)} {N':List Str} {sub:List (Option Nat)}
theorem Z7 {C D:Addr} {s₀:Shared} {tg:Expr} {pos:Pos} {elt iter:Expr} {ifs:List Expr} {g:TG} {tt:TT} {te:TE} {Q:VK} {RR:Value -> Addr -> Result -> Shared -> Prop} {W:Nat -> Nat -> List V -> L2.St -> Hp -> Prop}
  (I:Inv X pins σ H2 s₂) (hcalm:X.calm = true) (T:Turn X.prog X.w X.K tg J fp it tn) (f2:∀ b ∈ fp,FpOk X pins H2 b) (hfp:∀ b ∈ fp,b < s₂.heap.objs.size)
  (hs₀:∀ b o,s₂.heap.get? b = some o -> s₀.heap.get? b = some o) (hos:s₀.os = s₂.os) (hD:s₂.heap.objs.size <= D) (hC:s₂.heap.objs.size <= C) (hDC:D ≠ C)
  (hcl1:∀ x c,cl.lookup x = some c -> X.env.cells.lookup x = some c)
  (hg:PG (cxC X N' scope cl C D fp s₀ H2) tg g) (ht:PIfs (cxC X N' scope cl C D fp s₀ H2) ifs tt) (he:PE (cxC X N' scope cl C D fp s₀ H2) elt te)
  (turn:∀ i m ys σ' H',W i m ys σ' H' →
   (J.stop i H' /\ ∀ l,H' l = none -> Q (.ref l) (upd H' l (.lst ys))) ∨
   (J.go i H' /\ ∃ Nn:List V -> L2.St -> Hp -> Prop,(∀ zs σ2 H2,Nn zs σ2 H2 -> ∃ m',m' < m /\ W (i + 1) m' zs σ2 H2) ∧
    ∀ x H2,J.yld i H' x H2 -> g x σ' H2 fun σ2 H3=>tt σ2 H3 fun b H4=>if b = true then te σ2 H4 fun y H5=>ys.length < sizeLine /\ Nn (ys ++ [y]) σ2 H5 else Nn ys σ2 H4))
  (hRR:∀ (D C:Addr) (oC:Obj) (m:Str -> Option Value) (s':Shared) (Hf:Hp),Inv X (pins ++ [(C,oC)]) σ Hf s' -> s'.heap.Ns C m -> FpOk X pins Hf C -> Q (.ref D) Hf -> RR (.ref D) C (.ok .next) s')
  (n:Nat) (s:Shared) (h:∃ i ys us k σ' H',Inv (cxC X N' scope cl C D fp s₀ H2) pins σ' H' s /\ tn i s.heap /\ (∀ b ∈ fp,H' b = none) /\ H' D = none ∧
   s.heap.get? D = some { cls:=.type "list",data:=.seq (us:List Value).toArray k } /\ Vals ys us /\ ys.length <= sizeLine /\ W i n ys σ' H') :
  codeAny (model X.prog X.w) X.A (.compLoop (.ListComp elt [⟨tg,iter,ifs,0⟩] scope pos) 0 (.ref it) (.ref D) (compEnvC scope cl C X.env)) (RR (.ref D) C) s:=by
 have frsz:∀ b ∈ frs X.stack,b < s₂.heap.objs.size:=fun b hb=>by
  rcases List.mem_cons.mp (I.stkSub b hb) with z | z
  ·rw [z]; exact I.lt
  ·exact Nat.lt_of_not_le fun q=>I.nofs q z
 have cells:∀ x c,cl.lookup x = some c -> c < s₂.heap.objs.size:=fun x c e=>let ⟨v,q⟩:=I.cell x c (hcl1 x c e); q.lt
 have pinsz:∀ p ∈ X.pn ++ pins,p.1 < s₂.heap.objs.size:=fun p hp=>Heap.lt_size (I.pin p hp).1
 refine sJ (fun n s=>∃ i ys us k σ' H',Inv (cxC X N' scope cl C D fp s₀ H2) pins σ' H' s /\ tn i s.heap /\ (∀ b ∈ fp,H' b = none) /\ H' D = none ∧
   s.heap.get? D = some { cls:=.type "list",data:=.seq (us:List Value).toArray k } /\ Vals ys us /\ ys.length <= sizeLine /\ W i n ys σ' H') ?_ n h
 rintro n s ⟨i,ys,us,k,σ',H',I',st',fr,hn,hy,rv,hz,w'⟩
 have pD:Inv (cxC X N' scope cl C D fp s₀ H2) (pins ++ [(D,{ cls:=.type "list",data:=.seq us.toArray k })]) σ' H' s:=I'.pins_of fun p hp=>by
  rcases List.mem_append.mp hp with hp | hp
  ·exact I'.pin p (List.mem_append_right _ hp)
  ·rw [List.mem_singleton.mp hp]
   exact ⟨hy,hn,hDC,fun z=>absurd (Nat.lt_of_lt_of_le (frsz _ z) hD) (Nat.lt_irrefl _),fun v z=>by cases z⟩
 have fpok:∀ {H'':Hp},(∀ b ∈ fp,H'' b = none) -> ∀ b ∈ fp,FpOk (cxC X N' scope cl C D fp s₀ H2) (pins ++ [(D,{ cls:=.type "list",data:=.seq us.toArray k })]) H'' b:=fun hz b hb=>by
  refine ⟨hz b hb,Nat.ne_of_lt (Nat.lt_of_lt_of_le (hfp b hb) hC),fun z=>?_,.inl (List.mem_cons_of_mem _ hb),fun x c e=>(f2 b hb).2.2.2.2.1 x c (hcl1 x c e),fun p hp=>?_⟩
  ·rcases List.mem_cons.mp (I.stkSub b z) with z | z
   ·exact (f2 b hb).2.1 z
   ·exact (f2 b hb).2.2.1 z
  ·rcases List.mem_append.mp hp with hp | hp
   ·exact (f2 b hb).2.2.2.2.2 p (List.mem_append_left _ hp)
   ·rcases List.mem_append.mp hp with hp | hp
    ·exact (f2 b hb).2.2.2.2.2 p (List.mem_append_right _ hp)
    ·rw [List.mem_singleton.mp hp]
     exact Nat.ne_of_gt (Nat.lt_of_lt_of_le (hfp b hb) hD)
 rcases turn i n ys σ' H' w' with ⟨stop,q⟩ | ⟨go,Nn,hN,step⟩
 ·refine thn (T.done (cxC X N' scope cl C D fp s₀ H2) rfl rfl rfl hcalm i _ s σ' H' (fun _ _=>False) pD (fpok fr) st' stop) fun r s1 ⟨hr,I1⟩=>?_
  subst hr
  have hy1:=(I1.pin (D,{ cls:=.type "list",data:=.seq us.toArray k }) (by simp)).1
  obtain ⟨m,hm,_⟩:=I1.loc
  obtain ⟨oC,es,ep,hoC,hdC,_⟩:=id hm
  obtain ⟨IX,fpc⟩:=Xf I hs₀ hos hD hC hDC f2 I1.unpinned hn hy1 rv hz hoC (by intro v z; rw [hdC] at z; cases z)
  exact hRR D C oC m s1 _ IX hm fpc (q D hn)
 ·refine thn (T.item (cxC X N' scope cl C D fp s₀ H2) rfl rfl rfl hcalm i _ s σ' H' (fun _ _=>False) pD (fpok fr) st' go) fun r s1 ⟨u,hr,h4⟩=>?_
  subst hr
  refine thn h4 fun _ s2 ⟨x5,H5,I5,r5,y5,st5,fr5⟩=>?_
  have I5':=I5.pinned (fpok fr5) (T.obj _ _ st5)
  refine thn (hg _ s2 σ' H5 x5 u _ I5' r5 (step x5 H5 y5)) fun _ s3 ⟨σ6,H6,I6,q6⟩=>?_
  refine thn (ht _ s3 σ6 H6 _ I6 q6) fun ok s4 ⟨H7,I7,q7⟩=>?_
  have stay:∀ {σ7:L2.St} {H7:Hp} {s7:Shared},Inv (cxC X N' scope cl C D fp s₀ H2) (pins ++ [(D,{ cls:=.type "list",data:=.seq us.toArray k })] ++ v3 fp s2.heap) σ7 H7 s7 →
    (∀ b ∈ fp,∀ o,s2.heap.get? b = some o -> s7.heap.get? b = some o) /\ (∀ b ∈ fp,H7 b = none) /\ H7 D = none /\ s7.heap.get? D = some { cls:=.type "list",data:=.seq us.toArray k }:=fun {σ7 H7 s7} I7=>by
   have d:=I7.pin (D,{ cls:=.type "list",data:=.seq us.toArray k }) (by simp)
   refine ⟨fun b hb o e=>(I7.pin (b,o) (List.mem_append_right _ (List.mem_append_right _ (yy hb e)))).1,fun b hb=>?_,d.2.1,d.1⟩
   obtain ⟨o,e,_⟩:=T.obj _ _ st5 b hb
   exact (I7.pin (b,o) (List.mem_append_right _ (List.mem_append_right _ (yy hb e)))).2.1
  cases ok with
  | false =>
   rw [if_neg (by decide)] at q7 ⊢
   obtain ⟨k1,k2,k3,k4⟩:=stay I7
   obtain ⟨m',hm,w7⟩:=hN ys σ6 H7 q7
   exact ⟨m',hm,i + 1,ys,us,k,σ6,H7,I7.unpinned.unpinned,T.keep _ _ _ st5 k1,k2,k3,k4,rv,hz,w7⟩
  | true =>
   rw [if_pos rfl] at q7 ⊢
   refine thn (he _ s4 σ6 H7 _ I7 q7) fun v s5 ⟨y,H8,I8,r8,hl8,n8⟩=>?_
   obtain ⟨k1,k2,k3,k4⟩:=stay I8
   refine wpAny_list_append_plain (l:=D) ⟨k,k4⟩ (fun h' pl sb=>?_) (by rw [List.size_toArray,← rv.length]; exact hz)
   obtain ⟨k',e'⟩:=pl
   obtain ⟨m',hm,w8⟩:=hN _ σ6 H8 n8
   refine ⟨m',hm,i + 1,ys ++ [y],us ++ [v],k',σ6,H8,?_,T.keep _ _ _ (T.keep _ _ _ st5 k1) fun b hb o e=>sb.extBut b o (Nat.ne_of_lt (Nat.lt_of_lt_of_le (hfp b hb) hD)) e,k2,k3,?_,rv.append (.cons r8 .nil),?_,w8⟩
   ·exact (I8.unpinned.unpinned).turned (it:=D) (t':=s5.toks) (h':=h') (fun b o hb e=>sb.extBut b o hb e) k3 hDC (.inl (by simp)) (fun x c e=>Nat.ne_of_lt (Nat.lt_of_lt_of_le (cells x c e) hD)) (fun p hp=>Nat.ne_of_lt (Nat.lt_of_lt_of_le (pinsz p hp) hD))
   ·rw [e']; simp
   ·rw [List.length_append]; exact hl8
theorem ug {tg:Expr} {pos:Pos} {elt iter:Expr} {ifs:List Expr} {g:TG} {tt:TT} {te:TE} {E:VS7} {Q:VK} {RR:Value -> Addr -> Result -> Shared -> Prop}
  (I:Inv X pins σ H2 s₂) (hcalm:X.calm = true) (T:Turn X.prog X.w X.K tg J fp it tn) (st:tn 0 s₂.heap) (f2:∀ b ∈ fp,FpOk X pins H2 b)
  (S:CSc X scope N' sub) (hcl1:∀ x c,cl.lookup x = some c -> X.env.cells.lookup x = some c) (hcl2:∀ y ∈ scope.names,y.2 = .free -> ∃ c,cl.lookup y.1 = some c)
  (hg:∀ C D fp s H,PG (cxC X N' scope cl C D fp s H) tg g) (ht:∀ C D fp s H,PIfs (cxC X N' scope cl C D fp s H) ifs tt) (he:∀ C D fp s H,PE (cxC X N' scope cl C D fp s H) elt te)
  (hW:xE J (capt sub σ) H2 g tt te Q)
  (hRR:∀ (D C:Addr) (oC:Obj) (m:Str -> Option Value) (s':Shared) (Hf:Hp),Inv X (pins ++ [(C,oC)]) σ Hf s' -> s'.heap.Ns C m -> FpOk X pins Hf C -> Q (.ref D) Hf -> RR (.ref D) C (.ok .next) s') :
  wpAny (model X.prog X.w) X.A (newList []) (fun acc s₃=>wpAny (model X.prog X.w) X.A (newFunctionEnv scope X.env.globals cl [] X.env.qual none .none (some X.env)) (fun cenv s₄ =>
   codeAny (model X.prog X.w) X.A (.compStart (.ListComp elt [⟨tg,iter,ifs,0⟩] scope pos) 0 (.ref it) acc { cenv with scope:=relabel scope X.env }) (RR acc cenv.locals) s₄) E s₃) E s₂:=by
 obtain ⟨W,⟨m0,w0⟩,turn⟩:=hW
 refine wpAny_newObj_type (wpAny_newFunctionEnv S.nocell (by intro y hy; simp at hy) (fun h₁ hns₁ hsb₁=>?_) S.kind)
 dsimp only at hns₁ hsb₁ ⊢
 have hC:(s₂.heap.push { cls:=.type "list",dict:=none,data:=.seq ([]:List Value).toArray }).objs.size = s₂.heap.objs.size + 1:=Heap.size_push ..
 rw [hC] at hns₁ hsb₁ ⊢
 have hk:∀ b o,(s₂.heap.push { cls:=.type "list",dict:=none,data:=.seq ([]:List Value).toArray }).get? b = some o -> h₁.get? b = some o:=fun b o e =>
  hsb₁.extBut b o (by have:=Heap.lt_size e; rw [hC] at this; exact Nat.ne_of_lt this) (Heap.get?_push_of_some _ e)
 have hfp:∀ b ∈ fp,b < s₂.heap.objs.size:=fun b hb=>by
  obtain ⟨o,e,_⟩:=T.obj _ _ st b hb
  exact Heap.lt_size e
 have I0:=uV (tk:=s₂.toks + ([]:List (Str × Value)).length) I S hcl1 hcl2 f2 hfp hns₁ hk
 have hD0:h₁.get? s₂.heap.objs.size = some { cls:=.type "list",data:=.seq ([]:List Value).toArray 0 }:=hk _ _ (Heap.get?_push_size _ rfl)
 have loop:codeAny (model X.prog X.w) X.A (.compLoop (.ListComp elt [⟨tg,iter,ifs,0⟩] scope pos) 0 (.ref it) (.ref s₂.heap.objs.size) (compEnvC scope cl (s₂.heap.objs.size + 1) X.env)) (RR (.ref s₂.heap.objs.size) (s₂.heap.objs.size + 1)) { s₂ with heap:=h₁,toks:=s₂.toks + ([]:List (Str × Value)).length } :=
  Z7 (s₀:={ s₂ with heap:=s₂.heap.push { cls:=.type "list",dict:=none,data:=.seq ([]:List Value).toArray } }) (C:=s₂.heap.objs.size + 1) (D:=s₂.heap.objs.size) I hcalm T f2 hfp (fun b o e=>Heap.get?_push_of_some _ e) rfl (Nat.le_refl _) (Nat.le_succ _) (Nat.ne_of_lt (Nat.lt_succ_self _)) hcl1 (hg _ _ _ _ _) (ht _ _ _ _ _) (he _ _ _ _ _) turn hRR m0 _
   ⟨0,[],[],0,capt sub σ,H2,I0,T.keep _ _ _ st fun b hb o e=>hk b o (Heap.get?_push_of_some _ e),fun b hb=>(f2 b hb).1,I.hok.fresh (Nat.le_refl _),hD0,.nil,Nat.zero_le _,w0⟩
 exact codeAny_compStart_list loop (T.self _ _ _ _ _ (T.keep _ _ _ st fun b hb o e=>hk b o (Heap.get?_push_of_some _ e)) loop)
end
section
variable {X:Cx} {scope:Scope} {N':List Str} {sub:List (Option Nat)} {tg:Expr} {pos:Pos} {elt iter:Expr} {ifs:List Expr} {wi:TI} {g:TG} {tt:TT} {te:TE}
theorem zt (S:CSc X scope N' sub) (hcalm:X.calm = true) (hi:PI X tg iter wi)
  (hg:∀ cl C D fp s H,PG (cxC X N' scope cl C D fp s H) tg g) (ht:∀ cl C D fp s H,PIfs (cxC X N' scope cl C D fp s H) ifs tt) (he:∀ cl C D fp s H,PE (cxC X N' scope cl C D fp s H) elt te)
  (hs:∀ x,foldedSetIterable iter X.env x = pure x:=by intro _; rfl):PE X (.ListComp elt [⟨tg,iter,ifs,0⟩] scope pos) (Wr wi sub g tt te):=by
 intro pins s σ H Q I h
 obtain ⟨cl,hclos,hcl1,hcl2⟩:=S.clos I
 rw [eval_ListComp]
 refine wpAny_comprehension_free (use:=none) rfl hs hclos S.kind S.names (thn (hi pins s σ H _ I h) fun v s1 h1=>thn h1 fun itv s2 h2=>?_)
 obtain ⟨it,fp,tn,J,H2,e,I2,T,st2,f2,hW⟩:=h2
 subst e
 refine ug (RR:=fun acc C=>compPost (model X.prog X.w) X.A X.xe none (EP X pins σ Q) acc C) I2 hcalm T st2 f2 S hcl1 hcl2 (hg cl) (ht cl) (he cl) hW ?_
 intro D C oC m s' Hf IX hm fpc q
 refine ⟨m,hm,fun h' sb=>⟨.ref D,Hf,?_,rfl,q⟩⟩
 exact (IX.unpinned).turned (it:=C) (t':=s'.toks) (h':=h') (fun b o hb e=>sb.extBut b o hb e) fpc.1 fpc.2.1 fpc.2.2.2.1 fpc.2.2.2.2.1 fpc.2.2.2.2.2
theorem xP {i:Nat} {y:Str} {py spos:Pos} (hN:X.N.Nodup) (hiN:X.N[i]? = some y) (hy:X.env.scope.names.lookup y = some .local) (S:CSc X scope N' sub) (hcalm:X.calm = true) (hi:PI X tg iter wi)
  (hg:∀ cl C D fp s H,PG (cxC X N' scope cl C D fp s H) tg g) (ht:∀ cl C D fp s H,PIfs (cxC X N' scope cl C D fp s H) ifs tt) (he:∀ cl C D fp s H,PE (cxC X N' scope cl C D fp s H) elt te)
  (hsw:swapsWith (.ListComp elt [⟨tg,iter,ifs,0⟩] scope pos) (some (.Name y py)) spos.line X.env = pure true:=by rfl)
  (hs:∀ x,foldedSetIterable iter X.env x = pure x:=by intro _; rfl):PS X (.Assign [.Name y py] (.ListComp elt [⟨tg,iter,ifs,0⟩] scope pos) spos) (tAsg (Wr wi sub g tt te) (wL i)):=by
 intro pins s σ H D I h
 obtain ⟨cl,hclos,hcl1,hcl2⟩:=S.clos I
 rw [exec_Assign_Name_used _ _ _ _ hsw]
 refine wpAny_bind (wpAny_standAt (wpAny_bind ?_))
 show wpAny _ X.A (do let _ ← comprehension (.ListComp elt [⟨tg,iter,ifs,0⟩] scope pos) scope X.env _ (newList []) false (eval iter X.env) (some (assign (.Name y py) X.env))) _ _ s
 refine wpAny_bind (wpAny_mono (wpAny_comprehension_free (use:=some (assign (.Name y py) X.env)) (Q:=fun _ s'=>SP X pins D .next s') rfl hs hclos S.kind S.names
  (thn (hi pins s σ H _ I h) fun v s1 h1=>thn h1 fun itv s2 h2=>?_)) (fun _ s' hq=>wpAny_pure (wpAny_pure hq)) fun _ _ e=>e)
 obtain ⟨it,fp,tn,J,H2,e,I2,T,st2,f2,hW⟩:=h2
 subst e
 refine ug (Q:=fun x H1=>wL i x σ H1 D.nx) (RR:=fun acc C=>compPost (model X.prog X.w) X.A X.xe (some (assign (.Name y py) X.env)) (fun _ s'=>SP X pins D .next s') acc C) I2 hcalm T st2 f2 S hcl1 hcl2 (hg cl) (ht cl) (he cl) hW ?_
 intro L C oC m s' Hf IX hm fpc q
 have st:=zi (X:=X) (pos:=py) hN hiN (.inl hy) (.inr hy) _ s' σ Hf (.ref L) (.ref L) D.nx IX rfl q
 refine thn st fun _ s'' ⟨σ2,H2,I2',q2⟩=>?_
 have p:=I2'.pin (C,oC) (by simp)
 have hm':s''.heap.Ns C m:=by
  obtain ⟨o,es,ep,e1,r⟩:=hm
  have z:=(IX.pin (C,oC) (by simp)).1
  rw [e1] at z; cases z
  exact ⟨_,es,ep,p.1,r⟩
 refine ⟨m,hm',fun h' sb=>⟨σ2,H2,?_,q2⟩⟩
 exact (I2'.unpinned).turned (it:=C) (t':=s''.toks) (h':=h') (fun b o hb e=>sb.extBut b o hb e) p.2.1 fpc.2.1 fpc.2.2.2.1 fpc.2.2.2.2.1 fpc.2.2.2.2.2
end
section
variable {prog:Program} {w:World} {A:Around} {E:VS7} {s:Shared}
theorem uY {h:Heap} {z TI TO:Addr} {f0:Value} (hz:IsZip h z TI TO f0) (v:Value):IsZip (h.update z (Obj.mapFields fun x=>x.setIfInBounds 0 v)) z TI TO v /\ Heap.SameBut z h (h.update z (Obj.mapFields fun x=>x.setIfInBounds 0 v)) :=
 ⟨Heap.get?_update_self _ hz rfl,Heap.SameBut.update ..⟩
theorem Vx {h:Heap} {z TI TO:Addr} {f0:Value} (hz:IsZip h z TI TO f0):IsZip (h.update z (Obj.mapFields fun x=>x.setIfInBounds 1 (.bool false))) z TI TO f0 /\ Heap.SameBut z h (h.update z (Obj.mapFields fun x=>x.setIfInBounds 1 (.bool false))) :=
 ⟨Heap.get?_update_self _ hz rfl,Heap.SameBut.update ..⟩
theorem X3 {h:Heap} {T:Addr} {a b:Value} (hp:IsPair h T a b) (v:Value):IsPair (h.update T (Obj.mapSeq fun x=>x.setIfInBounds 0 v)) T v b /\ Heap.SameBut T h (h.update T (Obj.mapSeq fun x=>x.setIfInBounds 0 v)) :=
 ⟨Heap.get?_update_self _ hp rfl,Heap.SameBut.update ..⟩
theorem Vy {h:Heap} {T:Addr} {a b:Value} (hp:IsPair h T a b) (v:Value):IsPair (h.update T (Obj.mapSeq fun x=>x.setIfInBounds 1 v)) T a v /\ Heap.SameBut T h (h.update T (Obj.mapSeq fun x=>x.setIfInBounds 1 v)) :=
 ⟨Heap.get?_update_self _ hp rfl,Heap.SameBut.update ..⟩
theorem Z8 {z TI TO i1 i2:Addr} {fp1 fp2:List Addr} {n1 n2 i:Nat} {P1 P2:Nat -> Value -> Prop} {St1 St2:Nat -> Heap -> Prop} {a b:Value} {Q:VS7}
  (D1:Draws prog w A i1 fp1 n1 P1 St1) (D2:Draws prog w A i2 fp2 n2 P2 St2)
  (hz:IsZip s.heap z TI TO .none) (hI:IsPair s.heap TI (.ref i1) (.ref i2)) (hO:IsPair s.heap TO a b) (st1:St1 i s.heap) (st2:St2 i s.heap) (l1:i < n1) (l2:i < n2)
  (z1:z ∉ fp1) (z2:z ∉ fp2) (o1:TO ∉ fp1) (o2:TO ∉ fp2) (x12:i2 ∉ fp1) (x21:i1 ∉ fp2) (iz1:i1 ≠ z) (iz2:i2 ≠ z) (io1:i1 ≠ TO) (io2:i2 ≠ TO) (oz:TO ≠ z) (tz:TI ≠ z) (tO:TI ≠ TO) (ti1:TI ≠ i1) (ti2:TI ≠ i2)
  (hQ:∀ x y h' tk,P1 i x -> P2 i y -> IsZip h' z TI TO (rawInt s.heap.objs.size) -> IsPair h' TI (.ref i1) (.ref i2) -> IsPair h' TO x y -> St1 (i + 1) h' -> St2 (i + 1) h' -> IsPair h' s.heap.objs.size x y -> h'.objs.size = s.heap.objs.size + 1 →
   (∀ c o,c ≠ z -> c ≠ TO -> c ≠ i1 -> c ≠ i2 -> s.heap.get? c = some o -> h'.get? c = some o) -> Q (.ref s.heap.objs.size) { s with heap:=h',toks:=tk }) :
  wpAny (model prog w) A (Builtin.«zip.__next__» { pos:=[.ref z] }) (fun fin s'=>∃ v,fin = Fin.done (Flow.ret v) /\ Q v s') E s:=by
 show wpAny _ _ (field (.ref z) 2 >>= _) _ _ s
 refine wpAny_bind (wpAny_field hz rfl (x:=.bool false) rfl ?_)
 show wpAny _ _ (field (.ref z) 3 >>= _) _ _ s
 refine wpAny_bind (wpAny_field hz rfl (x:=.ref TI) rfl ?_)
 show wpAny _ _ (seqItems? (.ref TI) >>= _) _ _ s
 refine wpAny_bind (wpAny_seqItems hI rfl ?_)
 show wpAny _ _ (Builtin.SmallTypes.ownedTupleIsFree (.ref z) >>= _) _ _ s
 refine wpAny_bind ?_
 unfold Builtin.SmallTypes.ownedTupleIsFree
 refine wpAny_bind (wpAny_field hz rfl (x:=.none) rfl (wpAny_pure ?_))
 show wpAny _ _ (rule _ >>= _) _ _ s
 refine wpAny_bind (wpAny_rule ?_)
 show wpAny _ _ (field (.ref z) 4 >>= _) _ _ s
 refine wpAny_bind (wpAny_field hz rfl (x:=.ref TO) rfl ?_)
 show wpAny _ _ (setField (.ref z) 0 .ellipsis >>= _) _ _ s
 refine wpAny_bind (wpAny_setField hz rfl (by show 0 < 5; decide) ?_)
 obtain ⟨hz0,sb0⟩:=uY hz .ellipsis
 revert hz0 sb0
 generalize s.heap.update z (Obj.mapFields fun x=>x.setIfInBounds 0 Value.ellipsis) = h0
 intro hz0 sb0
 have no:∀ b,b ≠ z -> ∀ o,s.heap.get? b = some o -> h0.get? b = some o:=fun b hb o e=>(sb0.2 b hb).trans e
 refine wpAny_bind ?_
 show wpAny _ _ (forIn [(Value.ref i1,0),(Value.ref i2,1)] (none,()) _) _ _ _
 rw [List.forIn_cons]
 refine wpAny_bind (wpAny_bind (wpAny_onRaise ?_))
 show wpAny _ _ (Builtin.SmallTypes.nextOf (.ref i1) >>= fun x=>pure (some x)) _ _ _
 refine wpAny_bind (D1.item i { s with heap:=h0 } _ _ l1 (D1.frame _ _ _ st1 fun b hb o e=>no b (fun q=>z1 (q ▸ hb)) o e) fun x h1 tk1 p1 st1' sb1=>wpAny_pure ?_)
 have hO1:IsPair h1 TO a b:=(sb1.2 TO (Ne.symm io1)).trans (no TO oz _ hO)
 show wpAny _ _ (seqItems? (.ref TO) >>= _) _ _ _
 refine wpAny_bind (wpAny_seqItems (s:={ s with heap:=h1,toks:=tk1 }) hO1 rfl ?_)
 show wpAny _ _ (updateSeq TO _ >>= _) _ _ _
 refine wpAny_bind (wpAny_updateSeq (s:={ s with heap:=h1,toks:=tk1 }) hO1 rfl ?_)
 obtain ⟨hO2,sb2⟩:=X3 hO1 x
 revert hO2 sb2
 show IsPair (h1.update TO (Obj.mapSeq fun q=>q.setIfInBounds 0 x)) TO x b -> Heap.SameBut TO h1 (h1.update TO (Obj.mapSeq fun q=>q.setIfInBounds 0 x)) -> wpAny _ _ _ _ _ { s with heap:=h1.update TO (Obj.mapSeq fun q=>q.setIfInBounds 0 x),toks:=tk1 }
 generalize h1.update TO (Obj.mapSeq fun q=>q.setIfInBounds 0 x) = h2
 intro hO2 sb2
 refine wpAny_bind (wpAny_letGo (wpAny_pure ?_))
 show wpAny _ _ (forIn [(Value.ref i2,1)] (none,()) _) _ _ _
 rw [List.forIn_cons]
 refine wpAny_bind (wpAny_bind (wpAny_onRaise ?_))
 show wpAny _ _ (Builtin.SmallTypes.nextOf (.ref i2) >>= fun x=>pure (some x)) _ _ _
 have k2:∀ c o,c ≠ z -> c ≠ TO -> c ≠ i1 -> s.heap.get? c = some o -> h2.get? c = some o:=fun c o c1 c2 c3 e=>(sb2.2 c c2).trans ((sb1.2 c c3).trans (no c c1 o e))
 refine wpAny_bind (D2.item i { s with heap:=h2,toks:=tk1 } _ _ l2 (D2.frame _ _ _ st2 fun c hc o e=>k2 c o (fun q=>z2 (q ▸ hc)) (fun q=>o2 (q ▸ hc)) (fun q=>x21 (q ▸ hc)) e) fun y h3 tk3 p2 st2' sb3=>wpAny_pure ?_)
 have hO3:IsPair h3 TO x b:=(sb3.2 TO (Ne.symm io2)).trans hO2
 show wpAny _ _ (seqItems? (.ref TO) >>= _) _ _ _
 refine wpAny_bind (wpAny_seqItems (s:={ s with heap:=h3,toks:=tk3 }) hO3 rfl ?_)
 show wpAny _ _ (updateSeq TO _ >>= _) _ _ _
 refine wpAny_bind (wpAny_updateSeq (s:={ s with heap:=h3,toks:=tk3 }) hO3 rfl ?_)
 obtain ⟨hO4,sb4⟩:=Vy hO3 y
 revert hO4 sb4
 show IsPair (h3.update TO (Obj.mapSeq fun q=>q.setIfInBounds 1 y)) TO x y -> Heap.SameBut TO h3 (h3.update TO (Obj.mapSeq fun q=>q.setIfInBounds 1 y)) -> wpAny _ _ _ _ _ { s with heap:=h3.update TO (Obj.mapSeq fun q=>q.setIfInBounds 1 y),toks:=tk3 }
 generalize h3.update TO (Obj.mapSeq fun q=>q.setIfInBounds 1 y) = h4
 intro hO4 sb4
 refine wpAny_bind (wpAny_letGo (wpAny_pure ?_))
 show wpAny _ _ (forIn [] (none,()) _) _ _ _
 rw [List.forIn_nil]
 refine wpAny_pure ?_
 show wpAny _ _ (seqItems? (.ref TO) >>= _) _ _ _
 refine wpAny_bind (wpAny_seqItems (s:={ s with heap:=h4,toks:=tk3 }) hO4 rfl ?_)
 show wpAny _ _ (newTuple [x,y] >>= _) _ _ _
 refine wpAny_bind ?_
 simp only [newTuple]
 have k4:∀ c o,c ≠ z -> c ≠ TO -> c ≠ i1 -> c ≠ i2 -> s.heap.get? c = some o -> h4.get? c = some o:=fun c o c1 c2 c3 c4 e=>(sb4.2 c c2).trans ((sb3.2 c c4).trans (k2 c o c1 c2 c3 e))
 have hz4:IsZip h4 z TI TO .ellipsis:=(sb4.2 z (Ne.symm oz)).trans ((sb3.2 z (Ne.symm iz2)).trans ((sb2.2 z (Ne.symm oz)).trans ((sb1.2 z (Ne.symm iz1)).trans hz0)))
 have s1':St1 (i + 1) h4:=D1.frame _ _ _ st1' fun c hc o e=>(sb4.2 c (fun q=>o1 (q ▸ hc))).trans ((sb3.2 c (fun q=>x12 (q ▸ hc))).trans ((sb2.2 c (fun q=>o1 (q ▸ hc))).trans e))
 have s2':St2 (i + 1) h4:=D2.frame _ _ _ st2' fun c hc o e=>(sb4.2 c (fun q=>o2 (q ▸ hc))).trans e
 have sz4:h4.objs.size = s.heap.objs.size:=by rw [sb4.1,sb3.1,sb2.1,sb1.1,sb0.1]
 refine wpAny_newObj_type ?_ (by size_fits)
 have hz5:IsZip (h4.push { cls:=.type "tuple",data:=.seq #[x,y] }) z TI TO .ellipsis:=Heap.get?_push_of_some _ hz4
 have hT5:IsPair (h4.push { cls:=.type "tuple",data:=.seq #[x,y] }) h4.objs.size x y:=Heap.get?_push_size _ rfl
 have sz5:(h4.push { cls:=.type "tuple",data:=.seq #[x,y] }).objs.size = h4.objs.size + 1:=Heap.size_push ..
 have k5:∀ c o,h4.get? c = some o -> (h4.push { cls:=.type "tuple",data:=.seq #[x,y] }).get? c = some o:=fun c o e=>Heap.get?_push_of_some _ e
 show wpAny _ _ _ _ _ { s with heap:=h4.push { cls:=.type "tuple",data:=.seq #[x,y] },toks:=tk3 }
 revert hz5 hT5 sz5 k5
 generalize h4.push { cls:=.type "tuple",data:=.seq #[x,y] } = h5
 intro hz5 hT5 sz5 k5
 show wpAny _ _ (Builtin.SmallTypes.ownedTupleHandOut (.ref z) (.ref h4.objs.size) >>= fun _=>pure (Fin.done (Flow.ret (.ref h4.objs.size)))) _ _ _
 rw [sz4] at hT5 sz5 ⊢
 refine wpAny_bind ?_
 show wpAny _ _ (setField (.ref z) 0 (rawInt s.heap.objs.size) >>= fun _=>setField (.ref z) 1 (.bool false)) _ _ _
 refine wpAny_bind (wpAny_setField (s:={ s with heap:=h5,toks:=tk3 }) hz5 rfl (by show 0 < 5; decide) ?_)
 obtain ⟨hz6,sb6⟩:=uY hz5 (rawInt s.heap.objs.size)
 obtain ⟨hz7,sb7⟩:=Vx hz6
 refine wpAny_setField hz6 rfl (by show 1 < 5; decide) (wpAny_pure ⟨_,rfl,?_⟩)
 have k7:∀ c o,c ≠ z -> h4.get? c = some o -> ((h5.update z (Obj.mapFields fun x=>x.setIfInBounds 0 (rawInt s.heap.objs.size))).update z (Obj.mapFields fun x=>x.setIfInBounds 1 (.bool false))).get? c = some o:=fun c o c1 e=>(sb7.2 c c1).trans ((sb6.2 c c1).trans (k5 c o e))
 have nT:s.heap.objs.size ≠ z:=Nat.ne_of_gt (Heap.lt_size hz)
 exact hQ x y _ tk3 p1 p2 hz7 (k7 TI _ tz (k4 TI _ tz tO ti1 ti2 hI)) (k7 TO _ oz hO4) (D1.frame _ _ _ s1' fun c hc o e=>k7 c o (fun q=>z1 (q ▸ hc)) e) (D2.frame _ _ _ s2' fun c hc o e=>k7 c o (fun q=>z2 (q ▸ hc)) e) ((sb7.2 _ nT).trans ((sb6.2 _ nT).trans hT5)) (by rw [sb7.1,sb6.1,sz5]) fun c o c1 c2 c3 c4 e=>k7 c o c1 (k4 c o c1 c2 c3 c4 e)
theorem Xl {z TI TO i1 i2:Addr} {fp1:List Addr} {n1:Nat} {P1:Nat -> Value -> Prop} {St1:Nat -> Heap -> Prop} {a b:Value} {Q:Fin -> Shared -> Prop}
  (D1:Draws prog w A i1 fp1 n1 P1 St1)
  (hz:IsZip s.heap z TI TO .none) (hI:IsPair s.heap TI (.ref i1) (.ref i2)) (hO:IsPair s.heap TO a b) (st1:St1 n1 s.heap)
  (z1:z ∉ fp1) (iz1:i1 ≠ z)
  (hE:∀ h' e tk,(∀ c o,c ≠ z -> c ≠ TO -> c ≠ i1 -> c ≠ i2 -> s.heap.get? c = some o -> h'.get? c = some o) -> (∃ o,h'.get? e = some o /\ o.cls = .type "StopIteration") -> E (.ref e) { s with heap:=h',toks:=tk }) :
  wpAny (model prog w) A (Builtin.«zip.__next__» { pos:=[.ref z] }) Q E s:=by
 show wpAny _ _ (field (.ref z) 2 >>= _) _ _ s
 refine wpAny_bind (wpAny_field hz rfl (x:=.bool false) rfl ?_)
 show wpAny _ _ (field (.ref z) 3 >>= _) _ _ s
 refine wpAny_bind (wpAny_field hz rfl (x:=.ref TI) rfl ?_)
 show wpAny _ _ (seqItems? (.ref TI) >>= _) _ _ s
 refine wpAny_bind (wpAny_seqItems hI rfl ?_)
 show wpAny _ _ (Builtin.SmallTypes.ownedTupleIsFree (.ref z) >>= _) _ _ s
 refine wpAny_bind ?_
 unfold Builtin.SmallTypes.ownedTupleIsFree
 refine wpAny_bind (wpAny_field hz rfl (x:=.none) rfl (wpAny_pure ?_))
 show wpAny _ _ (rule _ >>= _) _ _ s
 refine wpAny_bind (wpAny_rule ?_)
 show wpAny _ _ (field (.ref z) 4 >>= _) _ _ s
 refine wpAny_bind (wpAny_field hz rfl (x:=.ref TO) rfl ?_)
 show wpAny _ _ (setField (.ref z) 0 .ellipsis >>= _) _ _ s
 refine wpAny_bind (wpAny_setField hz rfl (by show 0 < 5; decide) ?_)
 obtain ⟨hz0,sb0⟩:=uY hz .ellipsis
 revert hz0 sb0
 generalize s.heap.update z (Obj.mapFields fun x=>x.setIfInBounds 0 Value.ellipsis) = h0
 intro hz0 sb0
 have no:∀ b,b ≠ z -> ∀ o,s.heap.get? b = some o -> h0.get? b = some o:=fun b hb o e=>(sb0.2 b hb).trans e
 refine wpAny_bind ?_
 show wpAny _ _ (forIn [(Value.ref i1,0),(Value.ref i2,1)] (none,()) _) _ _ _
 rw [List.forIn_cons]
 refine wpAny_bind (wpAny_bind (wpAny_onRaise ?_))
 show wpAny _ _ (Builtin.SmallTypes.nextOf (.ref i1) >>= fun x=>pure (some x)) _ _ _
 refine wpAny_bind (D1.done { s with heap:=h0 } _ _ (D1.frame _ _ _ st1 fun b hb o e=>no b (fun q=>z1 (q ▸ hb)) o e) fun h1 e xb hs=>?_)
 have hz1:IsZip h1 z TI TO .ellipsis:=xb z _ (Ne.symm iz1) hz0
 obtain ⟨hz2,sb2⟩:=uY hz1 .none
 refine wpAny_setField (s:={ s with heap:=h1 }) hz1 rfl (by show 0 < 5; decide) (hE _ e s.toks (fun c o c1 c2 c3 c4 q=>(sb2.2 c c1).trans (xb c o c3 (no c c1 o q))) ?_)
 obtain ⟨o,ho,hc⟩:=hs
 refine ⟨o,(sb2.2 e fun q=>?_).trans ho,hc⟩
 rw [q,hz1] at ho
 obtain rfl:=Option.some.inj ho
 exact absurd hc (by show ¬ (Value.type "zip" = Value.type "StopIteration"); decide)
theorem Xm {z TI TO i1 i2:Addr} {fp1 fp2:List Addr} {n1 i:Nat} {P1 P2:Nat -> Value -> Prop} {St1 St2:Nat -> Heap -> Prop} {a b:Value} {Q:Fin -> Shared -> Prop}
  (D1:Draws prog w A i1 fp1 n1 P1 St1) (D2:Draws prog w A i2 fp2 i P2 St2)
  (hz:IsZip s.heap z TI TO .none) (hI:IsPair s.heap TI (.ref i1) (.ref i2)) (hO:IsPair s.heap TO a b) (st1:St1 i s.heap) (st2:St2 i s.heap) (l1:i < n1)
  (z1:z ∉ fp1) (z2:z ∉ fp2) (o2:TO ∉ fp2) (x21:i1 ∉ fp2) (iz1:i1 ≠ z) (iz2:i2 ≠ z) (io1:i1 ≠ TO) (oz:TO ≠ z)
  (hE:∀ h' e tk,(∀ c o,c ≠ z -> c ≠ TO -> c ≠ i1 -> c ≠ i2 -> s.heap.get? c = some o -> h'.get? c = some o) -> (∃ o,h'.get? e = some o /\ o.cls = .type "StopIteration") -> E (.ref e) { s with heap:=h',toks:=tk }) :
  wpAny (model prog w) A (Builtin.«zip.__next__» { pos:=[.ref z] }) Q E s:=by
 show wpAny _ _ (field (.ref z) 2 >>= _) _ _ s
 refine wpAny_bind (wpAny_field hz rfl (x:=.bool false) rfl ?_)
 show wpAny _ _ (field (.ref z) 3 >>= _) _ _ s
 refine wpAny_bind (wpAny_field hz rfl (x:=.ref TI) rfl ?_)
 show wpAny _ _ (seqItems? (.ref TI) >>= _) _ _ s
 refine wpAny_bind (wpAny_seqItems hI rfl ?_)
 show wpAny _ _ (Builtin.SmallTypes.ownedTupleIsFree (.ref z) >>= _) _ _ s
 refine wpAny_bind ?_
 unfold Builtin.SmallTypes.ownedTupleIsFree
 refine wpAny_bind (wpAny_field hz rfl (x:=.none) rfl (wpAny_pure ?_))
 show wpAny _ _ (rule _ >>= _) _ _ s
 refine wpAny_bind (wpAny_rule ?_)
 show wpAny _ _ (field (.ref z) 4 >>= _) _ _ s
 refine wpAny_bind (wpAny_field hz rfl (x:=.ref TO) rfl ?_)
 show wpAny _ _ (setField (.ref z) 0 .ellipsis >>= _) _ _ s
 refine wpAny_bind (wpAny_setField hz rfl (by show 0 < 5; decide) ?_)
 obtain ⟨hz0,sb0⟩:=uY hz .ellipsis
 revert hz0 sb0
 generalize s.heap.update z (Obj.mapFields fun x=>x.setIfInBounds 0 Value.ellipsis) = h0
 intro hz0 sb0
 have no:∀ b,b ≠ z -> ∀ o,s.heap.get? b = some o -> h0.get? b = some o:=fun b hb o e=>(sb0.2 b hb).trans e
 refine wpAny_bind ?_
 show wpAny _ _ (forIn [(Value.ref i1,0),(Value.ref i2,1)] (none,()) _) _ _ _
 rw [List.forIn_cons]
 refine wpAny_bind (wpAny_bind (wpAny_onRaise ?_))
 show wpAny _ _ (Builtin.SmallTypes.nextOf (.ref i1) >>= fun x=>pure (some x)) _ _ _
 refine wpAny_bind (D1.item i { s with heap:=h0 } _ _ l1 (D1.frame _ _ _ st1 fun b hb o e=>no b (fun q=>z1 (q ▸ hb)) o e) fun x h1 tk1 p1 st1' sb1=>wpAny_pure ?_)
 have hO1:IsPair h1 TO a b:=(sb1.2 TO (Ne.symm io1)).trans (no TO oz _ hO)
 show wpAny _ _ (seqItems? (.ref TO) >>= _) _ _ _
 refine wpAny_bind (wpAny_seqItems (s:={ s with heap:=h1,toks:=tk1 }) hO1 rfl ?_)
 show wpAny _ _ (updateSeq TO _ >>= _) _ _ _
 refine wpAny_bind (wpAny_updateSeq (s:={ s with heap:=h1,toks:=tk1 }) hO1 rfl ?_)
 obtain ⟨hO2,sb2⟩:=X3 hO1 x
 revert hO2 sb2
 show IsPair (h1.update TO (Obj.mapSeq fun q=>q.setIfInBounds 0 x)) TO x b -> Heap.SameBut TO h1 (h1.update TO (Obj.mapSeq fun q=>q.setIfInBounds 0 x)) -> wpAny _ _ _ _ _ { s with heap:=h1.update TO (Obj.mapSeq fun q=>q.setIfInBounds 0 x),toks:=tk1 }
 generalize h1.update TO (Obj.mapSeq fun q=>q.setIfInBounds 0 x) = h2
 intro hO2 sb2
 refine wpAny_bind (wpAny_letGo (wpAny_pure ?_))
 show wpAny _ _ (forIn [(Value.ref i2,1)] (none,()) _) _ _ _
 rw [List.forIn_cons]
 refine wpAny_bind (wpAny_bind (wpAny_onRaise ?_))
 show wpAny _ _ (Builtin.SmallTypes.nextOf (.ref i2) >>= fun x=>pure (some x)) _ _ _
 have k2:∀ c o,c ≠ z -> c ≠ TO -> c ≠ i1 -> s.heap.get? c = some o -> h2.get? c = some o:=fun c o c1 c2 c3 e=>(sb2.2 c c2).trans ((sb1.2 c c3).trans (no c c1 o e))
 have hz2:IsZip h2 z TI TO .ellipsis:=(sb2.2 z (Ne.symm oz)).trans ((sb1.2 z (Ne.symm iz1)).trans hz0)
 refine wpAny_bind (D2.done { s with heap:=h2,toks:=tk1 } _ _ (D2.frame _ _ _ st2 fun c hc o e=>k2 c o (fun q=>z2 (q ▸ hc)) (fun q=>o2 (q ▸ hc)) (fun q=>x21 (q ▸ hc)) e) fun h3 e xb hs=>?_)
 have hz3:IsZip h3 z TI TO .ellipsis:=xb z _ (Ne.symm iz2) hz2
 obtain ⟨hz4,sb4⟩:=uY hz3 .none
 refine wpAny_setField (s:={ s with heap:=h3,toks:=tk1 }) hz3 rfl (by show 0 < 5; decide) (hE _ e tk1 (fun c o c1 c2 c3 c4 q=>(sb4.2 c c1).trans (xb c o c4 (k2 c o c1 c2 c3 q))) ?_)
 obtain ⟨o,ho,hc⟩:=hs
 refine ⟨o,(sb4.2 e fun q=>?_).trans ho,hc⟩
 rw [q,hz3] at ho
 obtain rfl:=Option.some.inj ho
 exact absurd hc (by show ¬ (Value.type "zip" = Value.type "StopIteration"); decide)
end
section
variable {prog:Program} {w:World} {A:Around} {E:VS7} {s:Shared}
theorem Z9 {e:Addr} {Q:Option Value -> Shared -> Prop} (h:∃ o,s.heap.get? e = some o /\ o.cls = .type "StopIteration") (q:Q none s) :
  wpAny (model prog w) A (do if ← isInstance (.ref e) (.type "StopIteration") then pure none else throw (.ref e):Sem (Option Value)) Q E s:=by
 refine wpAny_bind (wpAny_isInstance (T:="StopIteration") (b:=true) h (by first | rfl | decide) ?_)
 rw [if_pos rfl]
 exact wpAny_pure q
theorem X4 {z TI TO:Addr} {f0:Value} (hz:IsZip s.heap z TI TO f0):s.TypeIs (.ref z) "zip":=⟨_,hz,rfl⟩
theorem Ya {z TI TO:Addr} {f0:Value} {Q:Option Value -> Shared -> Prop} (hz:IsZip s.heap z TI TO f0)
  (h:wpAny (model prog w) A.in1 (Builtin.«zip.__next__» { pos:=[.ref z] }) (fun fin s'=>∃ v,fin = Fin.done (Flow.ret v) /\ Q (some v) s')
   (fun e s'=>∃ a,e = .ref a /\ (∃ o,s'.heap.get? a = some o /\ o.cls = .type "StopIteration") /\ Q none s') s):wpAny (model prog w) A (pyNext (.ref z)) Q E s:=by
 unfold pyNext
 refine wpAny_bind (wpAny_attempt (wpAny_callSpecial?_slot (name:=Str.ofString "__next__") (X4 hz) F.slot_zip_next (wpAny_call_entry F.slot_zip_next (X4 hz) F.entry_zip_next (wpAny_mono h (fun fin s' hq=>?_) (fun e s' hq=>?_)) (F.args_zip_next_1 _))))
 ·obtain ⟨v,rfl,q⟩:=hq
  exact ⟨v,rfl,wpAny_pure q⟩
 ·obtain ⟨a,rfl,ho,q⟩:=hq
  exact Z9 ho q
def wF (h:Heap) (a:Addr) (cn:String) (vs:Array Value):Prop:=(cn = "tuple_iterator" /\ h.IsTuple a vs) \/ (cn = "list_iterator" /\ h.IsList a vs)
theorem wF.iter {a:Addr} {cn:String} {vs:Array Value} {Q:VS7} (h:wF s.heap a cn vs)
  (q:Q (.ref s.heap.objs.size) { s with heap:=s.heap.push { cls:=.type cn,data:=.fields #[.ref a,.int 0 0] } }):wpAny (model prog w) A (pyIter (.ref a)) Q E s:=by
 rcases h with ⟨rfl,h⟩ | ⟨rfl,h⟩
 ·exact wpAny_pyIter_tuple h q
 ·exact wpAny_pyIter_list h q
theorem wF.push {h:Heap} {a:Addr} {cn:String} {vs:Array Value} (x:wF h a cn vs) (o:Obj):wF (h.push o) a cn vs:=by
 rcases x with ⟨rfl,x⟩ | ⟨rfl,x⟩
 ·exact .inl ⟨rfl,x.push o⟩
 ·exact .inr ⟨rfl,x.push o⟩
def zpO (c:String) (a:Addr):Obj:={ cls:=.type c,data:=.fields #[.ref a,.int 0 0] }
def zpT (a b:Value):Obj:={ cls:=.type "tuple",data:=.seq #[a,b] }
def zpZ (TI TO:Addr):Obj:={ cls:=.type "zip",data:=.fields #[.none,.bool false,.bool false,.ref TI,.ref TO] }
def zpN (h:Heap) (c1:String) (a:Addr) (c2:String) (b:Addr):Addr :=
 let h1:=h.push (zpO c1 a)
 let h2:=h1.push (zpO c2 b)
 let h3:=h2.push (zpT (.ref h.objs.size) (.ref h1.objs.size))
 (h3.push (zpT .none .none)).objs.size
def zpH (h:Heap) (c1:String) (a:Addr) (c2:String) (b:Addr):Heap :=
 let h1:=h.push (zpO c1 a)
 let h2:=h1.push (zpO c2 b)
 let h3:=h2.push (zpT (.ref h.objs.size) (.ref h1.objs.size))
 let h4:=h3.push (zpT .none .none)
 h4.push (zpZ h2.objs.size h3.objs.size)
theorem Wv (a b:Addr) (c1 c2:String) (xs ys:Array Value) :
  Meets (Builtin.«zip.__new__» ⟨[.type "zip",.ref a,.ref b],[]⟩) (fun _ R s=>wF s.heap a c1 xs /\ wF s.heap b c2 ys ∧
   R (.ok (.ret (.ref (zpN s.heap c1 a c2 b)))) { s with heap:=zpH s.heap c1 a c2 b }) :=
 .of_wp fun prog w A R s h=>by
  obtain ⟨hp,g,d,tk,os⟩:=s; obtain ⟨h1,h2,h⟩:=h
  have hsub:=sub_zip
  have h2':wF (Shared.heap ⟨hp.push { cls:=.type c1,data:=.fields #[.ref a,.int 0 0] },g,d,tk,os⟩) b c2 ys:=h2.push _
  wp_walk using wF.iter h1,wF.iter h2'
  exact ⟨_,rfl,h⟩
theorem Yb {a b:Addr} {c1 c2:String} {xs ys:Array Value} {Q:VS7} (ha:wF s.heap a c1 xs) (hb:wF s.heap b c2 ys)
  (h:∀ h',IsZip h' (s.heap.objs.size + 4) (s.heap.objs.size + 2) (s.heap.objs.size + 3) .none -> IsPair h' (s.heap.objs.size + 2) (.ref s.heap.objs.size) (.ref (s.heap.objs.size + 1)) -> IsPair h' (s.heap.objs.size + 3) .none .none →
   h'.get? s.heap.objs.size = some (zpO c1 a) -> h'.get? (s.heap.objs.size + 1) = some (zpO c2 b) -> (∀ c o,s.heap.get? c = some o -> h'.get? c = some o) -> Q (.ref (s.heap.objs.size + 4)) { s with heap:=h' }) :
  wpAny (model prog w) A (call (.type "zip") [.ref a,.ref b]) Q E s:=by
 refine callType_new F.called_zip (by decide) (F.typeCall_zip_2 _ _) (F.newCall_zip_2 _ _) (fun obj=>F.args_object_init_3 obj _ _) F.entry_zip_new (Wv a b c1 c2 xs ys) ⟨ha,hb,?_⟩
 have gs:∀ (h:Heap) (o:Obj) (m:Nat),o.isFreed = false -> h.objs.size = m -> (h.push o).get? m = some o /\ (h.push o).objs.size = m + 1:=fun h o m f e=>by
  subst e; exact ⟨Heap.get?_push_size _ f,Heap.size_push ..⟩
 obtain ⟨e1,z1⟩:=gs s.heap (zpO c1 a) _ rfl rfl
 obtain ⟨e2,z2⟩:=gs (s.heap.push (zpO c1 a)) (zpO c2 b) _ rfl z1
 obtain ⟨e3,z3⟩:=gs ((s.heap.push (zpO c1 a)).push (zpO c2 b)) (zpT (.ref s.heap.objs.size) (.ref (s.heap.push (zpO c1 a)).objs.size)) _ rfl z2
 obtain ⟨e4,z4⟩:=gs (((s.heap.push (zpO c1 a)).push (zpO c2 b)).push (zpT (.ref s.heap.objs.size) (.ref (s.heap.push (zpO c1 a)).objs.size))) (zpT .none .none) _ rfl z3
 obtain ⟨e5,z5⟩:=gs ((((s.heap.push (zpO c1 a)).push (zpO c2 b)).push (zpT (.ref s.heap.objs.size) (.ref (s.heap.push (zpO c1 a)).objs.size))).push (zpT .none .none)) (zpZ ((s.heap.push (zpO c1 a)).push (zpO c2 b)).objs.size (((s.heap.push (zpO c1 a)).push (zpO c2 b)).push (zpT (.ref s.heap.objs.size) (.ref (s.heap.push (zpO c1 a)).objs.size))).objs.size) _ rfl z4
 have eN:zpN s.heap c1 a c2 b = s.heap.objs.size + 4:=z4
 have ps:∀ (h:Heap) (o:Obj) (c:Addr) (q:Obj),h.get? c = some q -> (h.push o).get? c = some q:=fun h o c q e=>Heap.get?_push_of_some _ e
 have f5:(zpH s.heap c1 a c2 b).get? (s.heap.objs.size + 4) = some (zpZ (s.heap.objs.size + 2) (s.heap.objs.size + 3)):=by
  have:=e5
  rw [z2,z3] at this
  unfold zpH
  dsimp only
  rw [z2,z3]
  exact this
 have f3:(zpH s.heap c1 a c2 b).get? (s.heap.objs.size + 2) = some (zpT (.ref s.heap.objs.size) (.ref (s.heap.objs.size + 1))):=by
  have:=ps _ (zpZ ((s.heap.push (zpO c1 a)).push (zpO c2 b)).objs.size (((s.heap.push (zpO c1 a)).push (zpO c2 b)).push (zpT (.ref s.heap.objs.size) (.ref (s.heap.push (zpO c1 a)).objs.size))).objs.size) _ _ (ps _ (zpT .none .none) _ _ e3)
  unfold zpH
  dsimp only
  exact this.trans (by rw [z1])
 have f4:(zpH s.heap c1 a c2 b).get? (s.heap.objs.size + 3) = some (zpT .none .none):=ps _ _ _ _ e4
 have f1:(zpH s.heap c1 a c2 b).get? s.heap.objs.size = some (zpO c1 a):=ps _ _ _ _ (ps _ _ _ _ (ps _ _ _ _ (ps _ _ _ _ e1)))
 have f2:(zpH s.heap c1 a c2 b).get? (s.heap.objs.size + 1) = some (zpO c2 b):=ps _ _ _ _ (ps _ _ _ _ (ps _ _ _ _ e2))
 have fk:∀ c o,s.heap.get? c = some o -> (zpH s.heap c1 a c2 b).get? c = some o:=fun c o e=>ps _ _ _ _ (ps _ _ _ _ (ps _ _ _ _ (ps _ _ _ _ (ps _ _ _ _ e))))
 show _ /\ _
 rw [eN]
 exact ⟨⟨_,f5,rfl⟩,h _ f5 f3 f4 f1 f2 fk⟩
end
def SqC (c:Bool) (K:FG7) (H:Hp) (a:Addr) (xs:List V):Prop:=match c with
 | true=>SqT K H a xs
 | false=>SqL K H a xs
def wX (c:Bool) (h:Heap) (j a:Addr) (i:Nat):Prop:=match c with
 | true=>h.IsTupleIter j a i
 | false=>h.IsListIter j a i
def SeqC (c:Bool) (h:Heap) (a:Addr) (vs:Array Value):Prop:=match c with
 | true=>h.IsTuple a vs
 | false=>h.IsList a vs
def cnC (c:Bool):String:=match c with
 | true=>"tuple_iterator"
 | false=>"list_iterator"
theorem wX.at {c:Bool} {h h':Heap} {j a:Addr} {i:Nat} (x:wX c h j a i) (k:∀ o,h.get? j = some o -> h'.get? j = some o):wX c h' j a i:=by
 cases c
 ·exact Heap.IsListIter.at x k
 ·exact Heap.IsTupleIter.at x k
theorem wX.obj {c:Bool} {h:Heap} {j a:Addr} {i:Nat} (x:wX c h j a i):∃ o,h.get? j = some o /\ ∀ v,o.data ≠ .cell v:=by
 cases c
 ·obtain ⟨o,e,_,d⟩:=x
  exact ⟨o,e,fun v z=>by rw [d] at z; cases z⟩
 ·obtain ⟨o,e,_,d⟩:=x
  exact ⟨o,e,fun v z=>by rw [d] at z; cases z⟩
theorem wX.mk {c:Bool} {h:Heap} {j a:Addr} (e:h.get? j = some (zpO (cnC c) a)):wX c h j a 0:=by
 cases c
 ·exact ⟨_,e,rfl,rfl⟩
 ·exact ⟨_,e,rfl,rfl⟩
theorem SeqC.src {c:Bool} {h:Heap} {a:Addr} {vs:Array Value} (x:SeqC c h a vs):wF h a (cnC c) vs:=by
 cases c
 ·exact .inr ⟨rfl,x⟩
 ·exact .inl ⟨rfl,x⟩
theorem SeqC.lt {c:Bool} {h:Heap} {a:Addr} {vs:Array Value} (x:SeqC c h a vs):a < h.objs.size:=by
 cases c
 ·obtain ⟨_,e,_⟩:=(show h.IsList a vs from x); exact Heap.lt_size e
 ·obtain ⟨_,e,_⟩:=(show h.IsTuple a vs from x); exact Heap.lt_size e
theorem sO {prog:Program} {w:World} {A:Around} (hh:A.handled = none) (c:Bool) (j t:Addr) (hne:t ≠ j) (vs:Array Value) :
  Draws prog w A j [j,t] vs.size (fun i v=>vs[i]? = some v) (fun i h=>wX c h j t i /\ SeqC c h t vs):=by
 cases c
 ·exact Draws.list hh j t hne vs
 ·exact Z2 hh j t hne vs
theorem j6 {prog:Program} {w:World} {A:Around} (hh:A.handled = none) (jt t:Addr) (vs:Array Value) {i:Nat} (hv:vs[i]? = none) :
  Draws prog w A jt [jt,t] i (fun _ _=>True) (fun j h=>j = i /\ h.IsListIter jt t i /\ h.IsList t vs) where
 live:=fun _ _ st=>let ⟨o,ho,_⟩:=st.2.1; ⟨o,ho⟩
 frame:=fun _ _ _ st hk=>⟨st.1,st.2.1.at (hk jt (by simp)),st.2.2.at (hk t (by simp))⟩
 item:=fun j s Q E hj st hQ=>absurd st.1 (Nat.ne_of_lt hj)
 done:=fun s Q E st hE=>wpAny_nextOf_list_end hh st.2.1 st.2.2 hv hE
theorem wx {prog:Program} {w:World} {A:Around} (hh:A.handled = none) (c:Bool) (j t:Addr) (vs:Array Value) {i:Nat} (hv:vs[i]? = none) :
  Draws prog w A j [j,t] i (fun _ _=>True) (fun k h=>k = i /\ wX c h j t i /\ SeqC c h t vs):=by
 cases c
 ·exact j6 hh j t vs hv
 ·exact Z3 hh j t vs hv
theorem yT {X:Cx} {pins:List (Addr × Obj)} {σ:L2.St} {H:Hp} {s:Shared} {c:Bool} {a:Addr} {xs:List V} (I:Inv X pins σ H s) (h:SqC c X.K H a xs):∃ its:List Value,Vals xs its /\ SeqC c s.heap a its.toArray:=by
 cases c
 ·obtain ⟨its,r,p,_⟩:=I.list h
  exact ⟨its,r,p.isList⟩
 ·obtain ⟨its,r,p,_⟩:=I.tuple h
  exact ⟨its,r,p⟩
theorem wq {X:Cx} {pins:List (Addr × Obj)} {σ:L2.St} {H:Hp} {s:Shared} {c:Bool} {a:Addr} {xs ys:List V} (I:Inv X pins σ H s) (h:SqC c X.K H a xs) (h':SqC c X.K H a ys):xs = ys:=by
 cases c
 ·exact I.list_inj h h'
 ·exact I.tuple_inj h h'
theorem nne {i j:Nat} (h:i ≠ j):i ≠ j:=h
theorem nin2 {z j t:Nat} (h1:z ≠ j) (h2:z ≠ t):z ∉ ([j,t]:List Nat):=by simp [h1,h2]
def Itz (K:FG7) (c:Bool) (a:Addr) (d:Bool) (b:Addr):It :=
  ⟨fun i H=>∃ xs ys x y,SqC c K H a xs /\ SqC d K H b ys /\ xs[i]? = some x /\ ys[i]? = some y,
   fun i H x H'=>∃ T v w,H T = none /\ x = .ref T /\ H' = upd H T (.tup [v,w]) /\ (∀ xs,SqC c K H a xs -> xs[i]? = some v) /\ ∀ ys,SqC d K H b ys -> ys[i]? = some w,
   fun i H=>∃ xs ys,SqC c K H a xs /\ SqC d K H b ys /\ (xs.length <= i \/ ys.length <= i)⟩
def Vz (c d:Bool) (z TI TO i1 i2 a b:Addr) (i:Nat) (h:Heap):Prop :=
 IsZip h z TI TO .none /\ IsPair h TI (.ref i1) (.ref i2) /\ (∃ u v,IsPair h TO u v) /\ wX c h i1 a i /\ wX d h i2 b i
theorem nad {n:Nat} (i j:Nat) (h:i ≠ j):n + i ≠ n + j:=fun z=>h (Nat.add_left_cancel z)
theorem nad0 {n:Nat} (i:Nat) (h:i ≠ 0):n + i ≠ n:=fun z=>h (Nat.add_left_cancel (z.trans (Nat.add_zero n).symm))
theorem Xn {P:Program} {w:World} {K:FG7} {elts:List Expr} {kt:Nat} {pt:Pos} (c d:Bool) (a b n:Nat) (ha:a < n) (hb:b < n) :
  Turn P w K (.Tuple elts kt pt) (Itz K c a d b) [n + 4,n + 3,n + 2,n + 1,n] (n + 4) (Vz c d (n + 4) (n + 2) (n + 3) n (n + 1) a b) where
 mem:=by simp
 obj:=fun i h st q hq=>by
  obtain ⟨hz,hI,⟨u,v,hO⟩,s1,s2⟩:=st
  simp only [List.mem_cons,List.mem_nil_iff,or_false] at hq
  rcases hq with rfl | rfl | rfl | rfl | rfl
  ·exact ⟨_,hz,fun v z=>by cases z⟩
  ·exact ⟨_,hO,fun v z=>by cases z⟩
  ·exact ⟨_,hI,fun v z=>by cases z⟩
  ·exact s2.obj
  ·exact s1.obj
 keep:=fun i h h' st k=>by
  obtain ⟨hz,hI,⟨u,v,hO⟩,s1,s2⟩:=st
  exact ⟨k _ (by simp) _ hz,k _ (by simp) _ hI,⟨u,v,k _ (by simp) _ hO⟩,s1.at (k _ (by simp)),s2.at (k _ (by simp))⟩
 item:=by
  intro X hP hw hK hc i pins s σ H E I hf st hg
  subst hP hw hK
  obtain ⟨hz,hI,⟨u0,v0,hO⟩,s1,s2⟩:=st
  obtain ⟨xs,ys,x,y,hqa,hqb,hx,hy⟩:=hg
  obtain ⟨ia,ra,pa⟩:=yT I hqa
  obtain ⟨ib,rb,pb⟩:=yT I hqb
  obtain ⟨u,hu,ru⟩:=ra.get hx
  obtain ⟨v,hv,rv⟩:=rb.get hy
  have l1:i < ia.toArray.size:=by have:=(List.getElem?_eq_some_iff.mp hu).1; simpa using this
  have l2:i < ib.toArray.size:=by have:=(List.getElem?_eq_some_iff.mp hv).1; simpa using this
  have an:a ≠ n:=Nat.ne_of_lt ha
  have bn:b ≠ n + 1:=by omega
  refine Ya hz (wpAny_mono (Z8 (A:=X.A.in1) (Q:=fun v s1=>∃ u,some v = some u /\ wpAny (model X.prog X.w) X.A (letOwnedTupleGo (.Tuple elts kt pt) (.ref (n + 4)) u) (fun _ s2=>∃ x H',Inv X pins σ H' s2 /\ RelV x u /\ (Itz X.K c a d b).yld i H x H' /\ Vz c d (n + 4) (n + 2) (n + 3) n (n + 1) a b (i + 1) s2.heap /\ ∀ b ∈ [n + 4,n + 3,n + 2,n + 1,n],H' b = none) E s1) (sO (A:=X.A.in1) (I.ok.hd hc) c n a an ia.toArray) (sO (A:=X.A.in1) (I.ok.hd hc) d (n + 1) b bn ib.toArray) hz hI hO ⟨s1,pa⟩ ⟨s2,pb⟩ l1 l2
   (nin2 (by first | exact nad _ _ (by decide) | exact nad0 _ (by decide) | exact (nad0 _ (by decide)).symm | omega) (by first | exact nad _ _ (by decide) | exact nad0 _ (by decide) | exact (nad0 _ (by decide)).symm | omega)) (nin2 (by first | exact nad _ _ (by decide) | exact nad0 _ (by decide) | exact (nad0 _ (by decide)).symm | omega) (by first | exact nad _ _ (by decide) | exact nad0 _ (by decide) | exact (nad0 _ (by decide)).symm | omega)) (nin2 (by first | exact nad _ _ (by decide) | exact nad0 _ (by decide) | exact (nad0 _ (by decide)).symm | omega) (by first | exact nad _ _ (by decide) | exact nad0 _ (by decide) | exact (nad0 _ (by decide)).symm | omega)) (nin2 (by first | exact nad _ _ (by decide) | exact nad0 _ (by decide) | exact (nad0 _ (by decide)).symm | omega) (by first | exact nad _ _ (by decide) | exact nad0 _ (by decide) | exact (nad0 _ (by decide)).symm | omega)) (nin2 (by first | exact nad _ _ (by decide) | exact nad0 _ (by decide) | exact (nad0 _ (by decide)).symm | omega) (by first | exact nad _ _ (by decide) | exact nad0 _ (by decide) | exact (nad0 _ (by decide)).symm | omega)) (nin2 (by first | exact nad _ _ (by decide) | exact nad0 _ (by decide) | exact (nad0 _ (by decide)).symm | omega) (by first | exact nad _ _ (by decide) | exact nad0 _ (by decide) | exact (nad0 _ (by decide)).symm | omega)) (nne (by first | exact nad _ _ (by decide) | exact nad0 _ (by decide) | exact (nad0 _ (by decide)).symm | omega)) (nne (by first | exact nad _ _ (by decide) | exact nad0 _ (by decide) | exact (nad0 _ (by decide)).symm | omega)) (nne (by first | exact nad _ _ (by decide) | exact nad0 _ (by decide) | exact (nad0 _ (by decide)).symm | omega)) (nne (by first | exact nad _ _ (by decide) | exact nad0 _ (by decide) | exact (nad0 _ (by decide)).symm | omega)) (nne (by first | exact nad _ _ (by decide) | exact nad0 _ (by decide) | exact (nad0 _ (by decide)).symm | omega)) (nne (by first | exact nad _ _ (by decide) | exact nad0 _ (by decide) | exact (nad0 _ (by decide)).symm | omega)) (nne (by first | exact nad _ _ (by decide) | exact nad0 _ (by decide) | exact (nad0 _ (by decide)).symm | omega)) (nne (by first | exact nad _ _ (by decide) | exact nad0 _ (by decide) | exact (nad0 _ (by decide)).symm | omega)) (nne (by first | exact nad _ _ (by decide) | exact nad0 _ (by decide) | exact (nad0 _ (by decide)).symm | omega)) ?_) (fun fin s' hq=>hq) (fun e s' (hq:False)=>hq.elim))
  intro p q h1 tk hp hq hz1 hI1 hO1 st1 st2 hT hsz hk
  have ep:p = u:=by
   have e1:ia.toArray[i]? = some p:=hp
   have e2:ia.toArray[i]? = some u:=by simpa using hu
   rw [e1] at e2; exact Option.some.inj e2
  have eq':q = v:=by
   have e1:ib.toArray[i]? = some q:=hq
   have e2:ib.toArray[i]? = some v:=by simpa using hv
   rw [e1] at e2; exact Option.some.inj e2
  subst ep eq'
  refine ⟨_,rfl,wpAny_letOwnedTupleGo_zip (s:={ s with heap:=h1,toks:=tk }) hz1 fun h2 hz2 hs2=>?_⟩
  have hk2:∀ b o,b ∉ [n + 4,n + 3,n + 2,n + 1,n] -> s.heap.get? b = some o -> h2.get? b = some o:=fun b o hb q=>by
   have n1:b ≠ n + 4:=fun z=>hb (by simp [z])
   have n2:b ≠ n + 3:=fun z=>hb (by simp [z])
   have n3:b ≠ n + 1:=fun z=>hb (by simp [z])
   have n4:b ≠ n:=fun z=>hb (by simp [z])
   exact (hs2.2 b n1).trans (hk b o n1 n2 n4 n3 q)
  have zs:n + 4 < s.heap.objs.size:=Heap.lt_size hz
  have hT2:h2.get? s.heap.objs.size = some { cls:=.type "tuple",data:=.seq #[p,q] }:=(hs2.2 _ (Nat.ne_of_gt zs)).trans hT
  have hn:H s.heap.objs.size = none:=I.hok.fresh (Nat.le_refl _)
  have I2:Inv X pins σ (upd H s.heap.objs.size (.tup [x,y])) { s with heap:=h2,toks:=tk }:=jm (s:=s) I hk2 hf (Nat.le_refl _) ⟨by show 2 <= sizeLine; decide,[p,q],.cons ru (.cons rv .nil),_,hT2,rfl,0,rfl⟩
  refine ⟨.ref s.heap.objs.size,upd H s.heap.objs.size (.tup [x,y]),I2,rfl,⟨_,x,y,hn,rfl,rfl,fun zs hz=>by rw [wq I hz hqa]; exact hx,fun zs hz=>by rw [wq I hz hqb]; exact hy⟩,⟨hz2,(hs2.2 _ (nne (by first | exact nad _ _ (by decide) | exact nad0 _ (by decide) | exact (nad0 _ (by decide)).symm | omega))).trans hI1,⟨p,q,(hs2.2 _ (nne (by first | exact nad _ _ (by decide) | exact nad0 _ (by decide) | exact (nad0 _ (by decide)).symm | omega))).trans hO1⟩,st1.1.at fun o e=>(hs2.2 _ (nne (by first | exact nad _ _ (by decide) | exact nad0 _ (by decide) | exact (nad0 _ (by decide)).symm | omega))).trans e,st2.1.at fun o e=>(hs2.2 _ (nne (by first | exact nad _ _ (by decide) | exact nad0 _ (by decide) | exact (nad0 _ (by decide)).symm | omega))).trans e⟩,fun q hq=>?_⟩
  have nb:q ≠ s.heap.objs.size:=by
   simp only [List.mem_cons,List.mem_nil_iff,or_false] at hq
   omega
  rw [zm nb]; exact (hf q hq).1
 done:=by
  intro X hP hw hK hc i pins s σ H E I hf st hg
  subst hP hw hK
  obtain ⟨hz,hI,⟨u0,v0,hO⟩,s1,s2⟩:=st
  obtain ⟨xs,ys,hqa,hqb,hl⟩:=hg
  obtain ⟨ia,ra,pa⟩:=yT I hqa
  obtain ⟨ib,rb,pb⟩:=yT I hqb
  have la:=ra.length
  have lb:=rb.length
  have an:a ≠ n:=Nat.ne_of_lt ha
  have fin:∀ (h':Heap) (e:Addr) (tk:Nat),(∀ c o,c ≠ n + 4 -> c ≠ n + 3 -> c ≠ n -> c ≠ n + 1 -> s.heap.get? c = some o -> h'.get? c = some o) -> Inv X pins σ H { s with heap:=h',toks:=tk }:=fun h' e tk k =>
   tM (fp:=[n + 4,n + 3,n + 2,n + 1,n]) I (fun b o hb q=>k b o (fun z=>hb (by simp [z])) (fun z=>hb (by simp [z])) (fun z=>hb (by simp [z])) (fun z=>hb (by simp [z])) q) hf
  by_cases h1:xs.length <= i
  ·refine Ya hz (Xl (A:=X.A.in1) (wx (A:=X.A.in1) (I.ok.hd hc) c n a ia.toArray (i:=i) (by simp; omega)) hz hI hO ⟨rfl,s1,pa⟩ (nin2 (by first | exact nad _ _ (by decide) | exact nad0 _ (by decide) | exact (nad0 _ (by decide)).symm | omega) (by first | exact nad _ _ (by decide) | exact nad0 _ (by decide) | exact (nad0 _ (by decide)).symm | omega)) (nne (by first | exact nad _ _ (by decide) | exact nad0 _ (by decide) | exact (nad0 _ (by decide)).symm | omega)) fun h' e tk k ho=>⟨e,rfl,ho,rfl,fin h' e tk k⟩)
  ·have h2:ys.length <= i:=by omega
   refine Ya hz (Xm (A:=X.A.in1) (sO (A:=X.A.in1) (I.ok.hd hc) c n a an ia.toArray) (wx (A:=X.A.in1) (I.ok.hd hc) d (n + 1) b ib.toArray (i:=i) (by simp; omega)) hz hI hO ⟨s1,pa⟩ ⟨rfl,s2,pb⟩ (by simp; omega) (nin2 (by first | exact nad _ _ (by decide) | exact nad0 _ (by decide) | exact (nad0 _ (by decide)).symm | omega) (by first | exact nad _ _ (by decide) | exact nad0 _ (by decide) | exact (nad0 _ (by decide)).symm | omega)) (nin2 (by first | exact nad _ _ (by decide) | exact nad0 _ (by decide) | exact (nad0 _ (by decide)).symm | omega) (by first | exact nad _ _ (by decide) | exact nad0 _ (by decide) | exact (nad0 _ (by decide)).symm | omega)) (nin2 (by first | exact nad _ _ (by decide) | exact nad0 _ (by decide) | exact (nad0 _ (by decide)).symm | omega) (by first | exact nad _ _ (by decide) | exact nad0 _ (by decide) | exact (nad0 _ (by decide)).symm | omega)) (nin2 (by first | exact nad _ _ (by decide) | exact nad0 _ (by decide) | exact (nad0 _ (by decide)).symm | omega) (by first | exact nad _ _ (by decide) | exact nad0 _ (by decide) | exact (nad0 _ (by decide)).symm | omega)) (nne (by first | exact nad _ _ (by decide) | exact nad0 _ (by decide) | exact (nad0 _ (by decide)).symm | omega)) (nne (by first | exact nad _ _ (by decide) | exact nad0 _ (by decide) | exact (nad0 _ (by decide)).symm | omega)) (nne (by first | exact nad _ _ (by decide) | exact nad0 _ (by decide) | exact (nad0 _ (by decide)).symm | omega)) (nne (by first | exact nad _ _ (by decide) | exact nad0 _ (by decide) | exact (nad0 _ (by decide)).symm | omega)) fun h' e tk k ho=>⟨e,rfl,ho,rfl,fin h' e tk k⟩)
 self:=fun _ _ _ _ _ st h=>wpAny_pyIter_zip st.1 h
section
variable {X:Cx} {elts:List Expr} {kt:Nat} {pt:Pos}
theorem Uq:bootBuiltins "zip" = some (.type "zip"):=by decide +kernel
def iZip (K:FG7) (ta:TA):TI:=fun σ H R=>ta σ H fun vs H1=>∃ (c d:Bool) (a b:Addr),vs = [.ref a,.ref b] /\ (∃ xs,SqC c K H1 a xs) /\ (∃ ys,SqC d K H1 b ys) /\ R (Itz K c a d b) H1
end
section
variable {X:Cx} {elts:List Expr} {kt:Nat} {pt:Pos} {K:FG7}
theorem VA {a b:Expr} {ta:TA} {p pos:Pos} (hK:X.K = K) (hg:Gl X "zip") (hm:X.mg "zip" = none) (ha:PA X [a,b] ta) (hs:starEach [a,b] X.env = [(false,eval a X.env),(false,eval b X.env)]:=by rfl) (hs2:starEach [b] X.env = [(false,eval b X.env)]:=by rfl) :
  PI X (.Tuple elts kt pt) (.Call (.Name "zip" p) [a,b] [] pos) (iZip K ta):=by
 subst hK
 intro pins s σ H R I h
 refine Call_ (we I hg hm Uq (PyProof.Rows.callWith_type1 (thn (ha pos pins s σ H _ I h) fun us s1 ⟨vs,H1,I1,r1,q1⟩=>?_) (by rw [hs,hs2]) (by rw [hs2]; rfl)))
 obtain ⟨c,d,ra,rb,e,⟨xs,hqa⟩,⟨ys,hqb⟩,q⟩:=q1
 subst e
 obtain ⟨u,w',rfl,e1,e2⟩:=Y5 r1
 cases (show u = Value.ref ra from e1)
 cases (show w' = Value.ref rb from e2)
 obtain ⟨ia,va,pa⟩:=yT I1 hqa
 obtain ⟨ib,vb,pb⟩:=yT I1 hqb
 refine Yb pa.src pb.src fun h' hz hI hO h1 h2 hk=>?_
 refine wpAny_pyIter_zip (s:={ s1 with heap:=h' }) hz ?_
 have I2:Inv X pins σ H1 { s1 with heap:=h' }:=I1.kept (t':=s1.toks) hk
 refine ⟨s1.heap.objs.size + 4,[s1.heap.objs.size + 4,s1.heap.objs.size + 3,s1.heap.objs.size + 2,s1.heap.objs.size + 1,s1.heap.objs.size],_,_,H1,rfl,I2,Xn c d ra rb s1.heap.objs.size pa.lt pb.lt,⟨hz,hI,⟨_,_,hO⟩,.mk h1,.mk h2⟩,fun b hb=>?_,q⟩
 have hle:s1.heap.objs.size <= b:=by
  simp only [List.mem_cons,List.mem_nil_iff,or_false] at hb
  rcases hb with rfl | rfl | rfl | rfl | rfl <;> first | exact Nat.le_add_right _ _ | exact Nat.le_refl _
 exact I1.fpOk hle (I1.hok.fresh hle)
end
section
variable {K:FG7} {a b:Addr} {c d:Bool} {xs ys:List V} {g:TG} {tt:TT} {te:TE} {tb:TS} {D:Ends} {Q:VK} {σ:L2.St} {H:Hp}
theorem Ww (Pv:Nat -> L2.St -> Hp -> Prop) (h0:Pv 0 σ H) (hl:∀ i σ H,Pv i σ H -> SqC c K H a xs /\ SqC d K H b ys)
  (hs:∀ i x y σ H T,xs[i]? = some x -> ys[i]? = some y -> Pv i σ H -> H T = none -> g (.ref T) σ (upd H T (.tup [x,y])) fun σ2 H2=>tb { D with nx:=Pv (i + 1),ct:=Pv (i + 1),bk:=D.nx } σ2 H2) (hd:∀ σ H,Pv (min xs.length ys.length) σ H -> D.nx σ H) :
  ∃ W:Nat -> Nat -> L2.St -> Hp -> Prop,(∃ m,W 0 m σ H) /\ ∀ i m σ H,W i m σ H →
   ((Itz K c a d b).stop i H /\ D.nx σ H) \/ ((Itz K c a d b).go i H /\ ∃ N:L2.St -> Hp -> Prop,(∀ σ' H',N σ' H' -> ∃ m',m' < m /\ W (i + 1) m' σ' H') /\ ∀ x H',(Itz K c a d b).yld i H x H' -> g x σ H' fun σ2 H2=>tb { D with nx:=N,ct:=N,bk:=D.nx } σ2 H2):=by
 refine ⟨fun i m σ H=>m = min xs.length ys.length - i /\ i <= min xs.length ys.length /\ Pv i σ H,⟨min xs.length ys.length,by simp,Nat.zero_le _,h0⟩,?_⟩
 rintro i m σ H ⟨rfl,hi,p⟩
 obtain ⟨q1,q2⟩:=hl i σ H p
 by_cases hlt:i < min xs.length ys.length
 ·have l1:i < xs.length:=by omega
  have l2:i < ys.length:=by omega
  refine .inr ⟨⟨xs,ys,xs[i],ys[i],q1,q2,by simp [l1],by simp [l2]⟩,Pv (i + 1),fun σ' H' p'=>⟨min xs.length ys.length - (i + 1),by omega,rfl,hlt,p'⟩,fun x H' y=>?_⟩
  obtain ⟨T,v,w,hT,rfl,rfl,y1,y2⟩:=y
  exact hs i v w σ H T (y1 xs q1) (y2 ys q2) p hT
 ·have e:i = min xs.length ys.length:=by omega
  subst e
  exact .inl ⟨⟨xs,ys,q1,q2,by omega⟩,hd σ H p⟩
end
section
variable {prog:Program} {w:World} {A:Around} {E:VS7} {s:Shared}
open PySem.AutoSeq1 (wpAny_loadPart')
theorem Yc (t:Addr) (c:Bool) (vs:Array Value) :
  Meets (Builtin.«enumerate.__new__» ⟨[.type "enumerate",.ref t],[]⟩) (fun _ R s=>SeqC c s.heap t vs ∧
   R (.ok (.ret (.ref (s.heap.push (zpO (cnC c) t)).objs.size)))
    { s with heap:=(s.heap.push (zpO (cnC c) t)).push { cls:=.type "enumerate",data:=.fields #[.none,.bool false,.ref s.heap.objs.size,rawInt 0,.none,.none] } }) :=
 .of_wp fun prog w A R s h=>by
  obtain ⟨hp,g,d,tk,os⟩:=s; obtain ⟨hT,h⟩:=h
  have hT':wF (Shared.heap ⟨hp,g,d,tk,os⟩) t (cnC c) vs:=hT.src
  obtain ⟨ot,hot⟩:∃ o,hp.get? t = some o:=by
   cases c
   ·obtain ⟨o,e,_⟩:=(show hp.IsList t vs from hT); exact ⟨o,e⟩
   ·obtain ⟨o,e,_⟩:=(show hp.IsTuple t vs from hT); exact ⟨o,e⟩
  have hsub:=sub_enumerate
  wp_walk using wpAny_loadPart' hot
  refine wpAny_stack_any fun st=>wpAny_pure ?_
  split
  ·rename_i c' _ _ _ _ _
   cases (c' == Value.type "enumerate") <;> (wp_walk using wpAny_loadPart' hot,wF.iter hT') <;> exact ⟨_,rfl,h⟩
  ·wp_walk using wpAny_loadPart' hot,wF.iter hT'
   exact ⟨_,rfl,h⟩
theorem uZ {t:Addr} {c:Bool} {vs:Array Value} {Q:VS7} (ht:SeqC c s.heap t vs)
  (h:∀ h',IsEnum h' (s.heap.objs.size + 1) s.heap.objs.size 0 .none -> wX c h' s.heap.objs.size t 0 -> h'.objs.size = s.heap.objs.size + 2 -> (∀ b o,s.heap.get? b = some o -> h'.get? b = some o) -> Q (.ref (s.heap.objs.size + 1)) { s with heap:=h' }) :
  wpAny (model prog w) A (call (.type "enumerate") [.ref t]) Q E s:=by
 refine callType_new F.called_enumerate (by decide) (F.typeCall_enumerate_1 _) (F.newCall_enumerate_1 _) (fun obj=>F.args_object_init_2 obj _) F.entry_enumerate_new (Yc t c vs) ⟨ht,?_⟩
 have hz:(s.heap.push (zpO (cnC c) t)).objs.size = s.heap.objs.size + 1:=Heap.size_push ..
 show _ /\ _
 rw [hz]
 have he:IsEnum ((s.heap.push (zpO (cnC c) t)).push { cls:=.type "enumerate",data:=.fields #[.none,.bool false,.ref s.heap.objs.size,rawInt 0,.none,.none] }) (s.heap.objs.size + 1) s.heap.objs.size 0 .none:=by
  have:=Heap.get?_push_size (s.heap.push (zpO (cnC c) t)) (o:={ cls:=.type "enumerate",data:=.fields #[.none,.bool false,.ref s.heap.objs.size,rawInt 0,.none,.none] }) rfl
  rw [hz] at this; exact this
 exact ⟨⟨_,he,rfl⟩,h _ he (.mk (Heap.get?_push_of_some _ (Heap.get?_push_size _ rfl))) (by rw [Heap.size_push,Heap.size_push]) fun b o x=>Heap.get?_push_of_some _ (Heap.get?_push_of_some _ x)⟩
end
def IteC (c:Bool) (K:FG7) (a:Addr):It :=
 ⟨fun i H=>∃ xs x,SqC c K H a xs /\ xs[i]? = some x,fun i H x H'=>∃ T v,H T = none /\ x = .ref T /\ H' = upd H T (.tup [.int i,v]) /\ ∀ xs,SqC c K H a xs -> xs[i]? = some v,fun i H=>∃ xs,SqC c K H a xs /\ xs.length <= i⟩
theorem j7 {P:Program} {w:World} {K:FG7} {elts:List Expr} {kt:Nat} {pt:Pos} (c:Bool) (a e jt:Addr) (hej:e ≠ jt) (hae:a ≠ e) (haj:a ≠ jt) :
  Turn P w K (.Tuple elts kt pt) (IteC c K a) [e,jt] e (fun i h=>(∃ old,IsEnum h e jt i old) /\ wX c h jt a i) where
 mem:=by simp
 obj:=fun i h st b hb=>by
  obtain ⟨⟨old,he⟩,st⟩:=st
  simp only [List.mem_cons,List.mem_nil_iff,or_false] at hb
  rcases hb with rfl | rfl
  ·exact ⟨_,he,fun v z=>by cases z⟩
  ·exact st.obj
 keep:=fun i h h' st k=>by
  obtain ⟨⟨old,he⟩,st⟩:=st
  exact ⟨⟨old,k e (by simp) _ he⟩,st.at fun o q=>k jt (by simp) o q⟩
 item:=by
  intro X hP hw hK hc i pins s σ H E I hf st hg
  subst hP hw hK
  obtain ⟨⟨old,he⟩,hit⟩:=st
  obtain ⟨xs,x,hq,hx⟩:=hg
  obtain ⟨its,rv,p⟩:=yT I hq
  obtain ⟨u,hu,ru⟩:=rv.get hx
  have hlt:i < its.toArray.size:=by have:=(List.getElem?_eq_some_iff.mp hu).1; simpa using this
  refine wpAny_pyNext_enum_itemD (sO (A:=X.A.in1) (I.ok.hd hc) c jt a haj its.toArray) he ⟨hit,p⟩ hlt hej (by simp [hej,Ne.symm hae]) fun v h1 tk hv hout hst1 hT hsz hk=>?_
  have hvu:v = u:=by
   have e1:its.toArray[i]? = some v:=hv
   have e2:its.toArray[i]? = some u:=by simpa using hu
   rw [e1] at e2; exact Option.some.inj e2
  subst hvu
  refine ⟨_,rfl,wpAny_letOwnedTupleGo_enum (s:={ s with heap:=h1,toks:=tk + 1 }) hout fun h2 he2 hs2=>?_⟩
  have hk2:∀ b o,b ∉ [e,jt] -> s.heap.get? b = some o -> h2.get? b = some o:=fun b o hb q=>by
   have n1:b ≠ e:=fun z=>hb (by simp [z])
   have n2:b ≠ jt:=fun z=>hb (by simp [z])
   exact (hs2.2 b n1).trans (hk b o n1 n2 q)
  have eT:s.heap.objs.size ≠ e:=Nat.ne_of_gt (Heap.lt_size he)
  have hT2:h2.get? s.heap.objs.size = some { cls:=.type "tuple",data:=.seq #[.int i tk,v] }:=(hs2.2 _ eT).trans hT
  have hn:H s.heap.objs.size = none:=I.hok.fresh (Nat.le_refl _)
  have I2:Inv X pins σ (upd H s.heap.objs.size (.tup [.int i,x])) { s with heap:=h2,toks:=tk + 1 }:=jm (s:=s) I hk2 hf (Nat.le_refl _) ⟨by show 2 <= sizeLine; decide,[.int i tk,v],.cons ⟨_,rfl⟩ (.cons ru .nil),_,hT2,rfl,0,rfl⟩
  refine ⟨.ref s.heap.objs.size,upd H s.heap.objs.size (.tup [.int i,x]),I2,rfl,⟨_,x,hn,rfl,rfl,fun ys hy=>by rw [wq I hy hq]; exact hx⟩,⟨⟨v,by simpa using he2⟩,?_⟩,fun b hb=>?_⟩
  ·exact hst1.1.at fun o q=>(hs2.2 jt (Ne.symm hej)).trans q
  ·have nb:b ≠ s.heap.objs.size:=by
    obtain ⟨oj,hoj,_⟩:=hit.obj
    simp only [List.mem_cons,List.mem_nil_iff,or_false] at hb
    rcases hb with rfl | rfl
    ·exact Ne.symm eT
    ·exact Nat.ne_of_lt (Heap.lt_size hoj)
   rw [zm nb]; exact (hf b hb).1
 done:=by
  intro X hP hw hK hc i pins s σ H E I hf st hg
  subst hP hw hK
  obtain ⟨⟨old,he⟩,hit⟩:=st
  obtain ⟨xs,hq,hx⟩:=hg
  obtain ⟨its,rv,p⟩:=yT I hq
  have hl:=rv.length
  refine wpAny_pyNext_enum_endD (wx (A:=X.A.in1) (I.ok.hd hc) c jt a its.toArray (i:=i) (by simp; omega)) he ⟨rfl,hit,p⟩ fun h' eb=>⟨rfl,?_⟩
  exact tM (fp:=[e,jt]) (t':=s.toks) I (fun b o hb q=>eb b o (fun z=>hb (by simp [z])) q) hf
 self:=fun _ _ _ _ _ st h=>by
  obtain ⟨⟨old,he⟩,_⟩:=st
  exact wpAny_pyIter_enum he h
section
variable {X:Cx} {elts:List Expr} {kt:Nat} {pt:Pos} {K:FG7}
def VB (c:Bool) (K:FG7) (ta:TA):TI:=fun σ H R=>ta σ H fun vs H1=>∃ a xs,vs = [.ref a] /\ SqC c K H1 a xs /\ R (IteC c K a) H1
theorem xQ {a:Expr} {ta:TA} {p pos:Pos} (c:Bool) (hK:X.K = K) (hg:Gl X "enumerate") (hm:X.mg "enumerate" = none) (ha:PA X [a] ta) (hs:starEach [a] X.env = [(false,eval a X.env)]:=by rfl) :
  PI X (.Tuple elts kt pt) (.Call (.Name "enumerate" p) [a] [] pos) (VB c K ta):=by
 subst hK
 intro pins s σ H R I h
 refine Call_ (we I hg hm X2 (PyProof.Rows.callWith_type1 (thn (ha pos pins s σ H _ I h) fun us s1 ⟨vs,H1,I1,r1,q1⟩=>?_) hs rfl))
 obtain ⟨t,xs,e,hq,q⟩:=q1
 subst e
 obtain ⟨u,rfl,e1⟩:=wM r1
 cases (show u = Value.ref t from e1)
 obtain ⟨its,rv,p⟩:=yT I1 hq
 refine uZ p fun h' he hit _ hk=>?_
 refine wpAny_pyIter_enum he ?_
 have lt:t < s1.heap.objs.size:=p.lt
 have I2:Inv X pins σ H1 { s1 with heap:=h' }:=I1.kept (t':=s1.toks) hk
 refine ⟨s1.heap.objs.size + 1,[s1.heap.objs.size + 1,s1.heap.objs.size],_,_,H1,rfl,I2,j7 c t (s1.heap.objs.size + 1) s1.heap.objs.size (Nat.succ_ne_self _) (Nat.ne_of_lt (Nat.lt_succ_of_lt lt)) (Nat.ne_of_lt lt),⟨⟨_,he⟩,hit⟩,fun b hb=>?_,q⟩
 simp only [List.mem_cons,List.mem_nil_iff,or_false] at hb
 rcases hb with rfl | rfl
 ·exact I1.fpOk (Nat.le_succ _) (I1.hok.fresh (Nat.le_succ _))
 ·exact I1.fpOk (Nat.le_refl _) (I1.hok.fresh (Nat.le_refl _))
end
section
variable {K:FG7} {a:Addr} {c:Bool} {xs:List V} {g:TG} {tt:TT} {te:TE} {tb:TS} {D:Ends} {Q:VK} {σ:L2.St} {H:Hp}
theorem wY (Pv:Nat -> L2.St -> Hp -> Prop) (h0:Pv 0 σ H) (hl:∀ i σ H,i <= xs.length -> Pv i σ H -> SqC c K H a xs)
  (hs:∀ i x σ H T,xs[i]? = some x -> Pv i σ H -> H T = none -> g (.ref T) σ (upd H T (.tup [.int i,x])) fun σ2 H2=>tb { D with nx:=Pv (i + 1),ct:=Pv (i + 1),bk:=D.nx } σ2 H2) (hd:∀ σ H,Pv xs.length σ H -> D.nx σ H) :
  ∃ W:Nat -> Nat -> L2.St -> Hp -> Prop,(∃ m,W 0 m σ H) /\ ∀ i m σ H,W i m σ H →
   ((IteC c K a).stop i H /\ D.nx σ H) \/ ((IteC c K a).go i H /\ ∃ N:L2.St -> Hp -> Prop,(∀ σ' H',N σ' H' -> ∃ m',m' < m /\ W (i + 1) m' σ' H') /\ ∀ x H',(IteC c K a).yld i H x H' -> g x σ H' fun σ2 H2=>tb { D with nx:=N,ct:=N,bk:=D.nx } σ2 H2):=by
 refine ⟨fun i m σ H=>m = xs.length - i /\ i <= xs.length /\ Pv i σ H,⟨xs.length,by simp,Nat.zero_le _,h0⟩,?_⟩
 rintro i m σ H ⟨rfl,hi,p⟩
 have q:=hl i σ H hi p
 by_cases hlt:i < xs.length
 ·refine .inr ⟨⟨xs,xs[i],q,by simp [hlt]⟩,Pv (i + 1),fun σ' H' p'=>⟨xs.length - (i + 1),by omega,rfl,hlt,p'⟩,fun x H' y=>?_⟩
  obtain ⟨T,v,hT,rfl,rfl,y⟩:=y
  exact hs i v σ H T (y xs q) p hT
 ·have e:i = xs.length:=by omega
  subst e
  exact .inl ⟨⟨xs,q,Nat.le_refl _⟩,hd σ H p⟩
theorem u6 (Pv:Nat -> List V -> L2.St -> Hp -> Prop) (h0:Pv 0 [] σ H) (hl:∀ i zs σ H,Pv i zs σ H -> SqC c K H a xs)
  (hs:∀ i x zs σ H T,xs[i]? = some x -> Pv i zs σ H -> H T = none -> g (.ref T) σ (upd H T (.tup [.int i,x])) fun σ2 H3=>tt σ2 H3 fun b H4=>if b = true then te σ2 H4 fun y H5=>zs.length < sizeLine /\ Pv (i + 1) (zs ++ [y]) σ2 H5 else Pv (i + 1) zs σ2 H4)
  (hd:∀ zs σ H,Pv xs.length zs σ H -> ∀ l,H l = none -> Q (.ref l) (upd H l (.lst zs))) :
  xE (IteC c K a) σ H g tt te Q:=by
 refine ⟨fun i m zs σ H=>m = xs.length - i /\ i <= xs.length /\ Pv i zs σ H,⟨xs.length,by simp,Nat.zero_le _,h0⟩,?_⟩
 rintro i m zs σ H ⟨rfl,hi,p⟩
 have q:=hl i zs σ H p
 by_cases hlt:i < xs.length
 ·refine .inr ⟨⟨xs,xs[i],q,by simp [hlt]⟩,Pv (i + 1),fun ws σ' H' p'=>⟨xs.length - (i + 1),by omega,rfl,hlt,p'⟩,fun x H' y=>?_⟩
  obtain ⟨T,v,hT,rfl,rfl,y1⟩:=y
  exact hs i v zs σ H T (y1 xs q) p hT
 ·have e:i = xs.length:=by omega
  subst e
  exact .inl ⟨⟨xs,q,Nat.le_refl _⟩,hd zs σ H p⟩
end
section
variable {X:Cx}
variable {K:FG7}
theorem xR {es:List Expr} {k:Nat} {pos:Pos} {t:TGs} (n:Nat) (h0:X.K = K) (hc:X.calm = true) (h:PGs X es t)
  (hn:(assignEach es X.env).length = n) (hst:(assignEach es X.env).findIdx? (·.1) = none):PG X (.Tuple es k pos) (gTup K n t):=by subst h0; exact yV hc h hn hst
theorem j8 (h:X.K = K):xw X (.type "list") (fun xs H Q=>∃ p ys,xs = [.ref p] /\ (SqL K H p ys \/ SqT K H p ys) /\ ∀ l,H l = none -> Q (.ref l) (upd H l (.lst ys))):=by subst h; exact wo
theorem jo {tg l:Expr} {tl:TE} (h:X.K = K) (hl:PE X l tl):PI X tg l (Vf K tl):=by subst h; exact xO hl
end
theorem wS:∀ {ns:List Int} {us:List Value},IntsAre us ns -> Vals (ns.map V.int) us:=by
 intro ns us h
 induction h with
 | nil=>exact .nil
 | cons n t _ ih=>exact .cons ⟨t,rfl⟩ ih
section
variable {X:Cx} {K:FG7}
theorem sP (hK:X.K = K):xw X (.builtin "sorted") (fun xs H Q=>∃ (l:Addr) (ns:List Int),xs = [.ref l] /\ SqL K H l (ns.map V.int) /\ ns.length < 64 /\ ∀ (p:Addr) (ms:List Int),H p = none -> ms.Perm ns -> ms.Pairwise (· <= ·) -> Q (.ref p) (upd H p (.lst (ms.map V.int)))):=by
 subst hK
 intro pins s σ H xs us Q I r h
 obtain ⟨l,ns,rfl,hl,h64,q⟩:=h
 obtain ⟨u,rfl,rx⟩:=wM r
 cases (show u = Value.ref l from rx)
 obtain ⟨vs,rv,pl,hz⟩:=I.list hl
 have hlen:=rv.length
 rw [List.length_map] at hlen hz
 refine sorted_ints pl.isList (jY rv) (by omega) fun out ms i1 i2 i3=>?_
 obtain ⟨e,he⟩:=sortedAll_at s.heap vs out
 have hn:H (s.heap.objs.size + 1) = none:=I.hok.fresh (Nat.le_succ _)
 have rl:=wS i1
 refine ⟨.ref (s.heap.objs.size + 1),_,?_,rfl,q _ ms hn i2 i3⟩
 refine I.laid (t':=s.toks) (fun b o q=>sortedAll_old q) (Nat.le_succ _) (show zV X.prog X.w _ _ _ (.lst (ms.map V.int)) from ⟨by rw [List.length_map,i2.length_eq]; exact hz,out.toList,e,rl,he⟩)
end
theorem qh {M:Model} {A:Around} {E:VS7} {s:Shared} {a:Addr} {Q:Option Obj -> Shared -> Prop} (h:Q (s.heap.get? a) s):wpAny M A (loadIfAlive a) Q E s:=fun _ _ _=>h
structure Wk (prog:Program) (w:World) (A:Around) (T:String) (I:Addr) (n:Nat) (Fr:Addr -> Prop) (J:List Value -> Shared -> Prop) (Fn:List Value -> Shared -> Prop):Prop where
 ty:∀ acc s,J acc s -> s.TypeIs (.ref I) T
 self:∀ acc s (Q:VS7) (E:VS7),J acc s -> Q (.ref I) s -> wpAny (model prog w) A (pyIter (.ref I)) Q E s
 stay:∀ acc s (S:Addr) (ob:Obj) (h':Heap),J acc s -> Fr S -> s.heap.get? S = some ob -> ob.cls = .type "list" -> (∀ b o,b ≠ S -> s.heap.get? b = some o -> h'.get? b = some o) -> h'.objs.size = s.heap.objs.size -> J acc { s with heap:=h' }
 next:∀ acc s (S:Addr) (ob:Obj) (Q:Option Value -> Shared -> Prop) (E:VS7),J acc s -> Fr S -> s.heap.get? S = some ob -> ob.cls = .type "list" →
  (∀ v s',acc.length < n -> J (acc ++ [v]) s' -> s'.heap.get? S = some ob -> Q (some v) s') -> (∀ s',Fn acc s' -> s'.heap.get? S = some ob -> Q none s') -> wpAny (model prog w) A (pyNext (.ref I)) Q E s
 push:∀ acc s (o:Obj),J acc s -> J acc { s with heap:=s.heap.push o }
abbrev lsO (acc:Array Value) (c:Nat):Obj:={ cls:=.type "list",dict:=none,data:=.seq acc c,slots:=#[] }
section
variable {prog:Program} {w:World} {A:Around} {R:Result -> Shared -> Prop} {T:String} {I:Addr} {n:Nat} {Fr:Addr -> Prop} {J Fn:List Value -> Shared -> Prop}
theorem sQ (W:Wk prog w A.in1 T I n Fr J Fn) (hn:n <= sizeLine) (S:Addr) (hSf:Fr S) (res:Value) :
  ∀ (k:Nat) (s:Shared) (acc:List Value) (c:Nat),n - acc.length = k -> acc.length <= n -> J acc s -> s.heap.get? S = some (lsO acc.toArray c) →
  (∀ s' acc' c',Fn acc' s' -> acc'.length <= n -> s'.heap.get? S = some (lsO acc'.toArray c') -> R (.ok (.ret res)) s') →
  codeAny (model prog w) A (.builtin "list.extend.loop" ⟨[.ref S,.ref I,res],[]⟩) R s:=by
 intro k
 induction k with
 | zero =>
  intro s acc c hk hi hj hS hR
  refine codeAny_builtin F.entry_extend_loop ?_
  rw [Around.under_plainId F.plain_extend_loop _]
  show wpAny _ A.in1 (pyNext (.ref I) >>= _) _ _ s
  refine wpAny_bind (W.next acc s S _ _ _ hj hSf hS rfl (fun v s' hl=>by omega) fun s' hf hS'=>?_)
  exact wpAny_pure (hR s' acc c hf hi hS')
 | succ k ih =>
  intro s acc c hk hi hj hS hR
  refine codeAny_builtin F.entry_extend_loop ?_
  rw [Around.under_plainId F.plain_extend_loop _]
  show wpAny _ A.in1 (pyNext (.ref I) >>= _) _ _ s
  refine wpAny_bind (W.next acc s S _ _ _ hj hSf hS rfl (fun v s' hl hj' hS'=>?_) fun s' hf hS'=>?_)
  ·show wpAny _ A.in1 (updateSeq S (·.push v) >>= _) _ _ _
   refine wpAny_bind ?_
   obtain ⟨c2,e2⟩:∃ c2,(s'.heap.update S (Obj.mapSeq (·.push v))).get? S = some (lsO (acc ++ [v]).toArray c2):=by
    rw [show (acc ++ [v]).toArray = acc.toArray.push v by simp]
    exact ⟨_,Heap.get?_update_self (Obj.mapSeq (·.push v)) hS' rfl⟩
   refine wpAny_updateSeq hS' rfl (wpAny_pure ⟨plainId_quiet F.plain_extend_loop _,ih _ (acc ++ [v]) c2 (by rw [List.length_append]; show n - (acc.length + 1) = k; omega) (by rw [List.length_append]; show acc.length + 1 <= n; omega)
    (W.stay _ s' S _ _ hj' hSf hS' rfl (fun b o hb e=>(Heap.get?_update_other _ _ (Ne.symm hb)).trans e) (Heap.size_update ..)) e2 hR⟩) (by rw [List.size_toArray]; omega) (by show (acc.toArray.push v).size <= sizeLine + 1; rw [Array.size_push,List.size_toArray]; omega)
  ·exact wpAny_pure (hR s' acc c hf hi hS')
theorem Wx (W:Wk prog w A.in1 T I n Fr J Fn) (hn:n <= sizeLine) (t1:(Value.type T == Value.type "list") = false) (t2:(Value.type T == Value.type "tuple") = false) (t3:typeLookup (.type T) "__len__" = pure none) (t4:typeLookup (.type T) "__length_hint__" = pure none)
  (S:Addr) (res:Value) (c₀:Nat) {s:Shared} (hj:J [] s) (hSf:Fr S) (hSI:S ≠ I) (hS:s.heap.get? S = some (lsO #[] c₀))
  (hR:∀ s' acc' c',Fn acc' s' -> acc'.length <= n -> s'.heap.get? S = some (lsO acc'.toArray c') -> R (.ok (.ret res)) s') :
  wpAny (model prog w) A.in1 (Builtin.List.listExtendWith (.ref S) (.ref I) res)
   (fun fin s'=>match fin with | .done f=>R (.ok f) s' | .again c'=>c'.quiet = true /\ codeAny (model prog w) A c' R s') (fun e s'=>R (.error e) s') s:=by
 unfold Builtin.List.listExtendWith
 refine wpAny_bind (wpAny_typeOf (W.ty _ _ hj) ?_)
 have h1:Builtin.List.listSameRef (.ref S) (.ref I) = false:=by simp [Builtin.List.listSameRef,hSI]
 simp only [h1,t1,t2,Bool.or_false,Bool.false_eq_true,if_false]
 refine wpAny_bind (W.self _ _ _ _ hj ?_)
 refine wpAny_bind (wpAny_holding ?_)
 unfold Builtin.List.listLengthHint
 refine wpAny_bind (wpAny_specialOf (W.ty _ _ hj) t3 ?_)
 show wpAny _ A.in1 (specialOf (Value.ref I) (Str.ofString "__length_hint__") >>= _) _ _ _
 refine wpAny_bind (wpAny_specialOf (W.ty _ _ hj) t4 ?_)
 refine wpAny_pure ?_
 show wpAny _ A.in1 (rule "list.extend.makes-room" >>= fun _=>Builtin.List.listTouch (.ref S) >>= fun _ =>
  again (.builtin "list.extend.loop" ⟨[.ref S,.ref I,res],[]⟩)) _ _ _
 refine wpAny_bind (wpAny_rule ?_)
 refine wpAny_bind ?_
 show wpAny _ A.in1 (updateSeq S (·.push .none) >>= fun _=>updateSeq S (·.pop)) _ _ _
 refine wpAny_bind (wpAny_updateSeq hS rfl ?_)
 have hS₂:=Heap.get?_update_self (Obj.mapSeq (·.push Value.none)) hS rfl
 refine wpAny_updateSeq (hz:=by seq_fits) hS₂ rfl ?_
 have hS₃:=Heap.get?_update_self (Obj.mapSeq (·.pop)) hS₂ rfl
 have oth:∀ b o,b ≠ S -> s.heap.get? b = some o -> ((s.heap.update S (Obj.mapSeq (·.push Value.none))).update S (Obj.mapSeq (·.pop))).get? b = some o :=
  fun b o hb e=>(Heap.get?_update_other _ _ (Ne.symm hb)).trans ((Heap.get?_update_other _ _ (Ne.symm hb)).trans e)
 exact wpAny_pure ⟨plainId_quiet F.plain_extend_loop _,sQ W hn S hSf res n _ [] _ rfl (Nat.zero_le _) (W.stay _ s S _ _ hj hSf hS rfl oth (by rw [Heap.size_update,Heap.size_update])) hS₃ hR⟩
end
section
variable {prog:Program} {w:World} {A:Around} {E:VS7} {s:Shared} {T:String} {I:Addr} {n:Nat} {Fr:Addr -> Prop} {J Fn:List Value -> Shared -> Prop}
theorem Xo {Q:List Value -> Shared -> Prop} (W:Wk prog w A.in1 T I n Fr J Fn) (hn:n <= sizeLine) (t1:(Value.type T == Value.type "list") = false) (t2:(Value.type T == Value.type "tuple") = false) (t3:typeLookup (.type T) "__len__" = pure none) (t4:typeLookup (.type T) "__length_hint__" = pure none)
  (hj:J [] s) (hSf:Fr s.heap.objs.size) (hSI:s.heap.objs.size ≠ I) (hQ:∀ s' acc',Fn acc' s' -> acc'.length <= n -> Q acc' s'):wpAny (model prog w) A (collect (.ref I)) Q E s:=by
 unfold collect
 refine wpAny_bind (wpAny_runValue (codeAny_builtin F.entry_proto_collect ?_))
 rw [Around.under_plainId F.plain_proto_collect _]
 show wpAny _ A.in1 (newList [] >>= fun l=>again (.builtin "list.__iadd__" ⟨[l,.ref I],[]⟩)) _ _ s
 refine wpAny_bind (wpAny_newObj_type ?_)
 refine wpAny_pure ⟨plainId_quiet F.plain_list_iadd _,codeAny_builtin F.entry_list_iadd ?_⟩
 rw [Around.under_plainId F.plain_list_iadd _]
 have hj1:=W.push _ s { cls:=.type "list",data:=.seq ([]:List Value).toArray } hj
 show wpAny _ A.in1 (Builtin.List.listExtendWith (.ref s.heap.objs.size) (.ref I) (.ref s.heap.objs.size)) _ _ _
 have fin:∀ s' acc' c',Fn acc' s' -> acc'.length <= n -> s'.heap.get? s.heap.objs.size = some (lsO acc'.toArray c') -> wpAny (model prog w) A (load s.heap.objs.size >>= fun o=>match o.data with | .seq xs _=>pure xs.toList | _=>unsupported "internal:collect") Q E s':=fun s' acc' c' hf hl hS' =>
  wpAny_bind (wpAny_load hS' (wpAny_pure (hQ s' acc' hf hl)))
 refine wpAny_mono (Wx (R:=fun r s'=>∃ acc' c',r = .ok (.ret (.ref s.heap.objs.size)) /\ Fn acc' s' /\ acc'.length <= n /\ s'.heap.get? s.heap.objs.size = some (lsO acc'.toArray c')) W hn t1 t2 t3 t4 s.heap.objs.size _ _ hj1 hSf hSI (Heap.get?_push_size _ rfl) fun s' acc' c' hf hl hS'=>⟨acc',c',rfl,hf,hl,hS'⟩) (fun fn s' h=>?_) (fun e s' h=>?_)
 ·cases fn with
  | done f =>
   obtain ⟨acc',c',e,hf,hl,hS'⟩:=h
   cases e
   exact fin s' acc' c' hf hl hS'
  | again c =>
   refine ⟨h.1,codeAny_mono h.2 fun r s'' hr=>?_⟩
   obtain ⟨acc',c',e,hf,hl,hS'⟩:=hr
   subst e
   exact fin s'' acc' c' hf hl hS'
 ·obtain ⟨acc',c',e,_⟩:=h
  cases e
theorem qi {Q:VS7} (W:Wk prog w A.in1.in1.in1 T I n Fr J Fn) (hn:n <= sizeLine) (t1:(Value.type T == Value.type "list") = false) (t2:(Value.type T == Value.type "tuple") = false) (t3:typeLookup (.type T) "__len__" = pure none) (t4:typeLookup (.type T) "__length_hint__" = pure none)
  (hj:J [] s) (hSf:Fr s.heap.objs.size) (hSI:s.heap.objs.size ≠ I)
  (hQ:∀ s' acc',Fn acc' s' -> acc'.length <= n -> Q (.ref s'.heap.objs.size) { s' with heap:=s'.heap.push { cls:=.type "tuple",data:=.seq acc'.toArray } }) :
  wpAny (model prog w) A (call (.type "tuple") [.ref I]) Q E s:=by
 refine callType_codes (Q₁:=fun obj s₁=>s₁.TypeIs obj "tuple" /\ Q obj s₁) F.called_tuple (F.typeCall_tuple_1 _) F.entry_object_init ?_ fun obj s₁ h₁=>?_
 ·refine codeAny_of_tree ?_
  show wpAny _ A.in1.in1 (do checkBuiltinCall "tuple.__new__" ⟨[.type "tuple",.ref I],[]⟩; again (.builtin "tuple.__new__" ⟨[.type "tuple",.ref I],[]⟩)) _ _ s
  refine wpAny_bind (wpAny_of_eq (F.newCall_tuple_1 _) (wpAny_pure ⟨plainId_quiet F.plain_tuple_new _,codeAny_builtin F.entry_tuple_new ?_⟩))
  rw [Around.under_plainId F.plain_tuple_new _]
  have hsub:=sub_tuple_self
  have hinit:=init_tuple_lookup
  have hmh:=madeHere_tuple
  have hTI:=W.ty _ _ hj
  wp_walk using wpAny_typeOf hTI,Xo (A:=A.in1.in1) W hn t1 t2 t3 t4 hj hSf hSI
  intro s' acc hf hl
  show wpAny _ _ (Builtin.Tuple.tupleExact acc.toArray >>= fun v=>ret v) _ _ _
  unfold Builtin.Tuple.tupleExact
  refine wpAny_bind (wpAny_newObj_type ?_ (by show acc.toArray.size <= sizeLine; rw [List.size_toArray]; omega))
  exact wpAny_pure ⟨⟨_,Heap.get?_push_size _ rfl,rfl⟩,hQ s' acc hf hl⟩
 ·exact ⟨h₁.1,F.args_object_init_2 obj _,object_init_meets F.called_tuple.init.lookup F.called_tuple.made (by decide) prog w A.in1 _ s₁ ⟨h₁.1,rfl,h₁.2⟩⟩
end
abbrev yv (h:Heap) (e it:Addr) (i:Int) (f0 f1 old:Value):Prop :=
 h.get? e = some { cls:=.type "enumerate",dict:=none,data:=.fields #[f0,f1,.ref it,rawInt i,.none,old],slots:=#[] }
def OwnF (f0:Value):Prop:=f0 = .none \/ ∃ a:Addr,f0 = rawInt a
section
variable {prog:Program} {w:World} {A:Around} {E:VS7} {s:Shared}
theorem j9 {e it:Addr} {fp:List Addr} {n i:Nat} {P:Nat -> Value -> Prop} {St:Nat -> Heap -> Prop} {f0 f1 old:Value} {Q:VS7}
  (D:Draws prog w A it fp n P St) (he:yv s.heap e it i f0 f1 old) (hf:OwnF f0) (hst:St i s.heap) (hlt:i < n) (hne:e ≠ it) (hef:e ∉ fp)
  (hQ:∀ x h' tk f0' f1' old',P i x -> yv h' e it ((i:Int) + 1) f0' f1' old' -> OwnF f0' -> St (i + 1) h' →
   h'.get? s.heap.objs.size = some { cls:=.type "tuple",data:=.seq #[.int i tk,x] } -> h'.objs.size = s.heap.objs.size + 1 →
   (∀ b o,b ≠ e -> b ≠ it -> s.heap.get? b = some o -> h'.get? b = some o) -> Q (.ref s.heap.objs.size) { s with heap:=h',toks:=tk + 1 }) :
  wpAny (model prog w) A (Builtin.«enumerate.__next__» ⟨[.ref e],[]⟩) (fun fin s'=>∃ v,fin = Fin.done (Flow.ret v) /\ Q v s') E s:=by
 obtain ⟨hp,g,d,tk0,os⟩:=s
 show wpAny _ _ (field (.ref e) 2 >>= _) _ _ ⟨hp,g,d,tk0,os⟩
 refine wpAny_bind (wpAny_field he rfl (x:=.ref it) rfl ?_)
 refine wpAny_bind (D.item i _ _ _ hlt hst fun x h₁ tk hPx hit₁ hs₁=>?_)
 replace hs₁:Heap.SameBut it hp h₁:=hs₁
 have he₁:yv h₁ e it i f0 f1 old:=(hs₁.2 e hne).trans he
 show wpAny _ _ (field (.ref e) 3 >>= _) _ _ ⟨h₁,g,d,tk,os⟩
 refine wpAny_bind (wpAny_field he₁ rfl (x:=rawInt i) rfl ?_)
 show wpAny _ _ (field (.ref e) 4 >>= _) _ _ ⟨h₁,g,d,tk,os⟩
 refine wpAny_bind (wpAny_field he₁ rfl (x:=.none) rfl ?_)
 show wpAny _ _ (mkInt i >>= _) _ _ ⟨h₁,g,d,tk,os⟩
 refine wpAny_bind (wpAny_mkInt ?_)
 show wpAny _ _ (setField (.ref e) 3 (rawInt ((i:Int) + 1)) >>= _) _ _ ⟨h₁,g,d,tk + 1,os⟩
 refine wpAny_bind (wpAny_setField_rec he₁ (by simp) fun h₂ he₂ hs₂=>?_)
 replace hs₂:Heap.SameBut e h₁ h₂:=hs₂
 replace he₂:yv h₂ e it ((i:Int) + 1) f0 f1 old:=he₂
 show wpAny _ _ (setField (.ref e) 4 .none >>= _) _ _ ⟨h₂,g,d,tk + 1,os⟩
 refine wpAny_bind (wpAny_setField_rec he₂ (by simp) fun h₃ he₃ hs₃=>?_)
 replace hs₃:Heap.SameBut e h₂ h₃:=hs₃
 replace he₃:yv h₃ e it ((i:Int) + 1) f0 f1 old:=he₃
 show wpAny _ _ (newTuple [.int i tk,x] >>= _) _ _ ⟨h₃,g,d,tk + 1,os⟩
 refine wpAny_bind (wpAny_newTuple ?_)
 have he₄:yv (h₃.push { cls:=.type "tuple",data:=.seq #[.int i tk,x] }) e it ((i:Int) + 1) f0 f1 old:=Heap.get?_push_of_some _ he₃
 generalize hh₄:h₃.push { cls:=.type "tuple",data:=.seq #[.int i tk,x] } = h₄ at he₄
 have hsz:h₃.objs.size = hp.objs.size:=by rw [hs₃.1,hs₂.1,hs₁.1]
 have hel:e < hp.objs.size:=Heap.lt_size he
 have ht₄:h₄.get? hp.objs.size = some { cls:=.type "tuple",data:=.seq #[.int i tk,x] }:=by rw [← hh₄,← hsz]; exact Heap.get?_push_size _ rfl
 have hz₄:h₄.objs.size = hp.objs.size + 1:=by rw [← hh₄,Heap.size_push,hsz]
 have hk₄:∀ b o,b ≠ e -> b ≠ it -> hp.get? b = some o -> h₄.get? b = some o:=fun b o hbe hbi hb=>by
  rw [← hh₄]; exact Heap.get?_push_of_some _ (hs₃.extBut b o hbe (hs₂.extBut b o hbe (hs₁.extBut b o hbi hb)))
 have hit₄:St (i + 1) h₄:=D.frame _ _ _ hit₁ fun b hb o y=>by
  have hbe:b ≠ e:=fun q=>hef (q ▸ hb)
  rw [← hh₄]; exact Heap.get?_push_of_some _ (hs₃.extBut b o hbe (hs₂.extBut b o hbe y))
 show wpAny _ _ (Builtin.SmallTypes.ownedTupleIsFree (.ref e) >>= _) _ _ ⟨h₄,g,d,tk + 1,os⟩
 rw [hsz]
 clear hh₄ he₃ hs₃ he₂ hs₂ he₁ hs₁ hit₁ hsz h₃ h₂ h₁
 have eT:hp.objs.size ≠ e:=Nat.ne_of_gt hel
 -- the tuple is free: it is kept by the enumerate object
 have free:wpAny (model prog w) A (rule "enumerate.__next__.owned-tuple-again" >>= fun _=>field (.ref e) 5 >>= fun old=>setField (.ref e) 5 x >>= fun _=>Builtin.SmallTypes.ownedTupleHandOut (.ref e) (.ref hp.objs.size) >>= fun _=>letGo [old] [.ref hp.objs.size] >>= fun _=>ret (.ref hp.objs.size)) (fun fin s'=>∃ v,fin = Fin.done (Flow.ret v) /\ Q v s') E ⟨h₄,g,d,tk + 1,os⟩:=by
  refine wpAny_bind (wpAny_rule ?_)
  refine wpAny_bind (wpAny_field he₄ rfl (x:=old) rfl ?_)
  refine wpAny_bind (wpAny_setField_rec he₄ (by simp) fun h₅ he₅ hs₅=>?_)
  replace hs₅:Heap.SameBut e h₄ h₅:=hs₅
  replace he₅:yv h₅ e it ((i:Int) + 1) f0 f1 x:=he₅
  refine wpAny_bind ?_
  unfold Builtin.SmallTypes.ownedTupleHandOut
  refine wpAny_bind (wpAny_setField_rec he₅ (by simp) fun h₆ he₆ hs₆=>?_)
  replace hs₆:Heap.SameBut e h₅ h₆:=hs₆
  replace he₆:yv h₆ e it ((i:Int) + 1) (rawInt hp.objs.size) f1 x:=he₆
  refine wpAny_setField_rec he₆ (by simp) fun h₇ he₇ hs₇=>?_
  replace hs₇:Heap.SameBut e h₆ h₇:=hs₇
  replace he₇:yv h₇ e it ((i:Int) + 1) (rawInt hp.objs.size) (.bool false) x:=he₇
  refine wpAny_bind (wpAny_letGo (wpAny_pure ⟨_,rfl,hQ x h₇ tk _ _ _ hPx he₇ (.inr ⟨_,rfl⟩) ?_ ?_ ?_ ?_⟩))
  ·exact D.frame _ _ _ hit₄ fun b hb o y=>by
    have hbe:b ≠ e:=fun q=>hef (q ▸ hb)
    exact hs₇.extBut b o hbe (hs₆.extBut b o hbe (hs₅.extBut b o hbe y))
  ·exact hs₇.extBut _ _ eT (hs₆.extBut _ _ eT (hs₅.extBut _ _ eT ht₄))
  ·rw [hs₇.1,hs₆.1,hs₅.1,hz₄]
  ·exact fun b o hbe hbi hb=>hs₇.extBut b o hbe (hs₆.extBut b o hbe (hs₅.extBut b o hbe (hk₄ b o hbe hbi hb)))
 have used:∀ h₅ f1',yv h₅ e it ((i:Int) + 1) f0 f1' old -> Heap.SameBut e h₄ h₅ -> wpAny (model prog w) A (ret (.ref hp.objs.size)) (fun fin s'=>∃ v,fin = Fin.done (Flow.ret v) /\ Q v s') E ⟨h₅,g,d,tk + 1,os⟩:=fun h₅ f1' he₅ hs₅ =>
  wpAny_pure ⟨_,rfl,hQ x h₅ tk _ _ _ hPx he₅ hf (D.frame _ _ _ hit₄ fun b hb o y=>hs₅.extBut b o (fun q=>hef (q ▸ hb)) y) (hs₅.extBut _ _ eT ht₄) (by rw [hs₅.1,hz₄]) fun b o hbe hbi hb=>hs₅.extBut b o hbe (hk₄ b o hbe hbi hb)⟩
 refine wpAny_bind ?_
 unfold Builtin.SmallTypes.ownedTupleIsFree
 rcases hf with rfl | ⟨a,rfl⟩
 ·refine wpAny_bind (wpAny_field he₄ rfl (x:=.none) rfl (wpAny_pure ?_))
  simp only [if_true]
  exact free
 ·refine wpAny_bind (wpAny_field he₄ rfl (x:=rawInt a) rfl ?_)
  show wpAny _ _ (loadIfAlive (a:Int).toNat >>= _) _ _ _
  refine wpAny_bind (qh ?_)
  by_cases hl:(h₄.get? (a:Int).toNat).isNone = true
  ·rw [show (Shared.heap ⟨h₄,g,d,tk + 1,os⟩).get? (a:Int).toNat = h₄.get? (a:Int).toNat from rfl,hl]
   simp only [if_true]
   refine wpAny_pure ?_
   simp only [if_true]
   exact free
  ·rw [show (Shared.heap ⟨h₄,g,d,tk + 1,os⟩).get? (a:Int).toNat = h₄.get? (a:Int).toNat from rfl,Bool.eq_false_iff.mpr hl]
   simp only [Bool.false_eq_true,if_false]
   refine wpAny_bind (wpAny_field he₄ rfl (x:=f1) rfl ?_)
   split
   ·refine wpAny_bind (wpAny_setField_rec he₄ (by simp) fun h₅ he₅ hs₅=>wpAny_pure ?_)
    simp only [Bool.false_eq_true,if_false]
    exact used h₅ (.bool true) he₅ hs₅
   ·refine wpAny_pure ?_
    simp only [Bool.false_eq_true,if_false]
    exact used h₄ f1 he₄ ⟨rfl,fun _ _=>rfl⟩
theorem Za {e it:Addr} {fp:List Addr} {n:Nat} {P:Nat -> Value -> Prop} {St:Nat -> Heap -> Prop} {i:Int} {f0 f1 old:Value} {Q:Option Value -> Shared -> Prop}
  (D:Draws prog w A.in1 it fp n P St) (he:yv s.heap e it i f0 f1 old) (hst:St n s.heap)
  (hQ:∀ h',Heap.ExtBut it s.heap h' -> Q none { s with heap:=h' }):wpAny (model prog w) A (pyNext (.ref e)) Q E s:=by
 have hT:s.TypeIs (.ref e) "enumerate":=⟨_,he,rfl⟩
 unfold pyNext
 refine wpAny_bind (wpAny_attempt (wpAny_callSpecial?_slot (name:=Str.ofString "__next__") hT F.slot_enumerate_next
  (wpAny_call_entry F.slot_enumerate_next hT F.entry_enumerate_next ?_ (F.args_enumerate_next_1 _))))
 show wpAny _ _ (field (.ref e) 2 >>= _) _ _ _
 refine wpAny_bind (wpAny_field he rfl (x:=.ref it) rfl ?_)
 refine wpAny_bind (D.done _ _ _ hst fun h' x he' hx'=>?_)
 obtain ⟨o,ho,hc⟩:=hx'
 refine wpAny_bind (wpAny_isInstance (T:="StopIteration") (b:=true) ⟨o,ho,hc⟩ isSubtype_stop ?_)
 exact wpAny_pure (hQ _ he')
theorem sR {e it:Addr} {fp:List Addr} {n i:Nat} {P:Nat -> Value -> Prop} {St:Nat -> Heap -> Prop} {f0 f1 old:Value} {Q:Option Value -> Shared -> Prop}
  (D:Draws prog w A.in1 it fp n P St) (he:yv s.heap e it i f0 f1 old) (hf:OwnF f0) (hst:St i s.heap) (hlt:i < n) (hne:e ≠ it) (hef:e ∉ fp)
  (hQ:∀ x h' tk f0' f1' old',P i x -> yv h' e it ((i:Int) + 1) f0' f1' old' -> OwnF f0' -> St (i + 1) h' →
   h'.get? s.heap.objs.size = some { cls:=.type "tuple",data:=.seq #[.int i tk,x] } -> h'.objs.size = s.heap.objs.size + 1 →
   (∀ b o,b ≠ e -> b ≠ it -> s.heap.get? b = some o -> h'.get? b = some o) -> Q (some (.ref s.heap.objs.size)) { s with heap:=h',toks:=tk + 1 }) :
  wpAny (model prog w) A (pyNext (.ref e)) Q E s:=by
 have hT:s.TypeIs (.ref e) "enumerate":=⟨_,he,rfl⟩
 unfold pyNext
 exact wpAny_bind (wpAny_attempt (wpAny_callSpecial?_slot (name:=Str.ofString "__next__") hT F.slot_enumerate_next
  (wpAny_call_entry F.slot_enumerate_next hT F.entry_enumerate_next
   (j9 D he hf hst hlt hne hef fun x h' tk f0' f1' old' a b c d e1 f k=>wpAny_pure (hQ x h' tk f0' f1' old' a b c d e1 f k)) (F.args_enumerate_next_1 _))))
theorem Zb {e it:Addr} {i:Int} {f0 f1 old:Value} {Q:VS7} (he:yv s.heap e it i f0 f1 old) (h:Q (.ref e) s):wpAny (model prog w) A (pyIter (.ref e)) Q E s:=by
 have hT:s.TypeIs (.ref e) "enumerate":=⟨_,he,rfl⟩
 refine wpAny_pyIter_slot hT F.slot_enumerate_iter (wpAny_call_entry F.slot_enumerate_iter hT F.entry_enumerate_iter ?_ (F.args_enumerate_iter_1 _))
 show wpAny _ _ (ret (.ref e)) _ _ s
 exact wpAny_pure ⟨_,rfl,"enumerate",_,hT,F.slot_enumerate_next.lookup,h⟩
def EnJ (s0:Shared) (c:Bool) (e jt a:Addr) (its:Array Value) (acc:List Value) (s:Shared):Prop :=
 ∃ (h:Heap) (tk:Nat) (f0 f1 old:Value),s = { s0 with heap:=h,toks:=tk } /\ yv h e jt (acc.length:Int) f0 f1 old /\ OwnF f0 /\ wX c h jt a acc.length /\ SeqC c h a its /\ acc.length <= its.size /\ s0.heap.objs.size <= h.objs.size ∧
  (∀ (i:Nat) (v:Value),acc[i]? = some v -> ∃ (T:Addr) (t:Tok) (x:Value),v = .ref T /\ s0.heap.objs.size <= T /\ its[i]? = some x /\ h.get? T = some { cls:=.type "tuple",data:=.seq #[.int i t,x] }) ∧
  ∀ b o,b ≠ e -> b ≠ jt -> s0.heap.get? b = some o -> h.get? b = some o
def EnF (s0:Shared) (e jt:Addr) (its:Array Value) (acc:List Value) (s:Shared):Prop :=
 ∃ (h:Heap) (tk:Nat),s = { s0 with heap:=h,toks:=tk } /\ acc.length = its.size /\ (∃ o,h.get? e = some o) ∧
  (∀ (i:Nat) (v:Value),acc[i]? = some v -> ∃ (T:Addr) (t:Tok) (x:Value),v = .ref T /\ s0.heap.objs.size <= T /\ its[i]? = some x /\ h.get? T = some { cls:=.type "tuple",data:=.seq #[.int i t,x] }) ∧
  ∀ b o,b ≠ e -> b ≠ jt -> s0.heap.get? b = some o -> h.get? b = some o
theorem Wy {s0:Shared} (hh:A.handled = none) (c:Bool) (e jt a:Addr) (hej:e ≠ jt) (hae:a ≠ e) (haj:a ≠ jt) (its:Array Value) :
  Wk prog w A "enumerate" e its.size (fun S=>S ∉ [e,jt,a] /\ s0.heap.objs.size <= S) (EnJ s0 c e jt a its) (EnF s0 e jt its) where
 ty:=fun acc s ⟨h,tk,f0,f1,old,es,he,_⟩=>by subst es; exact ⟨_,he,rfl⟩
 self:=fun acc s Q E ⟨h,tk,f0,f1,old,es,he,_⟩ q=>by subst es; exact Zb (s:={ s0 with heap:=h,toks:=tk }) he q
 push:=fun acc s o ⟨h,tk,f0,f1,old,es,he,hf,hi,hs,hl,hz,ht,hk⟩=>by
  subst es
  refine ⟨h.push o,tk,f0,f1,old,rfl,Heap.get?_push_of_some _ he,hf,hi.at fun ob q=>Heap.get?_push_of_some _ q,?_,hl,by rw [Heap.size_push]; omega,fun i v hv=>?_,fun b ob b1 b2 q=>Heap.get?_push_of_some _ (hk b ob b1 b2 q)⟩
  ·cases c
   ·exact Heap.IsList.push hs o
   ·exact Heap.IsTuple.push hs o
  ·obtain ⟨T,t,x,e1,e2,e3,e4⟩:=ht i v hv
   exact ⟨T,t,x,e1,e2,e3,Heap.get?_push_of_some _ e4⟩
 stay:=fun acc s S ob h' ⟨h,tk,f0,f1,old,es,he,hf,hi,hs,hl,hz,ht,hk⟩ hS hob hc k hsz=>by
  subst es
  have nS:S ≠ e /\ S ≠ jt /\ S ≠ a:=by simpa using hS.1
  have k':∀ b o,b ≠ S -> h.get? b = some o -> h'.get? b = some o:=k
  have hob':h.get? S = some ob:=hob
  refine ⟨h',tk,f0,f1,old,rfl,k' e _ (Ne.symm nS.1) he,hf,hi.at fun o q=>k' jt o (Ne.symm nS.2.1) q,?_,hl,by rw [hsz]; exact hz,fun i v hv=>?_,fun b o b1 b2 q=>?_⟩
  ·cases c
   ·exact Heap.IsList.at hs fun o q=>k' a o (Ne.symm nS.2.2) q
   ·exact Heap.IsTuple.at hs fun o q=>k' a o (Ne.symm nS.2.2) q
  ·obtain ⟨T,t,x,e1,e2,e3,e4⟩:=ht i v hv
   refine ⟨T,t,x,e1,e2,e3,k' T _ (fun z=>?_) e4⟩
   rw [z,hob'] at e4
   cases e4
   exact absurd hc (by show ¬ (Value.type "tuple" = Value.type "list"); decide)
  ·by_cases z:b = S
   ·exact absurd (Heap.lt_size q) (by rw [z]; exact Nat.not_lt.mpr hS.2)
   ·exact k' b o z (hk b o b1 b2 q)
 next:=fun acc s S ob Q E ⟨h,tk,f0,f1,old,es,he,hf,hi,hs,hl,hz,ht,hk⟩ hS hob hc q1 q2=>by
  subst es
  have nS:S ≠ e /\ S ≠ jt /\ S ≠ a:=by simpa using hS.1
  have hob':h.get? S = some ob:=hob
  by_cases hlt:acc.length < its.size
  ·refine sR (s:={ s0 with heap:=h,toks:=tk }) (sO (A:=A.in1) hh c jt a haj its) he hf ⟨hi,hs⟩ hlt hej (by simp [hej,Ne.symm hae]) fun x h' tk' f0' f1' old' hx he' hf' hst hT hsz hkk=>?_
   have elen:(acc ++ [Value.ref h.objs.size]).length = acc.length + 1:=by rw [List.length_append]; rfl
   refine q1 _ _ hlt ⟨h',tk' + 1,f0',f1',old',rfl,?_,hf',?_,hst.2,by rw [elen]; omega,?_,fun i v hv=>?_,fun b o b1 b2 q=>hkk b o b1 b2 (hk b o b1 b2 q)⟩ (hkk S _ nS.1 nS.2.1 hob')
   ·rw [elen]; exact he'
   ·rw [elen]; exact hst.1
   ·rw [hsz]; exact Nat.le_succ_of_le hz
   ·by_cases hi':i < acc.length
    ·rw [List.getElem?_append_left hi'] at hv
     obtain ⟨T,t,y,e1,e2,e3,e4⟩:=ht i v hv
     have lt:=Heap.lt_size e4
     refine ⟨T,t,y,e1,e2,e3,hkk T _ (fun z=>?_) (fun z=>?_) e4⟩
     ·rw [z] at e4
      have q:=congrArg (fun o:Option Obj=>o.map Obj.cls) (e4.symm.trans he)
      exact absurd (Value.type.inj (Option.some.inj q)) (by decide)
     ·obtain ⟨oj,hoj,_⟩:∃ o,h.get? jt = some o /\ o.cls = .type (cnC c):=by
       cases c
       ·obtain ⟨o,a1,a2,_⟩:=(show h.IsListIter jt a acc.length from hi); exact ⟨o,a1,a2⟩
       ·obtain ⟨o,a1,a2,_⟩:=(show h.IsTupleIter jt a acc.length from hi); exact ⟨o,a1,a2⟩
      rename_i hcj
      rw [z,hoj] at e4
      rw [Option.some.inj e4] at hcj
      exact absurd (Value.type.inj hcj) (by cases c <;> decide)
    ·have hil:i < (acc ++ [Value.ref h.objs.size]).length:=(List.getElem?_eq_some_iff.mp hv).1
     have hie:i = acc.length:=by omega
     subst hie
     rw [List.getElem?_append_right (Nat.le_refl _),Nat.sub_self] at hv
     cases hv
     exact ⟨h.objs.size,tk',x,rfl,hz,hx,hT⟩
  ·have hle:acc.length = its.size:=by omega
   refine Za (s:={ s0 with heap:=h,toks:=tk }) (wx (A:=A.in1) hh c jt a its (i:=acc.length) (by simp; omega)) he ⟨rfl,hi,hs⟩ fun h' eb=>?_
   refine q2 _ ⟨h',tk,rfl,hle,⟨_,eb e _ hej he⟩,fun i v hv=>?_,fun b o b1 b2 q=>eb b o b2 (hk b o b1 b2 q)⟩ (eb S _ nS.2.1 hob')
   ·obtain ⟨T,t,y,e1,e2,e3,e4⟩:=ht i v hv
    refine ⟨T,t,y,e1,e2,e3,eb T _ (fun z=>?_) e4⟩
    obtain ⟨oj,hoj,hcj⟩:∃ o,h.get? jt = some o /\ o.cls = .type (cnC c):=by
     cases c
     ·obtain ⟨o,a1,a2,_⟩:=(show h.IsListIter jt a acc.length from hi); exact ⟨o,a1,a2⟩
     ·obtain ⟨o,a1,a2,_⟩:=(show h.IsTupleIter jt a acc.length from hi); exact ⟨o,a1,a2⟩
    rw [z,hoj] at e4
    rw [Option.some.inj e4] at hcj
    exact absurd (Value.type.inj hcj) (by cases c <;> decide)
end
def updT (H:Hp):List (Addr × HO) -> Hp
 | []=>H
 | p :: r=>updT (upd H p.1 p.2) r
theorem wZ {b:Addr}:∀ {ts:List (Addr × HO)} {H:Hp},(∀ p ∈ ts,p.1 ≠ b) -> updT H ts b = H b
 | [],_,_=>rfl
 | p :: r,H,h=>by
  show updT (upd H p.1 p.2) r b = _
  rw [wZ fun q hq=>h q (List.mem_cons_of_mem _ hq),zm (Ne.symm (h p (by simp)))]
theorem tN:∀ {ts:List (Addr × HO)} {H:Hp},(ts.map (·.1)).Nodup -> ∀ p ∈ ts,updT H ts p.1 = some p.2
 | q :: r,H,hn,p,hp=>by
  show updT (upd H q.1 q.2) r p.1 = _
  rw [List.map_cons,List.nodup_cons] at hn
  rcases List.mem_cons.mp hp with rfl | hp
  ·rw [wZ fun z hz e=>hn.1 (by rw [← e]; exact List.mem_map_of_mem hz),zc]
  ·exact tN hn.2 p hp
section
variable {X:Cx} {pins:List (Addr × Obj)} {σ:L2.St} {H:Hp} {s:Shared} {h':Heap}
theorem Yd {fp:List Addr} {t':Nat} (I:Inv X pins σ H s) (k:∀ b o,b ∉ fp -> s.heap.get? b = some o -> h'.get? b = some o) (ff:∀ b ∈ fp,FpOk X pins H b) (ts:List (Addr × HO)) (hn:(ts.map (·.1)).Nodup)
  (hT:∀ p ∈ ts,s.heap.objs.size <= p.1) (new:∀ p ∈ ts,∀ H,zV X.prog X.w H h' p.1 p.2):Inv X pins σ (updT H ts) { s with heap:=h',toks:=t' }:=by
 have I1:Inv X pins σ H { s with heap:=h',toks:=t' }:=tM I k ff
 have key:∀ (ts:List (Addr × HO)) (H:Hp),HOk X.prog X.w H h' -> (ts.map (·.1)).Nodup -> (∀ p ∈ ts,H p.1 = none) -> (∀ p ∈ ts,∀ H,zV X.prog X.w H h' p.1 p.2) -> HOk X.prog X.w (updT H ts) h':=by
  intro ts
  induction ts with
  | nil=>intro H h _ _ _; exact h
  | cons p r ih =>
   intro H h hn hf hw
   rw [List.map_cons,List.nodup_cons] at hn
   refine ih (upd H p.1 p.2) (HOk.track h (hf p (by simp)) ?_) hn.2 (fun q hq=>?_) fun q hq=>hw q (List.mem_cons_of_mem _ hq)
   ·exact hw p (by simp) _
   ·rw [zm fun e=>hn.1 (by rw [← e]; exact List.mem_map_of_mem hq)]
    exact hf q (List.mem_cons_of_mem _ hq)
 have none':∀ p ∈ ts,H p.1 = none:=fun p hp=>I.hok.fresh (hT p hp)
 have hok:HOk X.prog X.w (updT H ts) h':=key ts H I1.hok hn none' new
 have old:∀ b,b < s.heap.objs.size -> updT H ts b = H b:=fun b hb=>wZ fun p hp e=>Nat.lt_irrefl _ (Nat.lt_of_lt_of_le (e ▸ hb) (hT p hp))
 have same:∀ b (o:HO),H b = some o -> updT H ts b = some o:=fun b o e=>by
  rw [wZ fun p hp e2=>by rw [← e2,none' p hp] at e; cases e]; exact e
 refine I.step (g':=s.gens) (d':=s.drawn) (ch:=fp) (fun b hb=>?_) (fun b o _ _ hc e _=>k b o hc e) (fun b o _ _ hc e _=>⟨o.slots,k b o hc e⟩) (fun b u _ e n=>by rw [old b (Heap.lt_size e)]; exact n) (fun b o hc e=>⟨o,k b o hc e⟩)
  (fun b xs e=>same b _ e) (fun b u xs e=>same b _ e) (fun b ps e=>⟨#[],by rw [same b _ e]; simp⟩) (fun m hm=>?_) hok I.bare
 ·obtain ⟨_,f1,_,f3,f4,f5⟩:=ff b hb
  exact ⟨f3,f1,f4,f5⟩
 ·obtain ⟨o,es,ep,ho,r⟩:=hm
  exact ⟨o,es,ep,k _ o (fun z=>(ff _ z).2.1 rfl) ho,r⟩
end
theorem VC:typeLookup (.type "enumerate") "__len__" = pure none:=by rw [typeLookup_type,builtinLookup_eq_fast]; kernel_rfl
theorem Wz:typeLookup (.type "enumerate") "__length_hint__" = pure none:=by rw [typeLookup_type,builtinLookup_eq_fast]; kernel_rfl
theorem uh {ts:List (Addr × HO)} {H:Hp} (h:∀ p ∈ ts,H p.1 = none) {b:Addr} {o:HO} (e:H b = some o):updT H ts b = some o:=by
 rw [wZ fun p hp e2=>by rw [← e2,h p hp] at e; cases e]; exact e
theorem Ye {ts:List (Addr × HO)} {H:Hp} (h:∀ p ∈ ts,H p.1 = none):Grow [] H (updT H ts) :=
 ⟨fun b o _ e=>uh h e,fun b xs e=>uh h e,fun b o u e=>uh h e⟩
def rfA:Value -> Addr
 | .ref a=>a
 | _=>0
theorem sS:∀ {acc:List Value},(∀ v ∈ acc,∃ T:Addr,v = .ref T) -> Vals ((acc.map rfA).map V.ref) acc
 | [],_=>.nil
 | v :: acc,h=>by
  obtain ⟨T,rfl⟩:=h v (by simp)
  exact .cons rfl (sS fun u hu=>h u (List.mem_cons_of_mem _ hu))
section
variable {X:Cx} {pins:List (Addr × Obj)} {σ:L2.St} {H:Hp} {s0:Shared} {K:FG7}
theorem VD {e jt:Addr} {xs:List V} {us:List Value} {acc:List Value} {h2 h3:Heap} {tk:Nat} (I:Inv X pins σ H s0) (fe:FpOk X pins H e) (fj:FpOk X pins H jt) (rv:Vals xs us) (hl:acc.length = us.length)
  (ht:∀ (i:Nat) (v:Value),acc[i]? = some v -> ∃ (T:Addr) (t:Tok) (x:Value),v = .ref T /\ s0.heap.objs.size <= T /\ us[i]? = some x /\ h2.get? T = some { cls:=.type "tuple",data:=.seq #[.int i t,x] })
  (hk:∀ b o,b ≠ e -> b ≠ jt -> s0.heap.get? b = some o -> h2.get? b = some o) (h23:∀ b o,h2.get? b = some o -> h3.get? b = some o)
  (S:Addr) (o:HO) (hS:s0.heap.objs.size <= S) (hST:∀ T,(∃ (i:Nat) (t:Tok) (x:Value),h2.get? T = some { cls:=.type "tuple",data:=.seq #[.int (i:Int) t,x] }) -> T ≠ S)
  (hO:∀ H,zV X.prog X.w H h3 S o) :
  ∃ H',Inv X pins σ H' { s0 with heap:=h3,toks:=tk } /\ Grow [] H H' /\ H S = none /\ H' S = some o /\ acc = (acc.map rfA).map Value.ref /\ ∀ (i:Nat) (x:V),xs[i]? = some x -> ∃ T,(acc.map rfA)[i]? = some T /\ H' T = some (.tup [.int i,x]):=by
 have hxl:=rv.length
 have get:∀ i,i < xs.length -> ∃ (T:Addr) (t:Tok) (x:V) (u:Value),acc[i]? = some (.ref T) /\ (acc.map rfA).getD i 0 = T /\ s0.heap.objs.size <= T /\ xs[i]? = some x /\ xs.getD i .non = x /\ RelV x u /\ h2.get? T = some { cls:=.type "tuple",data:=.seq #[.int i t,u] }:=by
  intro i hi
  have ha:acc[i]? = some acc[i]:=List.getElem?_eq_getElem (by omega)
  obtain ⟨T,t,u,e1,e2,e3,e4⟩:=ht i _ ha
  obtain ⟨x,hx,rx⟩:=Ws rv i (by omega)
  rw [e1] at ha
  have hu:us[i]? = some us[i]:=List.getElem?_eq_getElem (by omega)
  rw [hu] at e3
  cases e3
  exact ⟨T,t,x,us[i],ha,by rw [List.getD_eq_getElem?_getD,List.getElem?_map,ha]; rfl,e2,hx,by rw [List.getD_eq_getElem?_getD,hx]; rfl,rx,e4⟩
 have hacc:acc = (acc.map rfA).map Value.ref:=by
  refine List.ext_getElem? fun i=>?_
  by_cases hi:i < xs.length
  ·obtain ⟨T,t,x,u,e1,_⟩:=get i hi
   rw [List.getElem?_map,List.getElem?_map,e1]; rfl
  ·rw [List.getElem?_eq_none (by omega),List.getElem?_eq_none (by rw [List.length_map,List.length_map]; omega)]
 let ts:List (Addr × HO):=((List.range xs.length).map fun i=>((acc.map rfA).getD i 0,HO.tup [.int i,xs.getD i .non])) ++ [(S,o)]
 have hT:∀ p ∈ ts,s0.heap.objs.size <= p.1:=by
  intro p hp
  rcases List.mem_append.mp hp with hp | hp
  ·obtain ⟨i,hi,rfl⟩:=List.mem_map.mp hp
   obtain ⟨T,t,x,u,_,e2,e3,_⟩:=get i (List.mem_range.mp hi)
   show s0.heap.objs.size <= (acc.map rfA).getD i 0
   rw [e2]; exact e3
  ·rw [List.mem_singleton.mp hp]; exact hS
 have hn:(ts.map (·.1)).Nodup:=by
  show (List.map _ (_ ++ [(S,o)])).Nodup
  rw [List.map_append,List.map_map,List.nodup_append]
  refine ⟨?_,by simp,?_⟩
  ·refine List.pairwise_map.mpr ((List.pairwise_lt_range (n:=xs.length)).imp_of_mem fun {a b} ha hb hab=>?_)
   obtain ⟨T,t,x,u,_,e2,_,_,_,_,e4⟩:=get a (List.mem_range.mp ha)
   obtain ⟨T',t',x',u',_,e2',_,_,_,_,e4'⟩:=get b (List.mem_range.mp hb)
   show (acc.map rfA).getD a 0 ≠ (acc.map rfA).getD b 0
   rw [e2,e2']
   intro z
   rw [z,e4'] at e4
   have z2:=Option.some.inj e4
   injection z2 with _ _ z3
   injection z3 with z4
   have z5:=congrArg (fun q:Array Value=>q[0]?) z4
   have z6:some (Value.int (b:Int) t') = some (Value.int (a:Int) t):=z5
   injection z6 with z7
   injection z7 with z8
   omega
  ·intro a ha b hb
   obtain ⟨i,hi,rfl⟩:=List.mem_map.mp ha
   have hb':b = S:=by simpa using hb
   subst hb'
   obtain ⟨T,t,x,u,_,e2,_,_,_,_,e4⟩:=get i (List.mem_range.mp hi)
   show (acc.map rfA).getD i 0 ≠ b
   rw [e2]
   exact hST T ⟨i,t,u,e4⟩
 have hN:∀ p ∈ ts,H p.1 = none:=fun p hp=>I.hok.fresh (hT p hp)
 have I2:Inv X pins σ (updT H ts) { s0 with heap:=h3,toks:=tk }:=by
  refine Yd (fp:=[e,jt]) I (fun b ob hb q=>h23 b ob (hk b ob (fun z=>hb (by simp [z])) (fun z=>hb (by simp [z])) q)) (fun b hb=>?_) ts hn hT (fun p hp=>?_)
  ·simp only [List.mem_cons,List.mem_nil_iff,or_false] at hb
   rcases hb with rfl | rfl
   ·exact fe
   ·exact fj
  ·rcases List.mem_append.mp hp with hp | hp
   ·obtain ⟨i,hi,rfl⟩:=List.mem_map.mp hp
    obtain ⟨T,t,x,u,_,e2,_,_,e3,rx,e4⟩:=get i (List.mem_range.mp hi)
    intro H
    show zV X.prog X.w H h3 ((acc.map rfA).getD i 0) (.tup [.int i,xs.getD i .non])
    rw [e2,e3]
    exact ⟨by show 2 <= sizeLine; decide,[.int i t,u],.cons ⟨_,rfl⟩ (.cons rx .nil),_,h23 _ _ e4,rfl,0,rfl⟩
   ·rw [List.mem_singleton.mp hp]; exact hO
 refine ⟨updT H ts,I2,Ye hN,I.hok.fresh hS,tN hn (S,o) (List.mem_append_right _ (by simp)),hacc,fun i x hx=>?_⟩
 have hi:i < xs.length:=(List.getElem?_eq_some_iff.mp hx).1
 obtain ⟨T,t,x',u,e1,e2,_,e3,e4,_⟩:=get i hi
 refine ⟨T,by rw [List.getElem?_map,e1]; rfl,?_⟩
 have z:=tN (H:=H) hn ((acc.map rfA).getD i 0,HO.tup [.int i,xs.getD i .non]) (List.mem_append_left _ (List.mem_map.mpr ⟨i,List.mem_range.mpr hi,rfl⟩))
 rw [e2,e4] at z
 rw [hx] at e3
 cases e3
 exact z
end
section
variable {X:Cx} {K:FG7} {a:Expr} {ta:TA} {p p2 pos pos2:Pos}
def VE (c:Bool) (K:FG7) (tp:Bool) (ta:TA):TE:=fun σ H Q=>ta σ H fun vs H1=>∃ a xs,vs = [.ref a] /\ SqC c K H1 a xs /\ xs.length <= 1000 ∧
 ∀ (r:Addr) (Ts:List Addr) (H':Hp),Grow [] H1 H' -> H1 r = none -> H' r = some (if tp = true then .tup (Ts.map V.ref) else .lst (Ts.map V.ref)) -> Ts.length = xs.length -> (∀ (i:Nat) (x:V),xs[i]? = some x -> ∃ T,Ts[i]? = some T /\ H' T = some (.tup [.int i,x])) -> Q (.ref r) H'
theorem sT (c:Bool) (hK:X.K = K) (hc:X.calm = true) (hgl:Gl X "tuple") (hml:X.mg "tuple" = none) (hge:Gl X "enumerate") (hme:X.mg "enumerate" = none) (ha:PA X [a] ta)
  (hs:starEach [a] X.env = [(false,eval a X.env)]:=by rfl) (hs2:starEach [(.Call (.Name "enumerate" p2) [a] [] pos2:Expr)] X.env = [(false,eval (.Call (.Name "enumerate" p2) [a] [] pos2) X.env)]:=by rfl) :
  PE X (.Call (.Name "tuple" p) [.Call (.Name "enumerate" p2) [a] [] pos2] [] pos) (VE c K true ta):=by
 subst hK
 intro pins s σ H Q I h
 refine wpAny_Call_Name_kw (we I hgl hml zG (PyProof.Rows.callWith_type1 ?_ hs2 rfl))
 rw [hs2]
 show wpAny _ _ (spliced [(false,eval (.Call (.Name "enumerate" p2) [a] [] pos2) X.env)]) _ _ s
 refine Calls.spliced_cons ?_
 refine Call_ (we I hge hme X2 (PyProof.Rows.callWith_type1 (thn (ha pos2 pins s σ H _ I h) fun us s1 ⟨vs,H1,I1,r1,q1⟩=>?_) hs rfl))
 obtain ⟨t,xs,e,hq,hlen,q⟩:=q1
 subst e
 obtain ⟨u,rfl,e1⟩:=wM r1
 cases (show u = Value.ref t from e1)
 obtain ⟨its,rv,pq⟩:=yT I1 hq
 have hlt:=pq.lt
 have hl:=rv.length
 refine uZ pq fun h' he hit hz' hk=>Calls.spliced_nil ?_
 have I2:Inv X pins σ H1 { s1 with heap:=h' }:=I1.kept (t':=s1.toks) hk
 have ez:s1.heap.objs.size + 1 < h'.objs.size:=Heap.lt_size he
 have fe:=I1.fpOk (Nat.le_succ s1.heap.objs.size) (I1.hok.fresh (Nat.le_succ s1.heap.objs.size))
 have fj:=I1.fpOk (Nat.le_refl s1.heap.objs.size) (I1.hok.fresh (Nat.le_refl s1.heap.objs.size))
 have ps:SeqC c h' t its.toArray:=by
  cases c
  ·exact Heap.IsList.at pq (hk t)
  ·exact Heap.IsTuple.at pq (hk t)
 refine qi (A:=X.A) (s:={ s1 with heap:=h' }) (Wy (A:=X.A.in1.in1.in1) (s0:={ s1 with heap:=h' }) (I.ok.hd hc) c (s1.heap.objs.size + 1) s1.heap.objs.size t (Nat.succ_ne_self _) (Nat.ne_of_lt (Nat.lt_succ_of_lt hlt)) (Nat.ne_of_lt hlt) its.toArray)
  (by rw [List.size_toArray,← hl]; exact Nat.le_of_lt (zp hlen)) (by decide) (by decide) VC Wz ⟨h',s1.toks,.none,.bool false,.none,rfl,he,.inl rfl,hit,ps,Nat.zero_le _,Nat.le_refl _,(fun i v hv=>by cases hv),fun b o _ _ q=>q⟩ ⟨?_,Nat.le_refl _⟩ (Nat.ne_of_gt ez) ?_
 ·have n1:h'.objs.size ≠ s1.heap.objs.size + 1:=Nat.ne_of_gt ez
  have n2:h'.objs.size ≠ s1.heap.objs.size:=Nat.ne_of_gt (Nat.lt_of_succ_lt ez)
  have n3:h'.objs.size ≠ t:=Nat.ne_of_gt (Nat.lt_trans hlt (Nat.lt_of_succ_lt ez))
  simp only [List.mem_cons,List.mem_nil_iff,or_false,not_or]
  exact ⟨n1,n2,n3⟩
 ·rintro s' acc ⟨h2,tk,rfl,ha1,⟨oe,hoe⟩,ha2,ha3⟩ hal
  have hvr:Vals ((acc.map rfA).map V.ref) acc:=sS fun v hv=>by
   obtain ⟨i,hi⟩:=List.getElem?_of_mem hv
   obtain ⟨T,_,_,z,_⟩:=ha2 i v hi
   exact ⟨T,z⟩
  have hle:h'.objs.size <= h2.objs.size:=by
   rw [hz']
   exact Heap.lt_size hoe
  obtain ⟨H',I3,g,hn,hS',hacc,hts⟩:=VD (e:=s1.heap.objs.size + 1) (jt:=s1.heap.objs.size) (h2:=h2) (h3:=h2.push { cls:=.type "tuple",data:=.seq acc.toArray }) (tk:=tk) I2 (by exact fe) (by exact fj) rv (by rw [ha1,List.size_toArray]) (fun i v hv=>by
   obtain ⟨T,t,x,z1,z2,z3,z4⟩:=ha2 i v hv
   exact ⟨T,t,x,z1,z2,by simpa using z3,z4⟩) ha3 (fun b o q=>Heap.get?_push_of_some _ q) h2.objs.size (.tup ((acc.map rfA).map V.ref)) hle (fun T ⟨i,t,x,z⟩ e=>by
    exact absurd (Heap.lt_size z) (by rw [e]; exact Nat.lt_irrefl _)) (fun H=>⟨by rw [List.length_map,List.length_map,ha1,List.size_toArray,← hl]; exact Nat.le_of_lt (zp hlen),acc,hvr,_,Heap.get?_push_size _ rfl,rfl,0,rfl⟩)
  exact ⟨.ref h2.objs.size,H',I3,rfl,q _ _ H' g hn hS' (by rw [List.length_map,ha1,List.size_toArray,hl]) hts⟩
end
section
variable {X:Cx} {K:FG7}
theorem Xp {k:Nat} (hK:X.K = K) (hr:Room k X.A):OpR X (compareOp .NotEq) (fun x y H Q=>∃ a b xs,x = .ref a /\ y = .ref b /\ SqL K H a xs /\ SqL K H b [] /\ Q (.bl (!xs.isEmpty)) H):=by
 subst hK
 intro pins s σ H x y v u Q I rx ry h
 obtain ⟨a,b,xs,rfl,rfl,ha,hb,q⟩:=h
 cases rx; cases ry
 obtain ⟨us,r1,t1,_⟩:=I.list ha
 obtain ⟨ws,r2,t2,_⟩:=I.list hb
 have hw:ws.length = 0:=r2.length.symm
 by_cases hl:us.length = ws.length
 ·refine SeqAt.RcNeAt.lists (e:=fun _=>true) t1.isList t2.isList (by simpa using hl) hr.units0 (fun j h1 h2=>absurd h2 (by simp; omega)) _ _ _ _ ?_
  have e:xs = []:=List.length_eq_zero_iff.mp (by rw [r1.length]; omega)
  subst e
  have e2:us = []:=List.length_eq_zero_iff.mp (by omega)
  subst e2
  exact ⟨.bl _,H,I,rfl,q⟩
 ·refine SeqAt.RcNeAt.lists_lengths t1.isList t2.isList (by simpa using hl) hr.units0 _ _ _ _ ?_
  have e:xs.isEmpty = false:=by
   cases xs with
   | nil=>exact absurd (by rw [← r1.length,hw]; rfl) hl
   | cons _ _=>rfl
  rw [e] at q
  exact ⟨.bl _,H,I,rfl,q⟩
end
def zP (H:Hp) (a:Addr):Prop:=∃ p0 c t:Int,H a = some (.lst [.int p0,.int c,.int t]) /\ 0 <= p0
theorem zP.grow {H H':Hp} {a:Addr} (p:zP H a) (g:Grow [] H H'):zP H' a:=by
 obtain ⟨x,y,z,h,q⟩:=p
 exact ⟨x,y,z,g.keep _ _ (by simp) h,q⟩
theorem zP.new {H:Hp} {a l:Addr} (p:zP H a) (hl:H l = none) (o:HO):zP (upd H l o) a:=p.grow (Grow.new hl o)
theorem zP.ne {H:Hp} {a l:Addr} (p:zP H a) (h:H l = none):l ∉ [a]:=by
 intro z
 obtain ⟨x,y,w,hz,_⟩:=p
 rw [List.mem_singleton.mp z,hz] at h
 cases h
def sU (K:FG7):Sp:=sp2 fun x y H Q=>∃ a ns k,x = .ref a /\ y = .int k /\ Scr K H a ns /\ 0 <= k /\ k < 1000 /\ ∀ p H',H p = none -> Grow [] H H' -> zP H' p -> Q (.ref p) H'
def jp (_:FG7):Sp:=sp2 fun x y H Q=>∃ c t:Int,x = .int c /\ y = .int t /\ ∀ n H',0 <= n -> Grow [] H H' -> Q (.int n) H'
def xS (_:FG7):Sp:=sp2 fun x y H Q=>∃ a m,x = .ref a /\ y = .int m /\ zP H a /\ 0 < m /\ m < 2 ^ 200 /\ ∀ n H',0 <= n -> n < m -> Grow [a] H H' -> zP H' a -> Q (.int n) H'
def PrAt (K:FG7) (H:Hp) (x:V) (q:Nat × Nat):Prop:=∃ r,x = .ref r /\ SqT K H r [.int q.1,.int q.2]
theorem Grow.prs {m:List Addr} {H H':Hp} (g:Grow m H H') {K:FG7} {xs:List V} {qs:List (Nat × Nat)} (h:AllR (PrAt K H) xs qs):AllR (PrAt K H') xs qs:=h.imp fun _ _ ⟨r,e,z⟩=>⟨r,e,g.sqT z⟩
def PrsT (K:FG7) (H:Hp) (x:V) (qs:List (Nat × Nat)):Prop:=∃ r xs,x = .ref r /\ SqT K H r xs /\ AllR (PrAt K H) xs qs
theorem Grow.prsT {m:List Addr} {H H':Hp} (g:Grow m H H') {K:FG7} {x:V} {qs:List (Nat × Nat)} (h:PrsT K H x qs):PrsT K H' x qs:=by
 obtain ⟨r,xs,e,h1,h2⟩:=h
 exact ⟨r,xs,e,g.sqT h1,g.prs h2⟩
def Xq (k:Nat) (qs:List (Nat × Nat)):Prop:=∀ q ∈ qs,q.1 < 2 ^ k /\ q.2 < 2 ^ k
def vN (ns:List Int):List Int:=ns.mergeSort fun a b=>decide (a <= b)
theorem tP {ms ns:List Int} (p:ms.Perm ns) (s:ms.Pairwise (· <= ·)):ms = vN ns:=by
 refine PySem.W.ksm_same (p.trans (List.mergeSort_perm ns _).symm) s ?_
 have z:=List.pairwise_mergeSort (le:=fun a b:Int=>decide (a <= b)) (fun a b c h1 h2=>decide_eq_true (Int.le_trans (of_decide_eq_true h1) (of_decide_eq_true h2))) (fun a b=>by
  rcases Int.le_total a b with h | h
  ·simp [h]
  ·simp [h]) ns
 exact z.imp fun h=>of_decide_eq_true h
theorem Zc {ms ns:List Int} (p:ms.Perm ns):vN ms = vN ns:=by
 have z:(vN ms).Perm ms:=List.mergeSort_perm ms _
 refine tP (z.trans p) ?_
 have:=tP (ms:=vN ms) (ns:=ms) z
 have s:=List.pairwise_mergeSort (le:=fun a b:Int=>decide (a <= b)) (fun a b c h1 h2=>decide_eq_true (Int.le_trans (of_decide_eq_true h1) (of_decide_eq_true h2))) (fun a b=>by
  rcases Int.le_total a b with h | h
  ·simp [h]
  ·simp [h]) ms
 exact s.imp fun h=>of_decide_eq_true h
def dupS:List Int -> Option Int
 | a :: b :: r=>if a = b then some a else dupS (b :: r)
 | _=>none
theorem tQ {ms:List Int} {j:Nat} {a:Int} (h:ms[j]? = some a):ms.drop j = a :: ms.drop (j + 1):=by
 have hj:=(List.getElem?_eq_some_iff.mp h)
 rw [List.drop_eq_getElem_cons hj.1,hj.2]
theorem VF {ms:List Int} {j:Nat} {a:Int} (h:ms[j]? = some a) (h2:ms[j + 1]? = some a):dupS (ms.drop j) = some a:=by
 rw [tQ h,tQ h2]; simp [dupS]
theorem VG {ms:List Int} {j:Nat} {a b:Int} (h:ms[j]? = some a) (h2:ms[j + 1]? = some b) (n:a ≠ b):dupS (ms.drop j) = dupS (ms.drop (j + 1)):=by
 rw [tQ h,tQ h2]; simp [dupS,n]
theorem WA {ms:List Int} {j:Nat} (h:ms.length <= j + 1):dupS (ms.drop j) = none:=by
 have:(ms.drop j).length <= 1:=by rw [List.length_drop]; omega
 match e:ms.drop j,this with
 | [],_=>rfl
 | [_],_=>rfl
def zL (rows:List (List Int)) (l:Nat):List Int:=rows.map fun r=>r.getD l 0
def yh (rows:List (List Int)) (l:Nat):Option Int:=dupS (vN (zL rows l))
def xv (k:Nat) (rows:List (List Int)) (o:Option (Nat × Int)):Prop:=match o with
 | none=>∀ l,l <= k -> yh rows l = none
 | some (l,v)=>l <= k /\ yh rows l = some v /\ ∀ j,j < l -> yh rows j = none
theorem xv.one {k:Nat} {rows rows':List (List Int)} {o o':Option (Nat × Int)} (e:∀ l,yh rows l = yh rows' l) (h:xv k rows o) (h':xv k rows' o'):o = o':=by
 cases o with
 | none =>
  cases o' with
  | none=>rfl
  | some p =>
   obtain ⟨l,v⟩:=p
   have z:=h l h'.1
   rw [e,h'.2.1] at z; cases z
 | some p =>
  obtain ⟨l,v⟩:=p
  cases o' with
  | none =>
   have z:=h' l h.1
   rw [← e,h.2.1] at z; cases z
  | some p' =>
   obtain ⟨l',v'⟩:=p'
   obtain ⟨a1,a2,a3⟩:=h
   obtain ⟨b1,b2,b3⟩:=h'
   by_cases c:l < l'
   ·have z:=b3 l c
    rw [← e,a2] at z; cases z
   ·by_cases c2:l' < l
    ·have z:=a3 l' c2
     rw [e,b2] at z; cases z
    ·have:l = l':=by omega
     subst this
     rw [e,b2] at a2
     cases a2; rfl
theorem qj {rows rows':List (List Int)} (p:rows.Perm rows') (l:Nat):yh rows l = yh rows' l:=by
 unfold yh zL
 rw [Zc (p.map fun r=>r.getD l 0)]
def zS (k:Nat) (pl:List (Nat × Nat)):List (List Int):=pl.map fun q=>zO k q.1 q.2
def vt (K:FG7) (H:Hp) (x:V) (o:Option (Nat × Int)):Prop:=match o with
 | none=>x = .non
 | some (l,v)=>∃ r,x = .ref r /\ SqT K H r [.int l,.int v]
theorem Grow.clash {m:List Addr} {H H':Hp} (g:Grow m H H') {K:FG7} {x:V} {o:Option (Nat × Int)} (h:vt K H x o):vt K H' x o:=by
 cases o with
 | none=>exact h
 | some p =>
  obtain ⟨l,v⟩:=p
  obtain ⟨r,e,z⟩:=h
  exact ⟨r,e,g.sqT z⟩
def w4 (K:FG7):Sp:=sp2 fun x y H Q=>∃ (k:Nat) (pl:List (Nat × Nat)),x = .int k /\ k <= 4 /\ PrsT K H y pl /\ pl.length <= 40 /\ Xq k pl /\ ∀ H',Grow [] H H' -> Q .non H'
def yq (K:FG7):Sp:=sp2 fun x y H Q=>∃ (k:Nat) (pl:List (Nat × Nat)),x = .int k /\ k <= 4 /\ PrsT K H y pl /\ pl.length <= 40 /\ Xq k pl /\ ∀ o y H',Grow [] H H' -> vt K H' y o -> xv k (zS k pl) o -> Q y H'
def xK (k:Nat) (rows:List (List Int)):Prop:=rows.length = k /\ ∀ r ∈ rows,r.length = 2 ^ (k - 1) /\ ∀ b ∈ r,b = 0 \/ b = 1
def WB (k:Nat) (rows:List (List Int)) (st l:Nat):Nat:=if (rows.getD (st - 1) []).getD (wE k l st).toNat 0 = 1 then l ^^^ 2 ^ (k - st) else l
def ledN (k:Nat) (rows:List (List Int)) (h:Nat):Nat -> Nat
 | 0=>h
 | n + 1=>WB k rows (n + 1) (ledN k rows h n)
theorem qk:∀ k:Fin 5,∀ st:Fin 5,1 <= st.val -> st.val <= k.val -> ∀ l:Fin 16,l.val < 2 ^ k.val →
  0 <= wE k.val l.val st.val /\ wE k.val l.val st.val < 2 ^ (k.val - 1) /\ numL (xI k.val l.val) = (l.val:Int) /\ numL ((xI k.val l.val).set (st.val - 1) (1 - (xI k.val l.val).getD (st.val - 1) 0)) = ((l.val ^^^ 2 ^ (k.val - st.val):Nat):Int) /\ l.val ^^^ 2 ^ (k.val - st.val) < 2 ^ k.val:=by
 decide +kernel
theorem VH {k st l:Nat} (k4:k <= 4) (s1:1 <= st) (s2:st <= k) (hl:l < 2 ^ k) :
  0 <= wE k l st /\ wE k l st < ((2 ^ (k - 1):Nat):Int) /\ numL (xI k l) = (l:Int) /\ numL ((xI k l).set (st - 1) (1 - (xI k l).getD (st - 1) 0)) = ((l ^^^ 2 ^ (k - st):Nat):Int) /\ l ^^^ 2 ^ (k - st) < 2 ^ k:=by
 have p:=zU k4
 have z:=qk ⟨k,by omega⟩ ⟨st,by omega⟩ s1 s2 ⟨l,by omega⟩ hl
 refine ⟨z.1,?_,z.2.2.1,z.2.2.2.1,z.2.2.2.2⟩
 have:((2 ^ (k - 1):Nat):Int) = (2:Int) ^ (k - 1):=Int.natCast_pow 2 (k - 1)
 rw [this]; exact z.2.1
theorem Xr {k st l:Nat} {rows:List (List Int)} (k4:k <= 4) (s1:1 <= st) (s2:st <= k) (hl:l < 2 ^ k):WB k rows st l < 2 ^ k:=by
 unfold WB
 split
 ·exact (VH k4 s1 s2 hl).2.2.2.2
 ·exact hl
theorem ql {k h:Nat} {rows:List (List Int)} (k4:k <= 4) (hh:h < 2 ^ k):∀ n,n <= k -> ledN k rows h n < 2 ^ k
 | 0,_=>hh
 | n + 1,hn=>Xr k4 (by omega) hn (ql k4 hh n (by omega))
def ledL (k:Nat) (rows:List (List Int)):List Int:=(List.range (2 ^ k)).map fun h=>(ledN k rows h k:Int)
def Yf (K:FG7):Sp:=sp2 fun x y H Q=>∃ (k:Nat) (rows:List (List Int)),x = .int k /\ y9 K H y rows /\ k <= 4 /\ xK k rows /\ ∀ y H',Grow [] H H' -> zy K H' y (ledL k rows) -> Q y H'
def ui (K:FG7):Sp:=sp2 fun x y H Q=>∃ (a:Addr) (k:Nat),x = .ref a /\ y = .int k /\ k <= 4 /\ zP H a /\ ∀ y rows H',Grow [a] H H' -> zP H' a -> y9 K H' y rows -> xK k rows -> Q y H'
def jq (K:FG7):Sp:=sp2 fun x y H Q=>∃ (a l:Addr) (xs:List V),x = .ref a /\ y = .ref l /\ zP H a /\ H l = some (.lst xs) /\ xs.length <= 60 /\ ∀ lf ys H',Grow [a] H H' -> zP H' a -> H' lf = some (.lst ys) -> ys.Perm xs -> Q (.ref lf) H'
theorem Zd {l:List V} {i:Nat} (h:i < l.length):(l[i] :: l.eraseIdx i).Perm l:=by
 rw [List.eraseIdx_eq_take_drop_succ]
 have e:l = l.take i ++ l[i] :: l.drop (i + 1):=by rw [List.getElem_cons_drop,List.take_append_drop]
 exact List.perm_middle.symm.trans (.of_eq e.symm)
mutual
inductive Dq (K:FG7) (H:Hp):V -> PyData -> Prop
 | non:Dq K H .non .none
 | bl (b:Bool):Dq K H (.bl b) (.bool b)
 | int (i:Int):Dq K H (.int i) (.int i)
 | str (x:Str):Dq K H (.str x) (.str x)
 | tup {a:Addr} {xs:List V} {ds:List PyData}:SqT K H a xs -> DqAll K H xs ds -> Dq K H (.ref a) (.tuple ds)
 | lst {a:Addr} {xs:List V} {ds:List PyData}:SqL K H a xs -> DqAll K H xs ds -> Dq K H (.ref a) (.list ds)
inductive DqAll (K:FG7) (H:Hp):List V -> List PyData -> Prop
 | nil:DqAll K H [] []
 | cons {x:V} {xs:List V} {d:PyData} {ds:List PyData}:Dq K H x d -> DqAll K H xs ds -> DqAll K H (x :: xs) (d :: ds)
end
theorem DqAll.len {K:FG7} {H:Hp}:∀ {xs:List V} {ds:List PyData},DqAll K H xs ds -> xs.length = ds.length
 | _,_,.nil=>rfl
 | _,_,.cons _ t=>congrArg (· + 1) (DqAll.len t)
theorem wz (n:Nat):(List.range n).all (fun _=>true) = true:=List.all_eq_true.mpr fun _ _=>rfl
section
variable {X:Cx} {pins:List (Addr × Obj)} {σ:L2.St} {H:Hp} {s:Shared}
mutual
theorem dq_eq (I:Inv X pins σ H s):∀ {d:PyData} {x y:V} {u v:Value} {A:Around},Dq X.K H x d -> Dq X.K H y d -> RelV x u -> RelV y v -> A.units + d.depth < cLine -> SeqAt.EqAt A s u v true
 | _,_,y,u,v,A,.non,hy,ru,rv,_=>by
  cases hy
  cases (show u = Value.none from ru)
  cases (show v = Value.none from rv)
  exact SeqAt.EqAt.same _
 | _,_,y,u,v,A,.bl b,hy,ru,rv,_=>by
  cases hy
  cases (show u = Value.bool b from ru)
  cases (show v = Value.bool b from rv)
  exact SeqAt.EqAt.same _
 | _,_,y,u,v,A,.int i,hy,ru,rv,_=>by
  cases hy
  obtain ⟨t,rfl⟩:=ru
  obtain ⟨t',rfl⟩:=rv
  have z:=SeqAt.EqAt.int_int (A:=A) (s:=s) i t i t'
  rw [beq_self_eq_true] at z
  exact z
 | _,_,y,u,v,A,.str x,hy,ru,rv,_=>by
  cases hy
  obtain ⟨t,rfl⟩:=ru
  obtain ⟨t',rfl⟩:=rv
  have z:=SeqAt.EqAt.str_str (A:=A) (s:=s) x t x t'
  rw [beq_self_eq_true] at z
  exact z
 | _,_,y,u,v,A,.tup (a:=a) (xs:=xs) (ds:=ds) hs ha,hy,ru,rv,hu=>by
  cases hy with
  | tup hs' ha' =>
   rename_i a' xs'
   cases (show u = Value.ref a from ru)
   cases (show v = Value.ref a' from rv)
   obtain ⟨us,r1,t1,_⟩:=I.tuple hs
   obtain ⟨ws,r2,t2,_⟩:=I.tuple hs'
   have hd:A.units + (PyData.depthAll ds + 1) < cLine:=hu
   by_cases e:a = a'
   ·subst e; exact SeqAt.EqAt.same _
   ·have l1:=ha.len
    have l2:=ha'.len
    have q:=SeqAt.RcAt.tuples (e:=fun _=>true) (xj t1) (xj t2) (by omega) (dqs_eq I ha ha' r1 r2 (A:=A.in1) (by show A.units + 1 + PyData.depthAll ds < cLine; omega))
    rw [wz,Bool.true_and,List.size_toArray,List.size_toArray,← r1.length,← r2.length,l1,l2,beq_self_eq_true] at q
    exact SeqAt.EqAt.of_refs e q
 | _,_,y,u,v,A,.lst (a:=a) (xs:=xs) (ds:=ds) hs ha,hy,ru,rv,hu=>by
  cases hy with
  | lst hs' ha' =>
   rename_i a' xs'
   cases (show u = Value.ref a from ru)
   cases (show v = Value.ref a' from rv)
   obtain ⟨us,r1,t1,_⟩:=I.list hs
   obtain ⟨ws,r2,t2,_⟩:=I.list hs'
   have hd:A.units + (PyData.depthAll ds + 1) < cLine:=hu
   by_cases e:a = a'
   ·subst e; exact SeqAt.EqAt.same _
   ·have l1:=ha.len
    have l2:=ha'.len
    have q:=SeqAt.RcAt.lists (e:=fun _=>true) t1.isList t2.isList (by rw [List.size_toArray,List.size_toArray,← r1.length,← r2.length,l1,l2]) (by omega) (dqs_eq I ha ha' r1 r2 (A:=A.in1) (by show A.units + 1 + PyData.depthAll ds < cLine; omega))
    rw [wz] at q
    exact SeqAt.EqAt.of_refs e q
theorem dqs_eq (I:Inv X pins σ H s):∀ {ds:List PyData} {xs ys:List V} {us vs:List Value} {A:Around},DqAll X.K H xs ds -> DqAll X.K H ys ds -> Vals xs us -> Vals ys vs -> A.units + PyData.depthAll ds < cLine →
  ∀ j (h1:j < us.toArray.size) (h2:j < vs.toArray.size),SeqAt.EqAt A s us.toArray[j] vs.toArray[j] true
 | _,_,_,_,_,A,.nil,hy,ru,rv,_=>fun j h1 _=>by
  cases ru
  exact absurd h1 (Nat.not_lt_zero j)
 | _,_,_,_,_,A,.cons (d:=d) (ds:=ds) hx tx,hy,ru,rv,hd=>fun j h1 h2=>by
  cases hy with
  | cons hy ty =>
   cases ru with
   | cons r1 rr1 =>
    cases rv with
    | cons r2 rr2 =>
     have hd':A.units + max d.depth (PyData.depthAll ds) < cLine:=hd
     cases j with
     | zero=>simpa using dq_eq I hx hy r1 r2 (A:=A) (by omega)
     | succ j =>
      have z:=dqs_eq I tx ty rr1 rr2 (A:=A) (by omega) j (by simpa using h1) (by simpa using h2)
      simpa using z
end
variable {K:FG7}
def WC (K:FG7) (neg:Bool):R2:=fun x y H Q=>∃ d,Dq K H x d /\ Dq K H y d /\ (∃ a,x = .ref a) /\ d.depth <= 100 /\ Q (.bl neg) H
theorem VI {k:Nat} (hK:X.K = K) (hr:Room k X.A):OpR X (compareOp .Eq) (WC K true):=by
 subst hK
 intro pins s σ H x y u v Q I rx ry h
 obtain ⟨d,hx,hy,⟨a0,e0⟩,hd,q⟩:=h
 have hu:=hr.un
 cases hx with
 | non=>cases e0
 | bl b=>cases e0
 | int i=>cases e0
 | str x=>cases e0
 | tup hs ha =>
  cases hy with
  | tup hs' ha' =>
   rename_i a xs ds a' xs'
   cases (show u = Value.ref a from rx)
   cases (show v = Value.ref a' from ry)
   obtain ⟨us,r1,t1,_⟩:=I.tuple hs
   obtain ⟨ws,r2,t2,_⟩:=I.tuple hs'
   have hd':PyData.depthAll ds + 1 <= 100:=hd
   refine SeqAt.eq_tupleAt (e:=fun _=>true) (xj t1) (xj t2) hr.units0 (dqs_eq I ha ha' r1 r2 (A:=X.A.in1) (by show X.A.units + 1 + PyData.depthAll ds < cLine; omega)) ?_
   rw [wz,Bool.true_and,List.size_toArray,List.size_toArray,← r1.length,← r2.length,ha.len,ha'.len,beq_self_eq_true]
   exact ⟨.bl true,H,I,rfl,q⟩
 | lst hs ha =>
  cases hy with
  | lst hs' ha' =>
   rename_i a xs ds a' xs'
   cases (show u = Value.ref a from rx)
   cases (show v = Value.ref a' from ry)
   obtain ⟨us,r1,t1,_⟩:=I.list hs
   obtain ⟨ws,r2,t2,_⟩:=I.list hs'
   have hd':PyData.depthAll ds + 1 <= 100:=hd
   refine SeqAt.eq_listAt (e:=fun _=>true) t1.isList t2.isList (by rw [List.size_toArray,List.size_toArray,← r1.length,← r2.length,ha.len,ha'.len]) hr.units0 (dqs_eq I ha ha' r1 r2 (A:=X.A.in1) (by show X.A.units + 1 + PyData.depthAll ds < cLine; omega)) ?_
   rw [wz]
   exact ⟨.bl true,H,I,rfl,q⟩
theorem Yg {k:Nat} (hK:X.K = K) (hr:Room k X.A):OpR X (compareOp .NotEq) (WC K false):=by
 subst hK
 intro pins s σ H x y u v Q I rx ry h
 obtain ⟨d,hx,hy,⟨a0,e0⟩,hd,q⟩:=h
 have hu:=hr.un
 cases hx with
 | non=>cases e0
 | bl b=>cases e0
 | int i=>cases e0
 | str x=>cases e0
 | tup hs ha =>
  cases hy with
  | tup hs' ha' =>
   rename_i a xs ds a' xs'
   cases (show u = Value.ref a from rx)
   cases (show v = Value.ref a' from ry)
   obtain ⟨us,r1,t1,_⟩:=I.tuple hs
   obtain ⟨ws,r2,t2,_⟩:=I.tuple hs'
   have hd':PyData.depthAll ds + 1 <= 100:=hd
   refine SeqAt.RcNeAt.tuples (e:=fun _=>true) (xj t1) (xj t2) hr.units0 (dqs_eq I ha ha' r1 r2 (A:=X.A.in1) (by show X.A.units + 1 + PyData.depthAll ds < cLine; omega)) _ _ _ _ ?_
   rw [wz,Bool.true_and,List.size_toArray,List.size_toArray,← r1.length,← r2.length,ha.len,ha'.len,beq_self_eq_true]
   exact ⟨.bl false,H,I,rfl,q⟩
 | lst hs ha =>
  cases hy with
  | lst hs' ha' =>
   rename_i a xs ds a' xs'
   cases (show u = Value.ref a from rx)
   cases (show v = Value.ref a' from ry)
   obtain ⟨us,r1,t1,_⟩:=I.list hs
   obtain ⟨ws,r2,t2,_⟩:=I.list hs'
   have hd':PyData.depthAll ds + 1 <= 100:=hd
   refine SeqAt.RcNeAt.lists (e:=fun _=>true) t1.isList t2.isList (by rw [List.size_toArray,List.size_toArray,← r1.length,← r2.length,ha.len,ha'.len]) hr.units0 (dqs_eq I ha ha' r1 r2 (A:=X.A.in1) (by show X.A.units + 1 + PyData.depthAll ds < cLine; omega)) _ _ _ _ ?_
   rw [wz]
   exact ⟨.bl false,H,I,rfl,q⟩
end
def xN (k st a:Nat):Nat:=a ^^^ 2 ^ (k - st)
def nN (k st a:Nat):Nat:=(wE k a st).toNat
def lN (k h g n:Nat):Nat:=(zE k h g n).toNat
theorem Yh:∀ k:Fin 5,∀ st:Fin 5,1 <= st.val -> st.val <= k.val -> ∀ a:Fin 16,a.val < 2 ^ k.val →
  (swI k.val st.val a.val = wE k.val a.val st.val /\ wE k.val a.val st.val = (nN k.val st.val a.val:Int) /\ nN k.val st.val a.val < 2 ^ (k.val - 1) /\ nN k.val st.val (xN k.val st.val a.val) = nN k.val st.val a.val) ∧
  (xN k.val st.val (xN k.val st.val a.val) = a.val /\ xN k.val st.val a.val ≠ a.val /\ xN k.val st.val a.val < 2 ^ k.val) ∧
  (wfI k.val st.val a.val (Builtin.bitXor (figI k.val st.val a.val) 0) = (a.val:Int) /\ wfI k.val st.val a.val (Builtin.bitXor (figI k.val st.val a.val) 1) = (xN k.val st.val a.val:Int)) ∧
  (Builtin.bitXor (figI k.val st.val a.val) (figI k.val st.val (xN k.val st.val a.val)) = 1 /\ Builtin.bitXor (figI k.val st.val a.val) (figI k.val st.val a.val) = 0) ∧
  ((Builtin.bitXor (figI k.val st.val a.val) 0 = 0 \/ Builtin.bitXor (figI k.val st.val a.val) 0 = 1) /\ (Builtin.bitXor (figI k.val st.val a.val) 1 = 0 \/ Builtin.bitXor (figI k.val st.val a.val) 1 = 1)):=by
 decide +kernel
theorem Yi:∀ k:Fin 5,∀ st:Fin 5,1 <= st.val -> st.val <= k.val -> ∀ a:Fin 16,a.val < 2 ^ k.val -> ∀ b:Fin 16,b.val < 2 ^ k.val -> nN k.val st.val a.val = nN k.val st.val b.val -> b.val = a.val \/ b.val = xN k.val st.val a.val:=by
 decide +kernel
theorem xL:∀ k:Fin 5,∀ h:Fin 16,∀ g:Fin 16,h.val < 2 ^ k.val -> g.val < 2 ^ k.val →
  lN k.val h.val g.val 0 = h.val /\ lN k.val h.val g.val k.val = g.val /\ ∀ n:Fin 5,n.val <= k.val -> (zE k.val h.val g.val n.val = (lN k.val h.val g.val n.val:Int) /\ lN k.val h.val g.val n.val < 2 ^ k.val) ∧
   (n.val + 1 <= k.val -> lN k.val h.val g.val (n.val + 1) = lN k.val h.val g.val n.val \/ lN k.val h.val g.val (n.val + 1) = xN k.val (n.val + 1) (lN k.val h.val g.val n.val)):=by
 decide +kernel
structure OneF (k st a:Nat):Prop where
 sw:swI k st a = wE k a st
 num:wE k a st = (nN k st a:Int)
 lt:nN k st a < 2 ^ (k - 1)
 nx:nN k st (xN k st a) = nN k st a
 xx:xN k st (xN k st a) = a
 xne:xN k st a ≠ a
 xlt:xN k st a < 2 ^ k
 w0:wfI k st a (Builtin.bitXor (figI k st a) 0) = (a:Int)
 w1:wfI k st a (Builtin.bitXor (figI k st a) 1) = (xN k st a:Int)
 c1:Builtin.bitXor (figI k st a) (figI k st (xN k st a)) = 1
 c0:Builtin.bitXor (figI k st a) (figI k st a) = 0
 b0:Builtin.bitXor (figI k st a) 0 = 0 \/ Builtin.bitXor (figI k st a) 0 = 1
 b1:Builtin.bitXor (figI k st a) 1 = 0 \/ Builtin.bitXor (figI k st a) 1 = 1
theorem oneF {k st a:Nat} (k4:k <= 4) (s1:1 <= st) (s2:st <= k) (ha:a < 2 ^ k):OneF k st a:=by
 have p:=zU k4
 obtain ⟨⟨a1,a2,a3,a4⟩,⟨b1,b2,b3⟩,⟨c1,c2⟩,⟨d1,d2⟩,e1,e2⟩:=Yh ⟨k,by omega⟩ ⟨st,by omega⟩ s1 s2 ⟨a,by omega⟩ ha
 exact ⟨a1,a2,a3,a4,b1,b2,b3,c1,c2,d1,d2,e1,e2⟩
theorem twoF {k st a b:Nat} (k4:k <= 4) (s1:1 <= st) (s2:st <= k) (ha:a < 2 ^ k) (hb:b < 2 ^ k) (e:nN k st a = nN k st b):b = a \/ b = xN k st a:=by
 have p:=zU k4
 exact Yi ⟨k,by omega⟩ ⟨st,by omega⟩ s1 s2 ⟨a,by omega⟩ ha ⟨b,by omega⟩ hb e
theorem wayF {k h g:Nat} (k4:k <= 4) (hh:h < 2 ^ k) (hg:g < 2 ^ k):lN k h g 0 = h /\ lN k h g k = g /\ ∀ n,n <= k -> (zE k h g n = (lN k h g n:Int) /\ lN k h g n < 2 ^ k) /\ (n + 1 <= k -> lN k h g (n + 1) = lN k h g n \/ lN k h g (n + 1) = xN k (n + 1) (lN k h g n)):=by
 have p:=zU k4
 obtain ⟨a,b,c⟩:=xL ⟨k,by omega⟩ ⟨h,by omega⟩ ⟨g,by omega⟩ hh hg
 exact ⟨a,b,fun n hn=>c ⟨n,by omega⟩ hn⟩
theorem sV (ns:List Int):(vN ns).Pairwise (· <= ·):=by
 have s:=List.pairwise_mergeSort (le:=fun a b:Int=>decide (a <= b)) (fun a b c h1 h2=>decide_eq_true (Int.le_trans (of_decide_eq_true h1) (of_decide_eq_true h2))) (fun a b=>by
  rcases Int.le_total a b with h | h
  ·simp [h]
  ·simp [h]) ns
 exact s.imp fun h=>of_decide_eq_true h
theorem Xs (ns:List Int):(vN ns).Perm ns:=List.mergeSort_perm ns _
def plOf (gs:List Nat):List (Nat × Nat):=(List.range gs.length).map fun h=>(h,gs.getD h 0)
def yM (k:Nat) (gs:List Nat):Prop:=gs.length = 2 ^ k /\ ∀ g ∈ gs,g < 2 ^ k
theorem yM.get {k:Nat} {gs:List Nat} (h:yM k gs) {i:Nat} (hi:i < 2 ^ k):gs.getD i 0 < 2 ^ k:=by
 rw [List.getD_eq_getElem?_getD,List.getElem?_eq_getElem (by rw [h.1]; exact hi)]
 exact h.2 _ (List.getElem_mem _)
theorem WD {k:Nat} {gs:List Nat} (h:yM k gs):Xq k (plOf gs):=by
 intro q hq
 obtain ⟨i,hi,rfl⟩:=List.mem_map.mp hq
 have hi':i < 2 ^ k:=by rw [← h.1]; exact List.mem_range.mp hi
 exact ⟨hi',h.get hi'⟩
theorem jr {gs:List Nat}:(plOf gs).length = gs.length:=by unfold plOf; rw [List.length_map,List.length_range]
def X5 (k st:Nat) (q:Nat × Nat):Int:=Builtin.bitXor (figI k st (zE k q.1 q.2 (st - 1))) (figI k st (zE k q.1 q.2 st))
def u7 (k st:Nat) (m:List Int) (q:Nat × Nat):List Int:=m.set (nN k st (lN k q.1 q.2 st)) (X5 k st q)
def uj (k st:Nat) (pl:List (Nat × Nat)):List Int:=pl.foldl (u7 k st) (List.replicate (2 ^ k / 2) 0)
def Ur (k:Nat) (gs:List Nat):List (List Int):=(List.range k).map fun n=>uj k (n + 1) (plOf gs)
theorem Yj {k st:Nat} {pl:List (Nat × Nat)}:(uj k st pl).length = 2 ^ k / 2:=by
 have key:∀ (pl:List (Nat × Nat)) (m:List Int),(pl.foldl (u7 k st) m).length = m.length:=by
  intro pl
  induction pl with
  | nil=>intro m; rfl
  | cons q pl ih=>intro m; rw [List.foldl_cons,ih]; exact List.length_set ..
 exact (key pl _).trans (List.length_replicate ..)
theorem Yk {k:Nat} (h:1 <= k):2 ^ k / 2 = 2 ^ (k - 1):=by
 obtain ⟨n,rfl⟩:∃ n,k = n + 1:=⟨k - 1,by omega⟩
 rw [Nat.pow_succ,Nat.mul_div_cancel _ (by decide)]; rfl
def stR (k:Nat) (row:List Int) (st l:Nat):Nat:=if row.getD (nN k st l) 0 = 1 then xN k st l else l
def ye (k:Nat) (rows:List (List Int)):List Nat:=(List.range (2 ^ k)).map fun h=>ledN k rows h k
theorem Ze {k:Nat} {rows:List (List Int)} (k4:k <= 4):yM k (ye k rows):=by
 refine ⟨by unfold ye; rw [List.length_map,List.length_range],fun g hg=>?_⟩
 obtain ⟨h,hh,rfl⟩:=List.mem_map.mp hg
 exact ql k4 (List.mem_range.mp hh) k (Nat.le_refl k)
theorem Zf {k:Nat} {rows:List (List Int)}:ledL k rows = (ye k rows).map (Int.ofNat ·):=by
 unfold ledL ye
 rw [List.map_map]; rfl
section
variable {X:Cx} {a:Expr} {ta:TA} {p p2 pos pos2:Pos}
def Us (ta:TA):TE:=fun σ H Q=>ta σ H fun vs H1=>∃ n:Nat,vs = [.int n] /\ n <= 1000 /\ ∀ l,H1 l = none -> Q (.ref l) (upd H1 l (.lst ((List.range n).map fun i:Nat=>V.int i)))
theorem sW (hc:X.calm = true) (hgl:Gl X "list") (hml:X.mg "list" = none) (hgr:Gl X "range") (hmr:X.mg "range" = none) (ha:PA X [a] ta)
  (hs:starEach [a] X.env = [(false,eval a X.env)]:=by rfl) (hs2:starEach [(.Call (.Name "range" p2) [a] [] pos2:Expr)] X.env = [(false,eval (.Call (.Name "range" p2) [a] [] pos2) X.env)]:=by rfl) :
  PE X (.Call (.Name "list" p) [.Call (.Name "range" p2) [a] [] pos2] [] pos) (Us ta):=by
 intro pins s σ H Q I h
 refine wpAny_Call_Name_kw (we I hgl hml jf (PyProof.Rows.callWith_type1 ?_ hs2 rfl))
 rw [hs2]
 show wpAny _ _ (spliced [(false,eval (.Call (.Name "range" p2) [a] [] pos2) X.env)]) _ _ s
 refine Calls.spliced_cons ?_
 refine Call_ (we I hgr hmr boot_range (PyProof.Rows.callWith_type1 (thn (ha pos2 pins s σ H _ I h) fun us s1 ⟨vs,H1,I1,r1,q1⟩=>?_) hs rfl))
 obtain ⟨n,e,hn,q⟩:=q1
 subst e
 obtain ⟨u,rfl,e1⟩:=wM r1
 obtain ⟨t,rfl⟩:=e1
 refine call_range_1 (Calls.spliced_nil ?_)
 have I2:Inv X pins σ H1 { s1 with heap:=s1.heap.push { cls:=.type "range",data:=.fields #[.int 0 s1.toks,.int n t,.int 1 (s1.toks + 1)] },toks:=s1.toks + 1 + 1 }:=I1.kept fun b o e=>Heap.get?_push_of_some _ e
 refine call_list_range (n:=n) (I.ok.hd hc) (IsRange.new ..) (small_one (by omega) (by omega) (by omega) (by omega)) (by rw [rangeSize_one]; split <;> omega) (by omega) fun h' tk acc c' hk hS hacc=>?_
 have hvr:Vals ((List.range n).map fun i:Nat=>V.int i) acc.toList:=by
  have hlen:acc.toList.length = n:=by rw [Array.length_toList]; exact hacc.1
  have key:∀ (m:Nat) (l:List Value) (j:Nat),l.length = m -> (∀ i v,l[i]? = some v -> ∃ t,v = Value.int ((j + i:Nat):Int) t) -> Vals ((List.range' j m).map fun i:Nat=>V.int i) l:=by
   intro m
   induction m with
   | zero =>
    intro l j hl _
    rw [List.length_eq_zero_iff.mp hl]
    exact .nil
   | succ m ih =>
    intro l j hl hv
    match l,hl,hv with
    | x :: l,hl,hv =>
     refine .cons ?_ (ih l (j + 1) (by simpa using hl) fun i v h=>?_)
     ·obtain ⟨t,e⟩:=hv 0 x rfl
      exact ⟨t,e⟩
     ·obtain ⟨t,e⟩:=hv (i + 1) v (by simpa using h)
      exact ⟨t,by rw [e,show j + (i + 1) = j + 1 + i by omega]⟩
  rw [List.range_eq_range']
  refine key n acc.toList 0 hlen fun i v h=>?_
  obtain ⟨t,e⟩:=hacc.2 i v (by rw [← h]; exact (Array.getElem?_toList).symm)
  exact ⟨t,by rw [e]; congr 1; omega⟩
 refine ⟨.ref (s1.heap.push { cls:=.type "range",data:=.fields #[.int 0 s1.toks,.int n t,.int 1 (s1.toks + 1)] }).objs.size,_,I2.laid (t':=tk) hk (Nat.le_refl _) (show zV X.prog X.w _ h' _ (.lst ((List.range n).map fun i:Nat=>V.int i)) from ⟨by rw [List.length_map,List.length_range]; exact Nat.le_of_lt (zp hn),acc.toList,c',hvr,by simpa using hS⟩),rfl,q _ (I2.hok.fresh (Nat.le_refl _))⟩
end
theorem WE {k:Nat} (h:k <= 4):(1:Int) * 2 ^ ((k:Int)).toNat / 2 ^ (1:Int).toNat = ((2 ^ k / 2:Nat):Int):=by
 have key:∀ k:Fin 5,(1:Int) * 2 ^ ((k.val:Int)).toNat / 2 ^ (1:Int).toNat = ((2 ^ k.val / 2:Nat):Int):=by decide
 exact key ⟨k,by omega⟩
def Bits (r:List Int):Prop:=∀ b ∈ r,b = 0 \/ b = 1
def yU (_:FG7):Sp:=sp1 fun x H Q=>∃ k:Nat,x = .int k /\ k <= 4 /\ Q (.int (2 ^ k / 2:Nat)) H
def vG (K:FG7):Sp:=sp2 fun x y H Q=>∃ (k:Nat) (row:List Int),x = .int k /\ k <= 4 /\ zy K H y row /\ row.length = 2 ^ k / 2 /\ Bits row /\ ∀ H',Grow [] H H' -> Q (.bl true) H'
def wI (K:FG7):Sp:=sp2 fun x y H Q=>∃ (k:Nat) (rows:List (List Int)),x = .int k /\ k <= 4 /\ y9 K H y rows /\ xK k rows /\ ∀ H',Grow [] H H' -> Q (.bl true) H'
def x8 (K:FG7):Sp:=sp2 fun x y H Q=>∃ (k:Nat) (rows:List (List Int)),x = .int k /\ k <= 4 /\ y9 K H y rows /\ xK k rows /\ ∀ H',Grow [] H H' -> Q .non H'
def uk (K:FG7):Sp:=sp4 fun x y z u H Q=>∃ (k st a:Nat) (row:List Int),x = .int k /\ y = .int st /\ z = .int a /\ zy K H u row /\ k <= 4 /\ 1 <= st /\ st <= k /\ a < 2 ^ k /\ row.length = 2 ^ (k - 1) /\ Bits row /\ Q (.int (stR k row st a)) H
def zM (gs:List Nat):List V:=gs.map fun g:Nat=>V.int g
theorem u8 {gs:List Nat}:zM gs = (gs.map fun g:Nat=>(g:Int)).map V.int:=by unfold zM; rw [List.map_map]; rfl
def w5 (K:FG7):Sp:=sp2 fun x y H Q=>∃ (k:Nat) (gs:List Nat) (r:Addr),x = .int k /\ k <= 4 /\ y = .ref r /\ SqT K H r (zM gs) /\ yM k gs /\ ∀ H',Grow [] H H' -> Q .non H'
def ul (K:FG7):Sp:=sp3 fun x y z H Q=>∃ (k st:Nat) (gs:List Nat) (lw:Addr) (ws:List V),x = .int k /\ y = .int st /\ z = .ref lw /\ H lw = some (.lst ws) /\ AllR (zy K H) ws (zS k (plOf gs)) /\ k <= 4 /\ 1 <= st /\ st <= k /\ yM k gs /\ ∀ y H',Grow [] H H' -> zy K H' y (uj k st (plOf gs)) -> Q y H'
def Ut (K:FG7) (H:Hp) (x:V) (k:Nat) (gs:List Nat) (o:Option (Nat × Int)):Prop:=∃ (r:Addr) (s:Str) (y:V),x = .ref r /\ SqT K H r [.str s,y] /\ match o with
 | none=>s = "settings" /\ y9 K H y (Ur k gs)
 | some (l,v)=>s = "clash" /\ ∃ c,y = .ref c /\ SqT K H c [.int l,.int v]
def wr (K:FG7):Sp:=sp2 fun x y H Q=>∃ (k:Nat) (gs:List Nat) (r:Addr),x = .int k /\ k <= 4 /\ y = .ref r /\ SqT K H r (zM gs) /\ yM k gs /\ ∀ o y H',Grow [] H H' -> xv k (zS k (plOf gs)) o -> Ut K H' y k gs o -> Q y H'
theorem xK.bits {k n:Nat} {rows:List (List Int)} (h:xK k rows) (hn:n < k):(rows.getD n []).length = 2 ^ (k - 1) /\ Bits (rows.getD n []):=by
 have e:rows[n]? = some (rows.getD n []):=by rw [List.getD_eq_getElem?_getD,List.getElem?_eq_getElem (by rw [h.1]; exact hn)]; rfl
 exact h.2 _ (List.mem_of_getElem? e)
theorem xM {k:Nat} {gs:List Nat} (h:yM k gs):(zM gs).length = 2 ^ k:=by unfold zM; rw [List.length_map,h.1]
theorem sX {gs:List Nat} {i:Nat} {x:V} (h:(zM gs)[i]? = some x):i < gs.length /\ x = .int (gs.getD i 0:Nat):=by
 unfold zM at h
 rw [List.getElem?_map] at h
 cases e:gs[i]? with
 | none=>rw [e] at h; cases h
 | some g =>
  rw [e] at h
  refine ⟨(List.getElem?_eq_some_iff.mp e).1,?_⟩
  rw [List.getD_eq_getElem?_getD,e]
  exact (Option.some.inj h).symm
theorem um {K:FG7} {H:Hp}:∀ (ns:List Int),DqAll K H (ns.map V.int) (ns.map PyData.int)
 | []=>.nil
 | n :: ns=>.cons (.int n) (um ns)
def rowD (r:List Int):PyData:=.tuple (r.map PyData.int)
def WF (rows:List (List Int)):PyData:=.tuple (rows.map rowD)
theorem vV:∀ ns:List Int,PyData.depthAll (ns.map PyData.int) = 0
 | []=>rfl
 | n :: ns=>by
  show max (PyData.depth (.int n)) (PyData.depthAll (ns.map PyData.int)) = 0
  rw [vV ns]; rfl
theorem ju:∀ rows:List (List Int),PyData.depthAll (rows.map rowD) <= 1
 | []=>Nat.zero_le _
 | r :: rows=>by
  show max (PyData.depthAll (r.map PyData.int) + 1) (PyData.depthAll (rows.map rowD)) <= 1
  have:=ju rows
  rw [vV]; omega
theorem Yl (rows:List (List Int)):(WF rows).depth <= 2:=Nat.succ_le_succ (ju rows)
theorem VJ {K:FG7} {H:Hp} {x:V} {r:List Int} (h:zy K H x r):Dq K H x (rowD r):=by
 obtain ⟨a,rfl,h⟩:=h
 exact .tup h (um r)
theorem jv {K:FG7} {H:Hp}:∀ {xs:List V} {rows:List (List Int)},AllR (zy K H) xs rows -> DqAll K H xs (rows.map rowD)
 | [],[],_=>.nil
 | _ :: _,_ :: _,⟨h,t⟩=>.cons (VJ h) (jv t)
 | [],_ :: _,h=>h.elim
 | _ :: _,[],h=>h.elim
theorem Ym {K:FG7} {H:Hp} {x:V} {rows:List (List Int)} (h:y9 K H x rows):Dq K H x (WF rows):=by
 obtain ⟨a,xs,rfl,h,t⟩:=h
 exact .tup h (jv t)
theorem AllR.of_get {α:Type} {R:V -> α -> Prop}:∀ {xs:List V} {ks:List α},xs.length = ks.length -> (∀ (i:Nat) (x:V),xs[i]? = some x -> ∃ k,ks[i]? = some k /\ R x k) -> AllR R xs ks
 | [],[],_,_=>trivial
 | x :: xs,k :: ks,hl,h=>by
  refine ⟨?_,AllR.of_get (by simpa using hl) fun i y hy=>by simpa using h (i + 1) y (by simpa using hy)⟩
  obtain ⟨k',e,r⟩:=h 0 x rfl
  cases e
  exact r
 | [],_ :: _,hl,_=>by simp at hl
 | _ :: _,[],hl,_=>by simp at hl
theorem jw {gs:List Nat} {i:Int} (h0:0 <= i) (h:i < gs.length):atI (zM gs) i = some (.int (gs.getD i.toNat 0:Nat)):=by
 have hj:i.toNat < gs.length:=by omega
 refine qd (xz h0 (by unfold zM; rw [List.length_map]; exact hj)) ?_
 unfold zM
 rw [List.getElem?_map,List.getD_eq_getElem?_getD,List.getElem?_eq_getElem hj]; rfl
theorem uo {gs:List Nat} {j n:Nat}:(zM gs).set j (.int n) = zM (gs.set j n):=by
 unfold zM
 rw [List.map_set]
theorem yM.set {k:Nat} {gs:List Nat} (h:yM k gs) {j n:Nat} (hn:n < 2 ^ k):yM k (gs.set j n):=by
 refine ⟨by rw [List.length_set,h.1],fun g hg=>?_⟩
 rcases List.mem_or_eq_of_mem_set hg with z | rfl
 ·exact h.2 g z
 ·exact hn
def wfN (k s l:Nat) (w:Int):Nat:=(wfI k s l w).toNat
theorem Yn:∀ k:Fin 5,∀ s:Fin 5,1 <= s.val -> s.val <= k.val -> ∀ l:Fin 16,l.val < 2 ^ k.val -> ∀ w:Fin 2,
  (wfI k.val s.val l.val w.val = (wfN k.val s.val l.val w.val:Int) /\ wfN k.val s.val l.val w.val < 2 ^ k.val /\ figI k.val s.val (wfN k.val s.val l.val w.val) = w.val) /\ ∀ t:Fin 5,t.val <= k.val -> t.val ≠ s.val -> figI k.val t.val (wfN k.val s.val l.val w.val) = figI k.val t.val l.val:=by
 decide +kernel
theorem u9:∀ k:Fin 5,∀ l:Fin 16,l.val < 2 ^ k.val -> (∀ t:Fin 5,figI k.val t.val l.val = 0 \/ figI k.val t.val l.val = 1) /\ ∀ m:Fin 16,m.val < 2 ^ k.val -> (∀ t:Fin 5,1 <= t.val -> t.val <= k.val -> figI k.val t.val l.val = figI k.val t.val m.val) -> l = m:=by
 decide +kernel
structure WfF (k s l:Nat) (w:Int):Prop where
 eq:wfI k s l w = (wfN k s l w:Int)
 lt:wfN k s l w < 2 ^ k
 at_:figI k s (wfN k s l w) = w
 off:∀ t:Nat,t <= k -> t ≠ s -> figI k t (wfN k s l w) = figI k t l
theorem wfF {k s l:Nat} {w:Int} (k4:k <= 4) (s1:1 <= s) (s2:s <= k) (hl:l < 2 ^ k) (hw:w = 0 \/ w = 1):WfF k s l w:=by
 have p:=zU k4
 have z:=Yn ⟨k,by omega⟩ ⟨s,by omega⟩ s1 s2 ⟨l,by omega⟩ hl
 rcases hw with rfl | rfl
 ·exact ⟨(z 0).1.1,(z 0).1.2.1,(z 0).1.2.2,fun t ht hn=>(z 0).2 ⟨t,by omega⟩ ht hn⟩
 ·exact ⟨(z 1).1.1,(z 1).1.2.1,(z 1).1.2.2,fun t ht hn=>(z 1).2 ⟨t,by omega⟩ ht hn⟩
theorem VL {k t l:Nat} (k4:k <= 4) (ht:t <= k) (hl:l < 2 ^ k):figI k t l = 0 \/ figI k t l = 1:=by
 have p:=zU k4
 exact (u9 ⟨k,by omega⟩ ⟨l,by omega⟩ hl).1 ⟨t,by omega⟩
theorem tR {k l m:Nat} (k4:k <= 4) (hl:l < 2 ^ k) (hm:m < 2 ^ k) (h:∀ t:Nat,1 <= t -> t <= k -> figI k t l = figI k t m):l = m:=by
 have p:=zU k4
 have z:=(u9 ⟨k,by omega⟩ ⟨l,by omega⟩ hl).2 ⟨m,by omega⟩ hm fun t h1 h2=>h t.val h1 h2
 exact congrArg Fin.val z
theorem tS {k i:Nat} {n:Int} (hi:i < k):(xI k n)[i]? = some (figI k ((i + 1:Nat):Int) n):=by
 unfold xI figI
 rw [List.getElem?_map,List.getElem?_range (by rw [Int.toNat_natCast]; exact hi)]
 show some (Builtin.bitAnd (n / 2 ^ _) 1) = _
 congr 4
 omega
theorem jx {k:Nat} {n:Int}:(xI k n).length = k:=by unfold xI; rw [List.length_map,List.length_range,Int.toNat_natCast]
def mixN (k e x t:Nat):Nat:=(numL ((xI k e).take (t - 1) ++ (xI k x).drop t)).toNat
theorem X6 {k e x l t:Nat} (t1:1 <= t) (tk:t <= k) (h1:∀ u:Nat,1 <= u -> u < t -> figI k u l = figI k u e) (h2:∀ u:Nat,t < u -> u <= k -> figI k u l = figI k u x):nN k t l = mixN k e x t:=by
 unfold nN wE mixN
 have a:(xI k (l:Int)).take (t - 1) = (xI k (e:Int)).take (t - 1):=by
  refine List.ext_getElem? fun i=>?_
  by_cases hi:i < t - 1
  ·rw [List.getElem?_take_of_lt hi,List.getElem?_take_of_lt hi,tS (by omega),tS (by omega),h1 (i + 1) (by omega) (by omega)]
  ·rw [List.getElem?_eq_none (by rw [List.length_take]; omega),List.getElem?_eq_none (by rw [List.length_take]; omega)]
 have b:(xI k (l:Int)).drop t = (xI k (x:Int)).drop t:=by
  refine List.ext_getElem? fun i=>?_
  rw [List.getElem?_drop,List.getElem?_drop]
  by_cases hi:t + i < k
  ·rw [tS hi,tS hi,h2 (t + i + 1) (by omega) (by omega)]
  ·rw [List.getElem?_eq_none (by rw [jx]; omega),List.getElem?_eq_none (by rw [jx]; omega)]
 rw [a,b]
def fstI (rows:List (List Int)) (t n:Nat):Int:=(rows.getD (t - 1) []).getD n 0
def inO (k:Nat) (rows:List (List Int)) (s l:Nat):List Nat:=[wfN k s l (fstI rows s (nN k s l)),wfN k s l (1 - fstI rows s (nN k s l))]
theorem WG {k t l:Nat} {rows:List (List Int)} (k4:k <= 4) (hs:xK k rows) (t1:1 <= t) (tk:t <= k) (hl:l < 2 ^ k):fstI rows t (nN k t l) = 0 \/ fstI rows t (nN k t l) = 1:=by
 have b:=hs.bits (show t - 1 < k by omega)
 have O:=oneF k4 t1 tk hl
 exact b.2 _ (List.mem_of_getElem? (qe (by rw [b.1]; exact O.lt)))
def VM (K:FG7) (H:Hp) (x:V) (gs:List Nat):Prop:=∃ r,x = .ref r /\ SqT K H r (zM gs)
def up (K:FG7):Sp:=sp4 fun x y z u H Q=>∃ (k st l:Nat) (rows:List (List Int)),x = .int k /\ y = .int st /\ z = .int l /\ y9 K H u rows /\ k <= 4 /\ 1 <= st /\ st <= k /\ l < 2 ^ k /\ xK k rows /\ ∀ y H',Grow [] H H' -> VM K H' y (inO k rows st l) -> Q y H'
def sd (k a:Nat):Nat:=if h:a = 0 \/ k = 0 then 0 else a % 2 ^ k ^^^ sd k (a / 2 ^ k)
termination_by a
decreasing_by
 have:a ≠ 0:=fun e=>h (.inl e)
 exact Nat.div_lt_self (by omega) (Nat.one_lt_two_pow (fun e=>h (.inr e)))
theorem Xt {l:Int} {ns:List Int}:inV (.int l) (ns.map V.int) = decide (l ∈ ns):=by
 unfold inV
 rw [Bool.eq_iff_iff,List.any_eq_true,decide_eq_true_iff]
 constructor
 ·rintro ⟨y,hy,e⟩
  obtain ⟨i,hi,rfl⟩:=List.mem_map.mp hy
  have:i = l:=by simpa [eqV] using e
  rw [← this]; exact hi
 ·intro h
  exact ⟨.int l,List.mem_map.mpr ⟨l,h,rfl⟩,by simp [eqV]⟩
abbrev cxO (X:Cx) (N':List Str) (scope:Scope) (cl:List (Str × Addr)) (C D:Addr) (fp:List Addr) (s:Shared) (H:Hp):Cx :=
 { X with N:=N',s₀:=s,H₀:=H,env:=compEnvC scope cl C X.env,outer:=X.stack,ex:=D :: fp,fn:=fun x=>scope.names.lookup x == some .cell,xe:=fun _ _=>False }
structure CScC (X:Cx) (scope:Scope) (N':List Str) (sub:List (Option Nat)):Prop where
 free:∀ y ∈ scope.names,y.2 = .free -> X.env.kindOf y.1 = some .cell
 nd:(scope.names.map (·.1)).Nodup
 kind:scope.kind = .function
 names:∀ y ∈ scope.names,y.2 = .local -> scope.names.lookup y.1 = some .local
 len:sub.length = N'.length
 cap:∀ (j:Nat) (y:Str) (i:Nat),N'[j]? = some y -> sub[j]? = some (some i) -> X.N[i]? = some y /\ X.env.scope.names.lookup y = some .cell /\ scope.names.lookup y = some .free
theorem wA {α:Type} {x:Str} {c:α}:∀ {a b:List (Str × α)},(a ++ b).lookup x = some c -> a.lookup x = some c \/ (a.lookup x = none /\ b.lookup x = some c)
 | [],b,h=>.inr ⟨rfl,h⟩
 | (k,v) :: r,b,h=>by
  rw [List.cons_append,List.lookup_cons] at h
  rw [List.lookup_cons]
  cases hb:x == k with
  | true=>rw [hb] at h; exact .inl h
  | false=>rw [hb] at h; exact wA h
theorem Zg {α:Type} {x:Str} {a b:List (Str × α)} (h:∃ c,a.lookup x = some c):∃ c,(a ++ b).lookup x = some c:=by
 induction a with
 | nil=>obtain ⟨c,h⟩:=h; cases h
 | cons p r ih =>
  obtain ⟨k,v⟩:=p
  rw [List.lookup_cons] at h
  rw [List.cons_append,List.lookup_cons]
  cases hb:x == k with
  | true=>exact ⟨v,rfl⟩
  | false=>rw [hb] at h; exact ih h
theorem uq {α:Type} {x:Str} {a b:List (Str × α)} (h:∃ c,b.lookup x = some c):∃ c,(a ++ b).lookup x = some c:=by
 induction a with
 | nil=>exact h
 | cons p r ih =>
  obtain ⟨k,v⟩:=p
  rw [List.cons_append,List.lookup_cons]
  cases hb:x == k with
  | true=>exact ⟨v,rfl⟩
  | false=>exact ih
theorem qm {α:Type} {x:Str} {c:α} {a b:List (Str × α)} (h:a.lookup x = none) (e:b.lookup x = some c):(a ++ b).lookup x = some c:=by
 induction a with
 | nil=>exact e
 | cons p r ih =>
  obtain ⟨k,v⟩:=p
  rw [List.lookup_cons] at h
  rw [List.cons_append,List.lookup_cons]
  cases hb:x == k with
  | true=>rw [hb] at h; cases h
  | false=>rw [hb] at h; exact ih h
theorem ur:∀ (names:List (Str × NameKind)) (n:Nat) (acc more:List (Str × Addr)),cellsFrom n names (acc ++ more) = cellsFrom n names acc ++ more
 | [],_,_,_=>rfl
 | (x,k) :: r,n,acc,more=>by
  unfold cellsFrom
  split
  ·exact ur r (n + 1) ((x,n) :: acc) more
  ·exact ur r n acc more
theorem ut:∀ {names:List (Str × NameKind)} {n:Nat} {acc:List (Str × Addr)} {x:Str} {c:Addr},(x,c) ∈ cellsFrom n names acc -> (x,c) ∈ acc \/ (x,NameKind.cell) ∈ names
 | [],_,_,_,_,h=>.inl h
 | (y,k) :: r,n,acc,x,c,h=>by
  unfold cellsFrom at h
  split at h
  ·rename_i hk
   have hk':k = .cell:=by simpa using hk
   rcases ut h with z | z
   ·rcases List.mem_cons.mp z with e | z
    ·cases e; exact .inr (by rw [hk']; simp)
    ·exact .inl z
   ·exact .inr (List.mem_cons_of_mem _ z)
  ·rcases ut h with z | z
   ·exact .inl z
   ·exact .inr (List.mem_cons_of_mem _ z)
theorem w6 {α:Type} {x:Str}:∀ {a:List (Str × α)},x ∈ a.map (·.1) -> ∃ c,a.lookup x = some c
 | (k,v) :: r,h=>by
  rw [List.lookup_cons]
  cases hb:x == k with
  | true=>exact ⟨v,rfl⟩
  | false =>
   rcases List.mem_cons.mp h with e | h
   ·rw [e] at hb; simp at hb
   ·exact w6 h
theorem vw:∀ {names:List (Str × NameKind)} {n:Nat} {acc:List (Str × Addr)} {x:Str},x ∈ acc.map (·.1) -> x ∈ (cellsFrom n names acc).map (·.1)
 | [],_,_,_,h=>h
 | (y,k) :: r,n,acc,x,h=>by
  unfold cellsFrom
  split
  ·exact vw (by rw [List.map_cons]; exact List.mem_cons_of_mem _ h)
  ·exact vw h
theorem jy:∀ {names:List (Str × NameKind)} {n:Nat} {acc:List (Str × Addr)} {x:Str},(x,NameKind.cell) ∈ names -> x ∈ (cellsFrom n names acc).map (·.1)
 | (y,k) :: r,n,acc,x,h=>by
  unfold cellsFrom
  rcases List.mem_cons.mp h with e | h
  ·cases e
   rw [if_pos (by decide)]
   exact vw (by rw [List.map_cons]; exact List.mem_cons_self)
  ·split <;> exact jy h
theorem sY {names:List (Str × NameKind)} {n:Nat} {x:Str} (h:(x,NameKind.cell) ∈ names):∃ c,(cellsFrom n names []).lookup x = some c:=w6 (jy h)
theorem Yo {names:List (Str × NameKind)} {n:Nat} {x:Str} (nd:(names.map (·.1)).Nodup) (h:(x,NameKind.free) ∈ names):(cellsFrom n names []).lookup x = none:=by
 cases e:(cellsFrom n names []).lookup x with
 | none=>rfl
 | some c =>
  rcases ut (PySem.mem_of_lookup e) with z | z
  ·cases z
  ·have key:∀ {l:List (Str × NameKind)},(l.map (·.1)).Nodup -> (x,NameKind.free) ∈ l -> (x,NameKind.cell) ∈ l -> False:=by
    intro l
    induction l with
    | nil=>intro _ h; cases h
    | cons p r ih =>
     intro nd h1 h2
     rw [List.map_cons,List.nodup_cons] at nd
     rcases List.mem_cons.mp h1 with e1 | h1 <;> rcases List.mem_cons.mp h2 with e2 | h2
     ·rw [← e1] at e2; cases e2
     ·exact nd.1 (by rw [← e1]; exact List.mem_map.mpr ⟨_,h2,rfl⟩)
     ·exact nd.1 (by rw [← e2]; exact List.mem_map.mpr ⟨_,h1,rfl⟩)
     ·exact ih nd.2 h1 h2
   exact (key nd h z).elim
section
variable {X:Cx} {pins:List (Addr × Obj)} {σ:L2.St} {H2:Hp} {s₂:Shared} {it:Addr} {fp:List Addr} {tn:Nat -> Heap -> Prop} {J:It} {scope:Scope} {cl:List (Str × Addr)} {N':List Str} {sub:List (Option Nat)}
theorem qo {h₁:Heap} {tk:Nat} (I:Inv X pins σ H2 s₂) (S:CScC X scope N' sub) (hcl1:∀ x c,cl.lookup x = some c -> X.env.cells.lookup x = some c) (hcl2:∀ y ∈ scope.names,y.2 = .free -> ∃ c,cl.lookup y.1 = some c)
    (hcc:CellsOk h₁ (s₂.heap.objs.size + 2) (cellsFrom (s₂.heap.objs.size + 2) scope.names []))
    (f2:∀ b ∈ fp,FpOk X pins H2 b) (hfp:∀ b ∈ fp,b < s₂.heap.objs.size) {m:Str -> Option Value} {ob:Obj}
    (hns:h₁.Ns (s₂.heap.objs.size + 1) m) (hk:∀ b o,(s₂.heap.push ob).get? b = some o -> h₁.get? b = some o) :
    Inv (cxO X N' scope (cellsFrom (s₂.heap.objs.size + 2) scope.names [] ++ cl) (s₂.heap.objs.size + 1) s₂.heap.objs.size fp { s₂ with heap:=s₂.heap.push ob } H2) pins (capt sub σ) H2 { s₂ with heap:=h₁,toks:=tk }:=by
  have old:∀ b o,s₂.heap.get? b = some o -> (s₂.heap.push ob).get? b = some o:=fun b o e=>Heap.get?_push_of_some _ e
  have old2:∀ b o,s₂.heap.get? b = some o -> h₁.get? b = some o:=fun b o e=>hk b o (old b o e)
  have sz:(s₂.heap.push ob).objs.size = s₂.heap.objs.size + 1:=Heap.size_push ..
  have lk:∀ x c,(cellsFrom (s₂.heap.objs.size + 2) scope.names [] ++ cl).lookup x = some c -> ((x,c) ∈ cellsFrom (s₂.heap.objs.size + 2) scope.names [] /\ h₁.IsCell c none /\ s₂.heap.objs.size + 2 <= c) \/ X.env.cells.lookup x = some c:=fun x c e=>by
    rcases wA e with e | ⟨_,e⟩
    · exact .inl ⟨PySem.mem_of_lookup e,hcc.empty x c (PySem.mem_of_lookup e)⟩
    · exact .inr (hcl1 x c e)
  have cells:∀ x c,X.env.cells.lookup x = some c -> c < s₂.heap.objs.size:=fun x c e=>let ⟨v,q⟩:=I.cell x c e; q.lt
  have has:∀ x,((relabel scope X.env).names.lookup x = some .cell \/ (relabel scope X.env).names.lookup x = some .free) -> ∃ c,(cellsFrom (s₂.heap.objs.size + 2) scope.names [] ++ cl).lookup x = some c:=fun x hx=>by
    rcases hx with hx | hx
    · obtain ⟨k',e,z⟩:=yR hx
      rcases z with z | ⟨_,z⟩
      · subst z; exact Zg (sY (PySem.mem_of_lookup e))
      · subst z; exact uq (hcl2 _ (PySem.mem_of_lookup e) rfl)
    · obtain ⟨k',e,z⟩:=yR hx
      rcases z with z | ⟨z,_⟩
      · subst z; exact uq (hcl2 _ (PySem.mem_of_lookup e) rfl)
      · cases z
  have frsz:∀ b ∈ frs X.stack,b < s₂.heap.objs.size:=fun b hb=>by
    rcases List.mem_cons.mp (I.stkSub b hb) with z | z
    · rw [z]; exact I.lt
    · exact Nat.lt_of_not_le fun q=>I.nofs q z
  refine
    { ok :=
      { mod:=I.ok.mod,kind:=S.kind,glob:=I.ok.glob,blt:=I.ok.blt
        above:=by show (s₂.heap.push ob).objs.size <= s₂.heap.objs.size + 1; rw [sz]; exact Nat.le_refl _
        inj:=fun x y c h1 h2=>?inj
        has:=has
        cab:=fun x c z e=>?cab
        hd:=I.ok.hd,frames:=I.ok.frames,stk:=.inl rfl
        exf:=fun b hb=>?exf
        bs:=fun b o e=>⟨old b o (I.bk b o e),(I.bs b o e).2⟩
        bsz:=by show X.base.objs.size <= (s₂.heap.push ob).objs.size; rw [sz]; exact Nat.le_succ_of_le (Nat.le_trans I.ok.bsz I.sz)
        noex:=fun b o e hb=>?noex
        exfs:=fun b hb=>?exfs
        funs:=?funs
        frf:=I.stkFree }
      os:=rfl,bare:=I.bare,base:=Un.kept fun b u e=>hk b u e
      loc:=⟨m,hns,?loc⟩
      cell:=fun x c e=>?cell
      free:=I.hok.fresh (Nat.le_succ _)
      freeC:=fun x c e=>?freeC
      pin:=fun p hp=>?pin
      hok:=I.hok.kept old2
      len:=?len }
  case exf =>
    rcases List.mem_cons.mp hb with rfl | hb
    · exact ⟨Nat.ne_of_lt (Nat.lt_succ_self _),fun x c e=>(lk x c e).elim (fun z=>Nat.ne_of_gt (Nat.lt_of_lt_of_le (Nat.lt_succ_of_lt (Nat.lt_succ_self _)) z.2.2)) (fun z=>Nat.ne_of_lt (cells x c z))⟩
    · exact ⟨Nat.ne_of_lt (Nat.lt_succ_of_lt (hfp b hb)),fun x c e=>(lk x c e).elim (fun z=>Nat.ne_of_gt (Nat.lt_of_lt_of_le (hfp b hb) (Nat.le_trans (Nat.le_add_right _ 2) z.2.2))) (fun z=>(f2 b hb).2.2.2.2.1 x c z)⟩
  case noex =>
    have hl:b < X.s₀.heap.objs.size:=Nat.lt_of_lt_of_le (Heap.lt_size e) I.ok.bsz
    rcases List.mem_cons.mp hb with rfl | hb
    · exact absurd (Nat.lt_of_lt_of_le hl I.sz) (Nat.lt_irrefl _)
    · rcases (f2 b hb).2.2.2.1 with z | z
      · exact I.ok.noex b o e z
      · exact absurd (Nat.lt_of_lt_of_le hl z) (Nat.lt_irrefl _)
  case exfs =>
    intro hs
    rcases List.mem_cons.mp hb with rfl | hb
    · exact absurd (frsz _ hs) (Nat.lt_irrefl _)
    · rcases List.mem_cons.mp (I.stkSub b hs) with z | z
      · exact (f2 b hb).2.1 z
      · exact (f2 b hb).2.2.1 z
  case funs=>exact Heap.FunFrames.of_keeps (fun b o e _=>⟨o,old b o e,rfl⟩) I.stack
  case loc =>
    intro j y v hj hv hvis
    obtain ⟨mX,_,lX⟩:=I.loc
    unfold capt at hv
    rw [List.getElem?_map] at hv
    cases hs:sub[j]? with
    | none=>rw [hs] at hv; cases hv
    | some o =>
      rw [hs] at hv
      cases o with
      | none=>cases hv
      | some i =>
        obtain ⟨hN,hc,hf⟩:=S.cap j y i hj hs
        have hv':σ[i]? = some (some v):=by
          have z:(match σ[i]? with | some v=>v | none=>none) = some v:=Option.some.inj hv
          cases q:σ[i]? with
          | none=>rw [q] at z; cases z
          | some w=>rw [q] at z; rw [show w = some v from z]
        obtain ⟨u,ru,hl⟩:=lX i y v hN hv' (.inr (.inl hc))
        refine ⟨u,ru,?_⟩
        have kc:(relabel scope X.env).names.lookup y = some .cell:=xt I.ok.kind hc hf
        rcases hl with ⟨z,_⟩ | ⟨_,c,e,ic⟩
        · have z':X.env.scope.names.lookup y = some .local :=z
          rw [hc] at z'; cases z'
        · obtain ⟨c',e'⟩:=hcl2 _ (PySem.mem_of_lookup hf) rfl
          have:=hcl1 _ _ e'
          rw [e] at this; cases this
          have e3:(cellsFrom (s₂.heap.objs.size + 2) scope.names [] ++ cl).lookup y = some c:=qm (Yo S.nd (PySem.mem_of_lookup hf)) e'
          refine .inr ⟨.inl kc,c,e3,?_⟩
          obtain ⟨oc,h1,h2⟩:=ic
          exact ⟨oc,old2 _ _ h1,h2⟩
  case cell =>
    rcases lk x c e with ⟨_,z,_⟩ | z
    · exact ⟨none,z⟩
    · obtain ⟨v,oc,h1,h2⟩:=I.cell x c z
      exact ⟨v,oc,old2 _ _ h1,h2⟩
  case inj =>
    rcases lk x c h1 with ⟨m1,_,z1⟩ | z1 <;> rcases lk y c h2 with ⟨m2,_,z2⟩ | z2
    · exact name_of_addr hcc.apart m1 m2
    · exact absurd (Nat.lt_of_lt_of_le (cells y c z2) (Nat.le_trans (Nat.le_add_right _ 2) z1)) (Nat.lt_irrefl _)
    · exact absurd (Nat.lt_of_lt_of_le (cells x c z1) (Nat.le_trans (Nat.le_add_right _ 2) z2)) (Nat.lt_irrefl _)
    · exact I.ok.inj x y c z1 z2
  case cab =>
    show (s₂.heap.push ob).objs.size <= c
    rw [sz]
    have hz:scope.names.lookup x = some .cell:=by simpa using z
    rcases wA e with e | ⟨e,_⟩
    · have:=(hcc.empty x c (PySem.mem_of_lookup e)).2; omega
    · obtain ⟨c',e'⟩:=sY (n:=s₂.heap.objs.size + 2) (PySem.mem_of_lookup hz)
      rw [e'] at e; cases e
  case freeC =>
    rcases lk x c e with ⟨_,_,z⟩ | z
    · exact I.hok.fresh (by omega)
    · exact I.freeC x c z
  case pin =>
    obtain ⟨p1,p2,p3,p4,p5⟩:=I.pin p hp
    refine ⟨old2 _ _ p1,p2,Nat.ne_of_lt (Nat.lt_succ_of_lt (Heap.lt_size p1)),fun hs=>?_,p5⟩
    rcases List.mem_cons.mp (I.stkSub _ hs) with z | z
    · exact p3 z
    · exact p4 z
  case len =>
    show (capt sub σ).length = N'.length
    unfold capt
    rw [List.length_map]; exact S.len
theorem Yp {C D:Addr} {s₀:Shared} {s':Shared} {σ':L2.St} {H':Hp} {ys:List V} {us:List Value} {k:Nat} {oC:Obj} (I:Inv X pins σ H2 s₂)
    (hs₀:∀ b o,s₂.heap.get? b = some o -> s₀.heap.get? b = some o) (hos:s₀.os = s₂.os) (hD:s₂.heap.objs.size <= D) (hC:s₂.heap.objs.size <= C) (hDC:D ≠ C) (f2:∀ b ∈ fp,FpOk X pins H2 b)
    (I':Inv (cxO X N' scope cl C D fp s₀ H2) pins σ' H' s') (hn:H' D = none) (hy:s'.heap.get? D = some { cls:=.type "list",data:=.seq us.toArray k }) (rv:Vals ys us) (hz:ys.length <= sizeLine)
    (ho:s'.heap.get? C = some oC) (hd:∀ v,oC.data ≠ .cell v):Inv X (pins ++ [(C,oC)]) σ (upd H' D (.lst ys)) s' /\ FpOk X pins (upd H' D (.lst ys)) C:=by
  have neD:∀ b o,s₂.heap.get? b = some o -> b ≠ D:=fun b o e=>Nat.ne_of_lt (Nat.lt_of_lt_of_le (Heap.lt_size e) hD)
  have nm:∀ b o,s₂.heap.get? b = some o -> b ∉ fp -> b ∉ D :: fp:=fun b o e h z=>(List.mem_cons.mp z).elim (neD b o e) h
  have U:=I'.base
  have HC:upd H' D (.lst ys) C = none:=by rw [zm (Ne.symm hDC)]; exact I'.free
  have fpc:FpOk X pins (upd H' D (.lst ys)) C:=I.fpOk hC HC
  have un:Un (frs X.stack) fp H2 (upd H' D (.lst ys)) s₂.heap s'.heap :=
    { keep:=fun b o e n h1 h2=>U.keep b o (hs₀ b o e) n h1 (nm b o e h2)
      slot:=fun b o e n h1 h2=>U.slot b o (hs₀ b o e) n h1 (nm b o e h2)
      free:=fun b o e n h2=>by rw [zm (neD b o e)]; exact U.free b o (hs₀ b o e) n (nm b o e h2)
      there:=fun b o e h2=>U.there b o (hs₀ b o e) (nm b o e h2)
      tups:=fun b xs e=>by have z:=U.tups b xs e; rw [zm (zq z hn)]; exact z
      frzs:=fun b o u e=>by have z:=U.frzs b o u e; rw [zm (zq z hn)]; exact z
      tbls:=fun b ps e=>by obtain ⟨more,z⟩:=U.tbls b ps e; exact ⟨more,by rw [zm (zq z hn)]; exact z⟩ }
  have hok:HOk X.prog X.w (upd H' D (.lst ys)) s'.heap:=HOk.track I'.hok hn ⟨hz,us,k,rv,hy⟩
  have IX:Inv X pins σ (upd H' D (.lst ys)) s':=I.call' (I'.os.trans hos) un hok I'.bare fun b hb=>⟨(f2 b hb).2.2.2.1,(f2 b hb).2.1,(f2 b hb).2.2.2.2.1,(f2 b hb).2.2.2.2.2⟩
  refine ⟨IX.pins_of fun p hp=>?_,fpc⟩
  rcases List.mem_append.mp hp with hp | hp
  · exact IX.pin p (List.mem_append_right _ hp)
  · rw [List.mem_singleton.mp hp]
    exact ⟨ho,HC,fpc.2.1,fpc.2.2.1,hd⟩
theorem Yq {C D:Addr} {s₀:Shared} {tg:Expr} {pos:Pos} {elt iter:Expr} {ifs:List Expr} {g:TG} {tt:TT} {te:TE} {Q:VK} {RR:Value -> Addr -> Result -> Shared -> Prop} {W:Nat -> Nat -> List V -> L2.St -> Hp -> Prop}
  (I:Inv X pins σ H2 s₂) (hcalm:X.calm = true) (T:Turn X.prog X.w X.K tg J fp it tn) (f2:∀ b ∈ fp,FpOk X pins H2 b) (hfp:∀ b ∈ fp,b < s₂.heap.objs.size)
  (hs₀:∀ b o,s₂.heap.get? b = some o -> s₀.heap.get? b = some o) (hos:s₀.os = s₂.os) (hD:s₂.heap.objs.size <= D) (hC:s₂.heap.objs.size <= C) (hDC:D ≠ C)
  (hcl1:∀ x c,cl.lookup x = some c -> X.env.cells.lookup x = some c \/ (s₂.heap.objs.size <= c /\ D ≠ c))
  (hg:PG (cxO X N' scope cl C D fp s₀ H2) tg g) (ht:PIfs (cxO X N' scope cl C D fp s₀ H2) ifs tt) (he:PE (cxO X N' scope cl C D fp s₀ H2) elt te)
  (turn:∀ i m ys σ' H',W i m ys σ' H' →
   (J.stop i H' /\ ∀ l,H' l = none -> Q (.ref l) (upd H' l (.lst ys))) ∨
   (J.go i H' /\ ∃ Nn:List V -> L2.St -> Hp -> Prop,(∀ zs σ2 H2,Nn zs σ2 H2 -> ∃ m',m' < m /\ W (i + 1) m' zs σ2 H2) ∧
    ∀ x H2,J.yld i H' x H2 -> g x σ' H2 fun σ2 H3=>tt σ2 H3 fun b H4=>if b = true then te σ2 H4 fun y H5=>ys.length < sizeLine /\ Nn (ys ++ [y]) σ2 H5 else Nn ys σ2 H4))
  (hRR:∀ (D C:Addr) (oC:Obj) (m:Str -> Option Value) (s':Shared) (Hf:Hp),Inv X (pins ++ [(C,oC)]) σ Hf s' -> s'.heap.Ns C m -> FpOk X pins Hf C -> Q (.ref D) Hf -> RR (.ref D) C (.ok .next) s')
  (n:Nat) (s:Shared) (h:∃ i ys us k σ' H',Inv (cxO X N' scope cl C D fp s₀ H2) pins σ' H' s /\ tn i s.heap /\ (∀ b ∈ fp,H' b = none) /\ H' D = none ∧
   s.heap.get? D = some { cls:=.type "list",data:=.seq (us:List Value).toArray k } /\ Vals ys us /\ ys.length <= sizeLine /\ W i n ys σ' H') :
  codeAny (model X.prog X.w) X.A (.compLoop (.ListComp elt [⟨tg,iter,ifs,0⟩] scope pos) 0 (.ref it) (.ref D) (compEnvC scope cl C X.env)) (RR (.ref D) C) s:=by
 have frsz:∀ b ∈ frs X.stack,b < s₂.heap.objs.size:=fun b hb=>by
  rcases List.mem_cons.mp (I.stkSub b hb) with z | z
  ·rw [z]; exact I.lt
  ·exact Nat.lt_of_not_le fun q=>I.nofs q z
 have cells:∀ x c,cl.lookup x = some c -> D ≠ c:=fun x c e=>by
  rcases hcl1 x c e with z | z
  ·obtain ⟨v,q⟩:=I.cell x c z
   exact Nat.ne_of_gt (Nat.lt_of_lt_of_le q.lt hD)
  ·exact z.2
 have pinsz:∀ p ∈ X.pn ++ pins,p.1 < s₂.heap.objs.size:=fun p hp=>Heap.lt_size (I.pin p hp).1
 refine sJ (fun n s=>∃ i ys us k σ' H',Inv (cxO X N' scope cl C D fp s₀ H2) pins σ' H' s /\ tn i s.heap /\ (∀ b ∈ fp,H' b = none) /\ H' D = none ∧
   s.heap.get? D = some { cls:=.type "list",data:=.seq (us:List Value).toArray k } /\ Vals ys us /\ ys.length <= sizeLine /\ W i n ys σ' H') ?_ n h
 rintro n s ⟨i,ys,us,k,σ',H',I',st',fr,hn,hy,rv,hz,w'⟩
 have pD:Inv (cxO X N' scope cl C D fp s₀ H2) (pins ++ [(D,{ cls:=.type "list",data:=.seq us.toArray k })]) σ' H' s:=I'.pins_of fun p hp=>by
  rcases List.mem_append.mp hp with hp | hp
  ·exact I'.pin p (List.mem_append_right _ hp)
  ·rw [List.mem_singleton.mp hp]
   exact ⟨hy,hn,hDC,fun z=>absurd (Nat.lt_of_lt_of_le (frsz _ z) hD) (Nat.lt_irrefl _),fun v z=>by cases z⟩
 have fpok:∀ {H'':Hp},(∀ b ∈ fp,H'' b = none) -> ∀ b ∈ fp,FpOk (cxO X N' scope cl C D fp s₀ H2) (pins ++ [(D,{ cls:=.type "list",data:=.seq us.toArray k })]) H'' b:=fun hz b hb=>by
  refine ⟨hz b hb,Nat.ne_of_lt (Nat.lt_of_lt_of_le (hfp b hb) hC),fun z=>?_,.inl (List.mem_cons_of_mem _ hb),fun x c e=>(hcl1 x c e).elim (fun z=>(f2 b hb).2.2.2.2.1 x c z) (fun z q=>absurd (Nat.lt_of_lt_of_le (q ▸ hfp b hb) z.1) (Nat.lt_irrefl _)),fun p hp=>?_⟩
  ·rcases List.mem_cons.mp (I.stkSub b z) with z | z
   ·exact (f2 b hb).2.1 z
   ·exact (f2 b hb).2.2.1 z
  ·rcases List.mem_append.mp hp with hp | hp
   ·exact (f2 b hb).2.2.2.2.2 p (List.mem_append_left _ hp)
   ·rcases List.mem_append.mp hp with hp | hp
    ·exact (f2 b hb).2.2.2.2.2 p (List.mem_append_right _ hp)
    ·rw [List.mem_singleton.mp hp]
     exact Nat.ne_of_gt (Nat.lt_of_lt_of_le (hfp b hb) hD)
 rcases turn i n ys σ' H' w' with ⟨stop,q⟩ | ⟨go,Nn,hN,step⟩
 ·refine thn (T.done (cxO X N' scope cl C D fp s₀ H2) rfl rfl rfl hcalm i _ s σ' H' (fun _ _=>False) pD (fpok fr) st' stop) fun r s1 ⟨hr,I1⟩=>?_
  subst hr
  have hy1:=(I1.pin (D,{ cls:=.type "list",data:=.seq us.toArray k }) (by simp)).1
  obtain ⟨m,hm,_⟩:=I1.loc
  obtain ⟨oC,es,ep,hoC,hdC,_⟩:=id hm
  obtain ⟨IX,fpc⟩:=Yp I hs₀ hos hD hC hDC f2 I1.unpinned hn hy1 rv hz hoC (by intro v z; rw [hdC] at z; cases z)
  exact hRR D C oC m s1 _ IX hm fpc (q D hn)
 ·refine thn (T.item (cxO X N' scope cl C D fp s₀ H2) rfl rfl rfl hcalm i _ s σ' H' (fun _ _=>False) pD (fpok fr) st' go) fun r s1 ⟨u,hr,h4⟩=>?_
  subst hr
  refine thn h4 fun _ s2 ⟨x5,H5,I5,r5,y5,st5,fr5⟩=>?_
  have I5':=I5.pinned (fpok fr5) (T.obj _ _ st5)
  refine thn (hg _ s2 σ' H5 x5 u _ I5' r5 (step x5 H5 y5)) fun _ s3 ⟨σ6,H6,I6,q6⟩=>?_
  refine thn (ht _ s3 σ6 H6 _ I6 q6) fun ok s4 ⟨H7,I7,q7⟩=>?_
  have stay:∀ {σ7:L2.St} {H7:Hp} {s7:Shared},Inv (cxO X N' scope cl C D fp s₀ H2) (pins ++ [(D,{ cls:=.type "list",data:=.seq us.toArray k })] ++ v3 fp s2.heap) σ7 H7 s7 →
    (∀ b ∈ fp,∀ o,s2.heap.get? b = some o -> s7.heap.get? b = some o) /\ (∀ b ∈ fp,H7 b = none) /\ H7 D = none /\ s7.heap.get? D = some { cls:=.type "list",data:=.seq us.toArray k }:=fun {σ7 H7 s7} I7=>by
   have d:=I7.pin (D,{ cls:=.type "list",data:=.seq us.toArray k }) (by simp)
   refine ⟨fun b hb o e=>(I7.pin (b,o) (List.mem_append_right _ (List.mem_append_right _ (yy hb e)))).1,fun b hb=>?_,d.2.1,d.1⟩
   obtain ⟨o,e,_⟩:=T.obj _ _ st5 b hb
   exact (I7.pin (b,o) (List.mem_append_right _ (List.mem_append_right _ (yy hb e)))).2.1
  cases ok with
  | false =>
   rw [if_neg (by decide)] at q7 ⊢
   obtain ⟨k1,k2,k3,k4⟩:=stay I7
   obtain ⟨m',hm,w7⟩:=hN ys σ6 H7 q7
   exact ⟨m',hm,i + 1,ys,us,k,σ6,H7,I7.unpinned.unpinned,T.keep _ _ _ st5 k1,k2,k3,k4,rv,hz,w7⟩
  | true =>
   rw [if_pos rfl] at q7 ⊢
   refine thn (he _ s4 σ6 H7 _ I7 q7) fun v s5 ⟨y,H8,I8,r8,hl8,n8⟩=>?_
   obtain ⟨k1,k2,k3,k4⟩:=stay I8
   refine wpAny_list_append_plain (l:=D) ⟨k,k4⟩ (fun h' pl sb=>?_) (by rw [List.size_toArray,← rv.length]; exact hz)
   obtain ⟨k',e'⟩:=pl
   obtain ⟨m',hm,w8⟩:=hN _ σ6 H8 n8
   refine ⟨m',hm,i + 1,ys ++ [y],us ++ [v],k',σ6,H8,?_,T.keep _ _ _ (T.keep _ _ _ st5 k1) fun b hb o e=>sb.extBut b o (Nat.ne_of_lt (Nat.lt_of_lt_of_le (hfp b hb) hD)) e,k2,k3,?_,rv.append (.cons r8 .nil),?_,w8⟩
   ·exact (I8.unpinned.unpinned).turned (it:=D) (t':=s5.toks) (h':=h') (fun b o hb e=>sb.extBut b o hb e) k3 hDC (.inl (by simp)) (fun x c e=>(cells x c e).symm) (fun p hp=>Nat.ne_of_lt (Nat.lt_of_lt_of_le (pinsz p hp) hD))
   ·rw [e']; simp
   ·rw [List.length_append]; exact hl8
theorem Yr {M:Model} {A:Around} {E:VS7} {s:Shared} {scope:Scope} {globals:Addr} {closure:List (Str × Addr)} {qual:Str} {around:Env} {Q:Env -> Shared -> Prop} (hk:scope.kind = .function)
  (hQ:∀ h',h'.Ns s.heap.objs.size (fun _=>none) -> (∀ b o,s.heap.get? b = some o -> h'.get? b = some o) -> CellsOk h' (s.heap.objs.size + 1) (cellsFrom (s.heap.objs.size + 1) scope.names []) →
   Q (newEnv scope s.heap.objs.size globals (cellsFrom (s.heap.objs.size + 1) scope.names [] ++ closure) qual none .none (some around) builtinsNs) { s with heap:=h' }) :
  wpAny M A (newFunctionEnv scope globals closure [] qual none .none (some around)) Q E s:=by
 simp only [newFunctionEnv,Option.isSome_some,if_true]
 refine wpAny_bind (wpAny_alloc (wpAny_bind (wpAny_layCells _ (fun nm kd cs=>by cases h:kd == NameKind.cell <;> simp [h]) scope.names closure _ _ ?_)))
 have own:=cellsFrom_ok scope.names (s.heap.push ⟨.type "dict",none,.dict #[],#[]⟩) (s.heap.objs.size + 1) [] ⟨fun _ _ z=>(nomatch z),.nil⟩ (Nat.le_of_eq (Heap.size_push ..).symm)
 have sz:(s.heap.push ⟨.type "dict",none,.dict #[],#[]⟩).objs.size = s.heap.objs.size + 1:=Heap.size_push ..
 rw [sz] at own
 have ea:=ur scope.names (s.heap.objs.size + 1) [] closure
 rw [List.nil_append] at ea
 show wpAny _ _ _ _ _ { s with heap:=pushCells (s.heap.push ⟨.type "dict",none,.dict #[],#[]⟩) scope.names }
 dsimp only
 rw [sz,ea]
 exact wpAny_bind (wpAny_pure (wpAny_pure (hQ _ ((Heap.Ns.new s.heap (.type "dict")).keeps (pushCells_keeps _ _)) (fun b o e=>pushCells_keeps _ _ b o (Heap.get?_push_of_some _ e)) own)))
theorem qp {tg:Expr} {pos:Pos} {elt iter:Expr} {ifs:List Expr} {g:TG} {tt:TT} {te:TE} {E:VS7} {Q:VK} {RR:Value -> Addr -> Result -> Shared -> Prop}
  (I:Inv X pins σ H2 s₂) (hcalm:X.calm = true) (T:Turn X.prog X.w X.K tg J fp it tn) (st:tn 0 s₂.heap) (f2:∀ b ∈ fp,FpOk X pins H2 b)
  (S:CScC X scope N' sub) (hcl1:∀ x c,cl.lookup x = some c -> X.env.cells.lookup x = some c) (hcl2:∀ y ∈ scope.names,y.2 = .free -> ∃ c,cl.lookup y.1 = some c)
  (hg:∀ cl C D fp s H,PG (cxO X N' scope cl C D fp s H) tg g) (ht:∀ cl C D fp s H,PIfs (cxO X N' scope cl C D fp s H) ifs tt) (he:∀ cl C D fp s H,PE (cxO X N' scope cl C D fp s H) elt te)
  (hW:xE J (capt sub σ) H2 g tt te Q)
  (hRR:∀ (D C:Addr) (oC:Obj) (m:Str -> Option Value) (s':Shared) (Hf:Hp),Inv X (pins ++ [(C,oC)]) σ Hf s' -> s'.heap.Ns C m -> FpOk X pins Hf C -> Q (.ref D) Hf -> RR (.ref D) C (.ok .next) s') :
  wpAny (model X.prog X.w) X.A (newList []) (fun acc s₃=>wpAny (model X.prog X.w) X.A (newFunctionEnv scope X.env.globals cl [] X.env.qual none .none (some X.env)) (fun cenv s₄ =>
   codeAny (model X.prog X.w) X.A (.compStart (.ListComp elt [⟨tg,iter,ifs,0⟩] scope pos) 0 (.ref it) acc { cenv with scope:=relabel scope X.env }) (RR acc cenv.locals) s₄) E s₃) E s₂:=by
 obtain ⟨W,⟨m0,w0⟩,turn⟩:=hW
 refine wpAny_newObj_type (Yr S.kind fun h₁ hns₁ hk0 hcc=>?_)
 dsimp only at hns₁ hk0 hcc ⊢
 have hC:(s₂.heap.push { cls:=.type "list",dict:=none,data:=.seq ([]:List Value).toArray }).objs.size = s₂.heap.objs.size + 1:=Heap.size_push ..
 rw [hC] at hns₁ hcc ⊢
 have hk:∀ b o,(s₂.heap.push { cls:=.type "list",dict:=none,data:=.seq ([]:List Value).toArray }).get? b = some o -> h₁.get? b = some o:=hk0
 have hfp:∀ b ∈ fp,b < s₂.heap.objs.size:=fun b hb=>by
  obtain ⟨o,e,_⟩:=T.obj _ _ st b hb
  exact Heap.lt_size e
 have I0:=qo (tk:=s₂.toks) I S hcl1 hcl2 hcc f2 hfp hns₁ hk
 have hD0:h₁.get? s₂.heap.objs.size = some { cls:=.type "list",data:=.seq ([]:List Value).toArray 0 }:=hk _ _ (Heap.get?_push_size _ rfl)
 have hcl3:∀ x c,(cellsFrom (s₂.heap.objs.size + 2) scope.names [] ++ cl).lookup x = some c -> X.env.cells.lookup x = some c \/ (s₂.heap.objs.size <= c /\ s₂.heap.objs.size ≠ c):=fun x c e=>by
  rcases wA e with e | ⟨_,e⟩
  ·have z:=(hcc.empty x c (PySem.mem_of_lookup e)).2
   exact .inr ⟨Nat.le_trans (Nat.le_add_right _ 2) z,Nat.ne_of_lt (Nat.lt_of_lt_of_le (Nat.lt_succ_of_lt (Nat.lt_succ_self _)) z)⟩
  ·exact .inl (hcl1 x c e)
 have loop:codeAny (model X.prog X.w) X.A (.compLoop (.ListComp elt [⟨tg,iter,ifs,0⟩] scope pos) 0 (.ref it) (.ref s₂.heap.objs.size) (compEnvC scope (cellsFrom (s₂.heap.objs.size + 2) scope.names [] ++ cl) (s₂.heap.objs.size + 1) X.env)) (RR (.ref s₂.heap.objs.size) (s₂.heap.objs.size + 1)) { s₂ with heap:=h₁,toks:=s₂.toks } :=
  Yq (s₀:={ s₂ with heap:=s₂.heap.push { cls:=.type "list",dict:=none,data:=.seq ([]:List Value).toArray } }) (C:=s₂.heap.objs.size + 1) (D:=s₂.heap.objs.size) I hcalm T f2 hfp (fun b o e=>Heap.get?_push_of_some _ e) rfl (Nat.le_refl _) (Nat.le_succ _) (Nat.ne_of_lt (Nat.lt_succ_self _)) hcl3 (hg _ _ _ _ _ _) (ht _ _ _ _ _ _) (he _ _ _ _ _ _) turn hRR m0 _
   ⟨0,[],[],0,capt sub σ,H2,I0,T.keep _ _ _ st fun b hb o e=>hk b o (Heap.get?_push_of_some _ e),fun b hb=>(f2 b hb).1,I.hok.fresh (Nat.le_refl _),hD0,.nil,Nat.zero_le _,w0⟩
 exact codeAny_compStart_list loop (T.self _ _ _ _ _ (T.keep _ _ _ st fun b hb o e=>hk b o (Heap.get?_push_of_some _ e)) loop)
end
section
variable {X:Cx} {scope:Scope} {N':List Str} {sub:List (Option Nat)} {tg:Expr} {pos:Pos} {elt iter:Expr} {ifs:List Expr} {wi:TI} {g:TG} {tt:TT} {te:TE}
theorem CScC.clos {pins:List (Addr × Obj)} {σ:L2.St} {H:Hp} {s:Shared} (S:CScC X scope N' sub) (I:Inv X pins σ H s):∃ cl,closureFor scope X.env = pure cl /\ (∀ x c,cl.lookup x = some c -> X.env.cells.lookup x = some c) /\ ∀ y ∈ scope.names,y.2 = .free -> ∃ c,cl.lookup y.1 = some c :=
 uU fun y hy hf=>I.ok.has y.1 (.inl (S.free y hy hf))
theorem Xu (S:CScC X scope N' sub) (hcalm:X.calm = true) (hi:PI X tg iter wi)
  (hg:∀ cl C D fp s H,PG (cxO X N' scope cl C D fp s H) tg g) (ht:∀ cl C D fp s H,PIfs (cxO X N' scope cl C D fp s H) ifs tt) (he:∀ cl C D fp s H,PE (cxO X N' scope cl C D fp s H) elt te)
  (hs:∀ x,foldedSetIterable iter X.env x = pure x:=by intro _; rfl):PE X (.ListComp elt [⟨tg,iter,ifs,0⟩] scope pos) (Wr wi sub g tt te):=by
 intro pins s σ H Q I h
 obtain ⟨cl,hclos,hcl1,hcl2⟩:=S.clos I
 rw [eval_ListComp]
 refine wpAny_comprehension_free (use:=none) rfl hs hclos S.kind S.names (thn (hi pins s σ H _ I h) fun v s1 h1=>thn h1 fun itv s2 h2=>?_)
 obtain ⟨it,fp,tn,J,H2,e,I2,T,st2,f2,hW⟩:=h2
 subst e
 refine qp (RR:=fun acc C=>compPost (model X.prog X.w) X.A X.xe none (EP X pins σ Q) acc C) I2 hcalm T st2 f2 S hcl1 hcl2 hg ht he hW ?_
 intro D C oC m s' Hf IX hm fpc q
 refine ⟨m,hm,fun h' sb=>⟨.ref D,Hf,?_,rfl,q⟩⟩
 exact (IX.unpinned).turned (it:=C) (t':=s'.toks) (h':=h') (fun b o hb e=>sb.extBut b o hb e) fpc.1 fpc.2.1 fpc.2.2.2.1 fpc.2.2.2.2.1 fpc.2.2.2.2.2
end
theorem CScC.of {X:Cx} {scope:Scope} {N':List Str} {sub:List (Option Nat)} (sc:Scope) (NN:List Str) (e:X.env.scope = sc) (en:X.N = NN)
  (h:((scope.names.all fun y=>(y.2 != .free || sc.names.lookup y.1 == some .cell) && (y.2 != .local || scope.names.lookup y.1 == some .local)) && (sub.length == N'.length) &&
   ((N'.zip sub).all fun p=>match p.2 with | none=>true | some i=>NN[i]? == some p.1 && sc.names.lookup p.1 == some .cell && scope.names.lookup p.1 == some .free)) = true)
  (nd:(scope.names.map (·.1)).Nodup) (hk:scope.kind = .function):CScC X scope N' sub:=by
 rw [Bool.and_eq_true,Bool.and_eq_true] at h
 obtain ⟨⟨h1,h2⟩,h3⟩:=h
 have k1:=fun y hy=>List.all_eq_true.mp h1 y hy
 refine ⟨fun y hy hf=>?_,nd,hk,fun y hy hl=>?_,by simpa using h2,fun j y i hj hs=>?_⟩
 ·have:=k1 y hy
  simp only [hf,Bool.and_eq_true] at this
  have z:=this.1
  show X.env.scope.names.lookup y.1 = _
  rw [e]; simpa using z
 ·have:=k1 y hy
  simp only [hl,Bool.and_eq_true] at this
  simpa using this.2
 ·have hm:(y,some i) ∈ N'.zip sub:=by
   have:(N'.zip sub)[j]? = some (y,some i):=by
    rw [List.getElem?_zip_eq_some]; exact ⟨hj,hs⟩
   exact List.mem_of_getElem? this
  have:=List.all_eq_true.mp h3 _ hm
  simp only [Bool.and_eq_true,beq_iff_eq] at this
  rw [e,en]
  exact ⟨this.1.1,this.1.2,this.2⟩
theorem qq {scope:Scope} {env:Env} {y:Str} (h:scope.names.lookup y = some .cell):(relabel scope env).names.lookup y = some .cell:=by
 have key:∀ l:List (Str × NameKind),l.lookup y = some .cell -> (l.map fun (n,k)=>if (k == NameKind.free && env.scope.kind == .function && env.kindOf n == some .cell) then (n,NameKind.cell) else (n,k)).lookup y = some .cell:=by
  intro l
  induction l with
  | nil=>intro h; cases h
  | cons p r ih =>
   obtain ⟨n,k0⟩:=p
   intro h
   rw [List.map_cons]
   rw [List.lookup_cons] at h
   dsimp only
   cases hx:y == n with
   | true =>
    rw [hx] at h
    cases h
    rw [if_neg (by simp),List.lookup_cons,hx]
   | false =>
    rw [hx] at h
    by_cases hc2:(k0 == NameKind.free && env.scope.kind == .function && env.kindOf n == some .cell) = true
    ·rw [if_pos hc2,List.lookup_cons,hx]; exact ih h
    ·rw [if_neg hc2,List.lookup_cons,hx]; exact ih h
 exact key scope.names h
theorem CSc.nestO {X0:Cx} {scope scope2:Scope} {N' N2:List Str} {sub sub2:List (Option Nat)} {cl:List (Str × Addr)} {C D:Addr} {fp:List Addr} {s:Shared} {H:Hp} (S:CScC X0 scope N' sub) (hk0:X0.env.scope.kind = .function)
  (h:((scope2.names.all fun y=>(y.2 != .free || (scope.names.lookup y.1 == some .free || scope.names.lookup y.1 == some .cell)) && (y.2 != .cell) && (y.2 != .local || scope2.names.lookup y.1 == some .local)) && (sub2.length == N2.length) &&
   ((N2.zip sub2).all fun p=>match p.2 with | none=>true | some i=>N'[i]? == some p.1 && (scope.names.lookup p.1 == some .free || scope.names.lookup p.1 == some .cell) && scope2.names.lookup p.1 == some .free)) = true)
  (hk:scope2.kind = .function):CSc (cxO X0 N' scope cl C D fp s H) scope2 N2 sub2:=by
 rw [Bool.and_eq_true,Bool.and_eq_true] at h
 obtain ⟨⟨h1,h2⟩,h3⟩:=h
 have k1:=fun y hy=>List.all_eq_true.mp h1 y hy
 have cellOf:∀ y:Str,(scope.names.lookup y = some .free \/ scope.names.lookup y = some .cell) -> (relabel scope X0.env).names.lookup y = some .cell:=fun y hy=>by
  rcases hy with hy | hy
  ·exact xt hk0 (S.free (y,.free) (PySem.mem_of_lookup hy) rfl) hy
  ·exact qq hy
 refine ⟨fun y hy hf=>?_,fun y hy hc=>?_,hk,fun y hy hl=>?_,by simpa using h2,fun j y i hj hs=>?_⟩
 ·have:=k1 y hy
  simp only [hf,Bool.and_eq_true] at this
  have z:=this.1.1
  exact cellOf y.1 (by simpa using z)
 ·have:=k1 y hy
  simp only [hc,Bool.and_eq_true] at this
  simp at this
 ·have:=k1 y hy
  simp only [hl,Bool.and_eq_true] at this
  simpa using this.2
 ·have hm:(y,some i) ∈ N2.zip sub2:=by
   have:(N2.zip sub2)[j]? = some (y,some i):=by
    rw [List.getElem?_zip_eq_some]; exact ⟨hj,hs⟩
   exact List.mem_of_getElem? this
  have:=List.all_eq_true.mp h3 _ hm
  simp only [Bool.and_eq_true,Bool.or_eq_true,beq_iff_eq] at this
  exact ⟨this.1.1,cellOf y this.1.2,this.2⟩
theorem VN {X:Cx} {K:FG7} {T:String} {name:Str} {id:String} {r:V -> List V -> Hp -> VK -> Prop} {o e:Expr} {es:List Expr} {to:TE} {t:TA} {apos cpos:Pos} (hK:X.K = K) (pa:PlainAttrs T) (slot:Slot T name id) (hty:typeOf (.builtin id) = pure (.type "method_descriptor")) (hm:MtR X id r) (ho:PE X o to) (ha:PA X (e :: es) t)
  (hbase:attributeBase o name X.env (eval o X.env) = eval o X.env:=by rfl)
  (hfew:((backTo cpos (starEach (e :: es) X.env)).all (fun x=>!x.1) && (backToKw cpos (keywordEach [] X.env)).all (fun x=>x.1.isSome)
   && decide ((e :: es).length + ([]:List Keyword).length + (if ([]:List Keyword).isEmpty then 0 else 1) < 30)) = true:=by rfl)
  (hline:(apos.endLine == cpos.line) = true:=by rfl) (hs:starEach (e :: es) X.env = (false,eval e X.env) :: starEach es X.env:=by rfl) (hplain:(backTo cpos (starEach es X.env)).any (·.1) = false:=by rfl) :
  PE X (.Call (.Attribute o name apos) (e :: es) [] cpos) (tBM K T r to t):=by
 subst hK
 exact sE pa slot hty hm ho ha hbase hfew hline hs hplain
open PySem PySem.Spec PyProof.Rows L2 HT
section
variable {prog:Program} {w:World} {A:Around} {E:VS7} {s:Shared}
theorem tT {t sl:Addr} {us:Array Value} {vl vu:Value} {lo hi:Option Int} {Q:VS7} (ht:IsTup s.heap t us) (hs:s.heap.IsSliceOf sl vl vu .none) (pl:IsPart vl lo) (pu:IsPart vu hi)
  (hw:sIx us.size 0 lo = 0 /\ sIx us.size us.size hi = us.size) (h:Q (.ref t) s):wpAny (model prog w) A (getItem (.ref t) (.ref sl)) Q E s:=by
 obtain ⟨os,hos,hcs,hds⟩:=id hs
 have hTs:s.TypeIs (.ref sl) "slice":=⟨os,hos,hcs⟩
 unfold getItem
 try with_reducible refine wpAny_holding ?_
 first | refine wpAny_bind (wpAny_pure ?_) | skip
 refine wpAny_bind (wpAny_sequenceKey ht.typeIs (by decide) ?_)
 refine wpAny_bind (wpAny_callSpecial?_slot (name:=Str.ofString "__getitem__") ht.typeIs PyProof.Rows.slot_tuple_getitem
  (wpAny_call_entry PyProof.Rows.slot_tuple_getitem ht.typeIs entry_tuple_getitem ?_ (args_tuple_getitem _ _)))
 show wpAny _ _ (Builtin.Tuple.tupleItemsOf (.ref t) >>= _) _ _ s
 refine wpAny_bind (tupleItemsOf_ ht ?_)
 refine wpAny_bind (wpAny_typeOf hTs ?_)
 rw [if_pos (by decide)]
 refine wpAny_bind (x6 hs pl pu ?_)
 have yes:(((sIx us.size 0 lo:Nat):Int) == 0 && (1:Int) == 1 && (sIx us.size us.size hi - sIx us.size 0 lo) == us.size) = true:=by
  rw [hw.1,hw.2]; simp
 show wpAny _ _ (if (((sIx us.size 0 lo:Nat):Int) == 0 && (1:Int) == 1 && (sIx us.size us.size hi - sIx us.size 0 lo) == us.size) = true then _ else _) _ _ s
 rw [if_pos yes]
 refine wpAny_bind ?_
 unfold Builtin.Tuple.tupleIsExact
 refine wpAny_bind (wpAny_typeOf ht.typeIs (wpAny_pure ?_))
 show wpAny _ _ (rule _ >>= _) _ _ s
 exact wpAny_bind (wpAny_rule (wpAny_bind (wpAny_pure (wpAny_pure ⟨_,rfl,wpAny_pure h⟩))))
end
section
variable {X:Cx} {K:FG7}
def rSlG (K:FG7):V -> Option Int -> Option Int -> Hp -> VK -> Prop:=fun x lo hi H Q=>∃ a xs,x = .ref a /\ SqT K H a xs /\ ∀ p H',Grow [] H H' -> SqT K H' p (cutV xs lo hi) -> Q (.ref p) H'
theorem Ys {xs:List V} {lo hi:Option Int} (h:HT.sIx xs.length 0 lo = 0 /\ HT.sIx xs.length xs.length hi = xs.length):cutV xs lo hi = xs:=by
 unfold cutV
 rw [h.1,h.2,List.drop_zero,Nat.sub_zero,List.take_length]
theorem WH (hK:X.K = K):SlR X (rSlG K):=by
 subst hK
 intro pins s σ H x v vl vu lo hi sl Q I rx hs pl pu h
 obtain ⟨a,xs,rfl,hx,q⟩:=h
 by_cases hw:HT.sIx xs.length 0 lo = 0 /\ HT.sIx xs.length xs.length hi = xs.length
 ·cases rx
  obtain ⟨its,r,ht,hz⟩:=I.tuple hx
  have hlen:its.toArray.size = xs.length:=by rw [List.size_toArray]; exact r.length.symm
  refine ⟨"tuple",_,PyProof.Rows.slot_tuple_getitem.lookup,ht.typeIs,?_⟩
  exact tT ht hs pl pu (by rw [hlen]; exact hw) ⟨.ref a,H,I,rfl,q a H (Grow.refl _ _) (by rw [Ys hw]; exact hx)⟩
 ·exact Vl pins s σ H _ v vl vu lo hi sl Q I rx hs pl pu ⟨a,xs,rfl,hx,hw,fun p hp=>q p _ (Grow.new hp _) (SqT.of zc)⟩
end
theorem vc {K:FG7} {H:Hp}:∀ {xs:List V} {ks:List Ask},AllA K H xs ks ↔ AllR (tL K H) xs ks
 | [],[]=>⟨fun _=>trivial,fun _=>trivial⟩
 | _ :: _,_ :: _=>⟨fun h=>⟨h.1,vc.mp h.2⟩,fun h=>⟨h.1,vc.mpr h.2⟩⟩
 | [],_ :: _=>⟨fun h=>h,fun h=>h⟩
 | _ :: _,[]=>⟨fun h=>h,fun h=>h⟩
theorem Xv {xs:List V} {t:Nat} (h:t <= xs.length):cutV xs none (some (t:Int)) = xs.take t:=by
 unfold cutV
 rw [HT.sIx_none,HT.sIx_nat,Nat.sub_zero,List.drop_zero,Nat.min_eq_left h]
section
variable {P:Program} {w:World} {K:FG7} {mg:Str -> Option Value} {base:Heap} {N:List Str} {qual:Str} {scope:Scope} {f:Addr} {cd:Value} {A:Around} {outer:List Env} {s0:Shared} {H0:Hp} {E:XK}
 {pins:List (Addr × Obj)} {σ:L2.St} {H:Hp} {s:Shared}
end
structure ApX (X:Cx) (pins:List (Addr × Obj)) (H:Hp) (a T:Addr):Prop where
 s0:∀ b o,X.s₀.heap.get? b = some o -> b ≠ a /\ b ≠ T
 loc:X.env.locals ≠ a /\ X.env.locals ≠ T
 cel:∀ x c,X.env.cells.lookup x = some c -> c ≠ a /\ c ≠ T
 pin:∀ p ∈ X.pn ++ pins,p.1 ≠ a /\ p.1 ≠ T
 ha:H a = none
 hT:H T = none
theorem Inv.leftK {X:Cx} {pins:List (Addr × Obj)} {σ:L2.St} {H:Hp} {s:Shared} {a T0:Addr} {h2:Heap} (I:Inv X pins σ H s) (hx:X.ex = []) (ap:ApX X pins H a T0)
  (lk:∀ b o,b ∉ frs X.stack -> b ≠ a -> b ≠ T0 -> s.heap.get? b = some o -> h2.get? b = some o) (ls:∀ b o,b ∈ frs X.stack -> b ≠ a -> b ≠ T0 -> s.heap.get? b = some o -> ∃ sl,h2.get? b = some { o with slots:=sl }):Inv X pins σ H { s with heap:=h2 }:=by
 have stk:∀ b,b ∈ frs X.stack -> b = X.env.locals \/ b ∈ X.fs:=fun b hb=>List.mem_cons.mp (I.stkSub b hb)
 have any:∀ b o,b ≠ a -> b ≠ T0 -> s.heap.get? b = some o -> ∃ sl,h2.get? b = some { o with slots:=sl }:=fun b o n1 n2 ho=>by
  by_cases z:b ∈ frs X.stack
  ·exact ls b o z n1 n2 ho
  ·exact ⟨o.slots,lk b o z n1 n2 ho⟩
 have cellK:∀ x c,X.env.cells.lookup x = some c -> ∀ v,s.heap.IsCell c v -> h2.IsCell c v:=fun x c e v ⟨o,ho,hd⟩=>by
  obtain ⟨n1,n2⟩:=ap.cel x c e
  obtain ⟨sl,h1⟩:=any c o n1 n2 ho
  exact ⟨_,h1,hd⟩
 refine ⟨I.ok,I.os,I.bare,⟨fun b o hb hn hf hx'=>?_,fun b o hb hn hf hx'=>?_,I.base.free,fun b o hb hx'=>?_,I.base.tups,I.base.frzs,I.base.tbls⟩,?_,fun x c hc=>?_,I.free,I.freeC,fun p hp=>?_,fun b u q=>?_,I.len⟩
 ·obtain ⟨n1,n2⟩:=ap.s0 b o hb
  refine lk b o (fun z=>?_) n1 n2 (I.base.keep b o hb hn hf hx')
  rcases stk b z with z | z
  ·exact absurd (Nat.lt_of_lt_of_le (Heap.lt_size hb) I.ok.above) (by rw [z]; exact Nat.lt_irrefl _)
  ·exact hf z
 ·obtain ⟨n1,n2⟩:=ap.s0 b o hb
  obtain ⟨sl,h1⟩:=I.base.slot b o hb hn hf hx'
  obtain ⟨sl',h3⟩:=any b _ n1 n2 h1
  exact ⟨sl',h3⟩
 ·obtain ⟨n1,n2⟩:=ap.s0 b o hb
  obtain ⟨o',h1⟩:=I.base.there b o hb hx'
  obtain ⟨sl,h3⟩:=any b o' n1 n2 h1
  exact ⟨_,h3⟩
 ·obtain ⟨m,⟨o,es,ep,ho,r⟩,hl⟩:=I.loc
  obtain ⟨sl,h1⟩:=any _ o ap.loc.1 ap.loc.2 ho
  refine ⟨m,⟨_,es,ep,h1,r⟩,fun i x v e1 e2 e3=>?_⟩
  obtain ⟨u,ru,lk⟩:=hl i x v e1 e2 e3
  refine ⟨u,ru,?_⟩
  rcases lk with lk | ⟨k1,c,k2,k3⟩
  ·exact .inl lk
  ·exact .inr ⟨k1,c,k2,cellK x c k2 _ k3⟩
 ·obtain ⟨v,hv⟩:=I.cell x c hc
  exact ⟨v,cellK x c hc v hv⟩
 ·obtain ⟨p1,p2,p3,p4,p5⟩:=I.pin p hp
  obtain ⟨n1,n2⟩:=ap.pin p hp
  refine ⟨lk _ _ (fun z=>?_) n1 n2 p1,p2,p3,p4,p5⟩
  rcases stk _ z with z | z
  ·exact p3 z
  ·exact p4 z
 ·refine (I.hok b u q).stay (fun c v hc r=>?_) (fun _ r=>r) fun _ _ r=>r
  have hn:H c ≠ none:=by
   rcases hc with rfl | hc
   ·rw [q]; exact fun z=>nomatch z
   ·rw [hc]; exact fun z=>nomatch z
  exact lk c v (fun z=>hn (I.stkFree c z)) (fun z=>hn (by rw [z]; exact ap.ha)) (fun z=>hn (by rw [z]; exact ap.hT)) r
open PySem PySem.Spec PyProof.Rows L2 PySem.W
end L3
namespace L2
open PySem PySem.Spec PyProof.Rows
end L2
namespace L2
open PySem PySem.Spec PyProof.Rows
end L2
namespace L2
open PySem PySem.Spec PyProof.Rows
end L2
namespace L2
open PySem PySem.Spec PyProof.Rows
end L2
namespace L2
open PySem PySem.Spec PyProof.Rows
end L2
namespace L2
open PySem PySem.Spec PyProof.Rows
end L2
namespace L2
open PySem PySem.Spec PyProof.Rows
section
variable {κ:Type} [DecidableEq κ]
def valV (kvs:List (κ × V)) (k:κ):Option V:=(kvs.find? fun kv=>decide (kv.1 = k)).map (·.2)
def putK (kvs:List (κ × V)) (k:κ) (v:V):List (κ × V) :=
 if (kvs.any fun kv=>decide (kv.1 = k)) = true then kvs.map (fun kv=>if kv.1 = k then (kv.1,v) else kv) else kvs ++ [(k,v)]
theorem yD {p:κ × V} {r:List (κ × V)} {k:κ} (e:p.1 = k):valV (p :: r) k = some p.2:=by simp [valV,List.find?_cons,e]
theorem yE {p:κ × V} {r:List (κ × V)} {k:κ} (e:¬ p.1 = k):valV (p :: r) k = valV r k:=by simp [valV,List.find?_cons,e]
theorem xT (k:κ):∀ kvs:List (κ × V),(kvs.any fun kv=>decide (kv.1 = k)) = (valV kvs k).isSome
 | []=>rfl
 | p :: r=>by
  rw [List.any_cons]
  by_cases e:p.1 = k
  ·simp only [yD e,decide_eq_true e,Bool.true_or,Option.isSome_some]
  ·rw [yE e,decide_eq_false e,Bool.false_or]; exact xT k r
theorem jz (k j:κ) (y:V):∀ kvs:List (κ × V),valV (kvs.map fun kv=>if kv.1 = k then (kv.1,y) else kv) j = (valV kvs j).map fun x=>if j = k then y else x
 | []=>rfl
 | p :: r=>by
  have ih:=jz k j y r
  rw [List.map_cons]
  by_cases h:p.1 = k
  ·rw [if_pos h]
   by_cases e:p.1 = j
   ·rw [yD (p:=(p.1,y)) e,yD e,Option.map_some,if_pos (e.symm.trans h)]
   ·rw [yE (p:=(p.1,y)) e,yE e,ih]
  ·rw [if_neg h]
   by_cases e:p.1 = j
   ·rw [yD (p:=p) e,yD e,Option.map_some,if_neg (fun z=>h (e.trans z))]
   ·rw [yE (p:=p) e,yE e,ih]
theorem sZ (k j:κ) (y:V):∀ kvs:List (κ × V),valV kvs k = none -> valV (kvs ++ [(k,y)]) j = if j = k then some y else valV kvs j
 | [],_=>by
  by_cases e:k = j
  ·rw [if_pos e.symm]; exact yD (p:=(k,y)) e
  ·rw [if_neg (fun z=>e z.symm)]; exact yE (p:=(k,y)) e
 | p :: r,hn=>by
  rw [List.cons_append]
  have hk:¬ p.1 = k:=fun z=>by rw [yD z] at hn; cases hn
  rw [yE hk] at hn
  have ih:=sZ k j y r hn
  by_cases e:p.1 = j
  ·rw [yD e,yD e,if_neg (fun z=>hk (e.trans z))]
  ·rw [yE e,yE e,ih]
theorem jA (kvs:List (κ × V)) (k j:κ) (y:V):valV (putK kvs k y) j = if j = k then some y else valV kvs j:=by
 unfold putK
 by_cases a:(kvs.any fun kv=>decide (kv.1 = k)) = true
 ·rw [if_pos a,jz]
  rw [xT] at a
  by_cases e:j = k
  ·obtain ⟨x,hx⟩:=Option.isSome_iff_exists.mp a
   rw [if_pos e,e,hx,Option.map_some,if_pos rfl]
  ·rw [if_neg e]
   cases valV kvs j with
   | none=>rfl
   | some x=>rw [Option.map_some,if_neg e]
 ·rw [if_neg a]
  refine sZ k j y kvs ?_
  rw [xT] at a
  cases q:valV kvs k with
  | none=>rfl
  | some x=>rw [q] at a; exact (a rfl).elim
theorem yN (kvs:List (κ × V)) (k:κ) (v:V):(putK kvs k v).length <= kvs.length + 1:=by
 unfold putK
 split
 ·rw [List.length_map]; omega
 ·rw [List.length_append,List.length_cons,List.length_nil]; omega
theorem jB {kvs:List (κ × V)} {k:κ} (v:V) (h:valV kvs k = none):putK kvs k v = kvs ++ [(k,v)]:=by
 unfold putK
 rw [xT,h]
 exact if_neg (by decide)
theorem RelO.isSome_eq {o:Option V} {u:Option Value} (r:RelO o u):o.isSome = u.isSome:=by
 cases o with
 | none=>cases u with
  | none=>rfl
  | some _=>exact (show False from r).elim
 | some _=>cases u with
  | none=>exact (show False from r).elim
  | some _=>rfl
theorem KV.val {kvs:List (κ × V)} {vs:List (κ × Value)} (r:KV kvs vs) (k:κ):RelO (valV kvs k) (valueAt vs k):=by
 unfold KV at r
 induction r with
 | nil=>exact True.intro
 | @cons p q ps qs h t ih =>
  obtain ⟨h1,h2⟩:=h
  by_cases e:p.1 = k
  ·have e':q.1 = k:=h1.symm.trans e
   have b:valueAt (q :: qs) k = some q.2:=by simp [valueAt,List.find?_cons,e']
   rw [yD e,b]; exact h2
  ·have e':¬ q.1 = k:=fun z=>e (h1.trans z)
   have b:valueAt (q :: qs) k = valueAt qs k:=by simp [valueAt,List.find?_cons,e']
   rw [yE e,b]; exact ih
theorem KV.any {kvs:List (κ × V)} {vs:List (κ × Value)} (r:KV kvs vs) (k:κ):(kvs.any fun kv=>decide (kv.1 = k)) = vs.any fun kv=>decide (kv.1 = k):=by
 unfold KV at r
 induction r with
 | nil=>rfl
 | cons h t ih=>rw [List.any_cons,List.any_cons,ih,h.1]
theorem KV.repl {kvs:List (κ × V)} {vs:List (κ × Value)} (r:KV kvs vs) (k:κ) {y:V} {u:Value} (ry:RelV y u) :
  KV (kvs.map fun kv=>if kv.1 = k then (kv.1,y) else kv) (vs.map fun kv=>if kv.1 = k then (kv.1,u) else kv):=by
 unfold KV at r ⊢
 induction r with
 | nil=>exact .nil
 | @cons p q ps qs h t ih =>
  rw [List.map_cons,List.map_cons]
  refine .cons ?_ ih
  obtain ⟨h1,h2⟩:=h
  by_cases e:p.1 = k
  ·rw [if_pos e,if_pos (h1.symm.trans e)]; exact ⟨h1,ry⟩
  ·rw [if_neg e,if_neg (fun z=>e (h1.trans z))]; exact ⟨h1,h2⟩
theorem KV.put {kvs:List (κ × V)} {vs:List (κ × Value)} (r:KV kvs vs) (k:κ) {y:V} {u:Value} (ry:RelV y u):KV (putK kvs k y) (stored vs k u):=by
 unfold putK stored
 rw [r.any k]
 by_cases e:(vs.any fun kv=>decide (kv.1 = k)) = true
 ·rw [if_pos e,if_pos e]; exact r.repl k ry
 ·rw [if_neg e,if_neg e]; exact Paired.snoc r ⟨rfl,ry⟩
theorem KV.length {kvs:List (κ × V)} {vs:List (κ × Value)} (r:KV kvs vs):kvs.length = vs.length:=Paired.length r
end
theorem Xw {P:Program} {w:World} {k:Key} {u:Value} (r:RelV (kV k) u):(yb P w).is k u = true:=by
 cases k with
 | inl i=>obtain ⟨t,e⟩:=(show ∃ t,u = Value.int i t from r); subst e; exact rW P w i t
 | inr x=>obtain ⟨t,e⟩:=(show ∃ t,u = Value.str x t from r); subst e; exact rX P w x t
theorem s8 {P:Program} {w:World}:∀ {ks:List Key} {us:List Value},Vals (ks.map kV) us -> ItemsAre (yb P w) ks us
 | [],_,r=>by rw [List.map_nil] at r; cases r; exact .nil
 | k :: ks,_,r=>by
  rw [List.map_cons] at r
  cases r with
  | cons h t=>exact .cons (Xw h) (s8 t)
abbrev KT (H:Hp):List (List Key × V) -> List (List Key × Addr × Value) -> Prop:=Paired fun p q=>p.1 = q.1 /\ H q.2.1 = some (.tup (p.1.map kV)) /\ RelV p.2 q.2.2
theorem KT.val {H:Hp} {kvs:List (List Key × V)} {xs:List (List Key × Addr × Value)} (r:KT H kvs xs) (k:List Key):RelO (valV kvs k) ((atKey xs k).map (·.2)):=by
 induction r with
 | nil=>exact True.intro
 | @cons p q ps qs h t ih =>
  obtain ⟨h1,_,h2⟩:=h
  by_cases e:p.1 = k
  ·have e':q.1 = k:=h1.symm.trans e
   have b:atKey (q :: qs) k = some q.2:=by simp [atKey,List.find?_cons,e']
   rw [yD e,b]; exact h2
  ·have e':¬ q.1 = k:=fun z=>e (h1.trans z)
   have b:atKey (q :: qs) k = atKey qs k:=by simp [atKey,List.find?_cons,e']
   rw [yE e,b]; exact ih
theorem KT.repl {H:Hp} {kvs:List (List Key × V)} {xs:List (List Key × Addr × Value)} (r:KT H kvs xs) (k:List Key) {y:V} {u:Value} (ry:RelV y u) :
  KT H (kvs.map fun kv=>if kv.1 = k then (kv.1,y) else kv) (xs.map (putAt k u)):=by
 induction r with
 | nil=>exact .nil
 | @cons p q ps qs h t ih =>
  rw [List.map_cons,List.map_cons]
  refine .cons ?_ ih
  obtain ⟨h1,h2,h3⟩:=h
  unfold putAt
  by_cases e:p.1 = k
  ·rw [if_pos e,if_pos (h1.symm.trans e)]; exact ⟨h1,h2,ry⟩
  ·rw [if_neg e,if_neg (fun z=>e (h1.trans z))]; exact ⟨h1,h2,h3⟩
theorem KT.put {H:Hp} {kvs:List (List Key × V)} {xs:List (List Key × Addr × Value)} (r:KT H kvs xs) (k:List Key) {b:Addr} {y:V} {u:Value} (hb:H b = some (.tup (k.map kV))) (ry:RelV y u) :
  KT H (putK kvs k y) (storedH xs k b u):=by
 have e:(kvs.any fun kv=>decide (kv.1 = k)) = (atKey xs k).isSome:=by
  rw [xT,(r.val k).isSome_eq,Option.isSome_map]
 unfold putK storedH
 rw [e]
 by_cases q:(atKey xs k).isSome = true
 ·rw [if_pos q,if_pos q]; exact r.repl k ry
 ·rw [if_neg q,if_neg q]; exact Paired.snoc r ⟨rfl,hb,ry⟩
theorem KT.keeps {H H':Hp} {kvs:List (List Key × V)} {xs:List (List Key × Addr × Value)} (r:KT H kvs xs) (ht:∀ b ys,H b = some (.tup ys) -> H' b = some (.tup ys)):KT H' kvs xs :=
 Paired.mapP r fun _ _ z=>⟨z.1,ht _ _ z.2.1,z.2.2⟩
section
variable {P:Program} {w:World} {H:Hp} {h:Heap} {a:Addr}
theorem VO {u:HO} (ok:HOk P w H h) (e:Rd H a u):zV P w H h a u:=e.ok ok
theorem Xx {kvs:List (Key × V)} (ok:HOk P w H h) (e:Rd H a (.dK kvs)):kvs.length <= sizeLine /\ (a == sysModules) = false /\ ∃ vs,KV kvs vs /\ h.DictOf (yb P w) a vs :=
 show zV P w H h a (.dK kvs) from VO ok e
theorem Uu {kvs:List (Key × V)} (ok:HOk P w H h) (e:H a = some (.dK kvs)):kvs.length <= sizeLine /\ (a == sysModules) = false /\ ∃ vs,KV kvs vs /\ h.DictOf (yb P w) a vs:=Xx ok (.inl e)
theorem tf {ks:List Key} (ok:HOk P w H h) (e:H a = some (.tup (ks.map kV))):(tupleKind (yb P w)).is h ks a:=by
 obtain ⟨_,its,r,o,h1,h2,n,h3⟩:=(show zV P w H h a (.tup (ks.map kV)) from ok a _ e)
 exact ⟨o,its.toArray,n,h1,h2,h3,by simpa using s8 r⟩
theorem Xy {kvs:List (List Key × V)} (ok:HOk P w H h) (e:Rd H a (.dT kvs)):kvs.length <= sizeLine /\ (a == sysModules) = false ∧
  ∃ xs,KT H kvs xs /\ h.DictOfH (tupleKind (yb P w)) a xs:=by
 obtain ⟨z,y,xs,r,o,es,ep,h1,h2,h3,h4,h5⟩:=(show zV P w H h a (.dT kvs) from VO ok e)
 refine ⟨z,y,xs,r,o,es,ep,h1,h2,h3,h4,fun x hx=>?_,h5⟩
 have all:∀ {l:List (List Key × V)} {m:List (List Key × Addr × Value)},KT H l m -> ∀ x ∈ m,(tupleKind (yb P w)).is h x.1 x.2.1:=by
  intro l m q
  induction q with
  | nil=>intro x hx; exact nomatch hx
  | @cons p q ps qs hq t ih =>
   intro x hx
   rcases List.mem_cons.mp hx with e | hx
   ·subst e
    exact tf ok (by rw [← hq.1]; exact hq.2.1)
   ·exact ih x hx
 exact all r x hx
theorem Uv {kvs:List (List Key × V)} (ok:HOk P w H h) (e:H a = some (.dT kvs)):kvs.length <= sizeLine /\ (a == sysModules) = false ∧
  ∃ xs,KT H kvs xs /\ h.DictOfH (tupleKind (yb P w)) a xs:=Xy ok (.inl e)
end
def DGet (H:Hp) (a:Addr) (y:V) (r:Option V):Prop :=
 (∃ kvs k,Rd H a (.dK kvs) /\ y = kV k /\ r = valV kvs k) \/ ∃ kvs k b,Rd H a (.dT kvs) /\ y = .ref b /\ H b = some (.tup (k.map kV)) /\ r = valV kvs k
def DPut (H:Hp) (a:Addr) (y v:V) (H':Hp):Prop :=
 (∃ kvs k,H a = some (.dK kvs) /\ y = kV k /\ kvs.length < sizeLine /\ H' = upd H a (.dK (putK kvs k v))) ∨
 ∃ kvs k b,H a = some (.dT kvs) /\ y = .ref b /\ H b = some (.tup (k.map kV)) /\ kvs.length < sizeLine /\ H' = upd H a (.dT (putK kvs k v))
theorem DPut.t {H:Hp} {a b:Addr} {kvs:List (List Key × V)} {k:List Key} {v:V} (e:H a = some (.dT kvs)) (eb:H b = some (.tup (k.map kV))) (hl:kvs.length < sizeLine) :
  DPut H a (.ref b) v (upd H a (.dT (putK kvs k v))):=.inr ⟨kvs,k,b,e,rfl,eb,hl,rfl⟩
section
variable {X:Cx} {pins:List (Addr × Obj)} {σ:St} {H:Hp} {s:Shared} {a:Addr} {y v:V} {u r:Value} {o:Option V} {A:Around} {E:VS7}
theorem Inv.big (I:Inv X pins σ H s):sysModules < s.heap.objs.size:=by
 have h:mainGlobals < s.heap.objs.size:=(I.mod.glob.keeps I.bk).lt
 exact Nat.lt_trans (by decide) h
theorem Yt {Q:VS7} (hu:A.units + 1 < cLine) (I:Inv X pins σ H s) (g:DGet H a y (some v)) (ry:RelV y u) (h:∀ w' s',Inv X pins σ H s' -> RelV v w' -> Q w' s') :
  wpAny (model X.prog X.w) A (getItem (.ref a) u) Q E s:=by
 rcases g with ⟨kvs,k,e,ey,l⟩ | ⟨kvs,k,b,e,ey,eb,l⟩
 ·subst ey
  obtain ⟨z,hd,vs,rel,dd⟩:=Xx I.hok e
  obtain ⟨w',hw,rw'⟩:=RelO.some_of (v:=v) (o:=valueAt vs k) (by rw [l]; exact rel.val k)
  exact wpAny_getItem_of (Xw ry) dd.mapOf hw (h w' _ (I.tok _) rw')
 ·subst ey
  cases (show u = Value.ref b from ry)
  obtain ⟨z,hd,xs,rel,dd⟩:=Xy I.hok e
  obtain ⟨w',hw,rw'⟩:=RelO.some_of (v:=v) (o:=(atKey xs k).map (·.2)) (by rw [l]; exact rel.val k)
  obtain ⟨p,hp,hp2⟩:=Option.map_eq_some_iff.mp hw
  refine wpAny_getItem_heap (tupleKind_room_in1 hu) (tf I.hok eb) dd hp ?_
  rw [hp2]
  exact h w' _ (I.tok _) rw'
theorem d_in {Q:VS7} (hu:A.units + 1 < cLine) (I:Inv X pins σ H s) (g:DGet H a y o) (ry:RelV y u) (h:∀ s',Inv X pins σ H s' -> Q (.bool o.isSome) s') :
  wpAny (model X.prog X.w) A (compareOp .In u (.ref a)) Q E s:=by
 rcases g with ⟨kvs,k,e,ey,l⟩ | ⟨kvs,k,b,e,ey,eb,l⟩
 ·subst ey
  obtain ⟨z,hd,vs,rel,dd⟩:=Xx I.hok e
  refine wpAny_in_of (Xw ry) hd dd.mapOf ?_
  rw [← (rel.val k).isSome_eq,← l]
  exact h _ (I.tok _)
 ·subst ey
  cases (show u = Value.ref b from ry)
  obtain ⟨z,hd,xs,rel,dd⟩:=Xy I.hok e
  refine wpAny_in_heap (tupleKind_room_in1 hu) (tf I.hok eb) hd dd ?_
  have q:=(rel.val k).isSome_eq
  rw [Option.isSome_map] at q
  rw [← q,← l]
  exact h _ (I.tok _)
theorem qr {h':Heap} {t':Nat} {ob:HO} (I:Inv X pins σ H s) (mu:Mut (H a)) (hs:Heap.SameBut a s.heap h') (he:∃ q,h'.get? a = some q) (new:zV X.prog X.w (upd H a ob) h' a ob) :
  Inv X pins σ (upd H a ob) { s with heap:=h',toks:=t' } :=
 I.write (x:=a) (e:=a) mu (.inl rfl) (fun b q hb z=>(hs.2 b hb).trans z) he new
theorem VP {P:Program} {w:World} {H':Hp} {h':Heap} {kvs:List (Key × V)} {vs:List (Key × Value)} (z:kvs.length <= sizeLine) (hd:(a == sysModules) = false) (rel:KV kvs vs) (dd:h'.DictOf (yb P w) a vs) :
  zV P w H' h' a (.dK kvs):=⟨z,hd,vs,rel,dd⟩
theorem Yu {H':Hp} {Q:Unit -> Shared -> Prop} (hu:A.units + 1 < cLine) (I:Inv X pins σ H s) (g:DPut H a y v H') (ry:RelV y u) (rv:RelV v r) (h:∀ s',Inv X pins σ H' s' -> Q () s') :
  wpAny (model X.prog X.w) A (setItem (.ref a) u r) Q E s:=by
 rcases g with ⟨kvs,k,e,ey,l,eH⟩ | ⟨kvs,k,b,e,ey,eb,l,eH⟩
 ·subst ey eH
  obtain ⟨z,hd,vs,rel,dd⟩:=Uu I.hok e
  have hz:vs.length <= sizeLine:=by rw [← rel.length]; exact z
  have hl:(putK kvs k v).length <= sizeLine:=by have:=yN kvs k v; omega
  refine wpAny_setItem_pairs (hsz:=hz) (Xw ry) dd fun h' dd' hs=>h _ ?_
  have he:∃ q,h'.get? a = some q:=let ⟨q,_,_,hq,_⟩:=dd'; ⟨q,hq⟩
  exact qr I (by rw [e]; exact True.intro) hs he (VP hl hd (rel.put k rv) dd')
 ·subst ey eH
  cases (show u = Value.ref b from ry)
  obtain ⟨z,hd,xs,rel,dd⟩:=Uv I.hok e
  have hz:xs.length <= sizeLine:=by rw [← Paired.length rel]; exact z
  have hl:(putK kvs k v).length <= sizeLine:=by have:=yN kvs k v; omega
  refine wpAny_setItem_heap (hsz:=hz) (tupleKind_room_in1 hu) (tf I.hok eb) dd fun h' dd' hs=>h _ ?_
  obtain ⟨q,es,ep,hq,h2,h3,h4,_,h5⟩:=dd'
  refine qr I (by rw [e]; exact True.intro) hs ⟨q,hq⟩ ⟨hl,hd,_,(rel.put k eb rv).keeps fun c ys ec=>?_,q,es,ep,hq,h2,h3,h4,h5⟩
  rw [zm (Wb ec e (fun z=>nomatch z))]
  exact ec
end
def NoSl (i:Expr):Prop:=∀ ov iv,subscripted i false ov iv = operate [ov,iv] (getItem ov iv)
theorem WI {prog:Program} {w:World} {A:Around} {E:VS7} {s:Shared} {env:Env} {value slice:Expr} {pos:Pos} {T id:String} {Q:VS7}
  (hl:typeLookup (.type T) "__getitem__" = pure (some (.builtin id))) (hs:NoSl slice)
  (h:wpAny (model prog w) A (eval value env) (fun o s₁=>wpAny (model prog w) A (eval slice env) (fun i s₂=>s₂.TypeIs o T /\ wpAny (model prog w) A (getItem o i) Q E s₂) E s₁) E s) :
  wpAny (model prog w) A (eval (.Subscript value slice pos) env) Q E s:=by
 refine Subscript_ (wpAny_mono h (fun o s₁ h₁=>wpAny_mono h₁ (fun i s₂ h₂=>?_) fun _ _ x=>x) fun _ _ x=>x)
 obtain ⟨hT,h₂⟩:=h₂
 unfold subscriptTail
 refine wpAny_bind ?_
 rw [getitemInPython_of_ne hT.not_modules]
 refine wpAny_bind (wpAny_specialOf hT hl ?_)
 have fin:wpAny (model prog w) A (subscripted slice false o i) (fun r s₃=>wpAny (model prog w) A (letTemporaryGo value o r >>= fun _=>pure r) Q E s₃) E s₂:=by
  rw [hs o i]
  exact wpAny_operating (wpAny_mono h₂ (fun r s₃ h₃=>wpAny_bind (wpAny_letTemporaryGo (wpAny_pure h₃))) fun _ _ x=>x)
 first
  | exact wpAny_pure (wpAny_bind fin)
  | exact wpAny_bind (wpAny_pure (wpAny_bind fin))
  | exact wpAny_bind fin
theorem qt {X:Cx} {pins:List (Addr × Obj)} {σ:St} {H:Hp} {s:Shared} {a:Addr} {y:V} {o:Option V} (I:Inv X pins σ H s) (g:DGet H a y o):s.TypeIs (.ref a) "dict":=by
 rcases g with ⟨kvs,k,e,_,_⟩ | ⟨kvs,k,b,e,_,_,_⟩
 ·obtain ⟨_,_,vs,_,dd⟩:=Xx I.hok e
  exact dd.typeIs
 ·obtain ⟨_,_,xs,_,dd⟩:=Xy I.hok e
  exact dd.typeIs
def VQ (td ty:TE):TE:=fun σ H Q=>td σ H fun x H1=>ty σ H1 fun y H2=>∃ a v,x = .ref a /\ DGet H2 a y (some v) /\ Q v H2
def tDIn (ty td:TE):TE:=fun σ H Q=>ty σ H fun y H1=>td σ H1 fun x H2=>∃ a o,x = .ref a /\ DGet H2 a y o /\ Q (.bl o.isSome) H2
def Uw (td ty tv:TE):TS:=fun D σ H=>tv σ H fun v H1=>td σ H1 fun x H2=>ty σ H2 fun y H3=>∃ a H4,x = .ref a /\ DPut H3 a y v H4 /\ D.nx σ H4
section
variable {X:Cx} {o i e value:Expr} {pos pos' tpos:Pos} {td ty tv:TE}
theorem WJ (hu:X.A.units + 1 < cLine) (ho:PE X o td) (hi:PE X i ty) (hs:NoSl i):PE X (.Subscript o i pos) (VQ td ty):=by
 intro pins s σ H Q I h
 refine WI PySem.F.slot_dict_getitem.lookup hs (thn (ho pins s σ H _ I h) fun u s1 ⟨x,H1,I1,rx,q1⟩=>thn (hi pins s1 σ H1 _ I1 q1) fun iv s2 ⟨y,H2,I2,ry,a,v,ex,g,q2⟩=>?_)
 subst ex
 obtain rfl:u = Value.ref a:=rx
 exact ⟨qt I2 g,Yt hu I2 g ry fun w' s3 I3 rw'=>⟨v,H2,I3,rw',q2⟩⟩
theorem VR (hu:X.A.units + 1 < cLine) (hi:PE X i ty) (ho:PE X o td):PC X .In i o (tDIn ty td):=by
 intro pins s σ H Q I h
 refine thn (hi pins s σ H _ I h) fun iv s1 ⟨y,H1,I1,ry,q1⟩=>thn (ho pins s1 σ H1 _ I1 q1) fun u s2 ⟨x,H2,I2,rx,a,ov,ex,g,q2⟩=>?_
 subst ex
 obtain rfl:u = Value.ref a:=rx
 exact d_in hu I2 g ry fun s3 I3=>⟨.bl ov.isSome,H2,I3,rfl,q2⟩
theorem qu (hu:X.A.units + 1 < cLine) (ho:PE X o td) (hi:PE X i ty) (hv:PE X value tv) (hs:swapsWith value (some (.Subscript o i pos')) pos.line X.env = pure false) :
  PS X (.Assign [.Subscript o i pos'] value pos) (Uw td ty tv):=by
 intro pins s σ H D I h
 refine wpAny_Assign_Subscript (thn (hv pins s σ H _ I h) fun r s1 ⟨v,H1,I1,rv,q1⟩=>thn (ho pins s1 σ H1 _ I1 q1) fun u s2 ⟨x,H2,I2,rx,q2⟩=>thn (hi pins s2 σ H2 _ I2 q2) fun iv s3 ⟨y,H3,I3,ry,a,H4,ex,g,q3⟩=>?_) hs
 subst ex
 obtain rfl:u = Value.ref a:=rx
 exact Yu hu I3 g ry rv fun s4 I4=>⟨σ,H4,I4,q3⟩
end
theorem jC {P:Program} {w:World} {H:Hp} (h:Heap) (hb:sysModules < h.objs.size):zV P w H (h.push { cls:=.type "dict",data:=.dict #[] }) h.objs.size (.dT []) :=
 ⟨Nat.zero_le _,beq_eq_false_iff_ne.mpr (Ne.symm (Nat.ne_of_lt hb)),[],.nil,_,#[],0,Heap.get?_push_size _ rfl,⟨rfl,rfl,rfl⟩,rfl,rfl,List.nodup_nil⟩
def VS:TE:=fun _ H Q=>∀ p,H p = none -> Q (.ref p) (upd H p (.dT []))
section
variable {X:Cx} {pos:Pos}
theorem jD:PE X (.Dict [] [] pos) VS:=fun pins s σ H Q I h =>
 wpAny_Dict_empty ⟨.ref s.heap.objs.size,_,I.laid (a:=s.heap.objs.size) (o:=.dT []) (t':=s.toks) (fun _ _ q=>Heap.get?_push_of_some _ q) (Nat.le_refl _) (jC s.heap I.big),rfl,h _ (I.hok.fresh (Nat.le_refl _))⟩
end
end L2
namespace Att
open PySem PySem.W PySem.Calls PyProof.Rows
end Att
namespace L2
open PySem PySem.Spec PyProof.Rows
section
variable {κ:Type} [DecidableEq κ]
theorem jE {kvs:List (κ × V)} {k:κ} (h:valV kvs k = none):¬ k ∈ kvs.map (·.1):=by
 intro m
 obtain ⟨p,hp,e⟩:=List.mem_map.mp m
 have q:(kvs.any fun kv=>decide (kv.1 = k)) = true:=List.any_eq_true.mpr ⟨p,hp,decide_eq_true e⟩
 rw [xT,h] at q
 exact absurd q (by simp)
theorem Yv:∀ {l:List κ} {k:κ},l.Nodup -> ¬ k ∈ l -> (l ++ [k]).Nodup
 | [],k,_,_=>by simp
 | a :: r,k,h,hk=>by
  obtain ⟨h1,h2⟩:=List.nodup_cons.mp h
  show (a :: (r ++ [k])).Nodup
  refine List.nodup_cons.mpr ⟨fun m=>?_,Yv h2 fun m=>hk (List.mem_cons.mpr (Or.inr m))⟩
  rcases List.mem_append.mp m with q | q
  ·exact h1 q
  ·exact hk (List.mem_cons.mpr (Or.inl (List.mem_singleton.mp q).symm))
theorem WK {kvs:List (κ × V)} {k:κ} (v:V) (hn:(kvs.map (·.1)).Nodup) (h:valV kvs k = none):((putK kvs k v).map (·.1)).Nodup:=by
 rw [jB v h,List.map_append]
 exact Yv hn (jE h)
end
end L2
namespace L3
open PySem PySem.Spec PyProof.Rows L2
open PySem PySem.Spec PyProof.Rows L2 PySem.W
def Yw (es:Array DictEntry) (d:Addr) (ep:Nat) (h:Heap):Prop:=∃ o,h.get? d = some o /\ o.ExactDict /\ o.data = .dict es ep
section
variable {prog:Program} {w:World} {A:Around} {E:VS7} {s:Shared} {es:Array DictEntry} {d it:Addr} {ep i:Nat}
theorem Yw.typeIs (h:Yw es d ep s.heap):s.TypeIs (.ref d) "dict":=let ⟨o,ho,hc,_⟩:=h; ⟨o,ho,hc.1⟩
theorem Xz {Q:VS7} (hd:(d == sysModules) = false) (hm:Yw es d ep s.heap)
  (hQ:Q (.ref s.heap.objs.size) { s with heap:=s.heap.push { cls:=.type "dict_keyiterator",data:=.fields #[.ref d,.int 0 0,.int es.size 0,.int ep 0] } }) :
  wpAny (model prog w) A (pyIter (.ref d)) Q E s:=by
 obtain ⟨o,ho,hc,hdat⟩:=id hm
 have hT:s.TypeIs (.ref d) "dict":=hm.typeIs
 refine wpAny_pyIter_slot hT PySem.F.slot_dict_iter (wpAny_call_entry PySem.F.slot_dict_iter hT PySem.F.entry_dict_iter ?_ (PySem.F.args_dict_iter_1 _))
 unfold Builtin.«dict.__iter__»
 refine wpAny_bind ?_
 unfold Builtin.Dict.dictSlotNone
 refine wpAny_bind (wpAny_notOrdered_dict hT ?_)
 show wpAny _ _ (pure (Value.ref d)) _ _ s
 refine wpAny_pure ?_
 show wpAny _ _ (Builtin.Dict.showsAll d >>= _) _ _ s
 unfold Builtin.Dict.showsAll
 rw [if_neg (by rw [hd]; exact Bool.false_ne_true)]
 refine wpAny_bind (wpAny_pure ?_)
 refine wpAny_bind (wpAny_dictEntries ho hdat ?_)
 refine wpAny_bind (wpAny_dictEpoch ho hdat ?_)
 refine wpAny_bind (wpAny_newObj_type (wpAny_pure ⟨_,rfl,"dict_keyiterator",_,⟨_,Heap.get?_push_size _ rfl,rfl⟩,PySem.F.slot_dict_keyiterator_next.lookup,?_⟩))
 simpa [rawInt] using hQ
theorem XA {Q:Option Value -> Shared -> Prop} (hit:s.heap.IsKeyIter it d i es.size ep) (hm:Yw es d ep s.heap) (hlt:i < es.size)
  (hQ:∀ h',h'.IsKeyIter it d (i + 1) es.size ep -> Heap.SameBut it s.heap h' -> Q (some es[i].key) { s with heap:=h' }) :
  wpAny (model prog w) A (pyNext (.ref it)) Q E s:=by
 obtain ⟨o,ho,hc,hd⟩:=id hit
 obtain ⟨od,hod,hcd,hdd⟩:=id hm
 unfold pyNext
 refine wpAny_bind (wpAny_attempt (wpAny_callSpecial?_slot (name:=Str.ofString "__next__") hit.typeIs PySem.F.slot_dict_keyiterator_next
  (wpAny_call_entry PySem.F.slot_dict_keyiterator_next hit.typeIs PySem.F.entry_dict_keyiterator_next ?_ (PySem.F.args_dict_keyiterator_next_1 _))))
 refine wpAny_bind (wpAny_pure ?_)
 refine wpAny_bind ?_
 refine wpAny_bind ?_
 first | refine wpAny_bind (wpAny_typeNameOfWhole_keyiter hit.typeIs (wpAny_pure ?_)) | refine wpAny_bind (wpAny_typeNameOf_keyiter hit.typeIs (wpAny_pure ?_))
 refine wpAny_bind (wpAny_fieldsOf ho hd ?_)
 have hown:Builtin.Dict_items.ownsTuple "dict_keyiterator" = false:=by decide
 simp only [hown,Bool.false_eq_true,if_false]
 show wpAny _ _ (if (Value.ref d == Value.none) = true then _ else _) _ _ s
 rw [if_neg (show ¬ ((Value.ref d == Value.none) = true) from Bool.false_ne_true)]
 refine wpAny_bind (wpAny_pure ?_)
 refine wpAny_bind (wpAny_dictEntries hod hdd ?_)
 rw [if_neg (by simp)]
 refine wpAny_bind (wpAny_pure ?_)
 refine wpAny_bind (wpAny_dictEpoch hod hdd ?_)
 rw [if_neg (by simp)]
 refine wpAny_pure ?_
 simp only [show ¬ ((i:Int) < 0) from by omega,if_false,Int.toNat_natCast,Array.getElem?_eq_getElem hlt]
 refine wpAny_bind ?_
 first | refine wpAny_bind (wpAny_typeNameOfWhole_keyiter hit.typeIs (wpAny_pure ?_)) | refine wpAny_bind (wpAny_typeNameOf_keyiter hit.typeIs (wpAny_pure ?_))
 refine wpAny_bind (wpAny_isOneOf_keyiter hit.typeIs ?_)
 show wpAny _ _ (setField (.ref it) 1 (rawInt ((i:Int) + 1)) >>= _) _ _ s
 refine wpAny_bind (wpAny_setField ho hd (by simp) ?_)
 have hit':(s.heap.update it (Obj.mapFields (·.setIfInBounds 1 (rawInt ((i:Int) + 1))))).IsKeyIter it d (i + 1) es.size ep :=
  ⟨_,Heap.get?_update_self _ ho (Obj.isFreed_of_fields (Obj.data_mapFields hd _)),(Obj.cls_mapFields ..).trans hc,by rw [Obj.data_mapFields hd]; simp [rawInt]⟩
 refine wpAny_bind (wpAny_holding ?_)
 refine wpAny_bind (wpAny_isOneOf_keyiter (s:={ s with heap:=s.heap.update it (Obj.mapFields (·.setIfInBounds 1 (rawInt ((i:Int) + 1)))) }) hit'.typeIs ?_)
 show wpAny _ _ (pure es[i].key) _ _ _
 exact wpAny_pure (wpAny_pure ⟨_,rfl,wpAny_pure (hQ _ hit' (Heap.SameBut.update ..))⟩)
theorem WL {Q:Option Value -> Shared -> Prop} (hh:A.handled = none) (hit:s.heap.IsKeyIter it d es.size es.size ep) (hm:Yw es d ep s.heap)
  (hQ:∀ h',Heap.ExtBut it s.heap h' -> Q none { s with heap:=h' }):wpAny (model prog w) A (pyNext (.ref it)) Q E s:=by
 obtain ⟨o,ho,hc,hd⟩:=id hit
 obtain ⟨od,hod,hcd,hdd⟩:=id hm
 unfold pyNext
 refine wpAny_bind (wpAny_attempt (wpAny_callSpecial?_slot (name:=Str.ofString "__next__") hit.typeIs PySem.F.slot_dict_keyiterator_next
  (wpAny_call_entry PySem.F.slot_dict_keyiterator_next hit.typeIs PySem.F.entry_dict_keyiterator_next ?_ (PySem.F.args_dict_keyiterator_next_1 _))))
 refine wpAny_bind (wpAny_pure ?_)
 refine wpAny_bind ?_
 refine wpAny_bind ?_
 first | refine wpAny_bind (wpAny_typeNameOfWhole_keyiter hit.typeIs (wpAny_pure ?_)) | refine wpAny_bind (wpAny_typeNameOf_keyiter hit.typeIs (wpAny_pure ?_))
 refine wpAny_bind (wpAny_fieldsOf ho hd ?_)
 have hown:Builtin.Dict_items.ownsTuple "dict_keyiterator" = false:=by decide
 simp only [hown,Bool.false_eq_true,if_false]
 show wpAny _ _ (if (Value.ref d == Value.none) = true then _ else _) _ _ s
 rw [if_neg (show ¬ ((Value.ref d == Value.none) = true) from Bool.false_ne_true)]
 refine wpAny_bind (wpAny_pure ?_)
 refine wpAny_bind (wpAny_dictEntries hod hdd ?_)
 rw [if_neg (by simp)]
 refine wpAny_bind (wpAny_pure ?_)
 refine wpAny_bind (wpAny_dictEpoch hod hdd ?_)
 rw [if_neg (by simp)]
 refine wpAny_pure ?_
 simp only [show ¬ ((es.size:Int) < 0) from by omega,if_false,Int.toNat_natCast,Array.getElem?_eq_none (Nat.le_refl es.size)]
 refine wpAny_bind ?_
 first | refine wpAny_bind (wpAny_typeNameOfWhole_keyiter hit.typeIs (wpAny_pure ?_)) | refine wpAny_bind (wpAny_typeNameOf_keyiter hit.typeIs (wpAny_pure ?_))
 show wpAny _ _ (setField (.ref it) 0 .none >>= _) _ _ s
 refine wpAny_bind (wpAny_setField ho hd (by simp) ?_)
 show wpAny _ _ (newExc (.type "StopIteration") [] >>= _) _ _ _
 refine wpAny_bind ?_
 simp only [newExc,newTuple]
 refine wpAny_bind (wpAny_newObj_type ?_ (by size_fits))
 refine wpAny_bind (m:=firstArgMember _ _) (wpAny_of_eq (a:=Value.none) (by first | rfl | (simp only [firstArgMember]; rfl)) ?_)
 refine wpAny_newObj_type ?_ (by size_fits)
 simp only [raiseNew]
 refine wpAny_bind (wpAny_handled ?_)
 rw [show A.in1.handled = none from hh]
 refine wpAny_bind (wpAny_pure (wpAny_throw ?_))
 refine wpAny_bind (wpAny_isInstance (T:="StopIteration") (b:=true) ⟨_,Heap.get?_push_size _ rfl,rfl⟩ isSubtype_stop ?_)
 exact wpAny_pure (hQ _ (((Heap.SameBut.update ..).extBut.push _).push _))
end
def VT (H:Hp) (z:V) (p:List Key × V):Prop:=∃ b,z = .ref b /\ H b = some (.tup (p.1.map kV))
theorem jF {H:Hp}:∀ {kvs:List (List Key × V)} {xs:List (List Key × Addr × Value)},KT H kvs xs -> AllR (VT H) (xs.map fun q=>V.ref q.2.1) kvs
 | _,_,.nil=>trivial
 | _,_,.cons h t=>⟨⟨_,rfl,h.2.1⟩,jF t⟩
open PySem PySem.Spec PyProof.Rows L2 HT
theorem vO:fillsNumberSlot (.type "tuple") "mul" = pure false :=
 PySem.fillsNumberSlot_seq (id:="tuple.__mul__") (r:=some (.builtin "tuple.__rmul__")) PySem.F.slot_tuple_mul.lookup (by decide +kernel) (by rw [typeLookup_type,builtinLookup_eq_fast]; kernel_rfl) (by decide +kernel)
theorem s9:seqRepeat? (.type "tuple") = pure (some (.builtin "tuple.__mul__")):=by
 unfold seqRepeat?
 rw [PySem.seqSlot_of (T:="tuple") (name:="__mul__") (id:="tuple.__mul__") PySem.F.slot_tuple_mul.lookup (by decide +kernel),PySem.seqSlot_of (T:="tuple") (name:="__rmul__") (id:="tuple.__rmul__") (by rw [typeLookup_type,builtinLookup_eq_fast]; kernel_rfl) (by decide +kernel)]
 rfl
theorem uK (a:Int) (t:Tok) (l:Addr) (us:Array Value) (n:Nat) (d1:Option Addr) (e1:Array (Option Value)) :
  Meets (Builtin.«int.__rmul__» ⟨[.int a t,.ref l],[]⟩) (fun _ R s=>s.heap.get? l = some ⟨.type "tuple",d1,.seq us n,e1⟩ /\ R (.ok (.ret Value.notImplemented)) s) :=
 .of_wp fun prog w A R s h=>by obtain ⟨hp,g,d,tk,os⟩:=s; obtain ⟨hl,h⟩:=h; wp_walk; exact ⟨_,rfl,h⟩
theorem Yx (l:Addr) (us:Array Value) (n:Nat) (d1:Option Addr) (e1:Array (Option Value)) (x:Int) (u:Tok) (h1:¬ x < -(2 ^ 63)) (h2:¬ x >= 2 ^ 63) (h0:us.isEmpty = false) (h3:(x == 1) = false) (h4:¬ x <= 0) (h5:¬ (us.size:Int) * x > (2 ^ 63 - 1) / 8) (h6:Builtin.Tuple.tupleTooMany ((us.size:Int) * x) = false) (h7:(List.foldl (fun x1 x2=>x1 ++ x2) #[] (List.replicate x.toNat us)).size <= sizeLine) :
  Meets (Builtin.«tuple.__mul__» ⟨[.ref l,.int x u],[]⟩) (fun _ R s=>s.heap.get? l = some ⟨.type "tuple",d1,.seq us n,e1⟩ /\ R (.ok (.ret (Value.ref s.heap.objs.size))) { s with heap:=s.heap.push { cls:=Value.type "tuple",data:=Data.seq (List.foldl (fun x1 x2=>x1 ++ x2) #[] (List.replicate x.toNat us)) },toks:=s.toks }) :=
 .of_wp fun prog w A R s h=>by
  obtain ⟨hp,g,d,tk,os⟩:=s; obtain ⟨hl,h⟩:=h
  wp_walk using PySem.AutoSeq1.wpAny_loadPart' hl
  rw [if_neg (by simp only [Bool.or_eq_true,decide_eq_true_eq]; omega)]
  wp_walk using PySem.AutoSeq1.wpAny_loadPart' hl
  rw [if_neg h5]
  rw [if_neg (by rw [h6]; decide)]
  unfold Builtin.Tuple.tupleExact
  refine wpAny_bind (wpAny_newObj_type ?_ h7)
  exact wpAny_pure ⟨_,rfl,h⟩
theorem Zh (l:Addr) (us:Array Value) (n:Nat) (d1:Option Addr) (e1:Array (Option Value)) (u:Tok) :
  Meets (Builtin.«tuple.__mul__» ⟨[.ref l,.int 1 u],[]⟩) (fun _ R s=>s.heap.get? l = some ⟨.type "tuple",d1,.seq us n,e1⟩ /\ R (.ok (.ret (Value.ref l))) s) :=
 .of_wp fun prog w A R s h=>by
  obtain ⟨hp,g,d,tk,os⟩:=s; obtain ⟨hl,h⟩:=h
  wp_walk using PySem.AutoSeq1.wpAny_loadPart' hl
  exact ⟨_,rfl,h⟩
theorem Zi (l:Addr) (us:Array Value) (n:Nat) (d1:Option Addr) (e1:Array (Option Value)) (u:Tok) (h0:us.isEmpty = false) :
  Meets (Builtin.«tuple.__mul__» ⟨[.ref l,.int 0 u],[]⟩) (fun _ R s=>s.heap.get? l = some ⟨.type "tuple",d1,.seq us n,e1⟩ /\ R (.ok (.ret (Value.ref s.heap.objs.size))) { s with heap:=s.heap.push { cls:=Value.type "tuple",data:=Data.seq #[] },toks:=s.toks }) :=
 .of_wp fun prog w A R s h=>by
  obtain ⟨hp,g,d,tk,os⟩:=s; obtain ⟨hl,h⟩:=h
  wp_walk using PySem.AutoSeq1.wpAny_loadPart' hl
  exact ⟨_,rfl,h⟩
section
variable {X:Cx} {K:FG7}
def Ux (K:FG7):R2:=fun x y H Q=>∃ (a:Addr) (k:Nat) (xs:List V),x = .ref a /\ y = .int k /\ SqT K H a xs /\ xs ≠ [] /\ xs.length * k <= sizeLine /\ ∀ p H',Grow [] H H' -> SqT K H' p (List.replicate k xs).flatten -> Q (.ref p) H'
theorem Yy (hK:X.K = K):OpR X (binaryOp .Mult) (Ux K):=by
 subst hK
 intro pins s σ H x y v u Q I rx ry h
 obtain ⟨a,k,xs,rfl,rfl,ha,hne,hz,q⟩:=h
 cases rx
 obtain ⟨t,rfl⟩:=ry
 obtain ⟨its,r,ht,hzz⟩:=I.tuple ha
 obtain ⟨⟨c1,d1,x1,l1⟩,ho,hc,n,hd⟩:=id ht
 cases hc
 cases hd
 have hl:=r.length
 have he:its.toArray.isEmpty = false:=by
  cases its with
  | nil=>exact absurd (r.nil_iff.mp rfl) hne
  | cons _ _=>rfl
 have hsl:(sizeLine:Nat) <= (2 ^ 63 - 1) / 8:=by decide
 have hpos:0 < xs.length:=List.length_pos_iff.mpr hne
 have hk:k <= xs.length * k:=Nat.le_mul_of_pos_left k hpos
 refine wpAny_binaryOp_repeat_ref (T:="tuple") (U:="int") (by decide) ⟨_,ho,rfl⟩ (fun s'=>typeIs_int s' k t) vO PySem.F.fills_int_mul PySem.F.slot_int_rmul s9 PySem.F.slot_int_index.lookup
  (call_meets PySem.F.slot_int_rmul (typeIs_int s k t) PySem.F.entry_int_rmul (PySem.F.args_int_rmul_2 _ _) (uK k t a its.toArray n d1 l1)
   ⟨ho,rfl,⟨_,ho,rfl⟩,?_⟩)
 by_cases k1:k = 1
 ·subst k1
  refine call_meets PySem.F.slot_tuple_mul ⟨_,ho,rfl⟩ PySem.F.entry_tuple_mul (PySem.F.args_tuple_mul_2 _ _) (Zh a its.toArray n d1 l1 t) ⟨ho,?_⟩
  exact ⟨.ref a,H,I,rfl,q a H (Grow.refl _ _) (by simpa using ha)⟩
 by_cases k0:k = 0
 ·subst k0
  refine call_meets PySem.F.slot_tuple_mul ⟨_,ho,rfl⟩ PySem.F.entry_tuple_mul (PySem.F.args_tuple_mul_2 _ _) (Zi a its.toArray n d1 l1 t he) ⟨ho,?_⟩
  refine ⟨.ref s.heap.objs.size,_,I.laid (t':=s.toks) (o:=.tup []) (fun b ob q=>Heap.get?_push_of_some _ q) (Nat.le_refl _) ⟨Nat.zero_le _,[],.nil,IsTup.new _ _⟩,rfl,q _ _ (Grow.new (I.hok.fresh (Nat.le_refl _)) _) (by simpa using SqT.of zc)⟩
 have hnew:List.foldl (fun x1 x2=>x1 ++ x2) #[] (List.replicate (k:Int).toNat its.toArray) = (List.replicate k its).flatten.toArray:=by
  have:=v5 its k []
  rw [List.nil_append] at this
  exact this
 have hsz:(List.replicate k its).flatten.length <= sizeLine:=by rw [qa,← hl,Nat.mul_comm]; exact hz
 refine call_meets PySem.F.slot_tuple_mul ⟨_,ho,rfl⟩ PySem.F.entry_tuple_mul (PySem.F.args_tuple_mul_2 _ _) (Yx a its.toArray n d1 l1 k t (by omega) (by omega) he (beq_false_of_ne (by omega)) (by omega) ?_ ?_ (by rw [hnew,List.size_toArray]; exact hsz)) ⟨ho,?_⟩
 ·rw [List.size_toArray,← hl]
  have:((xs.length:Nat):Int) * (k:Int) = ((xs.length * k:Nat):Int):=by rw [Int.natCast_mul]
  rw [this]; omega
 ·rw [List.size_toArray,← hl]
  have:((xs.length:Nat):Int) * (k:Int) = ((xs.length * k:Nat):Int):=by rw [Int.natCast_mul]
  rw [this]
  exact decide_eq_false (by omega)
 ·rw [hnew]
  refine ⟨.ref s.heap.objs.size,_,I.laid (t':=s.toks) (o:=.tup (List.replicate k xs).flatten) (fun b ob q=>Heap.get?_push_of_some _ q) (Nat.le_refl _) ⟨by rw [qa,Nat.mul_comm]; exact hz,_,r.rep k,IsTup.new _ _⟩,rfl,q _ _ (Grow.new (I.hok.fresh (Nat.le_refl _)) _) (SqT.of zc)⟩
end
theorem AllR.permR {α:Type} {R:V -> α -> Prop} {xs ys:List V} (p:xs.Perm ys):∀ {ks:List α},AllR R ys ks -> ∃ js,AllR R xs js /\ js.Perm ks:=by
 induction p with
 | nil=>intro ks h; exact ⟨ks,h,.refl _⟩
 | cons x _ ih =>
  intro ks h
  cases ks with
  | nil=>exact h.elim
  | cons k ks =>
   obtain ⟨js,a,b⟩:=ih h.2
   exact ⟨k :: js,⟨h.1,a⟩,b.cons k⟩
 | swap x y l =>
  intro ks h
  match ks,h with
  | k1 :: k2 :: ks,⟨h1,h2,h3⟩=>exact ⟨k2 :: k1 :: ks,⟨h2,h1,h3⟩,.swap ..⟩
 | trans _ _ ih1 ih2 =>
  intro ks h
  obtain ⟨js,a,b⟩:=ih2 h
  obtain ⟨is,c,d⟩:=ih1 a
  exact ⟨is,c,d.trans b⟩
theorem Room.u1F {k:Nat} {A:Around} (r:Room k A):A.units + 1 < cLine:=by have:=r.un; omega
section
variable {prog:Program} {w:World} {A:Around} {R:Result -> Shared -> Prop} {s:Shared}
theorem Zj {kx vx target iter:Expr} {ifs:List Expr} {scope:Scope} {pos:Pos} {it:Value} {D:Addr} {env:Env} (I:Nat -> Shared -> Prop)
  (turn:∀ n s,I n s -> wpAny (model prog w) A (pyNext it) (fun r s₁=>match r with
   | none=>R (.ok .next) s₁
   | some v=>wpAny (model prog w) A (letOwnedTupleGo target it v) (fun _ s₂=>wpAny (model prog w) A (assign target env v) (fun _ s₃ =>
     wpAny (model prog w) A (forIn ifs true fun c r=>if r = true then do let ok ← isTrue c env (eval c env); pure (ForInStep.yield ok) else pure (ForInStep.yield r)) (fun ok s₄ =>
      if ok = true then wpAny (model prog w) A (eval kx env) (fun kv s₅=>wpAny (model prog w) A (eval vx env) (fun vv s₆ =>
       wpAny (model prog w) A (dictSet D kv vv) (fun _ s₇=>∃ m,m < n /\ I m s₇) (fun _ _=>False) s₆) (fun _ _=>False) s₅) (fun _ _=>False) s₄
      else ∃ m,m < n /\ I m s₄) (fun _ _=>False) s₃) (fun _ _=>False) s₂) (fun _ _=>False) s₁) (fun _ _=>False) s)
  (n:Nat) (h:I n s) :
  codeAny (model prog w) A (.compLoop (.DictComp kx vx [⟨target,iter,ifs,0⟩] scope pos) 0 it (.ref D) env) R s:=by
 refine codeAny_loop rfl I (fun n s hI=>?_) n h
 show wpAny _ A ((compTurn (.DictComp kx vx [⟨target,iter,ifs,0⟩] scope pos) 0 it (.ref D) env).onRaise (fun x=>do noteFrame x env; theTreesLotGoes x)) _ _ s
 refine wpAny_noted ?_
 rw [compTurn_dict]
 have no:∀ (E:VS7) (e:Value) (s:Shared),(fun (_:Value) (_:Shared)=>False) e s -> E e s:=fun _ _ _ f=>f.elim
 refine wpAny_bind (wpAny_standAt (wpAny_bind (wpAny_mono (turn n s hI) (fun r s₁ h₁=>?_) (no _))))
 cases r with
 | none=>exact wpAny_pure h₁
 | some v =>
  refine wpAny_bind (wpAny_mono h₁ (fun _ s₂ h₂=>?_) (no _))
  refine wpAny_bind (wpAny_mono h₂ (fun _ s₃ h₃=>wpAny_bind (wpAny_mono h₃ (fun ok s₄ h₄=>?_) (no _))) (no _))
  cases ok with
  | false=>exact wpAny_pure ⟨rfl,h₄⟩
  | true =>
   exact wpAny_bind (wpAny_bind (wpAny_mono h₄ (fun kv s₅ h₅=>wpAny_bind (wpAny_holding (wpAny_mono h₅ (fun vv s₆ h₆=>wpAny_bind (wpAny_standAt (wpAny_holding (wpAny_mono h₆ (fun _ s₇ h₇=>wpAny_pure ⟨rfl,h₇⟩) (no _))))) (no _)))) (no _)))
end
def DRaw (prog:Program) (w:World) (Hb:Hp) (h:Heap) (D:Addr) (o:Obj) (kvs:List (List Key × V)):Prop :=
 kvs.length <= sizeLine /\ (D == sysModules) = false /\ ∃ xs:List (List Key × Addr × Value),KT Hb kvs xs /\ ∃ es ep,h.get? D = some o /\ o.ExactDict /\ o.data = .dict es ep /\ es.toList = xs.map (entryOfKey (tupleKind (yb prog w))) /\ (xs.map (·.1)).Nodup
theorem DRaw.at {prog:Program} {w:World} {Hb:Hp} {h h':Heap} {D:Addr} {o:Obj} {kvs:List (List Key × V)} (r:DRaw prog w Hb h D o kvs) (e:h'.get? D = some o):DRaw prog w Hb h' D o kvs :=
 let ⟨z,y,xs,k,es,ep,_,h2,h3,h4,h5⟩:=r; ⟨z,y,xs,k,es,ep,e,h2,h3,h4,h5⟩
theorem DRaw.obj {prog:Program} {w:World} {Hb H':Hp} {h:Heap} {D:Addr} {o:Obj} {kvs:List (List Key × V)} (r:DRaw prog w Hb h D o kvs) (hk:∀ b xs,Hb b = some (.tup xs) -> H' b = some (.tup xs)):zV prog w H' h D (.dT kvs) :=
 let ⟨z,y,xs,k,es,ep,h1,h2,h3,h4,h5⟩:=r; ⟨z,y,xs,k.keeps hk,o,es,ep,h1,h2,h3,h4,h5⟩
theorem DRaw.nocell {prog:Program} {w:World} {Hb:Hp} {h:Heap} {D:Addr} {o:Obj} {kvs:List (List Key × V)} (r:DRaw prog w Hb h D o kvs) (v:Option Value):o.data ≠ .cell v:=by
 obtain ⟨_,_,_,_,es,ep,_,_,h3,_⟩:=r
 rw [h3]; intro z; cases z
def Yz (J:It) (σ0:L2.St) (H1:Hp) (g:TG) (tt:TT) (tk tv:TE) (Q:VK):Prop :=
 ∃ W:Nat -> Nat -> List (List Key × V) -> Hp -> L2.St -> Hp -> Prop,(∃ m,W 0 m [] H1 σ0 H1) /\ ∀ i m kvs Hb σ' H',W i m kvs Hb σ' H' →
  (J.stop i H' /\ (∀ b xs,Hb b = some (.tup xs) -> H' b = some (.tup xs)) /\ ∀ l,H' l = none -> Q (.ref l) (upd H' l (.dT kvs))) ∨
  (J.go i H' /\ ∃ Nn:List (List Key × V) -> Hp -> L2.St -> Hp -> Prop,(∀ zs Hc σ2 H2,Nn zs Hc σ2 H2 -> ∃ m',m' < m /\ W (i + 1) m' zs Hc σ2 H2) ∧
   ∀ x H2,J.yld i H' x H2 -> g x σ' H2 fun σ2 H3=>tt σ2 H3 fun b H4=>if b = true then tk σ2 H4 fun y H5=>tv σ2 H5 fun v H6=>kvs.length < sizeLine /\ ∃ b ks,y = .ref b /\ H6 b = some (.tup (ks.map kV)) /\ (∀ c xs,Hb c = some (.tup xs) -> H6 c = some (.tup xs)) /\ Nn (putK kvs ks v) H6 σ2 H6 else Nn kvs Hb σ2 H4)
def VU (wi:TI) (sub:List (Option Nat)) (g:TG) (tt:TT) (tk tv:TE):TE:=fun σ H Q=>wi σ H fun J H1=>Yz J (capt sub σ) H1 g tt tk tv Q
section
variable {X:Cx} {pins:List (Addr × Obj)} {σ:L2.St} {H2:Hp} {s₂:Shared} {it:Addr} {fp:List Addr} {tn:Nat -> Heap -> Prop} {J:It} {scope:Scope} {cl:List (Str × Addr)} {N':List Str} {sub:List (Option Nat)}
theorem YA {C D:Addr} {s₀:Shared} {s':Shared} {σ':L2.St} {H' Hb:Hp} {kvs:List (List Key × V)} {o oC:Obj} (I:Inv X pins σ H2 s₂)
    (hs₀:∀ b o,s₂.heap.get? b = some o -> s₀.heap.get? b = some o) (hos:s₀.os = s₂.os) (hD:s₂.heap.objs.size <= D) (hC:s₂.heap.objs.size <= C) (hDC:D ≠ C) (f2:∀ b ∈ fp,FpOk X pins H2 b)
    (I':Inv (cxC X N' scope cl C D fp s₀ H2) pins σ' H' s') (hn:H' D = none) (hb:∀ b xs,Hb b = some (.tup xs) -> H' b = some (.tup xs)) (rv:DRaw X.prog X.w Hb s'.heap D o kvs)
    (ho:s'.heap.get? C = some oC) (hd:∀ v,oC.data ≠ .cell v):Inv X (pins ++ [(C,oC)]) σ (upd H' D (.dT kvs)) s' /\ FpOk X pins (upd H' D (.dT kvs)) C:=by
  have neD:∀ b o,s₂.heap.get? b = some o -> b ≠ D:=fun b o e=>Nat.ne_of_lt (Nat.lt_of_lt_of_le (Heap.lt_size e) hD)
  have nm:∀ b o,s₂.heap.get? b = some o -> b ∉ fp -> b ∉ D :: fp:=fun b o e h z=>(List.mem_cons.mp z).elim (neD b o e) h
  have U:=I'.base
  have HC:upd H' D (.dT kvs) C = none:=by rw [zm (Ne.symm hDC)]; exact I'.free
  have fpc:FpOk X pins (upd H' D (.dT kvs)) C:=I.fpOk hC HC
  have tp:∀ b xs,H2 b = some (.tup xs) -> upd H' D (.dT kvs) b = some (.tup xs):=fun b xs e=>by have z:=U.tups b xs e; rw [zm (zq z hn)]; exact z
  have un:Un (frs X.stack) fp H2 (upd H' D (.dT kvs)) s₂.heap s'.heap :=
    { keep:=fun b o e n h1 h2=>U.keep b o (hs₀ b o e) n h1 (nm b o e h2)
      slot:=fun b o e n h1 h2=>U.slot b o (hs₀ b o e) n h1 (nm b o e h2)
      free:=fun b o e n h2=>by rw [zm (neD b o e)]; exact U.free b o (hs₀ b o e) n (nm b o e h2)
      there:=fun b o e h2=>U.there b o (hs₀ b o e) (nm b o e h2)
      tups:=tp
      frzs:=fun b o u e=>by have z:=U.frzs b o u e; rw [zm (zq z hn)]; exact z
      tbls:=fun b ps e=>by obtain ⟨more,z⟩:=U.tbls b ps e; exact ⟨more,by rw [zm (zq z hn)]; exact z⟩ }
  have hok:HOk X.prog X.w (upd H' D (.dT kvs)) s'.heap:=HOk.track I'.hok hn (rv.obj fun b xs e=>by have z:=hb b xs e; rw [zm (zq z hn)]; exact z)
  have IX:Inv X pins σ (upd H' D (.dT kvs)) s':=I.call' (I'.os.trans hos) un hok I'.bare fun b hb=>⟨(f2 b hb).2.2.2.1,(f2 b hb).2.1,(f2 b hb).2.2.2.2.1,(f2 b hb).2.2.2.2.2⟩
  refine ⟨IX.pins_of fun p hp=>?_,fpc⟩
  rcases List.mem_append.mp hp with hp | hp
  · exact IX.pin p (List.mem_append_right _ hp)
  · rw [List.mem_singleton.mp hp]
    exact ⟨ho,HC,fpc.2.1,fpc.2.2.1,hd⟩
theorem YB {C D:Addr} {s₀:Shared} {tg:Expr} {pos:Pos} {kx vx iter:Expr} {ifs:List Expr} {g:TG} {tt:TT} {tk tv:TE} {Q:VK} {RR:Value -> Addr -> Result -> Shared -> Prop} {W:Nat -> Nat -> List (List Key × V) -> Hp -> L2.St -> Hp -> Prop}
  (hu:X.A.units + 1 < cLine) (I:Inv X pins σ H2 s₂) (hcalm:X.calm = true) (T:Turn X.prog X.w X.K tg J fp it tn) (f2:∀ b ∈ fp,FpOk X pins H2 b) (hfp:∀ b ∈ fp,b < s₂.heap.objs.size)
  (hs₀:∀ b o,s₂.heap.get? b = some o -> s₀.heap.get? b = some o) (hos:s₀.os = s₂.os) (hD:s₂.heap.objs.size <= D) (hC:s₂.heap.objs.size <= C) (hDC:D ≠ C)
  (hcl1:∀ x c,cl.lookup x = some c -> X.env.cells.lookup x = some c)
  (hg:PG (cxC X N' scope cl C D fp s₀ H2) tg g) (ht:PIfs (cxC X N' scope cl C D fp s₀ H2) ifs tt) (hk:PE (cxC X N' scope cl C D fp s₀ H2) kx tk) (he:PE (cxC X N' scope cl C D fp s₀ H2) vx tv)
  (turn:∀ i m kvs Hb σ' H',W i m kvs Hb σ' H' →
   (J.stop i H' /\ (∀ b xs,Hb b = some (.tup xs) -> H' b = some (.tup xs)) /\ ∀ l,H' l = none -> Q (.ref l) (upd H' l (.dT kvs))) ∨
   (J.go i H' /\ ∃ Nn:List (List Key × V) -> Hp -> L2.St -> Hp -> Prop,(∀ zs Hc σ2 H2,Nn zs Hc σ2 H2 -> ∃ m',m' < m /\ W (i + 1) m' zs Hc σ2 H2) ∧
    ∀ x H3,J.yld i H' x H3 -> g x σ' H3 fun σ2 H3=>tt σ2 H3 fun b H4=>if b = true then tk σ2 H4 fun y H5=>tv σ2 H5 fun v H6=>kvs.length < sizeLine /\ ∃ b ks,y = .ref b /\ H6 b = some (.tup (ks.map kV)) /\ (∀ c xs,Hb c = some (.tup xs) -> H6 c = some (.tup xs)) /\ Nn (putK kvs ks v) H6 σ2 H6 else Nn kvs Hb σ2 H4))
  (hRR:∀ (D C:Addr) (oC:Obj) (m:Str -> Option Value) (s':Shared) (Hf:Hp),Inv X (pins ++ [(C,oC)]) σ Hf s' -> s'.heap.Ns C m -> FpOk X pins Hf C -> Q (.ref D) Hf -> RR (.ref D) C (.ok .next) s')
  (n:Nat) (s:Shared) (h:∃ i kvs Hb o σ' H',Inv (cxC X N' scope cl C D fp s₀ H2) pins σ' H' s /\ tn i s.heap /\ (∀ b ∈ fp,H' b = none) /\ H' D = none ∧
   DRaw X.prog X.w Hb s.heap D o kvs /\ W i n kvs Hb σ' H') :
  codeAny (model X.prog X.w) X.A (.compLoop (.DictComp kx vx [⟨tg,iter,ifs,0⟩] scope pos) 0 (.ref it) (.ref D) (compEnvC scope cl C X.env)) (RR (.ref D) C) s:=by
 have frsz:∀ b ∈ frs X.stack,b < s₂.heap.objs.size:=fun b hb=>by
  rcases List.mem_cons.mp (I.stkSub b hb) with z | z
  ·rw [z]; exact I.lt
  ·exact Nat.lt_of_not_le fun q=>I.nofs q z
 have cells:∀ x c,cl.lookup x = some c -> c < s₂.heap.objs.size:=fun x c e=>let ⟨v,q⟩:=I.cell x c (hcl1 x c e); q.lt
 have pinsz:∀ p ∈ X.pn ++ pins,p.1 < s₂.heap.objs.size:=fun p hp=>Heap.lt_size (I.pin p hp).1
 refine Zj (fun n s=>∃ i kvs Hb o σ' H',Inv (cxC X N' scope cl C D fp s₀ H2) pins σ' H' s /\ tn i s.heap /\ (∀ b ∈ fp,H' b = none) /\ H' D = none ∧
   DRaw X.prog X.w Hb s.heap D o kvs /\ W i n kvs Hb σ' H') ?_ n h
 rintro n s ⟨i,kvs,Hb,o,σ',H',I',st',fr,hn,rv,w'⟩
 have hy:s.heap.get? D = some o:=let ⟨_,_,_,_,_,_,e,_⟩:=rv; e
 have pD:Inv (cxC X N' scope cl C D fp s₀ H2) (pins ++ [(D,o)]) σ' H' s:=I'.pins_of fun p hp=>by
  rcases List.mem_append.mp hp with hp | hp
  ·exact I'.pin p (List.mem_append_right _ hp)
  ·rw [List.mem_singleton.mp hp]
   exact ⟨hy,hn,hDC,fun z=>absurd (Nat.lt_of_lt_of_le (frsz _ z) hD) (Nat.lt_irrefl _),rv.nocell⟩
 have fpok:∀ {H'':Hp},(∀ b ∈ fp,H'' b = none) -> ∀ b ∈ fp,FpOk (cxC X N' scope cl C D fp s₀ H2) (pins ++ [(D,o)]) H'' b:=fun hz b hb=>by
  refine ⟨hz b hb,Nat.ne_of_lt (Nat.lt_of_lt_of_le (hfp b hb) hC),fun z=>?_,.inl (List.mem_cons_of_mem _ hb),fun x c e=>(f2 b hb).2.2.2.2.1 x c (hcl1 x c e),fun p hp=>?_⟩
  ·rcases List.mem_cons.mp (I.stkSub b z) with z | z
   ·exact (f2 b hb).2.1 z
   ·exact (f2 b hb).2.2.1 z
  ·rcases List.mem_append.mp hp with hp | hp
   ·exact (f2 b hb).2.2.2.2.2 p (List.mem_append_left _ hp)
   ·rcases List.mem_append.mp hp with hp | hp
    ·exact (f2 b hb).2.2.2.2.2 p (List.mem_append_right _ hp)
    ·rw [List.mem_singleton.mp hp]
     exact Nat.ne_of_gt (Nat.lt_of_lt_of_le (hfp b hb) hD)
 rcases turn i n kvs Hb σ' H' w' with ⟨stop,hbt,q⟩ | ⟨go,Nn,hN,step⟩
 ·refine thn (T.done (cxC X N' scope cl C D fp s₀ H2) rfl rfl rfl hcalm i _ s σ' H' (fun _ _=>False) pD (fpok fr) st' stop) fun r s1 ⟨hr,I1⟩=>?_
  subst hr
  have hy1:=(I1.pin (D,o) (by simp)).1
  obtain ⟨m,hm,_⟩:=I1.loc
  obtain ⟨oC,es,ep,hoC,hdC,_⟩:=id hm
  obtain ⟨IX,fpc⟩:=YA I hs₀ hos hD hC hDC f2 I1.unpinned hn hbt (rv.at hy1) hoC (by intro v z; rw [hdC] at z; cases z)
  exact hRR D C oC m s1 _ IX hm fpc (q D hn)
 ·refine thn (T.item (cxC X N' scope cl C D fp s₀ H2) rfl rfl rfl hcalm i _ s σ' H' (fun _ _=>False) pD (fpok fr) st' go) fun r s1 ⟨u,hr,h4⟩=>?_
  subst hr
  refine thn h4 fun _ s2 ⟨x5,H5,I5,r5,y5,st5,fr5⟩=>?_
  have I5':=I5.pinned (fpok fr5) (T.obj _ _ st5)
  refine thn (hg _ s2 σ' H5 x5 u _ I5' r5 (step x5 H5 y5)) fun _ s3 ⟨σ6,H6,I6,q6⟩=>?_
  refine thn (ht _ s3 σ6 H6 _ I6 q6) fun ok s4 ⟨H7,I7,q7⟩=>?_
  have stay:∀ {σ7:L2.St} {H7:Hp} {s7:Shared},Inv (cxC X N' scope cl C D fp s₀ H2) (pins ++ [(D,o)] ++ v3 fp s2.heap) σ7 H7 s7 →
    (∀ b ∈ fp,∀ o,s2.heap.get? b = some o -> s7.heap.get? b = some o) /\ (∀ b ∈ fp,H7 b = none) /\ H7 D = none /\ s7.heap.get? D = some o:=fun {σ7 H7 s7} I7=>by
   have d:=I7.pin (D,o) (by simp)
   refine ⟨fun b hb o e=>(I7.pin (b,o) (List.mem_append_right _ (List.mem_append_right _ (yy hb e)))).1,fun b hb=>?_,d.2.1,d.1⟩
   obtain ⟨o,e,_⟩:=T.obj _ _ st5 b hb
   exact (I7.pin (b,o) (List.mem_append_right _ (List.mem_append_right _ (yy hb e)))).2.1
  cases ok with
  | false =>
   rw [if_neg (by decide)] at q7 ⊢
   obtain ⟨k1,k2,k3,k4⟩:=stay I7
   obtain ⟨m',hm,w7⟩:=hN kvs Hb σ6 H7 q7
   exact ⟨m',hm,i + 1,kvs,Hb,o,σ6,H7,I7.unpinned.unpinned,T.keep _ _ _ st5 k1,k2,k3,rv.at k4,w7⟩
  | true =>
   rw [if_pos rfl] at q7 ⊢
   refine thn (hk _ s4 σ6 H7 _ I7 q7) fun kv s5 ⟨y,H8,I8,ry,q8⟩=>?_
   refine thn (he _ s5 σ6 H8 _ I8 q8) fun vv s6 ⟨v,H9,I9,r9,hl9,b,ks,ey,eb,tp,n9⟩=>?_
   subst ey
   cases (show kv = Value.ref b from ry)
   obtain ⟨k1,k2,k3,k4⟩:=stay I9
   obtain ⟨z,hd,xs,rel,es,ep,h1,h2,h3,h4',h5⟩:=rv.at k4
   have dd:s6.heap.DictOfH (tupleKind (yb X.prog X.w)) D xs:=by
    refine ⟨o,es,ep,h1,h2,h3,h4',fun x hx=>?_,h5⟩
    have all:∀ {l:List (List Key × V)} {m:List (List Key × Addr × Value)},KT Hb l m -> ∀ x ∈ m,(tupleKind (yb X.prog X.w)).is s6.heap x.1 x.2.1:=by
     intro l m q
     induction q with
     | nil=>intro x hx; exact nomatch hx
     | @cons p q ps qs hq t ih =>
      intro x hx
      rcases List.mem_cons.mp hx with e | hx
      ·subst e
       exact tf I9.hok (by rw [← hq.1]; exact tp _ _ hq.2.1)
      ·exact ih x hx
    exact all rel x hx
   have xl:xs.length <= sizeLine:=by rw [← Paired.length rel]; exact z
   refine wpAny_dictSet_heap (hsz:=xl) (show (tupleKind (yb X.prog X.w)).room X.A from Nat.lt_of_succ_lt hu) (tf I9.hok eb) dd fun h' dd' sb=>?_
   obtain ⟨o',es',ep',hq1,hq2,hq3,hq4,_,hq5⟩:=dd'
   obtain ⟨m',hm,w9⟩:=hN _ _ σ6 H9 n9
   have pl:=yN kvs ks v
   refine ⟨m',hm,i + 1,putK kvs ks v,H9,o',σ6,H9,?_,T.keep _ _ _ (T.keep _ _ _ st5 k1) fun b hb o e=>sb.extBut b o (Nat.ne_of_lt (Nat.lt_of_lt_of_le (hfp b hb) hD)) e,k2,k3,⟨by omega,hd,_,(KT.keeps rel tp).put ks eb r9,es',ep',hq1,hq2,hq3,hq4,hq5⟩,w9⟩
   exact (I9.unpinned.unpinned).turned (it:=D) (t':=_) (h':=h') (fun b o hb e=>sb.extBut b o hb e) k3 hDC (.inl (by simp)) (fun x c e=>Nat.ne_of_lt (Nat.lt_of_lt_of_le (cells x c e) hD)) (fun p hp=>Nat.ne_of_lt (Nat.lt_of_lt_of_le (pinsz p hp) hD))
theorem qv {tg:Expr} {pos:Pos} {kx vx iter:Expr} {ifs:List Expr} {g:TG} {tt:TT} {tk tv:TE} {E:VS7} {Q:VK} {RR:Value -> Addr -> Result -> Shared -> Prop}
  (hu:X.A.units + 1 < cLine) (I:Inv X pins σ H2 s₂) (hcalm:X.calm = true) (T:Turn X.prog X.w X.K tg J fp it tn) (st:tn 0 s₂.heap) (f2:∀ b ∈ fp,FpOk X pins H2 b)
  (S:CSc X scope N' sub) (hcl1:∀ x c,cl.lookup x = some c -> X.env.cells.lookup x = some c) (hcl2:∀ y ∈ scope.names,y.2 = .free -> ∃ c,cl.lookup y.1 = some c)
  (hg:∀ C D fp s H,PG (cxC X N' scope cl C D fp s H) tg g) (ht:∀ C D fp s H,PIfs (cxC X N' scope cl C D fp s H) ifs tt) (hk:∀ C D fp s H,PE (cxC X N' scope cl C D fp s H) kx tk) (he:∀ C D fp s H,PE (cxC X N' scope cl C D fp s H) vx tv)
  (hW:Yz J (capt sub σ) H2 g tt tk tv Q)
  (hRR:∀ (D C:Addr) (oC:Obj) (m:Str -> Option Value) (s':Shared) (Hf:Hp),Inv X (pins ++ [(C,oC)]) σ Hf s' -> s'.heap.Ns C m -> FpOk X pins Hf C -> Q (.ref D) Hf -> RR (.ref D) C (.ok .next) s') :
  wpAny (model X.prog X.w) X.A newDict (fun acc s₃=>wpAny (model X.prog X.w) X.A (newFunctionEnv scope X.env.globals cl [] X.env.qual none .none (some X.env)) (fun cenv s₄ =>
   codeAny (model X.prog X.w) X.A (.compStart (.DictComp kx vx [⟨tg,iter,ifs,0⟩] scope pos) 0 (.ref it) acc { cenv with scope:=relabel scope X.env }) (RR acc cenv.locals) s₄) E s₃) E s₂:=by
 obtain ⟨W,⟨m0,w0⟩,turn⟩:=hW
 refine wpAny_newObj_type (wpAny_newFunctionEnv S.nocell (by intro y hy; simp at hy) (fun h₁ hns₁ hsb₁=>?_) S.kind)
 dsimp only at hns₁ hsb₁ ⊢
 have hC:(s₂.heap.push { cls:=.type "dict",dict:=none,data:=.dict #[] }).objs.size = s₂.heap.objs.size + 1:=Heap.size_push ..
 rw [hC] at hns₁ hsb₁ ⊢
 have hk1:∀ b o,(s₂.heap.push { cls:=.type "dict",dict:=none,data:=.dict #[] }).get? b = some o -> h₁.get? b = some o:=fun b o e =>
  hsb₁.extBut b o (by have:=Heap.lt_size e; rw [hC] at this; exact Nat.ne_of_lt this) (Heap.get?_push_of_some _ e)
 have hfp:∀ b ∈ fp,b < s₂.heap.objs.size:=fun b hb=>by
  obtain ⟨o,e,_⟩:=T.obj _ _ st b hb
  exact Heap.lt_size e
 have I0:=uV (tk:=s₂.toks + ([]:List (Str × Value)).length) I S hcl1 hcl2 f2 hfp hns₁ hk1
 have hD0:h₁.get? s₂.heap.objs.size = some { cls:=.type "dict",data:=.dict #[] }:=hk1 _ _ (Heap.get?_push_size _ rfl)
 obtain ⟨_,hd0,xs0,rel0,o0,es0,ep0,q1,q2,q3,q4,q5⟩:=(jC (P:=X.prog) (w:=X.w) (H:=H2) s₂.heap I.big)
 rw [Heap.get?_push_size _ rfl] at q1
 cases q1
 have loop:codeAny (model X.prog X.w) X.A (.compLoop (.DictComp kx vx [⟨tg,iter,ifs,0⟩] scope pos) 0 (.ref it) (.ref s₂.heap.objs.size) (compEnvC scope cl (s₂.heap.objs.size + 1) X.env)) (RR (.ref s₂.heap.objs.size) (s₂.heap.objs.size + 1)) { s₂ with heap:=h₁,toks:=s₂.toks + ([]:List (Str × Value)).length } :=
  YB (s₀:={ s₂ with heap:=s₂.heap.push { cls:=.type "dict",dict:=none,data:=.dict #[] } }) (C:=s₂.heap.objs.size + 1) (D:=s₂.heap.objs.size) hu I hcalm T f2 hfp (fun b o e=>Heap.get?_push_of_some _ e) rfl (Nat.le_refl _) (Nat.le_succ _) (Nat.ne_of_lt (Nat.lt_succ_self _)) hcl1 (hg _ _ _ _ _) (ht _ _ _ _ _) (hk _ _ _ _ _) (he _ _ _ _ _) turn hRR m0 _
   ⟨0,[],H2,_,capt sub σ,H2,I0,T.keep _ _ _ st fun b hb o e=>hk1 b o (Heap.get?_push_of_some _ e),fun b hb=>(f2 b hb).1,I.hok.fresh (Nat.le_refl _),⟨Nat.zero_le _,hd0,[],.nil,es0,ep0,hD0,q2,q3,by cases rel0; exact q4,List.nodup_nil⟩,w0⟩
 exact codeAny_compStart_dict loop (T.self _ _ _ _ _ (T.keep _ _ _ st fun b hb o e=>hk1 b o (Heap.get?_push_of_some _ e)) loop)
end
section
variable {X:Cx} {scope:Scope} {N':List Str} {sub:List (Option Nat)} {tg:Expr} {pos:Pos} {kx vx iter:Expr} {ifs:List Expr} {wi:TI} {g:TG} {tt:TT} {tk tv:TE}
theorem XB (hu:X.A.units + 1 < cLine) (S:CSc X scope N' sub) (hcalm:X.calm = true) (hi:PI X tg iter wi)
  (hg:∀ cl C D fp s H,PG (cxC X N' scope cl C D fp s H) tg g) (ht:∀ cl C D fp s H,PIfs (cxC X N' scope cl C D fp s H) ifs tt) (hk:∀ cl C D fp s H,PE (cxC X N' scope cl C D fp s H) kx tk) (he:∀ cl C D fp s H,PE (cxC X N' scope cl C D fp s H) vx tv)
  (hs:∀ x,foldedSetIterable iter X.env x = pure x:=by intro _; rfl):PE X (.DictComp kx vx [⟨tg,iter,ifs,0⟩] scope pos) (VU wi sub g tt tk tv):=by
 intro pins s σ H Q I h
 obtain ⟨cl,hclos,hcl1,hcl2⟩:=S.clos I
 rw [arm_eval_DictComp]
 refine wpAny_comprehension_free (use:=none) rfl hs hclos S.kind S.names (thn (hi pins s σ H _ I h) fun v s1 h1=>thn h1 fun itv s2 h2=>?_)
 obtain ⟨it,fp,tn,J,H2,e,I2,T,st2,f2,hW⟩:=h2
 subst e
 refine qv (RR:=fun acc C=>compPost (model X.prog X.w) X.A X.xe none (EP X pins σ Q) acc C) hu I2 hcalm T st2 f2 S hcl1 hcl2 (hg cl) (ht cl) (hk cl) (he cl) hW ?_
 intro D C oC m s' Hf IX hm fpc q
 refine ⟨m,hm,fun h' sb=>⟨.ref D,Hf,?_,rfl,q⟩⟩
 exact (IX.unpinned).turned (it:=C) (t':=s'.toks) (h':=h') (fun b o hb e=>sb.extBut b o hb e) fpc.1 fpc.2.1 fpc.2.2.2.1 fpc.2.2.2.2.1 fpc.2.2.2.2.2
end
def Itd (a:Addr) (o:Obj) (kvs:List (List Key × V)):It :=
 ⟨fun i H=>i < kvs.length /\ H a = some (.frz o (.dT kvs)),fun i H x H'=>H' = H /\ ∃ p b,kvs[i]? = some p /\ x = .ref b /\ H b = some (.tup (p.1.map kV)),fun i H=>i = kvs.length /\ H a = some (.frz o (.dT kvs))⟩
theorem X7 {P:Program} {w:World} {H:Hp} {h:Heap} {a:Addr} {o:Obj} {es:Array DictEntry} {ep:Nat} {kvs:List (List Key × V)} (x:zV P w H h a (.frz o (.dT kvs))) (hd:o.data = .dict es ep) :
  ∃ xs:List (List Key × Addr × Value),KT H kvs xs /\ h.get? a = some o /\ es.toList = xs.map (entryOfKey (tupleKind (yb P w))):=by
 obtain ⟨g,z,lo,xs,rel,o',es',ep',g',hx,hd',he,nd⟩:=x
 rw [g] at g'
 cases g'
 rw [hd] at hd'
 injection hd' with e1 e2
 subst e1
 exact ⟨xs,rel,g,he⟩
theorem WM {P:Program} {w:World} {K:FG7} {tg:Expr} (a it:Addr) (o:Obj) (es:Array DictEntry) (ep:Nat) (kvs:List (List Key × V)) (hx:o.ExactDict) (hd:o.data = .dict es ep) (hes:es.size = kvs.length) :
  Turn P w K tg (Itd a o kvs) [it] it (fun i h=>h.IsKeyIter it a i es.size ep) where
 mem:=by simp
 obj:=fun i h st b hb=>by
  have e:b = it:=by simpa using hb
  subst e
  obtain ⟨o,e,c,d⟩:=st
  exact ⟨o,e,fun v z=>by rw [d] at z; cases z⟩
 keep:=fun i h h' st k=>st.at fun o e=>k it (by simp) o e
 item:=by
  intro X hP hw hK hc i pins s σ H E I hf st hg
  subst hP hw hK
  obtain ⟨hi,hH⟩:=hg
  obtain ⟨xs,rel,g,he⟩:=X7 (I.hok a _ hH) hd
  have hl:kvs.length = xs.length:=Paired.length rel
  obtain ⟨f0,f1,f2,f3,f4,f5⟩:=hf it (by simp)
  refine XA st ⟨o,g,hx,hd⟩ (by omega) fun h' st' sb=>?_
  have I1:Inv X pins σ H { s with heap:=h' }:=I.turned (t':=s.toks) (fun b o hb e=>(sb.2 b hb).trans e) f0 f1 f3 f4 f5
  obtain ⟨oi,e,c,d⟩:=id st'
  have hy:i < xs.length:=by omega
  have ee:=entry_at he i
  rw [Array.getElem?_eq_getElem (by omega),List.getElem?_eq_getElem hy,Option.map_some] at ee
  have ek:es[i].key = Value.ref xs[i].2.1:=by rw [Option.some.inj ee]; rfl
  obtain ⟨p,hp,hr⟩:∃ p,kvs[i]? = some p /\ H xs[i].2.1 = some (.tup (p.1.map kV)):=by
   have hz:(xs.map fun q=>V.ref q.2.1)[i]? = some (V.ref xs[i].2.1):=by rw [List.getElem?_map,List.getElem?_eq_getElem hy]; rfl
   have hk:=jF rel
   have:∀ {zs:List V} {ps:List (List Key × V)} {j:Nat} {b:Addr},AllR (VT H) zs ps -> zs[j]? = some (V.ref b) -> ∃ p,ps[j]? = some p /\ H b = some (.tup (p.1.map kV)):=by
    intro zs
    induction zs with
    | nil=>intro ps j b _ h; cases h
    | cons z zs ih =>
     intro ps j b hA h
     cases ps with
     | nil=>exact hA.elim
     | cons p ps =>
      cases j with
      | zero =>
       obtain ⟨b',e',hb'⟩:=hA.1
       have:z = V.ref b:=Option.some.inj h
       rw [this] at e'
       cases e'
       exact ⟨p,rfl,hb'⟩
      | succ j =>
       obtain ⟨p',h1,h2⟩:=ih (ps:=ps) (j:=j) hA.2 (show zs[j]? = some (V.ref b) from h)
       exact ⟨p',h1,h2⟩
   exact this hk hz
  exact ⟨_,rfl,Y0 (s:={ s with heap:=h' }) e c d (by decide) ⟨V.ref xs[i].2.1,H,I1,ek,⟨rfl,p,_,hp,rfl,hr⟩,st',fun b hb=>(hf b hb).1⟩⟩
 done:=by
  intro X hP hw hK hc i pins s σ H E I hf st hg
  subst hP hw hK
  obtain ⟨hi,hH⟩:=hg
  obtain ⟨xs,rel,g,he⟩:=X7 (I.hok a _ hH) hd
  obtain ⟨f0,f1,f2,f3,f4,f5⟩:=hf it (by simp)
  have ei:i = es.size:=by omega
  subst ei
  exact WL (I.ok.hd hc) st ⟨o,g,hx,hd⟩ fun h' eb=>⟨rfl,I.turned (t':=s.toks) (fun b o hb e=>eb b o hb e) f0 f1 f3 f4 f5⟩
 self:=fun _ _ _ _ _ st h=>wpAny_pyIter_keyiter st h
section
variable {X:Cx} {tg:Expr}
theorem Grow.frzR {m:List Addr} {H:Hp} {d:Addr} {kvs:List (List Key × V)} {o:Obj} (h:H d = some (.dT kvs)) (hm:d ∈ m):Grow m H (upd H d (.frz o (.dT kvs))) :=
 ⟨fun b u hb q=>by rw [zm (show b ≠ d from fun z=>hb (by rw [z]; exact hm))]; exact q,fun b zs q=>by rw [zm (fun z=>by subst z; rw [h] at q; cases q)]; exact q,fun b u v q=>by rw [zm (fun z=>by subst z; rw [h] at q; cases q)]; exact q⟩
def iDT (tl:TE):TI:=fun σ H R=>tl σ H fun x H1=>∃ a kvs,x = .ref a /\ Rd H1 a (.dT kvs) /\ ∀ o H',H' a = some (.frz o (.dT kvs)) -> Grow [a] H1 H' -> (∀ b,b ≠ a -> H' b = H1 b) -> R (Itd a o kvs) H'
theorem VV {l:Expr} {tl:TE} (hl:PE X l tl):PI X tg l (iDT tl):=by
 intro pins s σ H R I h
 refine thn (hl pins s σ H _ I h) fun v s1 ⟨x,H1,I1,r1,q1⟩=>?_
 obtain ⟨a,kvs,e,hrd,q⟩:=q1
 subst e
 cases r1
 have key:∀ (H2:Hp) (o:Obj),Inv X pins σ H2 s1 -> H2 a = some (.frz o (.dT kvs)) -> R (Itd a o kvs) H2 -> wpAny (model X.prog X.w) X.A (pyIter (.ref a)) (PIE X pins σ tg R) X.xe s1:=by
  intro H2 o I2 hH hR
  obtain ⟨g,z,lo,xs,rel,o',es,ep,g',hx,hd,he,nd⟩:=(show zV X.prog X.w H2 s1.heap a (.frz o (.dT kvs)) from I2.hok a _ hH)
  rw [g] at g'
  cases g'
  have hl:kvs.length = xs.length:=Paired.length rel
  have hes:es.size = xs.length:=size_of_entries he
  refine Xz lo ⟨o,g,hx,hd⟩ ?_
  refine ⟨s1.heap.objs.size,[s1.heap.objs.size],_,_,H2,rfl,I2.kept (t':=s1.toks) fun b o e=>Heap.get?_push_of_some _ e,WM a _ o es ep kvs hx hd (by omega),⟨_,Heap.get?_push_size _ rfl,rfl,rfl⟩,fun b hb=>?_,hR⟩
  have e:b = s1.heap.objs.size:=by simpa using hb
  subst e
  exact I2.fpOk (Nat.le_refl _) (I2.hok.fresh (Nat.le_refl _))
 rcases hrd with ha | ⟨o,ha⟩
 ·obtain ⟨z,lo,xs,rel,o,es,ep,g,hx,hd,he,nd⟩:=(show zV X.prog X.w H1 s1.heap a (.dT kvs) from I1.hok a _ ha)
  have I2:Inv X pins σ (upd H1 a (.frz o (.dT kvs))) { s1 with heap:=s1.heap,toks:=s1.toks }:=qr I1 (by rw [ha]; trivial) (Heap.SameBut.refl ..) ⟨o,g⟩ ⟨g,z,lo,xs,?_,o,es,ep,g,hx,hd,he,nd⟩
  ·exact key _ o I2 zc (q o _ zc (Grow.frzR ha (by simp)) fun b hb=>zm hb)
  ·refine KT.keeps rel fun b ys e=>?_
   have:b ≠ a:=fun z=>by rw [z,ha] at e; cases e
   rw [zm this]; exact e
 ·exact key _ o I1 ha (q o _ ha (Grow.refl _ _) fun _ _=>rfl)
end
theorem VW {a:Addr} {o:Obj} {kvs:List (List Key × V)} {g:TG} {tb:TS} {D:Ends} {σ:L2.St} {H:Hp} (Pv:Nat -> L2.St -> Hp -> Prop) (h0:Pv 0 σ H) (hl:∀ i σ H,i <= kvs.length -> Pv i σ H -> H a = some (.frz o (.dT kvs)))
  (hs:∀ i p b σ H,kvs[i]? = some p -> H b = some (.tup (p.1.map kV)) -> Pv i σ H -> g (.ref b) σ H fun σ2 H2=>tb { D with nx:=Pv (i + 1),ct:=Pv (i + 1),bk:=D.nx } σ2 H2) (hd:∀ σ H,Pv kvs.length σ H -> D.nx σ H) :
  ∃ W:Nat -> Nat -> L2.St -> Hp -> Prop,(∃ m,W 0 m σ H) /\ ∀ i m σ H,W i m σ H →
   ((Itd a o kvs).stop i H /\ D.nx σ H) \/ ((Itd a o kvs).go i H /\ ∃ N:L2.St -> Hp -> Prop,(∀ σ' H',N σ' H' -> ∃ m',m' < m /\ W (i + 1) m' σ' H') /\ ∀ x H',(Itd a o kvs).yld i H x H' -> g x σ H' fun σ2 H2=>tb { D with nx:=N,ct:=N,bk:=D.nx } σ2 H2):=by
 refine ⟨fun i m σ H=>m = kvs.length - i /\ i <= kvs.length /\ Pv i σ H,⟨kvs.length,by simp,Nat.zero_le _,h0⟩,?_⟩
 rintro i m σ H ⟨rfl,hi,p⟩
 have q:=hl i σ H hi p
 by_cases hlt:i < kvs.length
 ·refine .inr ⟨⟨hlt,q⟩,Pv (i + 1),fun σ' H' p'=>⟨kvs.length - (i + 1),by omega,rfl,hlt,p'⟩,fun x H' y=>?_⟩
  obtain ⟨rfl,pk,b,hp,rfl,hb⟩:=y
  exact hs i pk b σ _ hp hb p
 ·have e:i = kvs.length:=by omega
  exact .inl ⟨⟨e,q⟩,hd σ H (e ▸ p)⟩
theorem WN {a:Addr} {o:Obj} {kvs:List (List Key × V)} {g:TG} {tt:TT} {te:TE} {Q:VK} {σ:L2.St} {H:Hp} (Pv:Nat -> List V -> L2.St -> Hp -> Prop) (h0:Pv 0 [] σ H) (hl:∀ i ys σ H,i <= kvs.length -> Pv i ys σ H -> H a = some (.frz o (.dT kvs)))
  (hs:∀ i p b ys σ H,kvs[i]? = some p -> H b = some (.tup (p.1.map kV)) -> Pv i ys σ H -> g (.ref b) σ H fun σ2 H3=>tt σ2 H3 fun t H4=>if t = true then te σ2 H4 fun y H5=>ys.length < sizeLine /\ Pv (i + 1) (ys ++ [y]) σ2 H5 else Pv (i + 1) ys σ2 H4)
  (hd:∀ ys σ H,Pv kvs.length ys σ H -> ∀ l,H l = none -> Q (.ref l) (upd H l (.lst ys))):xE (Itd a o kvs) σ H g tt te Q:=by
 refine ⟨fun i m ys σ H=>m = kvs.length - i /\ i <= kvs.length /\ Pv i ys σ H,⟨kvs.length,by simp,Nat.zero_le _,h0⟩,?_⟩
 rintro i m ys σ H ⟨rfl,hi,p⟩
 have q:=hl i ys σ H hi p
 by_cases hlt:i < kvs.length
 ·refine .inr ⟨⟨hlt,q⟩,Pv (i + 1),fun zs σ' H' p'=>⟨kvs.length - (i + 1),by omega,rfl,hlt,p'⟩,fun x H' y=>?_⟩
  obtain ⟨rfl,pk,b,hp,rfl,hb⟩:=y
  exact hs i pk b ys σ _ hp hb p
 ·have e:i = kvs.length:=by omega
  exact .inl ⟨⟨e,q⟩,hd ys σ H (e ▸ p)⟩
def x0R (k:Nat) (rows:List (List Int)) (s l:Nat):Nat:=wfN k s l (fstI rows s (nN k s l))
def x1R (k:Nat) (rows:List (List Int)) (s l:Nat):Nat:=wfN k s l (1 - fstI rows s (nN k s l))
def outR (k s l b:Nat):Nat:=wfN k s l (figI k s ((b % 2 ^ k:Nat):Int))
theorem VX {k s l m:Nat} {w:Int} (k4:k <= 4) (s1:1 <= s) (sk:s <= k) (hl:l < 2 ^ k) (hm:m < 2 ^ k) (hw:w = 0 \/ w = 1) (h:∀ t:Nat,1 <= t -> t <= k -> t ≠ s -> figI k t l = figI k t m):wfN k s l w = wfN k s m w:=by
 have A:=wfF k4 s1 sk hl hw
 have B:=wfF k4 s1 sk hm hw
 refine tR k4 A.lt B.lt fun t t1 tk=>?_
 by_cases c:t = s
 ·rw [c,A.at_,B.at_]
 ·rw [A.off t tk c,B.off t tk c,h t t1 tk c]
theorem VY {k s l m:Nat} (s1:1 <= s) (sk:s <= k) (h:∀ t:Nat,1 <= t -> t <= k -> t ≠ s -> figI k t l = figI k t m):nN k s l = nN k s m:=by
 rw [X6 (e:=m) (x:=m) s1 sk (fun u u1 u2=>h u u1 (by omega) (by omega)) fun u u1 u2=>h u (by omega) u2 (by omega)]
 exact (X6 (e:=m) (x:=m) s1 sk (fun u _ _=>rfl) fun u _ _=>rfl).symm
section
variable {k:Nat} {rows:List (List Int)}
theorem X8 {s l m:Nat} (k4:k <= 4) (hs:xK k rows) (s1:1 <= s) (sk:s <= k) (hl:l < 2 ^ k) (hm:m < 2 ^ k) (h:∀ t:Nat,1 <= t -> t <= k -> t ≠ s -> figI k t l = figI k t m) :
  x0R k rows s l = x0R k rows s m /\ x1R k rows s l = x1R k rows s m:=by
 have e:=VY s1 sk h
 have f:=WG k4 hs s1 sk hm
 unfold x0R x1R
 rw [e]
 exact ⟨VX k4 s1 sk hl hm f h,VX k4 s1 sk hl hm (by omega) h⟩
structure XF (k:Nat) (rows:List (List Int)) (s l:Nat):Prop where
 lt0:x0R k rows s l < 2 ^ k
 lt1:x1R k rows s l < 2 ^ k
 ne:x0R k rows s l ≠ x1R k rows s l
 or:l = x0R k rows s l \/ l = x1R k rows s l
 off0:∀ t:Nat,t <= k -> t ≠ s -> figI k t (x0R k rows s l) = figI k t l
 off1:∀ t:Nat,t <= k -> t ≠ s -> figI k t (x1R k rows s l) = figI k t l
theorem xF {s l:Nat} (k4:k <= 4) (hs:xK k rows) (s1:1 <= s) (sk:s <= k) (hl:l < 2 ^ k):XF k rows s l:=by
 have f:=WG k4 hs s1 sk hl
 have A:=wfF k4 s1 sk hl f
 have B:=wfF k4 s1 sk hl (show 1 - fstI rows s (nN k s l) = 0 \/ 1 - fstI rows s (nN k s l) = 1 by omega)
 have g:=VL (l:=l) k4 sk hl
 refine ⟨A.lt,B.lt,fun e=>?_,?_,A.off,B.off⟩
 ·have e':wfN k s l (fstI rows s (nN k s l)) = wfN k s l (1 - fstI rows s (nN k s l)):=e
  have a:=A.at_
  rw [e',B.at_] at a
  omega
 ·by_cases c:figI k s l = fstI rows s (nN k s l)
  ·refine .inl (tR k4 hl A.lt fun t t1 tk=>?_)
   by_cases d:t = s
   ·rw [d]; exact c.trans A.at_.symm
   ·exact (A.off t tk d).symm
  ·refine .inr (tR k4 hl B.lt fun t t1 tk=>?_)
   by_cases d:t = s
   ·rw [d,show figI k s (x1R k rows s l) = 1 - fstI rows s (nN k s l) from B.at_]; omega
   ·exact (B.off t tk d).symm
theorem y0 {b:Nat}:b % 2 ^ k < 2 ^ k:=Nat.mod_lt _ (Nat.two_pow_pos k)
theorem outF {s l b:Nat} (k4:k <= 4) (s1:1 <= s) (sk:s <= k) (hl:l < 2 ^ k):WfF k s l (figI k s ((b % 2 ^ k:Nat):Int)):=wfF k4 s1 sk hl (VL k4 sk y0)
theorem Uy {s l b:Nat} (k4:k <= 4) (hs:xK k rows) (s1:1 <= s) (sk:s <= k) (hl:l < 2 ^ k):x0R k rows s (outR k s l b) = x0R k rows s l /\ x1R k rows s (outR k s l b) = x1R k rows s l:=by
 have W:=outF (b:=b) k4 s1 sk hl
 exact X8 k4 hs s1 sk W.lt hl fun t _ tk h=>W.off t tk h
def YC:Option Deed -> Option Deed -> Option Deed
 | some d,some e=>some (qc d e)
 | some d,none=>some d
 | none,o=>o
def lvR (k:Nat) (rows:List (List Int)) (ks:List Ask):Nat -> Nat -> Nat -> Option Deed
 | 0,l,b=>(ks.find? fun a=>decide (a.hand = (l:Int) /\ a.box = (b:Int))).map (·.deed)
 | s + 1,l,b=>if figI k ((s + 1:Nat):Int) l = figI k ((s + 1:Nat):Int) ((b % 2 ^ k:Nat):Int) then YC (lvR k rows ks s (x0R k rows (s + 1) l) b) (lvR k rows ks s (x1R k rows (s + 1) l) b) else none
structure RndOk (k m:Nat) (ks:List Ask):Prop where
 nd:(ks.map (·.hand)).Nodup
 hand:∀ a ∈ ks,0 <= a.hand /\ a.hand < 2 ^ k
 box:∀ a ∈ ks,0 <= a.box /\ a.box < m
 ok:∀ a ∈ ks,a.deed.Ok
theorem X9 {ks:List Ask} (k4:k <= 4) (hs:xK k rows) {s l b:Nat} (sk:s + 1 <= k) (hl:l < 2 ^ k):lvR k rows ks (s + 1) (outR k (s + 1) l b) b = YC (lvR k rows ks s (x0R k rows (s + 1) l) b) (lvR k rows ks s (x1R k rows (s + 1) l) b):=by
 have W:=outF (b:=b) k4 (show 1 <= s + 1 by omega) sk hl
 have X:=Uy (b:=b) k4 hs (show 1 <= s + 1 by omega) sk hl
 show (if figI k ((s + 1:Nat):Int) (outR k (s + 1) l b) = _ then _ else _) = _
 rw [if_pos (show figI k ((s + 1:Nat):Int) (outR k (s + 1) l b) = figI k ((s + 1:Nat):Int) ((b % 2 ^ k:Nat):Int) from W.at_),X.1,X.2]
theorem Wa {ks:List Ask} (k4:k <= 4) (hs:xK k rows) {s l b:Nat} (sk:s + 1 <= k) (hl:l < 2 ^ k) (h:lvR k rows ks (s + 1) l b ≠ none):∃ x,x < 2 ^ k /\ outR k (s + 1) x b = l /\ lvR k rows ks s x b ≠ none:=by
 by_cases c:figI k ((s + 1:Nat):Int) l = figI k ((s + 1:Nat):Int) ((b % 2 ^ k:Nat):Int)
 ·have e2:lvR k rows ks (s + 1) l b = YC (lvR k rows ks s (x0R k rows (s + 1) l) b) (lvR k rows ks s (x1R k rows (s + 1) l) b):=if_pos c
  have X:=xF k4 hs (show 1 <= s + 1 by omega) sk hl
  have back:∀ x:Nat,x < 2 ^ k -> (∀ t:Nat,t <= k -> t ≠ s + 1 -> figI k t x = figI k t l) -> outR k (s + 1) x b = l:=by
   intro x hx ho
   have W:=outF (b:=b) k4 (show 1 <= s + 1 by omega) sk hx
   refine tR k4 W.lt hl fun t t1 tk=>?_
   by_cases d:t = s + 1
   ·rw [d]; exact W.at_.trans c.symm
   ·exact (W.off t tk d).trans (ho t tk d)
  cases h0:lvR k rows ks s (x0R k rows (s + 1) l) b with
  | some d=>exact ⟨_,X.lt0,back _ X.lt0 X.off0,by rw [h0]; exact fun z=>nomatch z⟩
  | none =>
   refine ⟨_,X.lt1,back _ X.lt1 X.off1,fun z=>h ?_⟩
   rw [e2,h0,z]; rfl
 ·exact absurd (if_neg c) h
def stvR (k:Nat) (rows:List (List Int)) (ks:List Ask) (bd:Nat -> Int):Nat -> Nat -> Nat -> Int
 | 0,_,b=>bd b
 | n + 1,l,b=>match lvR k rows ks (k - n - 1) (x0R k rows (k - n) l) b,lvR k rows ks (k - n - 1) (x1R k rows (k - n) l) b with
  | some d,some _=>if l = x1R k rows (k - n) l then d.mk' (stvR k rows ks bd n (outR k (k - n) l b) b) else stvR k rows ks bd n (outR k (k - n) l b) b
  | _,_=>stvR k rows ks bd n (outR k (k - n) l b) b
end
def dedI (ns:List Int):List Int:=ns.foldl step_dedup []
theorem YD {ns:List Int}:firstMet (fun i=>ns.getD i 0) ns.length = dedI ns:=by
 unfold firstMet dedI
 congr 1
 refine List.ext_getElem? fun i=>?_
 by_cases h:i < ns.length
 ·rw [List.getElem?_map,List.getElem?_range h,Option.map_some,List.getD_eq_getElem?_getD,List.getElem?_eq_getElem h]; rfl
 ·rw [List.getElem?_map,List.getElem?_eq_none (by rw [List.length_range]; omega),List.getElem?_eq_none (by omega)]; rfl
theorem jG:∀ {ns:List Int} {us:List Value},Vals (ns.map V.int) us -> IntsAre us ns
 | [],_,.nil=>.nil
 | n :: ns,_,.cons r t=>by
  obtain ⟨tk,rfl⟩:=r
  exact .cons n tk (jG t)
section
variable {X:Cx}
theorem re {k:Nat} (hr:Room k X.A):xw X (.type "set") (fun xs H Q=>∃ a ns,xs = [V.ref a] /\ SqL X.K H a (ns.map V.int) /\ ns.length <= 1000 /\ ∀ l,H l = none -> Q (.ref l) (upd H l (.set (fun j=>(dedI ns).any (· == j)) (dedI ns).length))):=by
 intro pins s σ H xs us Q I r h
 obtain ⟨a,ns,rfl,ha,hl,q⟩:=h
 obtain ⟨u,rfl,ru⟩:=wM r
 cases ru
 obtain ⟨its,rv,p,hz⟩:=I.list ha
 have hlen:=rv.length
 rw [List.length_map] at hlen
 refine call_set_list hr.hd p.isList (ns:=ns) (by simpa using jG rv) (by simp only [List.size_toArray]; have:scanBound = 4096:=rfl; omega) fun h' tk hS kp=>?_
 have e:(its.toArray).size = ns.length:=by simp [hlen]
 rw [e,YD] at hS
 refine ⟨.ref s.heap.objs.size,_,I.laid (t':=tk) (fun b o eb=>kp b o (Heap.lt_size eb) eb) (Nat.le_refl _) (show zV X.prog X.w _ h' _ (.set _ _) from hS),rfl,q _ (I.hok.fresh (Nat.le_refl _))⟩
theorem rf:xw X (.builtin "len") (fun xs H Q=>∃ a S n,xs = [V.ref a] /\ H a = some (.set S n) /\ Q (.int n) H):=by
 intro pins s σ H xs us Q I r h
 obtain ⟨a,S,n,rfl,ha,q⟩:=h
 obtain ⟨u,rfl,ru⟩:=wM r
 cases ru
 obtain ⟨o,es,ep,t,ho,hex,hd,_,_,hb,hf,hn⟩:=(show s.heap.SetOf (intKind X.prog X.w) a S n from I.hok a _ ha)
 refine call_len_set ho hex hd hf (by have:scanBound = 4096:=rfl; omega) ?_
 rw [hn]
 exact ⟨.int n,H,I.tok _,⟨_,rfl⟩,q⟩
end
theorem VZ {ns:List Int} (h:ns.Nodup):(dedI ns).length = ns.length:=by
 have key:∀ (ns acc:List Int),ns.Nodup -> (∀ x ∈ ns,x ∉ acc) -> (ns.foldl step_dedup acc).length = acc.length + ns.length:=by
  intro ns
  induction ns with
  | nil=>intro acc _ _; rfl
  | cons a ns ih =>
   intro acc nd hx
   rw [List.nodup_cons] at nd
   have h0:¬ acc.any (· == a) = true:=fun z=>by
    obtain ⟨y,hy,e⟩:=List.any_eq_true.mp z
    rw [beq_iff_eq] at e
    exact hx a (by simp) (e ▸ hy)
   rw [List.foldl_cons,show step_dedup acc a = acc ++ [a] from by unfold step_dedup; rw [if_neg h0],ih _ nd.2,List.length_append]
   ·simp only [List.length_cons,List.length_nil]; omega
   ·intro x hx' hm
    rcases List.mem_append.mp hm with z | z
    ·exact hx x (by simp [hx']) z
    ·rw [List.mem_singleton.mp z] at hx'; exact nd.1 hx'
 unfold dedI
 rw [key ns [] h (fun _ _ z=>nomatch z)]; simp
section
variable {c:TT} {e:TE} {i:Nat} {v v':V} {t u r:TS} {D:Ends} {σ:L2.St} {H:Hp} {rt:VK} {bk ct:L2.St -> Hp -> Prop}
theorem V0 (h:t D (σ.set i (some v)) H):wL i v σ H ({ nx:=t D,rt:=rt,bk:=bk,ct:=ct }:Ends).nx:=h
theorem c_if (Good:L2.St -> Hp -> Prop) (hr:∀ σ' H',Good σ' H' -> r D σ' H') (hc:(∀ σ' H',Good σ' H' -> r D σ' H') -> tIfS c t u { D with nx:=r D } σ H):tSeq (tIfS c t u) r D σ H:=hc hr
theorem uL (Good:V -> Hp -> Prop) (hc:∀ K:VK,(∀ v H',Good v H' -> K v H') -> e σ H K) (hr:∀ v H',Good v H' -> t D (σ.set i (some v)) H'):tSeq (tAsg e (wL i)) t D σ H:=hc _ fun v H' g=>hr v H' g
theorem V1 (h:t D σ H):Vb ({ nx:=t D,rt:=rt,bk:=bk,ct:=ct }:Ends) σ H:=h
theorem c_nx (h:t D σ H):({ nx:=t D,rt:=rt,bk:=bk,ct:=ct }:Ends).nx σ H:=h
end
theorem vd {K:FG7} {a:Addr} {xs:List V} {g:TG} {te:TE} {Q:VK} {σ:L2.St} {H:Hp} (Pv:Nat -> List V -> L2.St -> Hp -> Prop) (h0:Pv 0 [] σ H) (hl:∀ i ys σ H,i <= xs.length -> Pv i ys σ H -> SqT K H a xs)
  (hs:∀ i x ys σ H,xs[i]? = some x -> Pv i ys σ H -> g x σ H fun σ2 H3=>te σ2 H3 fun y H5=>ys.length < sizeLine /\ Pv (i + 1) (ys ++ [y]) σ2 H5)
  (hd:∀ ys σ H,Pv xs.length ys σ H -> ∀ l,H l = none -> Q (.ref l) (upd H l (.lst ys))):xE (Itt K a) σ H g vq te Q:=wU Pv h0 hl (fun i x ys σ H hx hp=>hs i x ys σ H hx hp) hd
theorem XC {a:Addr} {o:Obj} {kvs:List (List Key × V)} {g:TG} {te:TE} {Q:VK} {σ:L2.St} {H:Hp} (Pv:Nat -> List V -> L2.St -> Hp -> Prop) (h0:Pv 0 [] σ H) (hl:∀ i ys σ H,i <= kvs.length -> Pv i ys σ H -> H a = some (.frz o (.dT kvs)))
  (hs:∀ i p b ys σ H,kvs[i]? = some p -> H b = some (.tup (p.1.map kV)) -> Pv i ys σ H -> g (.ref b) σ H fun σ2 H3=>te σ2 H3 fun y H5=>ys.length < sizeLine /\ Pv (i + 1) (ys ++ [y]) σ2 H5)
  (hd:∀ ys σ H,Pv kvs.length ys σ H -> ∀ l,H l = none -> Q (.ref l) (upd H l (.lst ys))):xE (Itd a o kvs) σ H g vq te Q:=WN Pv h0 hl (fun i p b ys σ H h1 h2 h3=>hs i p b ys σ H h1 h2 h3) hd
theorem yJ {n:Nat} (h:n <= 1000):n < sizeLine:=Nat.lt_of_le_of_lt h (by decide)
theorem YE {K:FG7} {a:Addr} {xs:List V} {g:TG} {tk tv:TE} {Q:VK} {σ:L2.St} {H:Hp} (Pv:Nat -> List (List Key × V) -> Hp -> L2.St -> Hp -> Prop) (h0:Pv 0 [] H σ H) (hl:∀ i kvs Hb σ H,Pv i kvs Hb σ H -> SqT K H a xs)
  (hs:∀ i x kvs Hb σ H,xs[i]? = some x -> Pv i kvs Hb σ H -> g x σ H fun σ2 H3=>tk σ2 H3 fun y H5=>tv σ2 H5 fun v H6=>kvs.length < sizeLine /\ ∃ b ks,y = .ref b /\ H6 b = some (.tup (ks.map kV)) /\ (∀ c xs,Hb c = some (.tup xs) -> H6 c = some (.tup xs)) /\ Pv (i + 1) (putK kvs ks v) H6 σ2 H6)
  (hd:∀ kvs Hb σ H,Pv xs.length kvs Hb σ H -> (∀ b xs,Hb b = some (.tup xs) -> H b = some (.tup xs)) /\ ∀ l,H l = none -> Q (.ref l) (upd H l (.dT kvs))):Yz (Itt K a) σ H g vq tk tv Q:=by
 refine ⟨fun i m kvs Hb σ H=>m = xs.length - i /\ i <= xs.length /\ Pv i kvs Hb σ H,⟨xs.length,by simp,Nat.zero_le _,h0⟩,?_⟩
 rintro i m kvs Hb σ H ⟨rfl,hi,p⟩
 have q:=hl i kvs Hb σ H p
 by_cases hlt:i < xs.length
 ·refine .inr ⟨⟨xs,xs[i],q,List.getElem?_eq_getElem hlt⟩,Pv (i + 1),fun zs Hc σ' H' p'=>⟨xs.length - (i + 1),by omega,rfl,hlt,p'⟩,fun x H' y=>?_⟩
  obtain ⟨rfl,y⟩:=y
  exact hs i x kvs Hb σ _ (y xs q) p
 ·have e:i = xs.length:=by omega
  obtain ⟨h1,h2⟩:=hd kvs Hb σ H (e ▸ p)
  exact .inl ⟨⟨xs,q,by omega⟩,h1,h2⟩
def keyR (l b:Nat):List Key:=[.inl (l:Int),.inl (b:Int)]
theorem xh {l b l' b':Nat} (h:keyR l b = keyR l' b'):l = l' /\ b = b':=by
 unfold keyR at h
 injection h with h1 h2
 injection h2 with h2 _
 injection h1 with h1
 injection h2 with h2
 exact ⟨by omega,by omega⟩
structure TabR {α:Type} (kvs:List (List Key × V)) (n m:Nat) (f:Nat -> Nat -> Option α) (R:V -> α -> Prop):Prop where
 keys:∀ p ∈ kvs,∃ l b x,p.1 = keyR l b /\ l < n /\ b < m /\ f l b = some x /\ R p.2 x
 nd:(kvs.map (·.1)).Nodup
 all:∀ l b,l < n -> b < m -> f l b ≠ none -> (valV kvs (keyR l b)).isSome = true
theorem qw {kvs:List (List Key × V)} {k:List Key} {v:V} (h:valV kvs k = some v):(k,v) ∈ kvs:=by
 unfold valV at h
 cases e:kvs.find? fun kv=>decide (kv.1 = k) with
 | none=>rw [e] at h; cases h
 | some p =>
  rw [e] at h
  have h2:p.2 = v:=Option.some.inj h
  have h0:decide (p.1 = k) = true:=by have z:=List.find?_some e; exact z
  have h1:=of_decide_eq_true h0
  have h3:=List.mem_of_find?_eq_some e
  rw [← h2,← h1]; exact h3
theorem TabR.val {α:Type} {kvs:List (List Key × V)} {n m:Nat} {f:Nat -> Nat -> Option α} {R:V -> α -> Prop} (t:TabR kvs n m f R) {l b:Nat} (hl:l < n) (hb:b < m) :
  match f l b with | some x=>∃ v,valV kvs (keyR l b) = some v /\ R v x | none=>valV kvs (keyR l b) = none:=by
 cases hv:valV kvs (keyR l b) with
 | some v =>
  obtain ⟨l',b',x,e,_,_,hf,hR⟩:=t.keys _ (qw hv)
  obtain ⟨rfl,rfl⟩:=xh e
  rw [hf]
  exact ⟨v,rfl,hR⟩
 | none =>
  cases hf:f l b with
  | none=>rfl
  | some x =>
   have:=t.all l b hl hb (by rw [hf]; exact fun z=>nomatch z)
   rw [hv] at this; cases this
theorem tU {kvs:List (List Key × V)} {k:List Key} {v:V}:∀ p ∈ putK kvs k v,p = (k,v) \/ (p ∈ kvs /\ p.1 ≠ k):=by
 intro p hp
 unfold putK at hp
 split at hp
 ·obtain ⟨q,hq,rfl⟩:=List.mem_map.mp hp
  by_cases c:q.1 = k
  ·left; rw [if_pos c]; exact Prod.ext c rfl
  ·right; rw [if_neg c]; exact ⟨hq,c⟩
 ·rename_i h
  rcases List.mem_append.mp hp with z | z
  ·by_cases c:p.1 = k
   ·exfalso; exact h (List.any_eq_true.mpr ⟨p,z,decide_eq_true c⟩)
   ·exact .inr ⟨z,c⟩
  ·exact .inl (List.mem_singleton.mp z)
theorem YF {kvs:List (List Key × V)} {k:List Key} {v:V} (h:(kvs.map (·.1)).Nodup):((putK kvs k v).map (·.1)).Nodup:=by
 cases e:valV kvs k with
 | none=>exact WK v h e
 | some u =>
  have:(putK kvs k v).map (·.1) = kvs.map (·.1):=by
   unfold putK
   rw [if_pos (by rw [xT,e]; rfl),List.map_map]
   refine List.map_congr_left fun p _=>?_
   show (if p.1 = k then (p.1,v) else p).1 = p.1
   split <;> rfl
  rw [this]; exact h
theorem TabR.nil {α:Type} {n m:Nat} {R:V -> α -> Prop}:TabR [] n m (fun _ _=>(none:Option α)) R:=⟨(fun _ h=>nomatch h),List.nodup_nil,fun _ _ _ _ h=>absurd rfl h⟩
theorem TabR.imp {α:Type} {kvs:List (List Key × V)} {n m:Nat} {f:Nat -> Nat -> Option α} {R R':V -> α -> Prop} (t:TabR kvs n m f R) (h:∀ v x,R v x -> R' v x):TabR kvs n m f R' :=
 ⟨fun p hp=>by obtain ⟨l,b,x,e,h1,h2,h3,h4⟩:=t.keys p hp; exact ⟨l,b,x,e,h1,h2,h3,h _ _ h4⟩,t.nd,t.all⟩
def Uz {α:Type} (H:Hp) (d:Addr) (n m:Nat) (f:Nat -> Nat -> Option α) (R:V -> α -> Prop):Prop:=∃ kvs,Rd H d (.dT kvs) /\ TabR kvs n m f R /\ kvs.length <= 16
def LvAt (K:FG7) (H:Hp) (k m:Nat) (rows:List (List Int)) (ks:List Ask) (s:Nat) (d:Addr):Prop:=Uz H d (2 ^ k) m (lvR k rows ks s) (yg K H)
def kpR (k:Nat) (rows:List (List Int)) (ks:List Ask) (s l b:Nat):Option Deed:=match lvR k rows ks (s - 1) (x0R k rows s l) b,lvR k rows ks (s - 1) (x1R k rows s l) b with
 | some d,some _=>some d
 | _,_=>none
def KpAt (K:FG7) (H:Hp) (k m:Nat) (rows:List (List Int)) (ks:List Ask) (s:Nat) (d:Addr):Prop :=
 ∃ kvs,Rd H d (.dT kvs) /\ kvs.length <= 16 /\ (∀ p ∈ kvs,∃ l b x,p.1 = keyR (nN k s l) b /\ l < 2 ^ k /\ b < m /\ kpR k rows ks s l b = some x /\ yg K H p.2 x) /\ (kvs.map (·.1)).Nodup ∧
  ∀ l b,l < 2 ^ k -> b < m -> kpR k rows ks s l b ≠ none -> (valV kvs (keyR (nN k s l) b)).isSome = true
theorem Rd.growR {m:List Addr} {H H':Hp} {d:Addr} {u:HO} (g:Grow m H H') (hm:d ∉ m \/ ∃ o,H d = some (.frz o u)) (h:Rd H d u):Rd H' d u:=by
 rcases hm with hm | ⟨o,ho⟩
 ·rcases h with h | ⟨o,h⟩
  ·exact .inl (g.keep _ _ hm h)
  ·exact .inr ⟨o,g.frz _ _ _ h⟩
 ·exact .inr ⟨o,g.frz _ _ _ ho⟩
theorem LvAt.grow {K:FG7} {m':List Addr} {H H':Hp} {k m:Nat} {rows:List (List Int)} {ks:List Ask} {s:Nat} {d:Addr} (g:Grow m' H H') (hm:d ∉ m') (h:LvAt K H k m rows ks s d):LvAt K H' k m rows ks s d:=by
 obtain ⟨kvs,h1,h2,h3⟩:=h
 exact ⟨kvs,Rd.growR g (.inl hm) h1,h2.imp fun v x hv=>g.deed hv,h3⟩
theorem KpAt.grow {K:FG7} {m':List Addr} {H H':Hp} {k m:Nat} {rows:List (List Int)} {ks:List Ask} {s:Nat} {d:Addr} (g:Grow m' H H') (hm:d ∉ m') (h:KpAt K H k m rows ks s d):KpAt K H' k m rows ks s d:=by
 obtain ⟨kvs,h1,h2,h3,h4,h5⟩:=h
 exact ⟨kvs,Rd.growR g (.inl hm) h1,h2,fun p hp=>by obtain ⟨l,b,x,e,a1,a2,a3,a4⟩:=h3 p hp; exact ⟨l,b,x,e,a1,a2,a3,g.deed a4⟩,h4,h5⟩
theorem Zk:∀ k:Fin 5,∀ s:Fin 5,1 <= s.val -> s.val <= k.val -> ∀ l:Fin 16,l.val < 2 ^ k.val -> ∀ t:Fin 5,1 <= t.val -> t.val <= k.val -> t.val ≠ s.val -> figI k.val t.val (xN k.val s.val l.val) = figI k.val t.val l.val:=by decide +kernel
theorem WO {k:Nat} {rows:List (List Int)} {ks:List Ask} {s l l' b:Nat} (k4:k <= 4) (hs:xK k rows) (s1:1 <= s) (sk:s <= k) (hl:l < 2 ^ k) (hl':l' < 2 ^ k) (e:nN k s l = nN k s l'):kpR k rows ks s l b = kpR k rows ks s l' b:=by
 have key:x0R k rows s l = x0R k rows s l' /\ x1R k rows s l = x1R k rows s l':=by
  refine X8 k4 hs s1 sk hl hl' fun t t1 tk hne=>?_
  rcases twoF k4 s1 sk hl' hl e.symm with rfl | rfl
  ·rfl
  ·have p:=zU k4
   have:=Zk ⟨k,by omega⟩ ⟨s,by omega⟩ s1 sk ⟨l',by omega⟩ hl' ⟨t,by omega⟩ t1 tk (by simpa using hne)
   exact this
 unfold kpR
 rw [key.1,key.2]
theorem Zl:∀ k:Fin 5,∀ b:Fin 16,Builtin.bitAnd (b.val:Int) (1 * 2 ^ ((k.val:Int)).toNat - 1) = ((b.val % 2 ^ k.val:Nat):Int):=by decide +kernel
theorem XD {k b:Nat} (k4:k <= 4) (hb:b < 16):Builtin.bitAnd (b:Int) (1 * 2 ^ ((k:Int)).toNat - 1) = ((b % 2 ^ k:Nat):Int):=Zl ⟨k,by omega⟩ ⟨b,hb⟩
theorem tj {K:FG7} {H:Hp}:∀ {xs:List V} {ks:List Ask},AllA K H xs ks -> xs.length = ks.length
 | [],[],_=>rfl
 | _ :: _,_ :: _,⟨_,t⟩=>by rw [List.length_cons,List.length_cons,tj t]
 | [],_ :: _,h=>h.elim
 | _ :: _,[],h=>h.elim
theorem wB {k:Nat} {i:Int} (h0:0 <= i) (h1:i < 2 ^ k):i.toNat < 2 ^ k:=by
 have e:((2 ^ k:Nat):Int) = 2 ^ k:=by rw [Int.natCast_pow]; rfl
 omega
theorem RndOk.ask {k m:Nat} {ks:List Ask} (R:RndOk k m ks) (k4:k <= 4):∀ a ∈ ks,Xh m a:=fun a ha=>by
 have h:=R.hand a ha
 have p:=zU k4
 have:=wB h.1 h.2
 exact ⟨h.1,by omega,(R.box a ha).1,(R.box a ha).2,R.ok a ha⟩
structure Beh (K:FG7) (H:Hp) (k m:Nat) (rows:List (List Int)) (ks:List Ask) (st:Nat) (kvs:List (List Key × V)) (i:Nat) (bk kk:List (List Key × V)):Prop where
 b1:∀ p ∈ bk,∃ l b x,p.1 = keyR l b /\ l < 2 ^ k /\ b < m /\ lvR k rows ks st l b = some x /\ yg K H p.2 x
 b2:(bk.map (·.1)).Nodup
 b3:∀ j l b v,j < i -> kvs[j]? = some (keyR l b,v) -> (valV bk (keyR (outR k st l b) b)).isSome = true
 bl:bk.length <= i
 k1:∀ p ∈ kk,∃ l b x,p.1 = keyR (nN k st l) b /\ l < 2 ^ k /\ b < m /\ kpR k rows ks st l b = some x /\ yg K H p.2 x
 k2:(kk.map (·.1)).Nodup
 k3:∀ j l b v,j < i -> kvs[j]? = some (keyR l b,v) -> kpR k rows ks st l b ≠ none -> (valV kk (keyR (nN k st l) b)).isSome = true
 kl:kk.length <= i
section
variable {K:FG7} {H H':Hp} {k m:Nat} {rows:List (List Int)} {ks:List Ask} {st:Nat} {kvs:List (List Key × V)} {i:Nat} {bk kk:List (List Key × V)}
theorem Beh.grow {m':List Addr} (g:Grow m' H H') (B:Beh K H k m rows ks st kvs i bk kk):Beh K H' k m rows ks st kvs i bk kk :=
 ⟨fun p hp=>by obtain ⟨l,b,x,e,h1,h2,h3,h4⟩:=B.b1 p hp; exact ⟨l,b,x,e,h1,h2,h3,g.deed h4⟩,B.b2,B.b3,B.bl,fun p hp=>by obtain ⟨l,b,x,e,h1,h2,h3,h4⟩:=B.k1 p hp; exact ⟨l,b,x,e,h1,h2,h3,g.deed h4⟩,B.k2,B.k3,B.kl⟩
theorem Beh.nil:Beh K H k m rows ks st kvs 0 [] []:=⟨(fun _ h=>nomatch h),List.nodup_nil,(fun _ _ _ _ h=>absurd h (Nat.not_lt_zero _)),Nat.le_refl _,(fun _ h=>nomatch h),List.nodup_nil,(fun _ _ _ _ h=>absurd h (Nat.not_lt_zero _)),Nat.le_refl _⟩
theorem vy {bk:List (List Key × V)} {k j:List Key} {v:V} (h:(valV bk j).isSome = true):(valV (putK bk k v) j).isSome = true:=by
 rw [jA]
 split
 ·rfl
 ·exact h
theorem wN {bk:List (List Key × V)} {k:List Key} {v:V}:(valV (putK bk k v) k).isSome = true:=by rw [jA,if_pos rfl]; rfl
theorem Beh.one {l b:Nat} {v w:V} {x:Deed} (B:Beh K H k m rows ks st kvs i bk kk) (hp:kvs[i]? = some (keyR l b,v)) (ho:outR k st l b < 2 ^ k) (hb:b < m) (hx:lvR k rows ks st (outR k st l b) b = some x) (hd:yg K H w x) (hk:kpR k rows ks st l b = none) :
  Beh K H k m rows ks st kvs (i + 1) (putK bk (keyR (outR k st l b) b) w) kk where
 b1:=fun p hp'=>by
  rcases tU p hp' with rfl | ⟨hm,_⟩
  ·exact ⟨_,b,x,rfl,ho,hb,hx,hd⟩
  ·exact B.b1 p hm
 b2:=YF B.b2
 b3:=fun j l' b' v' hj hj'=>by
  by_cases c:j < i
  ·exact vy (B.b3 j l' b' v' c hj')
  ·have e:j = i:=by omega
   rw [e,hp] at hj'
   obtain ⟨rfl,rfl⟩:=xh (congrArg Prod.fst (Option.some.inj hj'))
   exact wN
 bl:=Nat.le_trans (yN ..) (Nat.succ_le_succ B.bl)
 k1:=B.k1
 k2:=B.k2
 k3:=fun j l' b' v' hj hj' hne=>by
  by_cases c:j < i
  ·exact B.k3 j l' b' v' c hj' hne
  ·have e:j = i:=by omega
   rw [e,hp] at hj'
   obtain ⟨rfl,rfl⟩:=xh (congrArg Prod.fst (Option.some.inj hj'))
   exact absurd hk hne
 kl:=Nat.le_succ_of_le B.kl
theorem Beh.two {l b:Nat} {v w w2:V} {x y:Deed} (B:Beh K H k m rows ks st kvs i bk kk) (hp:kvs[i]? = some (keyR l b,v)) (hl:l < 2 ^ k) (ho:outR k st l b < 2 ^ k) (hb:b < m) (hx:lvR k rows ks st (outR k st l b) b = some x) (hd:yg K H w x) (hk:kpR k rows ks st l b = some y) (hy:yg K H w2 y) :
  Beh K H k m rows ks st kvs (i + 1) (putK bk (keyR (outR k st l b) b) w) (putK kk (keyR (nN k st l) b) w2) where
 b1:=fun p hp'=>by
  rcases tU p hp' with rfl | ⟨hm,_⟩
  ·exact ⟨_,b,x,rfl,ho,hb,hx,hd⟩
  ·exact B.b1 p hm
 b2:=YF B.b2
 b3:=fun j l' b' v' hj hj'=>by
  by_cases c:j < i
  ·exact vy (B.b3 j l' b' v' c hj')
  ·have e:j = i:=by omega
   rw [e,hp] at hj'
   obtain ⟨rfl,rfl⟩:=xh (congrArg Prod.fst (Option.some.inj hj'))
   exact wN
 bl:=Nat.le_trans (yN ..) (Nat.succ_le_succ B.bl)
 k1:=fun p hp'=>by
  rcases tU p hp' with rfl | ⟨hm,_⟩
  ·exact ⟨l,b,y,rfl,hl,hb,hk,hy⟩
  ·exact B.k1 p hm
 k2:=YF B.k2
 k3:=fun j l' b' v' hj hj' hne=>by
  by_cases c:j < i
  ·exact vy (B.k3 j l' b' v' c hj' hne)
  ·have e:j = i:=by omega
   rw [e,hp] at hj'
   obtain ⟨rfl,rfl⟩:=xh (congrArg Prod.fst (Option.some.inj hj'))
   exact wN
 kl:=Nat.le_trans (yN ..) (Nat.succ_le_succ B.kl)
theorem qx {kvs:List (List Key × V)} {k:List Key} (h:(valV kvs k).isSome = true):∃ j v,kvs[j]? = some (k,v) /\ j < kvs.length:=by
 obtain ⟨v,hv⟩:=Option.isSome_iff_exists.mp h
 obtain ⟨j,hj,e⟩:=List.getElem_of_mem (qw hv)
 exact ⟨j,v,by rw [List.getElem?_eq_getElem hj,e],hj⟩
theorem Beh.done {b0 k0:Addr} (k4:k <= 4) (hs:xK k rows) (s1:1 <= st) (sk:st <= k) (tab:TabR kvs (2 ^ k) m (lvR k rows ks (st - 1)) (yg K H)) (kl:kvs.length <= 16) (B:Beh K H k m rows ks st kvs kvs.length bk kk) (hB:H b0 = some (.dT bk)) (hK:H k0 = some (.dT kk)) :
  LvAt K H k m rows ks st b0 /\ KpAt K H k m rows ks st k0:=by
 have es:st = st - 1 + 1:=by omega
 refine ⟨⟨bk,.inl hB,⟨B.b1,B.b2,fun l b hl hb hne=>?_⟩,Nat.le_trans B.bl kl⟩,kk,.inl hK,Nat.le_trans B.kl kl,B.k1,B.k2,fun l b hl hb hne=>?_⟩
 ·rw [es] at hne
  obtain ⟨x,hx,hox,hxn⟩:=Wa k4 hs (by omega) hl hne
  obtain ⟨j,v,hj,hjl⟩:=qx (tab.all x b hx hb hxn)
  have:=B.b3 j x b v hjl hj
  rw [← es] at hox
  rw [hox] at this; exact this
 ·have X:=xF (rows:=rows) k4 hs s1 sk hl
  have nx:nN k st (x0R k rows st l) = nN k st l:=VY s1 sk fun t _ tk hne=>X.off0 t tk hne
  have h0:lvR k rows ks (st - 1) (x0R k rows st l) b ≠ none:=by
   intro z
   unfold kpR at hne
   rw [z] at hne
   exact hne rfl
  obtain ⟨j,v,hj,hjl⟩:=qx (tab.all _ b X.lt0 hb h0)
  have:=B.k3 j _ b v hjl hj (by rw [WO k4 hs s1 sk X.lt0 hl nx]; exact hne)
  rw [nx] at this; exact this
end
theorem Grow.setR {m:List Addr} {H:Hp} {d:Addr} {kvs kvs':List (List Key × V)} (h:H d = some (.dT kvs)) (hm:d ∈ m):Grow m H (upd H d (.dT kvs')) :=
 ⟨fun b u hb q=>by rw [zm (show b ≠ d from fun z=>hb (by rw [z]; exact hm))]; exact q,fun b zs q=>by rw [zm (fun z=>by subst z; rw [h] at q; cases q)]; exact q,fun b u v q=>by rw [zm (fun z=>by subst z; rw [h] at q; cases q)]; exact q⟩
theorem YG {H:Hp} {d t:Addr} {o:Obj} {kvs:List (List Key × V)} {l b:Nat} (h:H d = some (.frz o (.dT kvs))) (ht:H t = some (.tup [.int l,.int b])):DGet H d (.ref t) (valV kvs (keyR l b)):=.inr ⟨kvs,keyR l b,t,.inr ⟨o,h⟩,rfl,ht,rfl⟩
def uu (_:FG7):Sp:=sp2 fun x y H Q=>∃ (k b:Nat),x = .int k /\ y = .int b /\ k <= 4 /\ b < 16 /\ Q (.int ((b % 2 ^ k:Nat):Int)) H
def xU (K:FG7):Sp:=sp3 fun x y z H Q=>∃ (k:Nat) (b:List Int) (ks:List Ask),x = .int k /\ k <= 4 /\ zy K H y b /\ 1 <= b.length /\ b.length <= 16 /\ xu K H z ks /\ ks.length <= 16 /\ RndOk k b.length ks /\ ∀ H',Grow [] H H' -> Q .non H'
def rg (K:FG7):Sp:=sp4 fun x y z u H Q=>∃ (k st m:Nat) (d:Addr) (rows:List (List Int)) (ks:List Ask),x = .int k /\ y = .int st /\ z = .ref d /\ k <= 4 /\ 1 <= st /\ st <= k /\ m <= 16 /\ LvAt K H k m rows ks (st - 1) d /\ y9 K H u rows /\ xK k rows /\ RndOk k m ks ∧
 ∀ r b' kp H',Grow [d] H H' -> H b' = none -> H kp = none -> b' ≠ kp -> SqT K H' r [.ref b',.ref kp] -> LvAt K H' k m rows ks st b' -> KpAt K H' k m rows ks st kp -> LvAt K H' k m rows ks (st - 1) d -> Q (.ref r) H'
structure NetR (K:FG7) (H:Hp) (k m:Nat) (rows:List (List Int)) (ks:List Ask) (ds kps:List Addr):Prop where
 lv:∀ s d,ds[s]? = some d -> LvAt K H k m rows ks s d
 kp:∀ s d,kps[s]? = some d -> KpAt K H k m rows ks (s + 1) d
 nd:(ds ++ kps).Nodup
theorem LvAt.isD {K:FG7} {H:Hp} {k m:Nat} {rows:List (List Int)} {ks:List Ask} {s:Nat} {d:Addr} (h:LvAt K H k m rows ks s d):∃ kvs,Rd H d (.dT kvs):=by obtain ⟨kvs,h1,_⟩:=h; exact ⟨kvs,h1⟩
theorem KpAt.isD {K:FG7} {H:Hp} {k m:Nat} {rows:List (List Int)} {ks:List Ask} {s:Nat} {d:Addr} (h:KpAt K H k m rows ks s d):∃ kvs,Rd H d (.dT kvs):=by obtain ⟨kvs,h1,_⟩:=h; exact ⟨kvs,h1⟩
theorem NetR.isD {K:FG7} {H:Hp} {k m:Nat} {rows:List (List Int)} {ks:List Ask} {ds kps:List Addr} (N:NetR K H k m rows ks ds kps) {d:Addr} (h:d ∈ ds ++ kps):∃ kvs,Rd H d (.dT kvs):=by
 rcases List.mem_append.mp h with z | z
 ·obtain ⟨i,hi,rfl⟩:=List.getElem_of_mem z; exact (N.lv i _ (List.getElem?_eq_getElem hi)).isD
 ·obtain ⟨i,hi,rfl⟩:=List.getElem_of_mem z; exact (N.kp i _ (List.getElem?_eq_getElem hi)).isD
theorem Rd.ne_none {H:Hp} {d:Addr} {u:HO} (h:Rd H d u):H d ≠ none:=by rcases h with z | ⟨o,z⟩ <;> rw [z] <;> exact fun z=>nomatch z
theorem Rd.ne_lst {H:Hp} {d l:Addr} {kvs:List (List Key × V)} {xs:List V} (h:Rd H d (.dT kvs)) (hl:H l = some (.lst xs)):d ≠ l:=fun e=>by
 rw [e] at h
 rcases h with z | ⟨o,z⟩ <;> rw [hl] at z <;> cases z
theorem NetR.grow {K:FG7} {H H':Hp} {m':List Addr} {k m:Nat} {rows:List (List Int)} {ks:List Ask} {ds kps:List Addr} (g:Grow m' H H') (hm:∀ d ∈ ds ++ kps,d ∉ m') (N:NetR K H k m rows ks ds kps):NetR K H' k m rows ks ds kps :=
 ⟨fun s d h=>(N.lv s d h).grow g (hm d (List.mem_append_left _ (List.mem_of_getElem? h))),fun s d h=>(N.kp s d h).grow g (hm d (List.mem_append_right _ (List.mem_of_getElem? h))),N.nd⟩
def rh (K:FG7):Sp:=sp3 fun x y z H Q=>∃ (k m:Nat) (rows:List (List Int)) (ks:List Ask),x = .int k /\ k <= 4 /\ m <= 16 /\ ks.length <= 16 /\ xu K H y ks /\ y9 K H z rows /\ xK k rows /\ RndOk k m ks ∧
 ∀ r lL lS ds kps H',Grow [] H H' -> SqT K H' r [.ref lL,.ref lS] -> H' lL = some (.lst (ds.map V.ref)) -> H' lS = some (.lst (kps.map V.ref)) -> ds.length = k + 1 -> kps.length = k -> NetR K H' k m rows ks ds kps -> (∀ d ∈ ds ++ kps,H d = none) -> Q (.ref r) H'
def lv0K (ks:List Ask) (vs:List V):List (List Key × V):=(ks.zip vs).map fun p=>(keyR p.1.hand.toNat p.1.box.toNat,p.2)
theorem XE {a:Ask} (h0:0 <= a.hand) (h1:0 <= a.box):(keyR a.hand.toNat a.box.toNat).map kV = [.int a.hand,.int a.box]:=by
 show [V.int ((a.hand.toNat:Nat):Int),V.int ((a.box.toNat:Nat):Int)] = _
 rw [Int.toNat_of_nonneg h0,Int.toNat_of_nonneg h1]
theorem YH {ks:List Ask} {a:Ask} (nd:(ks.map (·.hand)).Nodup) (ha:a ∈ ks):(ks.find? fun c=>decide (c.hand = a.hand /\ c.box = a.box)) = some a:=by
 induction ks with
 | nil=>cases ha
 | cons c ks ih =>
  rw [List.map_cons,List.nodup_cons] at nd
  rw [List.find?_cons]
  rcases List.mem_cons.mp ha with rfl | ha
  ·rw [decide_eq_true ⟨rfl,rfl⟩]
  ·have:¬ (c.hand = a.hand /\ c.box = a.box):=fun z=>nd.1 (List.mem_map.mpr ⟨a,ha,z.1.symm⟩)
   rw [decide_eq_false this]
   exact ih nd.2 ha
theorem WP {K:FG7} {H:Hp} {k m:Nat} {rows:List (List Int)} {ks:List Ask} {vs:List V} (R:RndOk k m ks) (hl:vs.length = ks.length) (hv:∀ (i:Nat) (a:Ask) (v:V),ks[i]? = some a -> vs[i]? = some v -> yg K H v a.deed):TabR (lv0K ks vs) (2 ^ k) m (lvR k rows ks 0) (yg K H):=by
 have ek:(lv0K ks vs).map (·.1) = ks.map fun a=>keyR a.hand.toNat a.box.toNat:=by
  unfold lv0K
  rw [List.map_map]
  refine List.ext_getElem? fun i=>?_
  rw [List.getElem?_map,List.getElem?_map]
  by_cases h:i < ks.length
  ·rw [List.getElem?_eq_getElem (show i < (ks.zip vs).length by rw [List.length_zip]; omega),List.getElem?_eq_getElem h,List.getElem_zip]; rfl
  ·rw [List.getElem?_eq_none (by rw [List.length_zip]; omega),List.getElem?_eq_none (by omega)]; rfl
 refine ⟨fun p hp=>?_,?_,fun l b hlt hb hne=>?_⟩
 ·unfold lv0K at hp
  obtain ⟨⟨a,v⟩,hm,rfl⟩:=List.mem_map.mp hp
  obtain ⟨i,hi,e⟩:=List.getElem_of_mem hm
  rw [List.getElem_zip] at e
  have hi':i < ks.length:=by rw [List.length_zip] at hi; omega
  have hiv:i < vs.length:=by omega
  have ea:ks[i] = a:=congrArg Prod.fst e
  have ev:vs[i] = v:=congrArg Prod.snd e
  have ha:a ∈ ks:=ea ▸ List.getElem_mem hi'
  have hh:=R.hand a ha
  have hbx:=R.box a ha
  refine ⟨a.hand.toNat,a.box.toNat,a.deed,rfl,wB hh.1 hh.2,by omega,?_,hv i a v (by rw [List.getElem?_eq_getElem hi',ea]) (by rw [List.getElem?_eq_getElem hiv,ev])⟩
  show (ks.find? fun c=>decide (c.hand = ((a.hand.toNat:Nat):Int) /\ c.box = ((a.box.toNat:Nat):Int))).map (·.deed) = _
  rw [Int.toNat_of_nonneg hh.1,Int.toNat_of_nonneg hbx.1,YH R.nd ha]; rfl
 ·rw [ek]
  have nd:=R.nd
  unfold List.Nodup at nd ⊢
  rw [List.pairwise_map] at nd ⊢
  refine nd.imp_of_mem fun {a c} ha hc hne e=>hne ?_
  have:=xh e
  have h1:=(R.hand a ha).1
  have h2:=(R.hand c hc).1
  omega
 ·have hne':(ks.find? fun c=>decide (c.hand = (l:Int) /\ c.box = (b:Int))).map (·.deed) ≠ none:=hne
  cases hf:ks.find? fun c=>decide (c.hand = (l:Int) /\ c.box = (b:Int)) with
  | none=>rw [hf] at hne'; exact absurd rfl hne'
  | some a =>
   have ha:=List.mem_of_find?_eq_some hf
   have hd:decide (a.hand = (l:Int) /\ a.box = (b:Int)) = true:=by have z:=List.find?_some hf; exact z
   obtain ⟨h1,h2⟩:=of_decide_eq_true hd
   have hm:keyR l b ∈ (lv0K ks vs).map (·.1):=by
    rw [ek]
    exact List.mem_map.mpr ⟨a,ha,by rw [h1,h2]; rfl⟩
   cases hv':valV (lv0K ks vs) (keyR l b) with
   | none=>exact absurd hm (jE hv')
   | some v=>rfl
theorem YI {ks:List Ask} {vs:List V}:(lv0K ks vs).length = min ks.length vs.length:=by unfold lv0K; rw [List.length_map,List.length_zip]
theorem WQ {k m n:Nat} {ks:List Ask} {vs:List V} {v:V} {a:Ask} (R:RndOk k m ks) (ha:ks[n]? = some a) (vl:vs.length = n):putK (lv0K (ks.take n) vs) (keyR a.hand.toNat a.box.toNat) v = lv0K (ks.take (n + 1)) (vs ++ [v]):=by
 have hn:=(List.getElem?_eq_some_iff.mp ha).1
 rw [jB]
 ·unfold lv0K
  rw [List.take_succ,ha,List.zip_append (by rw [List.length_take]; omega),List.map_append]; rfl
 ·cases hv:valV (lv0K (ks.take n) vs) (keyR a.hand.toNat a.box.toNat) with
  | none=>rfl
  | some u =>
   exfalso
   have:=qw hv
   unfold lv0K at this
   obtain ⟨⟨c,w⟩,hm,e⟩:=List.mem_map.mp this
   have hc:c ∈ ks.take n:=(List.of_mem_zip hm).1
   obtain ⟨h1,_⟩:=xh (congrArg Prod.fst e)
   have hck:=List.mem_of_mem_take hc
   have ha':=List.mem_of_getElem? ha
   have e1:c.hand = a.hand:=by have:=(R.hand c hck).1; have:=(R.hand a ha').1; have h1':c.hand.toNat = a.hand.toNat:=h1; omega
   obtain ⟨j,hj,ej⟩:=List.getElem_of_mem hc
   rw [List.length_take] at hj
   rw [List.getElem_take] at ej
   have nd:=R.nd
   have h2:(ks.map (·.hand))[j]'(by rw [List.length_map]; omega) = (ks.map (·.hand))[n]'(by rw [List.length_map]; omega):=by
    rw [List.getElem_map,List.getElem_map,ej,e1]
    rw [List.getElem?_eq_getElem hn] at ha
    rw [Option.some.inj ha]
   have:=(List.getElem_inj nd).mp h2
   omega
theorem XG {α:Type} {xs:List α} (h:xs ≠ []):∃ ys y,xs = ys ++ [y]:=⟨xs.dropLast,xs.getLast h,(List.dropLast_concat_getLast h).symm⟩
theorem Zm {as bs:List Addr} {b c:Addr} (h:(as ++ bs).Nodup) (h1:∀ e ∈ as ++ bs,e ≠ b) (h2:∀ e ∈ as ++ bs,e ≠ c) (h3:b ≠ c):((as ++ [b]) ++ (bs ++ [c])).Nodup:=by
 have p:((as ++ [b]) ++ (bs ++ [c])).Perm (b :: c :: (as ++ bs)):=by
  have e1:(as ++ [b]) ++ (bs ++ [c]) = as ++ (b :: (bs ++ [c])):=by simp
  rw [e1]
  refine List.perm_middle.trans (List.Perm.cons b ?_)
  rw [← List.append_assoc]
  exact List.perm_append_singleton c (as ++ bs)
 refine p.nodup_iff.mpr ?_
 rw [List.nodup_cons,List.nodup_cons]
 refine ⟨fun z=>?_,fun z=>h2 c z rfl,h⟩
 rcases List.mem_cons.mp z with e | e
 ·exact h3 e
 ·exact h1 b e rfl
theorem UA {ys:List Addr} {v:Addr}:atI ((ys ++ [v]).map V.ref) (-1) = some (V.ref v):=by
 refine qd (j:=ys.length) ?_ ?_
 ·unfold ixN
  rw [List.length_map,List.length_append,if_neg (by decide),if_pos (by show -((ys.length + 1:Nat):Int) <= -1; omega)]
  congr 1
  show (((ys.length + 1:Nat):Int) + -1).toNat = _
  omega
 ·rw [List.map_append,← List.length_map (f:=V.ref) (as:=ys)]
  exact List.getElem?_concat_length
theorem WR {α:Type} {xs:List α} {f:α -> V} {i:Int} {j:Nat} {x:α} (e:i = j) (h:xs[j]? = some x):atI (xs.map f) i = some (f x):=by
 subst e
 have hj:=(List.getElem?_eq_some_iff.mp h).1
 exact qd (xz (by omega) (by rw [List.length_map]; exact hj)) (by rw [List.getElem?_map,show ((j:Int).toNat) = j from rfl,h]; rfl)
section
variable {K:FG7} {a:Addr} {c:Bool} {xs:List V} {k:Nat} {g:TG} {tt:TT} {te tk tv:TE} {Q:VK} {σ:L2.St} {H:Hp}
theorem rj (Pv:Nat -> List V -> Hp -> Prop) (h0:Pv 0 [] H) (hl:∀ i ys H',Pv i ys H' -> SqT K H' a xs)
  (hs:∀ i x ys H',xs[i]? = some x -> Pv i ys H' -> te (σ.set k (some x)) H' fun y H5=>ys.length < sizeLine /\ Pv (i + 1) (ys ++ [y]) H5)
  (hd:∀ ys H',Pv xs.length ys H' -> ∀ l,H' l = none -> Q (.ref l) (upd H' l (.lst ys))):xE (Itt K a) σ H (wL k) vq te Q :=
 j5 (fun _=>true) Pv h0 hl (fun _ _ _ _ h=>h) (fun i x ys H' hx p _=>hs i x ys H' hx p) (fun _ _ _ _ _ _ z=>nomatch z) hd
end
theorem wt {K:FG7} {a:Addr} {xs:List V} {g:TG} {te:TE} {Q:VK} {σ:L2.St} {H:Hp} (Pv:Nat -> List V -> L2.St -> Hp -> Prop) (h0:Pv 0 [] σ H) (hl:∀ i ys σ H,i <= xs.length -> Pv i ys σ H -> SqL K H a xs)
  (hs:∀ i x ys σ H,xs[i]? = some x -> Pv i ys σ H -> g x σ H fun σ2 H3=>te σ2 H3 fun y H5=>ys.length < sizeLine /\ Pv (i + 1) (ys ++ [y]) σ2 H5)
  (hd:∀ ys σ H,Pv xs.length ys σ H -> ∀ l,H l = none -> Q (.ref l) (upd H l (.lst ys))):xE (Itl K a) σ H g vq te Q:=ua Pv h0 hl (fun i x ys σ H hx hp=>hs i x ys σ H hx hp) hd
theorem V2:bootBuiltins "set" = some (.type "set"):=by decide +kernel
section
variable {k m:Nat} {rows:List (List Int)} {ks:List Ask} {K:FG7} {H:Hp}
theorem xV {α:Type} [DecidableEq α]:∀ {l l':List α},l.Nodup -> (∀ x ∈ l,x ∈ l') -> l.length <= l'.length
 | [],_,_,_=>Nat.zero_le _
 | a :: l,l',hn,h=>by
  have ha:a ∈ l':=h a (List.mem_cons.mpr (.inl rfl))
  obtain ⟨h1,h2⟩:=List.nodup_cons.mp hn
  have:=xV (l:=l) (l':=l'.erase a) h2 fun x hx=>(List.mem_erase_of_ne (fun e=>h1 (by rw [← e]; exact hx))).mpr (h x (List.mem_cons.mpr (.inr hx)))
  rw [List.length_erase_of_mem ha] at this
  have:0 < l'.length:=List.length_pos_of_mem ha
  rw [List.length_cons]; omega
end
section
variable {k m:Nat} {rows:List (List Int)} {ks:List Ask}
theorem vz:∀ {ns acc:List Int},acc.Nodup -> (ns.foldl step_dedup acc).Nodup /\ ∀ x,x ∈ ns.foldl step_dedup acc ↔ x ∈ ns \/ x ∈ acc
 | [],acc,h=>⟨h,fun x=>⟨.inr,fun z=>z.resolve_left (fun w=>nomatch w)⟩⟩
 | n :: ns,acc,h=>by
  have hs:(step_dedup acc n).Nodup /\ ∀ x,x ∈ step_dedup acc n ↔ x = n \/ x ∈ acc:=by
   unfold step_dedup
   by_cases c:(acc.any (· == n)) = true
   ·rw [if_pos c]
    obtain ⟨y,hy,e⟩:=List.any_eq_true.mp c
    rw [beq_iff_eq] at e
    exact ⟨h,fun x=>⟨.inr,fun z=>by rcases z with z | z; rw [z,← e]; exact hy; exact z⟩⟩
   ·rw [if_neg c]
    have hn:n ∉ acc:=fun z=>c (List.any_eq_true.mpr ⟨n,z,beq_self_eq_true n⟩)
    refine ⟨List.nodup_append.mpr ⟨h,List.nodup_cons.mpr ⟨(fun z=>nomatch z),List.nodup_nil⟩,fun a ha b hb z=>hn ?_⟩,fun x=>?_⟩
    ·rw [← List.mem_singleton.mp hb,← z]; exact ha
    ·rw [List.mem_append,List.mem_singleton]; exact ⟨fun z=>z.symm,fun z=>z.symm⟩
  obtain ⟨i1,i2⟩:=vz (ns:=ns) hs.1
  rw [List.foldl_cons]
  refine ⟨i1,fun x=>?_⟩
  rw [i2,hs.2,List.mem_cons]
  constructor
  ·rintro (z | z | z)
   ·exact .inl (.inr z)
   ·exact .inl (.inl z)
   ·exact .inr z
  ·rintro ((z | z) | z)
   ·exact .inr (.inl z)
   ·exact .inl z
   ·exact .inr (.inr z)
end
theorem Zn {X:Cx} {K:FG7} (hK:X.K = K):MtR X "list.count" (fun x vs H Q=>∃ (l:Addr) (ns:List Int) (j:Int),x = .ref l /\ vs = [.int j] /\ SqL K H l (ns.map V.int) /\ Q (.int ((ns.countP fun i=>decide (i = j):Nat):Int)) H):=by
 subst hK
 intro pins s σ H x vs v us Q I rx rv h
 obtain ⟨l,ns,j,rfl,rfl,hq,q⟩:=h
 cases rx
 obtain ⟨u,rfl,t,rfl⟩:=wM rv
 obtain ⟨its,r,⟨o,n,ho,hc,hdi,hd⟩,hz⟩:=I.list hq
 obtain ⟨oc,od,oda,osl⟩:=o
 cases hc
 cases hd
 have key:∀ {ms:List Int} {ws:List Value},Vals (ms.map V.int) ws -> (ws.countP fun v=>match v with | .int a _=>a == j | _=>false) = ms.countP fun i=>decide (i = j):=by
  intro ms
  induction ms with
  | nil=>intro ws r; cases r; rfl
  | cons a ms ih =>
   intro ws r
   cases r with
   | cons r1 r2 =>
    obtain ⟨t',rfl⟩:=r1
    rw [List.countP_cons,List.countP_cons,ih r2]
    congr 1
 refine call_meets F.slot_list_count ⟨_,ho,rfl⟩ F.entry_list_count (F.args_list_count_2 _ _)
  (SeqAt.list_countAt l its.toArray n od osl (.int j t) (fun v=>match v with | .int a _=>a == j | _=>false)) ⟨ho,fun y hy=>?_,?_⟩
 ·obtain ⟨m,hm,rfl⟩:=List.getElem_of_mem (by simpa using hy:y ∈ its)
  have hm':m < ns.length:=by have:=r.length; rw [List.length_map] at this; omega
  have e1:(ns.map V.int)[m]? = some (.int ns[m]):=by rw [List.getElem?_map,List.getElem?_eq_getElem hm']; rfl
  obtain ⟨u,hu,t',rfl⟩:=r.get e1
  rw [List.getElem?_eq_getElem hm] at hu
  rw [Option.some.inj hu]
  exact SeqAt.EqAt.int_int _ _ _ _
 ·have:its.toArray.toList = its:=List.toList_toArray
  rw [this,key r]
  exact ⟨.int _,H,I.tok _,⟨_,rfl⟩,q⟩
def vA (k:Nat):List (List Int):=List.replicate k (List.replicate (2 ^ k / 2) 0)
theorem jH (k:Nat):xK k (vA k):=by
 refine ⟨by unfold vA; rw [List.length_replicate],fun r hr=>?_⟩
 obtain ⟨hk,rfl⟩:=List.mem_replicate.mp hr
 refine ⟨?_,fun b hb=>.inl (List.mem_replicate.mp hb).2⟩
 rw [List.length_replicate]
 obtain ⟨n,rfl⟩:∃ n,k = n + 1:=⟨k - 1,by omega⟩
 rw [Nat.add_sub_cancel,Nat.pow_succ]; omega
def yF (ns:List Int) (l:Nat):Int:=((ns.countP fun i=>decide (i = (l:Int)):Nat):Int)
def jcB (k:Nat) (ks:List Ask) (m s l:Nat):Int:=(((List.range m).countP fun b=>(lvR k (vA k) ks s l b).isSome:Nat):Int)
def jlR (k:Nat) (ks:List Ask) (m:Nat):List (List Int):=(List.range (k + 1)).map fun s=>(List.range (2 ^ k)).map fun l=>jcB k ks m s l
def plR (k:Nat) (ks:List Ask):List (List Int):=(List.range (k + 1)).map fun s=>(List.range (2 ^ k)).map fun l=>yF (ks.map fun a=>zE k a.hand.toNat (a.box.toNat % 2 ^ k) s) l
def ve (K:FG7):Sp:=sp1 fun x H Q=>∃ k:Nat,x = .int k /\ k <= 4 /\ ∀ y H',Grow [] H H' -> y9 K H' y (vA k) -> Q y H'
def wu (K:FG7):Sp:=sp2 fun x y H Q=>∃ (k:Nat) (l:Addr) (ns:List Int),x = .int k /\ k <= 4 /\ y = .ref l /\ H l = some (.lst (ns.map V.int)) /\ ∀ y' H',Grow [] H H' -> zy K H' y' ((List.range (2 ^ k)).map (yF ns)) -> Q y' H'
def qy (K:FG7):Sp:=sp3 fun x y z H Q=>∃ (k:Nat) (b:List Int) (ks:List Ask),x = .int k /\ k <= 4 /\ zy K H y b /\ 1 <= b.length /\ b.length <= 16 /\ xu K H z ks /\ ks.length <= 16 /\ RndOk k b.length ks /\ ∀ y H',Grow [] H H' -> y9 K H' y (jlR k ks b.length) -> Q y H'
def qz (K:FG7):Sp:=sp3 fun x y z H Q=>∃ (k:Nat) (b:List Int) (ks:List Ask),x = .int k /\ k <= 4 /\ zy K H y b /\ 1 <= b.length /\ b.length <= 16 /\ xu K H z ks /\ ks.length <= 16 /\ RndOk k b.length ks /\ ∀ y H',Grow [] H H' -> y9 K H' y (plR k ks) -> Q y H'
theorem YJ {k m s:Nat} {ks:List Ask} {kvs:List (List Key × V)} {R:V -> Deed -> Prop} (T:TabR kvs (2 ^ k) m (lvR k (vA k) ks s) R) {l:Nat} (hl:l < 2 ^ k) {ns:List Int} (hn:ns.length = kvs.length) (hk:∀ (i:Nat) (p:List Key × V),kvs[i]? = some p -> ∃ (l' b:Nat),p.1 = keyR l' b /\ ns[i]? = some (l':Int)) :
  yF ns l = jcB k ks m s l:=by
 have pr:∀ {kvs:List (List Key × V)} {ns:List Int},ns.length = kvs.length -> (∀ (i:Nat) (p:List Key × V),kvs[i]? = some p -> ∃ (l' b:Nat),p.1 = keyR l' b /\ ns[i]? = some (l':Int)) -> ∃ prs:List (Nat × Nat),kvs.map (·.1) = prs.map (fun p=>keyR p.1 p.2) /\ ns = prs.map fun p=>(p.1:Int):=by
  intro kvs
  induction kvs with
  | nil=>intro ns h _; cases ns with
   | nil=>exact ⟨[],rfl,rfl⟩
   | cons _ _=>cases h
  | cons p kvs ih =>
   intro ns h hk
   cases ns with
   | nil=>cases h
   | cons n ns =>
    obtain ⟨l',b,e1,e2⟩:=hk 0 p rfl
    obtain ⟨prs,h1,h2⟩:=ih (Nat.succ.inj h) fun i q hq=>hk (i + 1) q hq
    exact ⟨(l',b) :: prs,by rw [List.map_cons,List.map_cons,h1,e1],by rw [List.map_cons,← h2,Option.some.inj e2]⟩
 obtain ⟨prs,h1,rfl⟩:=pr hn hk
 have nd:prs.Nodup:=by
  have:=T.nd
  rw [h1] at this
  exact List.Pairwise.of_map (S:=(· ≠ ·)) (fun p:Nat × Nat=>keyR p.1 p.2) (fun a b h z=>h (by rw [z])) this
 have mem:∀ b,(l,b) ∈ prs ↔ b < m /\ (lvR k (vA k) ks s l b).isSome = true:=fun b=>by
  constructor
  ·intro h
   have hm:keyR l b ∈ kvs.map (·.1):=by rw [h1]; exact List.mem_map.mpr ⟨_,h,rfl⟩
   obtain ⟨p,hp,e⟩:=List.mem_map.mp hm
   obtain ⟨l',b',x,e',_,hb',hx,_⟩:=T.keys p hp
   rw [e] at e'
   obtain ⟨rfl,rfl⟩:=xh e'
   exact ⟨hb',by rw [hx]; rfl⟩
  ·rintro ⟨hb,hx⟩
   obtain ⟨j,v,j1,_⟩:=qx (T.all l b hl hb (fun z=>by rw [z] at hx; cases hx))
   have hm:keyR l b ∈ kvs.map (·.1):=List.mem_map.mpr ⟨_,List.mem_of_getElem? j1,rfl⟩
   rw [h1] at hm
   obtain ⟨⟨l',b'⟩,hp,e⟩:=List.mem_map.mp hm
   obtain ⟨e1,e2⟩:=xh e
   have e1':l' = l:=e1
   have e2':b' = b:=e2
   rw [← e1',← e2']; exact hp
 have e1:((prs.map fun p=>(p.1:Int)).countP fun i=>decide (i = (l:Int))) = ((prs.filter fun p=>decide (p.1 = l)).map (·.2)).length:=by
  rw [List.countP_map,List.countP_eq_length_filter,List.length_map]
  congr 2
  funext p
  show decide ((p.1:Int) = (l:Int)) = decide (p.1 = l)
  exact decide_eq_decide.mpr ⟨fun z=>by omega,fun z=>by rw [z]⟩
 have nd2:((prs.filter fun p=>decide (p.1 = l)).map (·.2)).Nodup:=by
  refine List.pairwise_map.mpr ((nd.sublist List.filter_sublist).imp_of_mem fun {a b} ha hb hab z=>hab ?_)
  have h1:=of_decide_eq_true (List.mem_filter.mp ha).2
  have h2:=of_decide_eq_true (List.mem_filter.mp hb).2
  exact Prod.ext (h1.trans h2.symm) z
 have pm:((prs.filter fun p=>decide (p.1 = l)).map (·.2)).Perm ((List.range m).filter fun b=>(lvR k (vA k) ks s l b).isSome):=by
  refine (List.perm_ext_iff_of_nodup nd2 (List.nodup_range.sublist List.filter_sublist)).mpr fun b=>?_
  rw [List.mem_filter,List.mem_range,← mem b]
  constructor
  ·intro h
   obtain ⟨⟨l',b'⟩,hp,rfl⟩:=List.mem_map.mp h
   obtain ⟨h1,h2⟩:=List.mem_filter.mp hp
   have:l' = l:=of_decide_eq_true h2
   rw [← this]; exact h1
  ·intro h
   exact List.mem_map.mpr ⟨(l,b),List.mem_filter.mpr ⟨h,decide_eq_true rfl⟩,rfl⟩
 unfold yF jcB
 rw [e1,pm.length_eq,← List.countP_eq_length_filter]
theorem rk {α:Type} {R:V -> α -> Prop} {v:V} {r:α} (h:R v r):∀ n:Nat,AllR R (List.replicate n [v]).flatten (List.replicate n r)
 | 0=>trivial
 | n + 1=>by
  rw [List.replicate_succ,List.flatten_cons,List.replicate_succ]
  exact ⟨h,rk h n⟩
section
variable {k m:Nat} {rows:List (List Int)} {ks ks':List Ask}
theorem RndOk.perm47 (R:RndOk k m ks) (p:ks'.Perm ks):RndOk k m ks':=⟨((p.map _).nodup_iff).mpr R.nd,fun a ha=>R.hand a (p.mem_iff.mp ha),fun a ha=>R.box a (p.mem_iff.mp ha),fun a ha=>R.ok a (p.mem_iff.mp ha)⟩
end
section
variable {k h e:Nat}
def xb (a b:Int):Int:=Builtin.bitXor a b
section
variable {c:Nat} {rows:List (List Int)} {ks:List Ask}
theorem Zo {a b:Option Deed}:(YC a b).isSome = (a.isSome || b.isSome):=by cases a <;> cases b <;> rfl
end
end
def LdOk (k:Nat) (rows:List (List Int)):Prop:=rows.length = k + 1 /\ ∀ r ∈ rows,r.length = 2 ^ k
theorem rm:∀ k:Fin 5,∀ a:Fin 16,∀ g:Fin 16,a.val < 2 ^ k.val -> g.val < 2 ^ k.val -> ∀ s:Fin 4,s.val + 1 <= k.val -> wfN k.val (s.val + 1) (lN k.val a.val g.val s.val) (figI k.val ((s.val + 1:Nat):Int) (g.val:Int)) = lN k.val a.val g.val (s.val + 1):=by decide +kernel
section
variable {k m:Nat} {rows:List (List Int)} {ks:List Ask}
theorem jI {a b s:Nat} (k4:k <= 4) (ha:a < 2 ^ k) (sk:s + 1 <= k):outR k (s + 1) (lN k a (b % 2 ^ k) s) b = lN k a (b % 2 ^ k) (s + 1):=by
 have p:=zU k4
 have hg:b % 2 ^ k < 2 ^ k:=y0
 exact rm ⟨k,by omega⟩ ⟨a,by omega⟩ ⟨b % 2 ^ k,by omega⟩ ha hg ⟨s,by omega⟩ sk
theorem WS {a g s:Nat} (k4:k <= 4) (ha:a < 2 ^ k) (hg:g < 2 ^ k) (sk:s <= k):lN k a g s < 2 ^ k:=by
 have p:=zU k4
 exact ((xL ⟨k,by omega⟩ ⟨a,by omega⟩ ⟨g,by omega⟩ ha hg).2.2 ⟨s,by omega⟩ sk).1.2
theorem rn {a g:Nat} (k4:k <= 4) (ha:a < 2 ^ k) (hg:g < 2 ^ k):lN k a g 0 = a:=by
 have p:=zU k4
 exact (xL ⟨k,by omega⟩ ⟨a,by omega⟩ ⟨g,by omega⟩ ha hg).1
theorem yj (R:RndOk k m ks) {a:Ask} (ha:a ∈ ks):a.hand.toNat < 2 ^ k:=by
 have h:=R.hand a ha
 have e:((2 ^ k:Nat):Int) = (2:Int) ^ k:=by push_cast; rfl
 omega
theorem uv (R:RndOk k m ks) (k4:k <= 4) (hs:xK k rows):∀ {s l b:Nat},s <= k -> l < 2 ^ k -> ((lvR k rows ks s l b).isSome = true ↔ ∃ a ∈ ks,a.box = (b:Int) /\ lN k a.hand.toNat (b % 2 ^ k) s = l)
 | 0,l,b,_,hl=>by
  show ((ks.find? fun a=>decide (a.hand = (l:Int) /\ a.box = (b:Int))).map (·.deed)).isSome = true ↔ _
  rw [Option.isSome_map,List.find?_isSome]
  constructor
  ·rintro ⟨a,ha,hd⟩
   obtain ⟨h1,h2⟩:=of_decide_eq_true hd
   exact ⟨a,ha,h2,by rw [rn k4 (yj R ha) y0,h1]; rfl⟩
  ·rintro ⟨a,ha,h1,h2⟩
   rw [rn k4 (yj R ha) y0] at h2
   have h0:=(R.hand a ha).1
   exact ⟨a,ha,decide_eq_true ⟨by omega,h1⟩⟩
 | s + 1,l,b,sk,hl=>by
  constructor
  ·intro h
   obtain ⟨x,hx,e,hne⟩:=Wa k4 hs sk hl (fun z=>by rw [z] at h; cases h)
   obtain ⟨a,ha,h1,h2⟩:=(uv R k4 hs (show s <= k by omega) hx).mp (Option.isSome_iff_ne_none.mpr hne)
   refine ⟨a,ha,h1,?_⟩
   rw [← jI k4 (yj R ha) sk,h2,e]
  ·rintro ⟨a,ha,h1,h2⟩
   have hx:lN k a.hand.toNat (b % 2 ^ k) s < 2 ^ k:=WS k4 (yj R ha) y0 (by omega)
   have hsome:=(uv (l:=lN k a.hand.toNat (b % 2 ^ k) s) (b:=b) R k4 hs (show s <= k by omega) hx).mpr ⟨a,ha,h1,rfl⟩
   rw [← h2,← jI k4 (yj R ha) sk,X9 k4 hs sk hx,Zo]
   have X:=xF k4 hs (show 1 <= s + 1 by omega) sk hx
   rcases X.or with e | e
   ·rw [← e,hsome]; rfl
   ·rw [← e,hsome,Bool.or_true]
def xi (k:Nat) (ks:List Ask) (s l:Nat):List Int:=(ks.filter fun a=>decide (zE k a.hand.toNat ((a.box.toNat % 2 ^ k:Nat):Int) s = (l:Int))).map (·.box)
theorem rq {s l:Nat}:((xi k ks s l).length:Int) = yF (ks.map fun a=>zE k a.hand.toNat ((a.box.toNat % 2 ^ k:Nat):Int) s) l:=by
 unfold xi yF
 rw [List.length_map,List.countP_map,List.countP_eq_length_filter]; rfl
theorem rz (R:RndOk k m ks) (k4:k <= 4) (hs:xK k rows) {s l b:Nat} (sk:s <= k) (hl:l < 2 ^ k):(b:Int) ∈ xi k ks s l ↔ (lvR k rows ks s l b).isSome = true:=by
 have p:=zU k4
 rw [uv R k4 hs sk hl]
 unfold xi
 rw [List.mem_map]
 have key:∀ a ∈ ks,a.box = (b:Int) -> (zE k a.hand.toNat ((a.box.toNat % 2 ^ k:Nat):Int) s = (l:Int) ↔ lN k a.hand.toNat (b % 2 ^ k) s = l):=fun a ha hb=>by
  have ha':=yj R ha
  have hg:b % 2 ^ k < 2 ^ k:=y0
  have W:=((xL ⟨k,by omega⟩ ⟨a.hand.toNat,by omega⟩ ⟨b % 2 ^ k,by omega⟩ ha' hg).2.2 ⟨s,by omega⟩ sk).1.1
  have W1:zE k a.hand.toNat ((b % 2 ^ k:Nat):Int) s = (lN k a.hand.toNat (b % 2 ^ k) s:Int):=W
  rw [hb,Int.toNat_natCast,W1]
  exact ⟨fun z=>Int.ofNat.inj z,fun z=>by rw [z]⟩
 constructor
 ·rintro ⟨a,ha,hb⟩
  obtain ⟨h1,h2⟩:=List.mem_filter.mp ha
  exact ⟨a,h1,hb,(key a h1 hb).mp (of_decide_eq_true h2)⟩
 ·rintro ⟨a,ha,hb,h2⟩
  exact ⟨a,List.mem_filter.mpr ⟨ha,decide_eq_true ((key a ha hb).mpr h2)⟩,hb⟩
theorem tV (R:RndOk k m ks) (k4:k <= 4) {s l:Nat} (sk:s <= k) (hl:l < 2 ^ k):jcB k ks m s l = ((dedI (xi k ks s l)).length:Int):=by
 have st:=jH k
 have D:(dedI (xi k ks s l)).Nodup /\ ∀ x,x ∈ dedI (xi k ks s l) ↔ x ∈ xi k ks s l:=by
  have:=vz (ns:=xi k ks s l) (acc:=[]) List.nodup_nil
  exact ⟨this.1,fun x=>(this.2 x).trans ⟨fun z=>z.elim id (fun z=>nomatch z),.inl⟩⟩
 unfold jcB
 rw [List.countP_eq_length_filter]
 congr 1
 have e:((List.range m).filter fun b=>(lvR k (vA k) ks s l b).isSome).length = (((List.range m).filter fun b=>(lvR k (vA k) ks s l b).isSome).map fun b:Nat=>(b:Int)).length:=by rw [List.length_map]
 rw [e]
 refine List.Perm.length_eq ((List.perm_ext_iff_of_nodup ?_ D.1).mpr fun x=>?_)
 ·exact List.pairwise_map.mpr ((List.nodup_range.sublist List.filter_sublist).imp fun {a b} h z=>h (Int.ofNat.inj z))
 ·rw [D.2 x,List.mem_map]
  constructor
  ·rintro ⟨b,hb,rfl⟩
   exact (rz R k4 st sk hl).mpr (List.mem_filter.mp hb).2
  ·intro hx
   have hx':=hx
   unfold xi at hx'
   obtain ⟨a,ha,rfl⟩:=List.mem_map.mp hx'
   have hb:=R.box a (List.mem_filter.mp ha).1
   have eb:((a.box.toNat:Nat):Int) = a.box:=Int.toNat_of_nonneg hb.1
   refine ⟨a.box.toNat,List.mem_filter.mpr ⟨List.mem_range.mpr (by omega),?_⟩,eb⟩
   rw [← eb] at hx
   exact (rz R k4 st sk hl).mp hx
theorem XH (ns:List Int):(dedI ns).Nodup /\ ∀ x,x ∈ dedI ns ↔ x ∈ ns:=by
 have:=vz (ns:=ns) (acc:=[]) List.nodup_nil
 exact ⟨this.1,fun x=>(this.2 x).trans ⟨fun z=>z.elim id (fun z=>nomatch z),.inl⟩⟩
end
def wb (v:Int) (ms:List Int):Nat:=ms.countP fun i=>decide (i = v)
theorem xk {v a:Int} {ms:List Int}:wb v (a :: ms) = wb v ms + if a = v then 1 else 0:=by
 unfold wb
 rw [List.countP_cons]
 by_cases c:a = v <;> simp [c]
theorem tm {v:Int} {ms:List Int} (h:∀ x ∈ ms,v < x):wb v ms = 0:=by
 unfold wb
 rw [List.countP_eq_zero]
 intro x hx z
 have:=h x hx
 have:=of_decide_eq_true z
 omega
theorem vH:∀ {ms:List Int},ms.Pairwise (· <= ·) -> match dupS ms with
  | none=>∀ v,wb v ms <= 1
  | some v=>2 <= wb v ms /\ v ∈ ms /\ ∀ u,u < v -> wb u ms <= 1
 | [],_=>fun v=>Nat.zero_le _
 | [a],_=>fun v=>by rw [xk]; unfold wb; simp; split <;> omega
 | a :: b :: t,h=>by
  obtain ⟨h1,h2⟩:=List.pairwise_cons.mp h
  obtain ⟨h3,h4⟩:=List.pairwise_cons.mp h2
  have ab:a <= b:=h1 b (by simp)
  by_cases c:a = b
  ·subst c
   have e:dupS (a :: a :: t) = some a:=by simp [dupS]
   rw [e]
   refine ⟨?_,by simp,fun u hu=>?_⟩
   ·rw [xk,xk,if_pos rfl]; omega
   ·rw [tm fun x hx=>?_]; omega
    rcases List.mem_cons.mp hx with z | z
    ·rw [z]; exact hu
    ·exact Int.lt_of_lt_of_le hu (h1 x z)
  ·have e:dupS (a :: b :: t) = dupS (b :: t):=by simp [dupS,c]
   have ih:=vH h2
   have hlt:∀ x ∈ b :: t,a < x:=fun x hx=>by
    rcases List.mem_cons.mp hx with z | z
    ·rw [z]; omega
    ·have:=h3 x z; omega
   have ca:wb a (b :: t) = 0:=tm hlt
   rw [e]
   cases hd:dupS (b :: t) with
   | none =>
    rw [hd] at ih
    intro v
    have iv:wb v (b :: t) <= 1:=ih v
    rw [xk]
    by_cases z:a = v
    ·rw [if_pos z,← z,ca]; omega
    ·rw [if_neg z]; omega
   | some w =>
    rw [hd] at ih
    obtain ⟨i1,i2,i3⟩:=ih
    refine ⟨by rw [xk]; omega,List.mem_cons_of_mem _ i2,fun u hu=>?_⟩
    have iu:=i3 u hu
    rw [xk]
    by_cases z:a = u
    ·rw [if_pos z,← z,ca]; omega
    ·rw [if_neg z]; omega
theorem vI (rows:List (List Int)) (lev:Nat):match yh rows lev with
  | none=>∀ v,wb v (zL rows lev) <= 1
  | some v=>2 <= wb v (zL rows lev) /\ v ∈ zL rows lev /\ ∀ u,u < v -> wb u (zL rows lev) <= 1:=by
 have h:=vH (sV (zL rows lev))
 have pm:=Xs (zL rows lev)
 have ec:∀ v,wb v (vN (zL rows lev)) = wb v (zL rows lev):=fun v=>pm.countP_eq _
 unfold yh
 cases hd:dupS (vN (zL rows lev)) with
 | none =>
  rw [hd] at h
  intro v
  rw [← ec]; exact h v
 | some v =>
  rw [hd] at h
  obtain ⟨h1,h2,h3⟩:=h
  refine ⟨by rw [← ec]; exact h1,pm.mem_iff.mp h2,fun u hu=>?_⟩
  rw [← ec]; exact h3 u hu
def jJ (k:Nat) (T:List (List Int)) (o:Option (Nat × Int)):Prop:=match o with
 | none=>∀ s l,s <= k -> l < 2 ^ k -> (T.getD s []).getD l 0 <= 1
 | some (s,v)=>s <= k /\ (∃ l:Nat,v = (l:Int) /\ l < 2 ^ k /\ 1 < (T.getD s []).getD l 0 /\ ∀ l',l' < l -> (T.getD s []).getD l' 0 <= 1) /\ ∀ s' l',s' < s -> l' < 2 ^ k -> (T.getD s' []).getD l' 0 <= 1
def xA (k:Nat) (ks:List Ask):List (Nat × Nat):=ks.map fun a=>(a.hand.toNat,a.box.toNat % 2 ^ k)
section
variable {k m:Nat} {ks:List Ask}
theorem uw {s:Nat} (sk:s <= k):zL (zS k (xA k ks)) s = ks.map fun a=>zE k a.hand.toNat ((a.box.toNat % 2 ^ k:Nat):Int) s:=by
 unfold zL zS xA
 rw [List.map_map,List.map_map]
 refine List.map_congr_left fun a _=>?_
 show (zO k a.hand.toNat (a.box.toNat % 2 ^ k)).getD s 0 = _
 unfold zO
 rw [List.getD_eq_getElem?_getD,List.getElem?_map,List.getElem?_range (by omega)]; rfl
theorem tW {s l:Nat} (sk:s <= k) (hl:l < 2 ^ k):((plR k ks).getD s []).getD l 0 = (wb (l:Int) (zL (zS k (xA k ks)) s):Int):=by
 have e:(plR k ks).getD s [] = (List.range (2 ^ k)).map fun l=>yF (ks.map fun a=>zE k a.hand.toNat ((a.box.toNat % 2 ^ k:Nat):Int) s) l:=by
  unfold plR
  rw [List.getD_eq_getElem?_getD,List.getElem?_map,List.getElem?_range (by omega)]; rfl
 rw [e,List.getD_eq_getElem?_getD,List.getElem?_map,List.getElem?_range hl,uw sk]; rfl
theorem jK (R:RndOk k m ks) (k4:k <= 4) {s:Nat} (sk:s <= k) {v:Int} (hv:v ∈ zL (zS k (xA k ks)) s):∃ l:Nat,v = (l:Int) /\ l < 2 ^ k:=by
 have p:=zU k4
 rw [uw sk] at hv
 obtain ⟨a,ha,rfl⟩:=List.mem_map.mp hv
 have ha':=yj R ha
 have hg:a.box.toNat % 2 ^ k < 2 ^ k:=y0
 have W:=((xL ⟨k,by omega⟩ ⟨a.hand.toNat,by omega⟩ ⟨a.box.toNat % 2 ^ k,by omega⟩ ha' hg).2.2 ⟨s,by omega⟩ sk).1
 exact ⟨_,W.1,W.2⟩
theorem tq (R:RndOk k m ks) (k4:k <= 4) {s:Nat} (sk:s <= k) (h:∀ l,l < 2 ^ k -> ((plR k ks).getD s []).getD l 0 <= 1):yh (zS k (xA k ks)) s = none:=by
 have S:=vI (zS k (xA k ks)) s
 cases hd:yh (zS k (xA k ks)) s with
 | none=>rfl
 | some v =>
  rw [hd] at S
  obtain ⟨h1,h2,_⟩:=S
  obtain ⟨l,rfl,hl⟩:=jK R k4 sk h2
  have:=h l hl
  rw [tW sk hl] at this
  omega
theorem tX (R:RndOk k m ks) (k4:k <= 4) {o:Option (Nat × Int)} (h:jJ k (plR k ks) o):xv k (zS k (xA k ks)) o:=by
 match o,h with
 | none,h=>exact fun s sk=>tq R k4 sk fun l hl=>h s l sk hl
 | some (s,v),h =>
  obtain ⟨sk,⟨l,rfl,hl,h1,h2⟩,h3⟩:=h
  refine ⟨sk,?_,fun j hj=>tq R k4 (by omega) fun l' hl'=>h3 j l' hj hl'⟩
  have S:=vI (zS k (xA k ks)) s
  rw [tW sk hl] at h1
  cases hd:yh (zS k (xA k ks)) s with
  | none =>
   rw [hd] at S
   have:=S (l:Int)
   omega
  | some w =>
   rw [hd] at S
   obtain ⟨s1,s2,s3⟩:=S
   obtain ⟨l',rfl,hl'⟩:=jK R k4 sk s2
   congr 1
   by_cases c:l' < l
   ·have:=h2 l' c
    rw [tW sk hl'] at this
    omega
   ·by_cases c2:l < l'
    ·have:=s3 (l:Int) (by omega)
     omega
    ·have:l' = l:=by omega
     rw [this]
theorem tu (R:RndOk k m ks) (k4:k <= 4) {pl:List (Nat × Nat)} (pm:pl.Perm (xA k ks)) {o o':Option (Nat × Int)} (h:jJ k (plR k ks) o) (h':xv k (zS k pl) o'):o' = o :=
 xv.one (fun l=>qj (pm.map fun q=>zO k q.1 q.2) l) h' (tX R k4 h)
theorem qA {ns:List Int} (h:ns.length <= 1):(dedI ns).length = ns.length:=by
 match ns,h with
 | [],_=>rfl
 | [a],_ =>
  have D:=XH [a]
  have h1:(dedI [a]).length <= 1:=xV D.1 (l':=[a]) fun x hx=>(D.2 x).mp hx
  have h2:a ∈ dedI [a]:=(D.2 a).mpr (by simp)
  have:=List.length_pos_of_mem h2
  show (dedI [a]).length = 1
  omega
theorem WT (R:RndOk k m ks) (k4:k <= 4) (h:jJ k (plR k ks) none):jlR k ks m = plR k ks:=by
 unfold jlR plR
 refine List.map_congr_left fun s hs=>List.map_congr_left fun l hl=>?_
 have sk:s <= k:=by have:=List.mem_range.mp hs; omega
 have hl':=List.mem_range.mp hl
 have:=h s l sk hl'
 rw [tW sk hl',uw sk] at this
 have e:(wb (l:Int) (ks.map fun a=>zE k a.hand.toNat ((a.box.toNat % 2 ^ k:Nat):Int) s):Int) = ((xi k ks s l).length:Int):=rq.symm
 rw [e] at this
 rw [tV R k4 sk hl',qA (by omega),rq]; rfl
theorem XI (R:RndOk k m ks) (k4:k <= 4) {s l:Nat} (sk:s <= k) (hl:l < 2 ^ k):jcB k ks m s l <= ((dedI (ks.map (·.box))).length:Int):=by
 rw [tV R k4 sk hl]
 have D:=XH (xi k ks s l)
 have E:=XH (ks.map (·.box))
 refine Int.ofNat_le.mpr (xV D.1 fun x hx=>(E.2 x).mpr ?_)
 have hx':=(D.2 x).mp hx
 unfold xi at hx'
 obtain ⟨a,ha,rfl⟩:=List.mem_map.mp hx'
 exact List.mem_map.mpr ⟨a,(List.mem_filter.mp ha).1,rfl⟩
theorem Zp {a:Ask} {s l:Nat}:xi k (ks ++ [a]) s l = xi k ks s l ++ if zE k a.hand.toNat ((a.box.toNat % 2 ^ k:Nat):Int) s = (l:Int) then [a.box] else []:=by
 unfold xi
 rw [List.filter_append,List.map_append]
 congr 1
 by_cases c:zE k a.hand.toNat ((a.box.toNat % 2 ^ k:Nat):Int) s = (l:Int)
 ·rw [if_pos c,List.filter_cons,if_pos (decide_eq_true c)]; rfl
 ·rw [if_neg c,List.filter_cons,if_neg (by rw [decide_eq_false c]; exact Bool.false_ne_true)]; rfl
end
def ux (K:FG7):Sp:=sp1 fun x H Q=>∃ (k:Nat) (T:List (List Int)),y9 K H x T /\ k <= 4 /\ LdOk k T /\ ∀ o y H',Grow [] H H' -> vt K H' y o -> jJ k T o -> Q y H'
def tw (_:FG7):Sp:=sp2 fun x y H Q=>∃ (a:Addr) (k:Nat),x = .ref a /\ y = .int k /\ k <= 4 /\ zP H a /\ ∀ l gs H',l ∉ [a] -> Grow [a] H H' -> zP H' a -> H' l = some (.lst (zM gs)) -> yM k gs -> Q (.ref l) H'
def tD (_:FG7):Sp:=sp2 fun x y H Q=>∃ (a:Addr) (k:Nat),x = .ref a /\ y = .int k /\ k <= 4 /\ zP H a /\ ∀ l gs H',l ∉ [a] -> Grow [a] H H' -> zP H' a -> H' l = some (.lst (zM gs)) -> gs.length = 2 ^ k -> (∀ g ∈ gs,g < 16) -> Q (.ref l) H'
def rA (K:FG7):Sp:=sp1 fun x H Q=>∃ a:Addr,x = .ref a /\ zP H a /\ ∀ d y H',d.Ok -> d.Sm -> Grow [a] H H' -> zP H' a -> yg K H' y d -> Q y H'
def LrAt (K:FG7) (H:Hp) (x:V) (T:List (List Int)):Prop:=∃ l xs,x = .ref l /\ H l = some (.lst xs) /\ AllR (fun v row=>∃ r,v = .ref r /\ H r = some (.lst (row.map V.int))) xs T
def jL (K:FG7):Sp:=sp2 fun x y H Q=>∃ (k:Nat) (ks:List Ask),x = .int k /\ xu K H y ks /\ k <= 4 /\ ks.length <= 16 /\ RndOk k 16 ks /\ ∀ y H',Grow [] H H' -> LrAt K H' y (plR k ks) -> Q y H'
def jM (K:FG7):Sp:=sp2 fun x y H Q=>∃ (k:Nat) (ks:List Ask),x = .int k /\ xu K H y ks /\ k <= 4 /\ ks.length <= 16 /\ RndOk k 16 ks /\ ∀ y H',Grow [] H H' -> LrAt K H' y (jlR k ks 16) -> Q y H'
def uy (K:FG7):Sp:=sp2 fun x y H Q=>∃ (k:Nat) (T:List (List Int)),y9 K H x T /\ LrAt K H y T /\ k <= 4 /\ LdOk k T /\ ∀ H',Grow [] H H' -> Q (.bl true) H'
section
variable {X:Cx}
theorem qB {K:FG7} (hK:X.K = K) (hcalm:X.calm = true):xw X (.builtin "max") (fun xs H Q=>∃ (l:Addr) (ns:List Int),xs = [.ref l] /\ SqT K H l (ns.map V.int) /\ 0 < ns.length /\ ∀ M,M ∈ ns -> (∀ a ∈ ns,a <= M) -> Q (.int M) H):=by
 subst hK
 intro pins s σ H xs us Q I r h
 obtain ⟨l,ns,rfl,hl,h0,q⟩:=h
 obtain ⟨u,rfl,rx⟩:=wM r
 cases (show u = Value.ref l from rx)
 obtain ⟨vs,rv,pl,_⟩:=I.tuple hl
 have hl':s.heap.IsTuple l vs.toArray:=pl
 have hb:=qg rv
 have hlen:ns.length = vs.length:=by rw [← rv.length,List.length_map]
 have hlt:l < s.heap.objs.size:=by obtain ⟨_,e,_⟩:=hl'; exact Heap.lt_size e
 have best:=argBest_gt (fun i=>(ns[i]?).getD 0) (vs.length - 1)
 refine call_max_walk (wpAny_pyIter_tuple hl' ?_)
 refine ⟨s.heap.objs.size,[s.heap.objs.size,l],[s.heap.objs.size],vs.toArray.size,_,_,fun i j=>decide ((ns[i]?).getD 0 > (ns[j]?).getD 0),rfl,Walks.tuple (A:=X.A.in1) (I.ok.hd hcalm) _ l (Nat.ne_of_lt hlt) vs.toArray,
  ⟨⟨_,Heap.get?_push_size _ rfl,rfl,rfl⟩,hl'.push _⟩,?_,?_,CmpOf.ints_gt _ (fun i v hP=>hb i v (by simpa using hP)),fun v h' tk hP hk=>?_⟩
 ·intro b hb
  have sz:(s.heap.push { cls:=.type "tuple_iterator",data:=.fields #[.ref l,.int 0 0] }).objs.size = s.heap.objs.size + 1:=Heap.size_push ..
  rcases List.mem_cons.mp hb with z | z
  ·rw [z]; show _ < (s.heap.push _).objs.size; rw [sz]; omega
  ·rw [List.mem_singleton.mp z]; show _ < (s.heap.push _).objs.size; rw [sz]; exact Nat.lt_succ_of_lt hlt
 ·rw [List.size_toArray]; omega
 ·rw [List.size_toArray] at hP
  obtain ⟨t,rfl⟩:=hb _ v (by simpa using hP)
  have hi:argBest (fun i j=>decide ((ns[i]?).getD 0 > (ns[j]?).getD 0)) (vs.length - 1) < ns.length:=by have:=best.1; omega
  refine ⟨.int ((ns[argBest (fun i j=>decide ((ns[i]?).getD 0 > (ns[j]?).getD 0)) (vs.length - 1)]?).getD 0),H,I.kept (t':=tk) (h':=h') (LSm.kept_iter hk),⟨t,rfl⟩,q _ ?_ ?_⟩
  ·rw [List.getElem?_eq_getElem hi]; exact List.getElem_mem hi
  ·intro a ha
   obtain ⟨j,hj,rfl⟩:=List.getElem_of_mem ha
   have:=best.2 j (by omega)
   rw [List.getElem?_eq_getElem hj] at this
   exact this
theorem qC {K:FG7} (hK:X.K = K) (hcalm:X.calm = true):xw X (.builtin "max") (fun xs H Q=>∃ (l:Addr) (ns:List Int),xs = [.ref l] /\ SqL K H l (ns.map V.int) /\ 0 < ns.length /\ ∀ M,M ∈ ns -> (∀ a ∈ ns,a <= M) -> Q (.int M) H):=by subst hK; exact Z6 hcalm
theorem qD {K:FG7} (hK:X.K = K) (hcalm:X.calm = true):xw X (.builtin "any") (fun xs H Q=>∃ (l:Addr) (bs:List Bool),xs = [.ref l] /\ SqL K H l (bs.map V.bl) /\ Q (.bl (bs.any id)) H):=by subst hK; exact sN hcalm
end
theorem jN {α:Type} {l:List α} (nd:l.Nodup) {i j:Nat} {x:α} (hi:l[i]? = some x) (hj:l[j]? = some x):i = j:=by
 obtain ⟨h1,e1⟩:=List.getElem?_eq_some_iff.mp hi
 obtain ⟨h2,e2⟩:=List.getElem?_eq_some_iff.mp hj
 have P:=List.pairwise_iff_getElem.mp nd
 rcases Nat.lt_trichotomy i j with z | z | z
 ·exact absurd (e1.trans e2.symm) (P i j h1 h2 z)
 ·exact z
 ·exact absurd (e2.trans e1.symm) (P j i h2 h1 z)
structure GR (H0 H:Hp) (rs:List Addr) (T:List (List V)):Prop where
 nr:∀ r ∈ rs,H0 r = none
 nd:rs.Nodup
 len:rs.length = T.length
 row:∀ (i:Nat) (r:Addr) (xs:List V),rs[i]? = some r -> T[i]? = some xs -> H r = some (.lst xs)
section
variable {H0 H H':Hp} {rs:List Addr} {T:List (List V)} {r l:Addr}
theorem Grow.put99 (g:Grow [] H0 H) (h:H0 r = none) (o:HO):Grow [] H0 (upd H r o) :=
 ⟨fun b u hb q=>by rw [zm (zq q h)]; exact g.keep b u hb q,fun b u q=>by rw [zm (zq q h)]; exact g.tup b u q,fun b u v q=>by rw [zm (zq q h)]; exact g.frz b u v q⟩
theorem GR.nil:GR H0 H [] []:=⟨nofun,List.nodup_nil,rfl,nofun⟩
theorem GR.grow (h:GR H0 H rs T) (g:Grow [] H H'):GR H0 H' rs T:=⟨h.nr,h.nd,h.len,fun i r xs a b=>g.keep _ _ (by simp) (h.row i r xs a b)⟩
theorem GR.ex (h:GR H0 H rs T) (hr:r ∈ rs):∃ xs,H r = some (.lst xs):=by
 obtain ⟨i,hi,rfl⟩:=List.getElem_of_mem hr
 have hj:i < T.length:=by have:=h.len; omega
 exact ⟨T[i],h.row i _ _ (List.getElem?_eq_getElem hi) (List.getElem?_eq_getElem hj)⟩
theorem GR.away (h:GR H0 H rs T) (hr:r ∉ rs) (o:HO):GR H0 (upd H r o) rs T :=
 ⟨h.nr,h.nd,h.len,fun i b xs p q=>by rw [zm (fun z=>hr (by rw [← z]; exact List.mem_of_getElem? p))]; exact h.row i b xs p q⟩
theorem GR.ne (h:GR H0 H rs T) (hl:H l = none):l ∉ rs:=fun z=>by
 obtain ⟨xs,e⟩:=h.ex z
 rw [hl] at e; cases e
theorem GR.new (g:Grow [] H0 H) (h:GR H0 H rs T) (hl:H l = none) (xs:List V):GR H0 (upd H l (.lst xs)) (rs ++ [l]) (T ++ [xs]):=by
 have hn:=h.ne hl
 have hl0:=h.len
 refine ⟨fun r hr=>?_,?_,by simp [h.len],fun i r ys a b=>?_⟩
 ·rcases List.mem_append.mp hr with z | z
  ·exact h.nr r z
  ·rw [List.mem_singleton.mp z]; exact g.free (by simp) hl
 ·rw [List.nodup_append]
  exact ⟨h.nd,by simp,fun a ha b hb e=>hn (by rw [List.mem_singleton.mp hb] at e; exact e ▸ ha)⟩
 ·by_cases c:i < rs.length
  ·rw [List.getElem?_append_left c] at a
   rw [List.getElem?_append_left (by omega)] at b
   rw [zm (fun z=>hn (by rw [← z]; exact List.mem_of_getElem? a))]; exact h.row i r ys a b
  ·by_cases e:i = rs.length
   ·subst e
    rw [List.getElem?_append_right (Nat.le_refl _),Nat.sub_self] at a
    rw [List.getElem?_append_right (by omega),h.len,Nat.sub_self] at b
    cases a; cases b
    exact zc
   ·rw [List.getElem?_eq_none (by simp; omega)] at a; cases a
theorem GR.set (h:GR H0 H rs T) {i:Nat} (hi:rs[i]? = some r) (xs:List V):GR H0 (upd H r (.lst xs)) rs (T.set i xs):=by
 refine ⟨h.nr,h.nd,by rw [List.length_set]; exact h.len,fun j b ys p q=>?_⟩
 by_cases c:j = i
 ·subst c
  rw [hi] at p; cases p
  have hj:j < T.length:=by have:=h.len; have:=(List.getElem?_eq_some_iff.mp hi).1; omega
  rw [List.getElem?_set_self hj] at q; cases q
  exact zc
 ·rw [List.getElem?_set_ne (fun z=>c z.symm)] at q
  have hb:b ≠ r:=fun z=>c (jN h.nd p (z ▸ hi))
  rw [zm hb]; exact h.row j b ys p q
theorem GR.lr {K:FG7} {T:List (List Int)} (h:GR H0 H rs (T.map (·.map V.int))) (hl:H l = some (.lst (rs.map V.ref))):LrAt K H (.ref l) T:=by
 refine ⟨l,_,rfl,hl,AllR.of_get (by rw [List.length_map,h.len,List.length_map]) fun i v hv=>?_⟩
 rw [List.getElem?_map] at hv
 obtain ⟨r,hr,rfl⟩:=Option.map_eq_some_iff.mp hv
 have hi:=(List.getElem?_eq_some_iff.mp hr).1
 have ln:=h.len
 rw [List.length_map] at ln
 have ht:T[i]? = some T[i]:=List.getElem?_eq_getElem (by omega)
 exact ⟨_,ht,r,rfl,h.row i r _ hr (by rw [List.getElem?_map,ht]; rfl)⟩
end
def atC (CL:List (List Addr)) (s l:Nat):Option Addr:=(CL.getD s [])[l]?
structure CR (H0 H:Hp) (rs:List Addr) (CL:List (List Addr)) (f:Nat -> Nat -> List Int):Prop where
 rows:GR H0 H rs (CL.map fun cs=>cs.map V.ref)
 nc:∀ s l c,atC CL s l = some c -> H0 c = none /\ c ∉ rs
 inj:∀ s l s' l' c,atC CL s l = some c -> atC CL s' l' = some c -> s = s' /\ l = l'
 val:∀ s l c,atC CL s l = some c -> H c = some (.lst ((f s l).map V.int))
section
variable {H0 H H1 H2 H':Hp} {rs cs:List Addr} {CL:List (List Addr)} {f:Nat -> Nat -> List Int} {r l:Addr}
theorem qE {s l:Nat} {c:Addr} (h:atC [] s l = some c):False:=by cases s <;> cases h
theorem CR.nil:CR H0 H [] [] f:=⟨.nil,fun s l c h=>(qE h).elim,fun s l s' l' c h=>(qE h).elim,fun s l c h=>(qE h).elim⟩
theorem CR.grow (h:CR H0 H rs CL f) (g:Grow [] H H'):CR H0 H' rs CL f:=⟨h.rows.grow g,h.nc,h.inj,fun s l c e=>g.keep _ _ (by simp) (h.val s l c e)⟩
theorem vW {s l:Nat} {c:Addr} (h:atC (CL ++ [cs]) s l = some c):atC CL s l = some c \/ s = CL.length /\ cs[l]? = some c:=by
 unfold atC at h ⊢
 rw [List.getD_eq_getElem?_getD] at h
 by_cases z:s < CL.length
 ·rw [List.getElem?_append_left z,← List.getD_eq_getElem?_getD] at h
  exact .inl h
 ·by_cases e:s = CL.length
  ·subst e
   rw [List.getElem?_append_right (Nat.le_refl _),Nat.sub_self] at h
   exact .inr ⟨rfl,h⟩
  ·rw [List.getElem?_eq_none (l:=CL ++ [cs]) (i:=s) (by rw [List.length_append,List.length_singleton]; omega)] at h; cases h
theorem CR.new {n:Nat} (g1:Grow [] H0 H1) (h:CR H0 H1 rs CL fun _ _=>[]) (g2:Grow [] H1 H2) (b:GR H1 H2 cs (List.replicate n [])) (hl:H2 l = none):CR H0 (upd H2 l (.lst (cs.map V.ref))) (rs ++ [l]) (CL ++ [cs]) fun _ _=>[]:=by
 have h2:=h.grow g2
 have ln:=h2.rows.ne hl
 have lc:=b.ne hl
 have l0:H1 l = none:=g2.free (by simp) hl
 have cn:∀ {c},c ∈ cs -> H0 c = none /\ c ∉ rs /\ c ≠ l:=fun {c} hc=>by
  have c1:=b.nr c hc
  exact ⟨g1.free (by simp) c1,h.rows.ne c1,fun z=>lc (z ▸ hc)⟩
 have on:∀ {s l' c},atC CL s l' = some c -> c ≠ l /\ c ∉ cs:=fun {s l' c} hc=>by
  have c1:=h.val s l' c hc
  exact And.intro (fun z=>by rw [z,l0] at c1; cases c1) (fun z=>by rw [b.nr c z] at c1; cases c1)
 refine ⟨?_,fun s l' c e=>?_,fun s l' s' l2 c e e'=>?_,fun s l' c e=>?_⟩
 ·have:=GR.new (g1.trans g2) h2.rows hl (cs.map V.ref)
  rw [List.map_append]; exact this
 ·rcases vW e with z | ⟨_,z⟩
  ·have:=h.nc s l' c z
   exact ⟨this.1,fun w=>by
    rcases List.mem_append.mp w with u | u
    ·exact this.2 u
    ·exact (on z).1 (List.mem_singleton.mp u)⟩
  ·have:=cn (List.mem_of_getElem? z)
   exact ⟨this.1,fun w=>by
    rcases List.mem_append.mp w with u | u
    ·exact this.2.1 u
    ·exact this.2.2 (List.mem_singleton.mp u)⟩
 ·rcases vW e with z | ⟨a1,z⟩ <;> rcases vW e' with z' | ⟨a2,z'⟩
  ·exact h.inj s l' s' l2 c z z'
  ·exact absurd (List.mem_of_getElem? z') (on z).2
  ·exact absurd (List.mem_of_getElem? z) (on z').2
  ·exact ⟨a1.trans a2.symm,jN b.nd z z'⟩
 ·rcases vW e with z | ⟨_,z⟩
  ·rw [zm (on z).1]; exact h2.val s l' c z
  ·rw [zm (cn (List.mem_of_getElem? z)).2.2]
   have hi:=(List.getElem?_eq_some_iff.mp z).1
   exact b.row l' c [] z (by rw [List.getElem?_replicate,if_pos (by have:=b.len; rw [List.length_replicate] at this; omega)])
theorem CR.put {s0 l0:Nat} {c:Addr} (h:CR H0 H rs CL f) (hc:atC CL s0 l0 = some c) (xs:List Int):CR H0 (upd H c (.lst (xs.map V.int))) rs CL fun s l=>if s = s0 /\ l = l0 then xs else f s l:=by
 refine ⟨h.rows.away (h.nc _ _ _ hc).2 _,h.nc,h.inj,fun s l b e=>?_⟩
 by_cases z:s = s0 /\ l = l0
 ·obtain ⟨rfl,rfl⟩:=z
  rw [hc] at e; cases e
  rw [if_pos ⟨rfl,rfl⟩]; exact zc
 ·rw [if_neg z,zm (fun w=>z (by subst w; exact h.inj s l s0 l0 _ e hc))]; exact h.val s l b e
theorem CR.congr {f':Nat -> Nat -> List Int} (h:CR H0 H rs CL f) (e:∀ s l c,atC CL s l = some c -> f s l = f' s l):CR H0 H rs CL f' :=
 ⟨h.rows,h.nc,h.inj,fun s l c q=>by rw [← e s l c q]; exact h.val s l c q⟩
end
def duR (k:Nat) (ks:List Ask) (a:Ask) (j:Nat):List (List Int):=(List.range (k + 1)).map fun s=>(List.range (2 ^ k)).map fun l=>yF ((ks ++ if s < j then [a] else []).map fun a=>zE k a.hand.toNat (a.box.toNat % 2 ^ k) s) l
theorem WU {k:Nat} {ks:List Ask} {a:Ask}:duR k ks a 0 = plR k ks:=by
 unfold duR plR
 refine List.map_congr_left fun s _=>List.map_congr_left fun l _=>?_
 rw [if_neg (Nat.not_lt_zero s),List.append_nil]
theorem V3 {k:Nat} {ks:List Ask} {a:Ask}:duR k ks a (k + 1) = plR k (ks ++ [a]):=by
 unfold duR plR
 refine List.map_congr_left fun s hs=>List.map_congr_left fun l _=>?_
 rw [if_pos (List.mem_range.mp hs)]
theorem V4 {k:Nat}:plR k [] = List.replicate (k + 1) (List.replicate (2 ^ k) 0):=by
 unfold plR
 refine List.ext_getElem (by simp) fun s h1 h2=>?_
 rw [List.getElem_map,List.getElem_replicate]
 refine List.ext_getElem (by simp) fun l h3 h4=>?_
 rw [List.getElem_map,List.getElem_replicate]; rfl
theorem WV {k:Nat} {ks:List Ask} {a:Ask} {j s:Nat} (hs:s <= k):(duR k ks a j)[s]? = some ((List.range (2 ^ k)).map fun l=>yF ((ks ++ if s < j then [a] else []).map fun a=>zE k a.hand.toNat (a.box.toNat % 2 ^ k) s) l):=by
 unfold duR
 rw [List.getElem?_map,List.getElem?_range (by omega)]; rfl
theorem WW {k:Nat} {ks:List Ask} {a:Ask} {j l:Nat} (hj:j <= k) (hl:zE k a.hand.toNat (a.box.toNat % 2 ^ k) j = (l:Int)) (h2:l < 2 ^ k) {row:List Int} (hr:(duR k ks a j)[j]? = some row) :
  ∃ n,row[l]? = some n /\ (duR k ks a j).set j (row.set l (n + 1)) = duR k ks a (j + 1):=by
 rw [WV hj,if_neg (Nat.lt_irrefl j),List.append_nil] at hr
 cases hr
 refine ⟨_,by rw [List.getElem?_map,List.getElem?_range h2]; rfl,?_⟩
 refine List.ext_getElem? fun s=>?_
 by_cases c:s = j
 ·subst c
  rw [List.getElem?_set_self (by unfold duR; rw [List.length_map,List.length_range]; omega),WV hj,if_pos (Nat.lt_succ_self s)]
  congr 1
  refine List.ext_getElem? fun i=>?_
  by_cases ci:i = l
  ·subst ci
   rw [List.getElem?_set_self (by rw [List.length_map,List.length_range]; exact h2),List.getElem?_map,List.getElem?_range h2,Option.map_some]
   congr 1
   show yF _ i + 1 = yF _ i
   unfold yF
   rw [List.map_append,List.countP_append,List.map_cons,List.map_nil,List.countP_cons,List.countP_nil,hl,decide_eq_true rfl,if_pos rfl]
   omega
  ·rw [List.getElem?_set_ne (fun z=>ci z.symm),List.getElem?_map,List.getElem?_map]
   by_cases hi:i < 2 ^ k
   ·rw [List.getElem?_range hi,Option.map_some,Option.map_some]
    congr 1
    unfold yF
    rw [List.map_append,List.countP_append,List.map_cons,List.map_nil,List.countP_cons,List.countP_nil,hl,decide_eq_false (fun z=>ci (by omega)),if_neg Bool.false_ne_true]; rfl
   ·rw [List.getElem?_eq_none (by rw [List.length_range]; omega)]; rfl
 ·rw [List.getElem?_set_ne (fun z=>c z.symm)]
  unfold duR
  rw [List.getElem?_map,List.getElem?_map]
  by_cases hs:s < k + 1
  ·rw [List.getElem?_range hs,Option.map_some,Option.map_some]
   by_cases z:s < j
   ·rw [if_pos z,if_pos (by omega)]
   ·rw [if_neg z,if_neg (by omega)]
  ·rw [List.getElem?_eq_none (by rw [List.length_range]; omega)]; rfl
def unF (k:Nat) (ks:List Ask) (a:Ask) (j:Nat) (s l:Nat):List Int:=dedI (xi k (ks ++ if s < j then [a] else []) s l)
theorem XJ {ns:List Int} {b:Int}:dedI (ns ++ [b]) = step_dedup (dedI ns) b:=by
 unfold dedI; rw [List.foldl_append]; rfl
theorem WX {k:Nat} {ks:List Ask} {a:Ask} {j l:Nat} (hl:zE k a.hand.toNat ((a.box.toNat % 2 ^ k:Nat):Int) j = (l:Int)):∀ s l',unF k ks a (j + 1) s l' = if s = j /\ l' = l then step_dedup (unF k ks a j j l) a.box else unF k ks a j s l':=by
 intro s l'
 unfold unF
 by_cases c:s = j
 ·subst c
  rw [if_pos (Nat.lt_succ_self s),if_neg (Nat.lt_irrefl s),List.append_nil,Zp,hl]
  by_cases c2:l' = l
  ·subst c2
   rw [if_pos rfl,if_pos ⟨rfl,rfl⟩,XJ]
  ·rw [if_neg (fun z=>c2 (by omega)),if_neg (fun z=>c2 z.2),List.append_nil]
 ·rw [if_neg (c:=s = j /\ l' = l) (fun z=>c z.1)]
  by_cases z:s < j
  ·rw [if_pos (c:=s < j + 1) (by omega),if_pos z]
  ·rw [if_neg (c:=s < j + 1) (by omega),if_neg z]
def YK (K:FG7):R2:=fun x y H Q=>(x = .non /\ y = .non /\ Q (.bl false) H) \/ WC K false x y H Q
theorem XL {X:Cx} {K:FG7} {k:Nat} (hK:X.K = K) (hr:Room k X.A):OpR X (compareOp .NotEq) (YK K):=by
 intro pins s σ H x y u v Q I rx ry h
 rcases h with ⟨rfl,rfl,q⟩ | h
 ·exact rY pins s σ H _ _ u v Q I rx ry ⟨rfl,q⟩
 ·exact Yg hK hr pins s σ H _ _ u v Q I rx ry h
theorem rB {K:FG7} {H:Hp} {x y:V} {o:Option (Nat × Int)} {Q:VK} (a:vt K H x o) (b:vt K H y o) (q:Q (.bl false) H):YK K x y H Q:=by
 cases o with
 | none=>exact .inl ⟨a,b,q⟩
 | some p =>
  obtain ⟨l,v⟩:=p
  obtain ⟨r,rfl,hr⟩:=a
  obtain ⟨r',rfl,hr'⟩:=b
  exact .inr ⟨.tuple ([(l:Int),v].map PyData.int),.tup hr (um [(l:Int),v]),.tup hr' (um [(l:Int),v]),⟨_,rfl⟩,(by show PyData.depthAll ([(l:Int),v].map PyData.int) + 1 <= 100; rw [vV]; decide),q⟩
def xW (K:FG7):Sp:=sp3 fun x y z H Q=>∃ (k:Nat) (b:List Int) (ks:List Ask),x = .int k /\ k <= 4 /\ zy K H y b /\ b.length = 16 /\ xu K H z ks /\ ks.length <= 16 /\ RndOk k 16 ks /\ ∀ H',Grow [] H H' -> Q (.bl true) H'
def lrD (rows:List (List Int)):PyData:=.list (rows.map fun r=>.list (r.map PyData.int))
theorem jO {K:FG7} {H:Hp}:∀ {xs:List V} {T:List (List Int)},AllR (fun v row=>∃ r,v = .ref r /\ H r = some (.lst (row.map V.int))) xs T -> DqAll K H xs (T.map fun r=>.list (r.map PyData.int))
 | [],[],_=>.nil
 | _ :: _,_ :: _,⟨⟨r,e,h⟩,t⟩=>by subst e; exact .cons (.lst (SqL.of h) (um _)) (jO t)
 | [],_ :: _,h=>h.elim
 | _ :: _,[],h=>h.elim
theorem YL {K:FG7} {H:Hp} {x:V} {T:List (List Int)} (h:LrAt K H x T):Dq K H x (lrD T):=by
 obtain ⟨l,xs,rfl,h,t⟩:=h
 exact .lst (SqL.of h) (jO t)
theorem rC:∀ rows:List (List Int),PyData.depthAll (rows.map fun r=>PyData.list (r.map PyData.int)) <= 1
 | []=>Nat.zero_le _
 | r :: rows=>by
  show max (PyData.depthAll (r.map PyData.int) + 1) (PyData.depthAll (rows.map fun r=>PyData.list (r.map PyData.int))) <= 1
  have:=rC rows
  rw [vV]; omega
theorem XM (rows:List (List Int)):(lrD rows).depth <= 2:=Nat.succ_le_succ (rC rows)
theorem Grow.lr99 {K:FG7} {H H':Hp} (g:Grow [] H H') {x:V} {T:List (List Int)} (h:LrAt K H x T):LrAt K H' x T:=by
 obtain ⟨l,xs,rfl,h,t⟩:=h
 exact ⟨l,xs,rfl,g.keep _ _ (by simp) h,t.imp fun _ _ ⟨r,e,z⟩=>⟨r,e,g.keep _ _ (by simp) z⟩⟩
def Zq (a:Ask):Int × Int:=(a.hand,a.box)
def wJ (gs:List Nat) (n:Nat) (ks:List Ask):Prop:=ks.map Zq = ((List.range n).map fun i:Nat=>((i:Int),((gs.getD i 0:Nat):Int))) /\ ∀ a ∈ ks,a.deed.Ok
theorem wJ.snoc {gs:List Nat} {n:Nat} {ks:List Ask} (h:wJ gs n ks) {a:Ask} (e:Zq a = ((n:Int),((gs.getD n 0:Nat):Int))) (ok:a.deed.Ok):wJ gs (n + 1) (ks ++ [a]):=by
 refine ⟨?_,fun b hb=>?_⟩
 ·rw [List.map_append,h.1,List.range_succ,List.map_append,List.map_cons,List.map_nil,e]; rfl
 ·rcases List.mem_append.mp hb with z | z
  ·exact h.2 b z
  ·rw [List.mem_singleton.mp z]; exact ok
theorem wJ.len {gs:List Nat} {n:Nat} {ks:List Ask} (h:wJ gs n ks):ks.length = n:=by
 have:=congrArg List.length h.1
 rw [List.length_map,List.length_map,List.length_range] at this; exact this
theorem wJ.mem {gs:List Nat} {n:Nat} {ks:List Ask} (h:wJ gs n ks) {a:Ask} (ha:a ∈ ks):∃ i:Nat,i < n /\ a.hand = (i:Int) /\ a.box = ((gs.getD i 0:Nat):Int):=by
 have:Zq a ∈ ks.map Zq:=List.mem_map_of_mem ha
 rw [h.1] at this
 obtain ⟨i,hi,e⟩:=List.mem_map.mp this
 exact ⟨i,List.mem_range.mp hi,(congrArg Prod.fst e).symm,(congrArg Prod.snd e).symm⟩
theorem wJ.rnd {k:Nat} {gs:List Nat} {ks ks':List Ask} (h:wJ gs gs.length ks) (hl:gs.length = 2 ^ k) (hg:∀ g ∈ gs,g < 16) (pm:ks'.Perm ks):RndOk k 16 ks' /\ (plOf (gs.map (· % 2 ^ k))).Perm (xA k ks'):=by
 have R:RndOk k 16 ks:=by
  refine ⟨?_,fun a ha=>?_,fun a ha=>?_,h.2⟩
  ·have e:ks.map (·.hand) = (ks.map Zq).map Prod.fst:=by rw [List.map_map]; rfl
   rw [e,h.1,List.map_map]
   exact List.Pairwise.map _ (fun i j hij z=>hij (Int.ofNat.inj z)) (List.nodup_range (n:=gs.length))
  ·obtain ⟨i,hi,e,_⟩:=h.mem ha
   rw [e]
   have hi2:i < 2 ^ k:=by omega
   exact ⟨Int.natCast_nonneg i,by exact_mod_cast hi2⟩
  ·obtain ⟨i,hi,_,e⟩:=h.mem ha
   have:=hg (gs.getD i 0) (by rw [List.getD_eq_getElem?_getD,List.getElem?_eq_getElem hi]; exact List.getElem_mem hi)
   rw [e]; omega
 refine ⟨R.perm47 pm,?_⟩
 refine List.Perm.trans ?_ (pm.map _).symm
 have e:(ks.map fun a=>(a.hand.toNat,a.box.toNat % 2 ^ k)) = (ks.map Zq).map fun p=>(p.1.toNat,p.2.toNat % 2 ^ k):=by rw [List.map_map]; rfl
 rw [e,h.1,List.map_map]
 unfold plOf
 rw [List.length_map]
 refine List.Perm.of_eq (List.map_congr_left fun i hi=>?_)
 have hi':=List.mem_range.mp hi
 show (i,(gs.map (· % 2 ^ k)).getD i 0) = (((i:Nat):Int).toNat,((gs.getD i 0:Nat):Int).toNat % 2 ^ k)
 rw [List.getD_eq_getElem?_getD,List.getElem?_map,List.getD_eq_getElem?_getD,List.getElem?_eq_getElem hi']; rfl
theorem RndOk.take99 {k m:Nat} {ks:List Ask} (R:RndOk k m ks) (n:Nat):RndOk k m (ks.take n) :=
 ⟨by rw [List.map_take]; exact List.Sublist.nodup (List.take_sublist _ _) R.nd,fun a ha=>R.hand a (List.mem_of_mem_take ha),fun a ha=>R.box a (List.mem_of_mem_take ha),fun a ha=>R.ok a (List.mem_of_mem_take ha)⟩
theorem rD {k m:Nat} {ks:List Ask} (R:RndOk k m ks) (k4:k <= 4) {a:Ask} (ha:a ∈ ks) {s:Nat} (sk:s <= k):∃ l:Nat,zE k a.hand.toNat ((a.box.toNat % 2 ^ k:Nat):Int) s = (l:Int) /\ l < 2 ^ k:=by
 have p:=zU k4
 have ha':=yj R ha
 have hg:a.box.toNat % 2 ^ k < 2 ^ k:=y0
 have W:=((xL ⟨k,by omega⟩ ⟨a.hand.toNat,by omega⟩ ⟨a.box.toNat % 2 ^ k,by omega⟩ ha' hg).2.2 ⟨s,by omega⟩ sk).1
 exact ⟨_,W.1,W.2⟩
theorem jP {k h g i:Nat} {v:V} (hv:((zO k h g).map V.int)[i]? = some v):i <= k /\ v = .int (zE k h g i):=by
 unfold zO at hv
 rw [List.getElem?_map,List.getElem?_map] at hv
 by_cases hi:i < k + 1
 ·rw [List.getElem?_range hi] at hv
  cases hv
  exact ⟨by omega,rfl⟩
 ·rw [List.getElem?_eq_none (by rw [List.length_range]; omega)] at hv; cases hv
theorem yO {α:Type} {ks:List α} {i:Nat} {a:α} (h:ks[i]? = some a):ks.take (i + 1) = ks.take i ++ [a]:=by
 rw [List.take_add_one,h]; rfl
theorem uz {b:Int} (h:0 <= b) (k:Nat):b % (1 * 2 ^ ((k:Int)).toNat) = ((b.toNat % 2 ^ k:Nat):Int):=by
 obtain ⟨n,rfl⟩:=Int.eq_ofNat_of_zero_le h
 rw [yL]; rfl
theorem jQ {k:Nat} {ks:List Ask}:(plR k ks).length = k + 1:=by unfold plR; rw [List.length_map,List.length_range]
theorem YM {k:Nat} {ks:List Ask} {a:Ask}:∀ s l,unF k ks a 0 s l = dedI (xi k ks s l):=fun s l=>by
 unfold unF; rw [if_neg (Nat.not_lt_zero s),List.append_nil]
theorem XN {k:Nat} {ks:List Ask} {a:Ask} {s l:Nat} (hs:s <= k):unF k ks a (k + 1) s l = dedI (xi k (ks ++ [a]) s l):=by
 unfold unF; rw [if_pos (by omega)]
theorem WY {k:Nat} {ks:List Ask} {s l:Nat}:(dedI (xi k ks s l)).length <= ks.length:=by
 have D:=XH (xi k ks s l)
 refine Nat.le_trans (xV D.1 fun x hx=>(D.2 x).mp hx) ?_
 unfold xi
 rw [List.length_map]; exact List.length_filter_le _ _
theorem WZ {k:Nat} {ks:List Ask} {a:Ask} {j s l:Nat}:(unF k ks a j s l).length <= ks.length + 1:=by
 unfold unF
 refine Nat.le_trans WY ?_
 split <;> simp
theorem XO {ns:List Int} {b:Int} (h:b ∈ ns):step_dedup ns b = ns:=by
 unfold step_dedup
 rw [if_pos (List.any_eq_true.mpr ⟨b,h,by simp⟩)]
theorem YN {ns:List Int} {b:Int} (h:b ∉ ns):step_dedup ns b = ns ++ [b]:=by
 unfold step_dedup
 rw [if_neg (fun z=>by obtain ⟨y,hy,e⟩:=List.any_eq_true.mp z; rw [beq_iff_eq] at e; exact h (e ▸ hy))]
theorem W0 {k m i:Nat} {ks:List Ask} (hi:i <= k):(jlR k ks m)[i]? = some ((List.range (2 ^ k)).map fun l=>jcB k ks m i l):=by
 unfold jlR
 rw [List.getElem?_map,List.getElem?_range (by omega)]; rfl
theorem tY {k m:Nat} {ks:List Ask}:(jlR k ks m).length = k + 1:=by unfold jlR; rw [List.length_map,List.length_range]
theorem CR.lens {H0 H:Hp} {rs:List Addr} {CL:List (List Addr)} {f:Nat -> Nat -> List Int} (h:CR H0 H rs CL f):rs.length = CL.length:=by
 have:=h.rows.len
 rw [List.length_map] at this; exact this
theorem jR {CL:List (List Addr)} {s l:Nat} (hs:s < CL.length) (hl:l < CL[s].length):atC CL s l = some (CL[s])[l]:=by
 unfold atC
 rw [List.getD_eq_getElem?_getD,List.getElem?_eq_getElem hs]
 exact List.getElem?_eq_getElem hl
theorem rE {c:Bool} {K:FG7} {a:Addr} {xs:List V} {g:TG} {te:TE} {Q:VK} {σ:L2.St} {H:Hp} (Pv:Nat -> List V -> L2.St -> Hp -> Prop) (h0:Pv 0 [] σ H) (hl:∀ i zs σ H,Pv i zs σ H -> SqC c K H a xs)
  (hs:∀ i x zs σ H T,xs[i]? = some x -> Pv i zs σ H -> H T = none -> g (.ref T) σ (upd H T (.tup [.int i,x])) fun σ2 H3=>te σ2 H3 fun y H5=>zs.length < sizeLine /\ Pv (i + 1) (zs ++ [y]) σ2 H5)
  (hd:∀ zs σ H,Pv xs.length zs σ H -> ∀ l,H l = none -> Q (.ref l) (upd H l (.lst zs))):xE (IteC c K a) σ H g vq te Q:=u6 Pv h0 hl (fun i x zs σ H T hx hp hT=>hs i x zs σ H T hx hp hT) hd
end L3
namespace My
open PySem PySem.Spec PyProof.Rows L2 L3
def top (i:Nat):Stmt:=PySem.Challenge.pw_joinedasks_k99_whole_loads_and_settings.main.body.getD i (.Pass ⟨0,0,0,0⟩)
section
variable {P:Program} {w:World} {K:FG7} {mg:Str -> Option Value} {base:Heap} {n:Nat} {f:Addr} {fd:FuncData}
theorem vP:FnScope ["_law_told","_law_due_here"] ["_law_told","_law_due_here"] (zf (top 72)):=⟨rfl,rfl,rfl,by decide +kernel,rfl,by decide +kernel,by decide +kernel⟩
theorem vQ (F:Fun K "_law_are_rows" "_law_are_rows" (top 72) f fd) (B:Blt mg)  (g_any:mg "any" = none)   :
  FnOk P w K mg base CX0 (n + 1) f fd ["_law_told","_law_due_here"] (uy K):=by
 refine F.ok vP zB (fun cdv A outer s H vs Q E hr h=>?_)
 obtain ⟨x,y,rfl,k,T,hx,hy,k4,hld,q⟩:=h
 refine ⟨_,(zd (yc (PW.pt (vM (yf (zW (zl yr rfl B.isinstance zA (za (pv 0) (za (xr rfl B.tuple zG) zb))))) (xZ (yf (zW (zl (yW rfl) rfl B.all sG (za (zt (CSc.of (N':=["_law_row"]) (sub:=[none]) (zf (top 72)) ["_law_told","_law_due_here"] rfl rfl (by decide +kernel) rfl) rfl (ym (pv 0)) (fun _ _ _ _ _ _=>zi (i:=0) (show (["_law_row"]:List Str).Nodup by decide +kernel) rfl (Or.inl rfl)) (fun _ _ _ _ _ _=>zo) (fun _ _ _ _ _ _=>(zl (ue (K:=K) rfl) rfl B.isinstance zA (za (pv 0) (za (xr rfl B.tuple zG) zb))))) zb))))))) (zh (zn wD)) zv) (zd (yc (zW (zl (sN rfl) rfl g_any Vp (za (zt (CSc.of (N':=["_law_row"]) (sub:=[none]) (zf (top 72)) ["_law_told","_law_due_here"] rfl rfl (by decide +kernel) rfl) rfl (ym (pv 0)) (fun _ _ _ _ _ _=>zi (i:=0) (show (["_law_row"]:List Str).Nodup by decide +kernel) rfl (Or.inl rfl)) (fun _ _ _ _ _ _=>zo) (fun _ _ _ _ _ _=>(zl (qD (K:=K) rfl rfl) rfl g_any Vp (za (zt (CSc.nest (N2:=["_law_one"]) (sub2:=[none]) (CSc.of (N':=["_law_row"]) (sub:=[none]) (zf (top 72)) ["_law_told","_law_due_here"] rfl rfl (by decide +kernel) rfl) rfl (by decide +kernel) rfl) rfl (Wu (K:=K) rfl (pv 0)) (fun _ _ _ _ _ _=>zi (i:=0) (show (["_law_one"]:List Str).Nodup by decide +kernel) rfl (Or.inl rfl)) (fun _ _ _ _ _ _=>zo) (fun _ _ _ _ _ _=>(zl (ue (K:=K) rfl) rfl B.isinstance zA (za (pv 0) (za (xr rfl B.bool XW) zb))))) zb)))) zb))) (zh (zn wD)) zv) (zh (zn (xy (VI (K:=K) rfl hr) (zt (CSc.of (N':=["_law_row"]) (sub:=[none]) (zf (top 72)) ["_law_told","_law_due_here"] rfl rfl (by decide +kernel) rfl) rfl (ym (pv 0)) (fun _ _ _ _ _ _=>zi (i:=0) (show (["_law_row"]:List Str).Nodup by decide +kernel) rfl (Or.inl rfl)) (fun _ _ _ _ _ _=>zo) (fun _ _ _ _ _ _=>(zD (j8 (K:=K) rfl) rfl B.list jf (za (pv 0) zb)))) (pv 1) (zH _)))))),?_⟩
 obtain ⟨rt,xs,rfl,hrt,hxs⟩:=hx
 have xl:=hxs.len
 have tl:=hld.1
 refine ⟨_,rfl,_,_,_,true,rfl,.inl ⟨rfl,_,hrt⟩,rfl,_,rfl,iteF ?_⟩
 refine ⟨_,rfl,rt,rfl,⟨_,hrt⟩,yC (fun _=>V.bl true) hrt (by omega) ?_ ?_⟩
 ·intro v H2 R hv g kk
  obtain ⟨i,hi⟩:=List.getElem?_of_mem hv
  obtain ⟨row,hrow,rr,rfl,hrr⟩:=hxs.get hi
  exact ⟨_,rfl,_,_,_,true,rfl,.inl ⟨rfl,_,g.sqT hrr⟩,rfl,kk _ (Grow.refl _ _)⟩
 intro H2 p g hp
 refine ⟨p,xs.map (fun _=>true),rfl,SqL.of (by rw [zc,List.map_map]; rfl),_,rfl,yX (by rw [List.all_eq_true.mpr (fun x hx=>by obtain ⟨_,_,rfl⟩:=List.mem_map.mp hx; rfl)]; rfl) ?_⟩
 have g2:=g.trans (Grow.new (m:=[]) hp (.lst (xs.map fun _=>V.bl true)))
 generalize upd H2 p _ = H3 at g2 ⊢
 have hrt3:=g2.sqT hrt
 refine ⟨_,rfl,rt,rfl,⟨_,hrt3⟩,yC (fun _=>V.bl false) hrt3 (by omega) ?_ ?_⟩
 ·intro v H4 R hv g4 kk
  obtain ⟨i,hi⟩:=List.getElem?_of_mem hv
  obtain ⟨row,hrow,rr,rfl,hrr⟩:=hxs.get hi
  have rl:=hld.2 row (List.mem_of_getElem? hrow)
  have p16:=zU k4
  have hrr4:=(g2.trans g4).sqT hrr
  refine ⟨_,rfl,rr,rfl,⟨_,hrr4⟩,yC (fun _=>V.bl false) hrr4 (by rw [List.length_map]; omega) ?_ ?_⟩
  ·intro u H5 R5 hu g5 kk5
   obtain ⟨n,_,rfl⟩:=List.mem_map.mp hu
   exact ⟨_,rfl,_,_,_,false,rfl,rfl,rfl,kk5 _ (Grow.refl _ _)⟩
  intro H5 p5 g5 hp5
  refine ⟨p5,(row.map V.int).map (fun _=>false),rfl,SqL.of (by rw [zc,List.map_map,List.map_map,List.map_map]; rfl),?_⟩
  rw [show ((row.map V.int).map fun _=>false).any id = false from by rw [List.any_eq_false]; intro x hx; obtain ⟨_,_,rfl⟩:=List.mem_map.mp hx; simp]
  exact kk _ (g5.trans (Grow.new hp5 _))
 intro H4 p4 g4 hp4
 refine ⟨p4,xs.map (fun _=>false),rfl,SqL.of (by rw [zc,List.map_map]; rfl),_,rfl,yX (by rw [List.any_eq_false]; intro x hx; obtain ⟨_,_,rfl⟩:=List.mem_map.mp hx; simp) ?_⟩
 have g5:=g2.trans (g4.trans (Grow.new (m:=[]) hp4 (.lst (xs.map fun _=>V.bl false))))
 generalize upd H4 p4 _ = H5 at g5 ⊢
 refine ⟨_,rfl,rt,rfl,⟨_,g5.sqT hrt⟩,rj (fun i ys H'=>Grow [] H H' /\ ys.length = i /\ AllR (fun v row=>∃ r,v = .ref r /\ H' r = some (.lst (row.map V.int))) ys (T.take i)) ⟨g5,rfl,trivial⟩ (fun i ys H' z=>z.1.sqT hrt) ?_ ?_⟩
 ·rintro i v ys H6 hv ⟨g6,yl,ha⟩
  obtain ⟨row,hrow,rr,rfl,hrr⟩:=hxs.get hv
  have hi:=(List.getElem?_eq_some_iff.mp hrow).1
  refine ⟨_,rfl,rr,_,rfl,.inr (g6.sqT hrr),fun l hl=>⟨by show ys.length < sizeLine; exact zp (by omega),g6.trans (Grow.new hl _),by rw [List.length_append,yl]; rfl,?_⟩⟩
  rw [yO hrow]
  exact (ha.imp fun _ _ ⟨r,e,z⟩=>⟨r,e,(Grow.new (m:=[]) hl _).keep _ _ (by simp) z⟩).app (AllR.one ⟨l,rfl,zc⟩)
 ·rintro ys H6 ⟨g6,yl,ha⟩ l hl
  rw [xl,List.take_length] at ha
  have gl:=Grow.new (m:=[]) hl (.lst ys)
  have L:LrAt K (upd H6 l (.lst ys)) (.ref l) T:=⟨l,ys,rfl,zc,ha.imp fun _ _ ⟨r,e,z⟩=>⟨r,e,gl.keep _ _ (by simp) z⟩⟩
  exact ⟨_,rfl,lrD T,YL L,YL ((g6.trans gl).lr99 hy),⟨l,rfl⟩,Nat.le_trans (XM T) (by decide),q _ (g6.trans gl)⟩
theorem YO:FnScope ["k","stage","line"] ["k","stage","line"] (zf (top 18)):=⟨rfl,rfl,rfl,by decide +kernel,rfl,by decide +kernel,by decide +kernel⟩
theorem YQ (F:Fun K "figure" "figure" (top 18) f fd) (B:Blt mg)     :
  FnOk P w K mg base CX0 (n + 1) f fd ["k","stage","line"] (wp K):=by
 refine F.ok YO yK (fun cdv A outer s H vs Q E hr h=>?_)
 obtain ⟨x,y,z,rfl,k,st,l,rfl,rfl,rfl,hs,q⟩:=h
 refine ⟨_,(zh (zn (zr ZB (zr q9 (pv 2) (zr xm (pv 0) (pv 1))) zj))),?_⟩
 exact ⟨_,rfl,_,rfl,_,rfl,_,_,rfl,rfl,_,_,rfl,rfl,(by show (0:Int) <= (k:Int) - st; omega),_,_,rfl,rfl,q⟩
theorem uM:FnScope ["k","stage","line","wanted"] ["k","stage","line","wanted"] (zf (top 19)):=⟨rfl,rfl,rfl,by decide +kernel,rfl,by decide +kernel,by decide +kernel⟩
theorem uN (F:Fun K "with_figure" "with_figure" (top 19) f fd) (B:Blt mg) (qc0:zg P w K mg base n "figure" ["k","stage","line"] (wp K))    :
  FnOk P w K mg base CX0 (n + 1) f fd ["k","stage","line","wanted"] (yS K):=by
 refine F.ok uM ud (fun cdv A outer s H vs Q E hr h=>?_)
 obtain ⟨x,y,z,u,rfl,k,st,l,w,rfl,rfl,rfl,rfl,k4,hs,l0,l1,hw,q⟩:=h
 refine ⟨_,(zh (zn (zr ja (pv 2) (zr yB (zr ja (ze qc0 hr rfl (za (pv 0) (za (pv 1) (za (pv 2) zb)))) (pv 3)) (zr xm (pv 0) (pv 1)))))),?_⟩
 have F:=figF k4 hs l0 l1
 refine ⟨_,rfl,_,rfl,_,rfl,_,rfl,_,_,_,rfl,k,st,l,rfl,rfl,rfl,hs,_,rfl,_,_,rfl,rfl,_,rfl,_,rfl,_,_,rfl,rfl,_,_,rfl,rfl,⟨by show (0:Int) <= (k:Int) - st; omega,by show (k:Int) - st <= 1000000; omega,F.2 w hw⟩,_,_,rfl,rfl,q⟩
theorem YR:FnScope ["k","stage","line","side"] ["k","stage","line","side"] (zf (top 20)):=⟨rfl,rfl,rfl,by decide +kernel,rfl,by decide +kernel,by decide +kernel⟩
theorem YS (F:Fun K "onward" "onward" (top 20) f fd) (B:Blt mg) (qc0:zg P w K mg base n "with_figure" ["k","stage","line","wanted"] (yS K)) (qc1:zg P w K mg base n "figure" ["k","stage","line"] (wp K))    :
  FnOk P w K mg base CX0 (n + 1) f fd ["k","stage","line","side"] (uf K):=by
 refine F.ok YR ud (fun cdv A outer s H vs Q E hr h=>?_)
 obtain ⟨x,y,z,u,rfl,k,st,l,s,rfl,rfl,rfl,rfl,k4,hs,l0,l1,s0,s1,q⟩:=h
 refine ⟨_,(zh (zn (ze qc0 hr rfl (za (pv 0) (za (pv 1) (za (pv 2) (za (ze qc1 hr rfl (za (pv 0) (za (pv 1) (za (pv 3) zb)))) zb))))))),?_⟩
 have F:=figF k4 hs s0 s1
 exact ⟨_,rfl,_,rfl,_,rfl,_,rfl,_,rfl,_,rfl,_,_,_,rfl,k,st,s,rfl,rfl,rfl,hs,_,_,_,_,rfl,k,st,l,_,rfl,rfl,rfl,rfl,k4,hs,l0,l1,F.1,q⟩
theorem uA:FnScope ["k","hand","side","lines","stage"] ["k","hand","side"] (zf (top 22)):=⟨rfl,rfl,rfl,by decide +kernel,rfl,by decide +kernel,by decide +kernel⟩
theorem YT (F:Fun K "way_of" "way_of" (top 22) f fd) (B:Blt mg) (qc0:zg P w K mg base n "onward" ["k","stage","line","side"] (uf K))    :
  FnOk P w K mg base CX0 (n + 1) f fd ["k","hand","side"] (vF K):=by
 refine F.ok uA yK (fun cdv A outer s H vs Q E hr h=>?_)
 obtain ⟨x,y,z,rfl,k,h0,g0,rfl,rfl,rfl,k4,hh,hg,q⟩:=h
 refine ⟨_,(zd (zu (i:=3) uA.nd rfl (Or.inl rfl) (x4 (za (pv 1) zb))) (zd (yH PassesOwn.never rfl (wR rfl B.range (za zj (za (zr yn (pv 0) zj) zb))) (zi (i:=4) uA.nd rfl (Or.inl rfl)) (zh (zI (sE PySem.F.plainAttrs_list PySem.F.slot_list_append PySem.F.type_list_append xD (pv 3) (za (ze qc0 hr rfl (za (pv 0) (za (pv 4) (za (zT zK (pv 3) (Vg XS zj) (fun _ _=>rfl)) (za (pv 2) zb))))) zb))))) (zh (zn (zD zx rfl B.tuple zG (za (pv 3) zb)))))),?_⟩
 have p:=zU k4
 refine ⟨_,rfl,szl rfl,fun l hl=>?_⟩
 have gl:Grow [l] H (upd H l (.lst [.int h0])):=Grow.new hl _
 refine ⟨_,rfl,_,_,rfl,rfl,_,_,rfl,⟨by omega,by omega,by omega,by omega⟩,xC (fun i σ H'=>∃ (ys:List Int) (e:Option V),σ = [some (.int k),some (.int h0),some (.int g0),some (.ref l),e] /\ Grow [l] H H' /\ H' l = some (.lst ((ys ++ [zE k h0 g0 i]).map V.int)) /\ ys ++ [zE k h0 g0 i] = (List.range (i + 1)).map fun n=>zE k h0 g0 n) ?_ ?_ ?_⟩
 ·have e0:zE k h0 g0 0 = h0:=(Wt k4 hh hg (n:=0) (by omega)).1.symm
  exact ⟨[],_,rfl,gl,by rw [zc,e0]; rfl,rfl⟩
 ·rintro i σ H1 hi ⟨ys,e,rfl,g,hl1,hy⟩
  have hik:i + 1 <= k:=by omega
  have F0:=Wt k4 hh hg (n:=i) (by omega)
  have F1:=Wt k4 hh hg (n:=i + 1) hik
  have hlen:(ys ++ [zE k h0 g0 i]).length = i + 1:=by rw [hy,List.length_map,List.length_range]
  refine ⟨_,rfl,.inl ⟨rfl,_,SqL.of hl1⟩,_,rfl,_,rfl,_,rfl,_,rfl,l,_,_,_,rfl,rfl,SqL.of hl1,Up,_,rfl,_,_,_,_,rfl,k,i + 1,zE k h0 g0 i,g0,rfl,congrArg V.int (by omega),rfl,rfl,k4,hik,F0.2.1,F0.2.2,by omega,by omega,?_⟩
  have ew:wfI k ((i + 1:Nat):Int) (zE k h0 g0 i) (figI k ((i + 1:Nat):Int) g0) = zE k h0 g0 (i + 1):=by
   rw [← F1.1,← F0.1,show ((i + 1:Nat):Int) = 1 + (i:Int) by omega]; rfl
  rw [ew]
  refine ⟨l,_,_,rfl,rfl,hl1,zp (by rw [List.length_map,hlen]; omega),ys ++ [zE k h0 g0 i],_,rfl,g.trans (Grow.set hl1 (by simp) _),?_,?_⟩
  ·rw [zc,List.map_append (l₂:=[zE k h0 g0 (i + 1)])]; rfl
  ·rw [List.range_succ (n:=i + 1),List.map_append,← hy]; rfl
 ·rintro σ H1 ⟨ys,e,rfl,g,hl1,hy⟩
  refine ⟨_,rfl,l,_,rfl,.inl ⟨SqL.of hl1,fun r hr=>q _ _ ((g.shrink hl).trans (Grow.new hr _)) ⟨r,rfl,SqT.of ?_⟩⟩⟩
  rw [zc,hy,show ((k:Int) + 1 - 1).toNat = k by omega]; rfl
theorem qF:FnScope ["thing"] ["thing"] (zf (top 9)):=⟨rfl,rfl,rfl,by decide +kernel,rfl,by decide +kernel,by decide +kernel⟩
theorem qG (F:Fun K "is_whole" "is_whole" (top 9) f fd) (B:Blt mg)     :
  FnOk P w K mg base CX0 (n + 1) f fd ["thing"] (xo K):=by
 refine F.ok qF xn (fun cdv A outer s H vs Q E hr h=>?_)
 obtain ⟨x,rfl,⟨T,ty⟩,q⟩:=h
 refine ⟨_,(zh (zn (wQ (zl yr rfl B.isinstance zA (za (pv 0) (za (xr rfl B.int Uo) zb))) (wg (Va (zl yr rfl B.isinstance zA (za (pv 0) (za (xr rfl B.bool XW) zb)))))))),?_⟩
 cases x with
 | non=>cases (show T = "NoneType" from ty); exact ⟨_,rfl,_,_,_,false,rfl,rfl,rfl,_,rfl,iteF q⟩
 | bl y=>cases (show T = "bool" from ty); exact ⟨_,rfl,_,_,_,true,rfl,rfl,rfl,_,rfl,iteT ⟨_,rfl,_,_,_,true,rfl,rfl,rfl,_,rfl,q⟩⟩
 | int i=>cases (show T = "int" from ty); exact ⟨_,rfl,_,_,_,true,rfl,rfl,rfl,_,rfl,iteT ⟨_,rfl,_,_,_,false,rfl,rfl,rfl,_,rfl,q⟩⟩
 | str y=>cases (show T = "str" from ty); exact ⟨_,rfl,_,_,_,false,rfl,rfl,rfl,_,rfl,iteF q⟩
 | byt y=>exact ty.elim
 | flt y=>exact ty.elim
 | ty y=>exact ty.elim
 | ref a =>
  rcases ty with ⟨rfl,xs,hq⟩ | ⟨rfl,xs,hq⟩ | ⟨rfl,kvs,hq⟩
  ·exact ⟨_,rfl,_,_,_,false,rfl,.inl ⟨rfl,xs,hq⟩,rfl,_,rfl,iteF q⟩
  ·exact ⟨_,rfl,_,_,_,false,rfl,.inr (.inl ⟨rfl,xs,hq⟩),rfl,_,rfl,iteF q⟩
  ·exact ⟨_,rfl,_,_,_,false,rfl,.inr (.inr ⟨rfl,kvs,hq⟩),rfl,_,rfl,iteF q⟩
theorem rF:FnScope ["thing","least","greatest"] ["thing","least","greatest"] (zf (top 10)):=⟨rfl,rfl,rfl,by decide +kernel,rfl,by decide +kernel,by decide +kernel⟩
theorem rG (F:Fun K "is_within" "is_within" (top 10) f fd) (B:Blt mg) (qc0:zg P w K mg base n "is_whole" ["thing"] (xo K))    :
  FnOk P w K mg base CX0 (n + 1) f fd ["thing","least","greatest"] (yY K):=by
 refine F.ok rF yK (fun cdv A outer s H vs Q E hr h=>?_)
 obtain ⟨x,y,z,rfl,i,l,u,rfl,rfl,rfl,q⟩:=h
 refine ⟨_,(zh (zn (wQ (ze qc0 hr rfl (za (pv 0) zb)) (wg (Y3 ZF ZF (pv 1) (pv 0) (pv 2)))))),?_⟩
 refine ⟨_,rfl,_,rfl,jg,_,rfl,iteT ⟨_,rfl,_,rfl,_,_,rfl,rfl,_,rfl,?_⟩⟩
 by_cases c:l <= i
 ·refine wT (decide_eq_true c) ⟨_,rfl,_,_,rfl,rfl,?_⟩
  rw [decide_eq_true c] at q; exact q
 ·refine yX (decide_eq_false c) ?_
  rw [decide_eq_false c] at q; exact q
theorem Zr:FnScope ["k","thing"] ["k","thing"] (zf (top 15)):=⟨rfl,rfl,rfl,by decide +kernel,rfl,by decide +kernel,by decide +kernel⟩
theorem Zs (F:Fun K "is_line" "is_line" (top 15) f fd) (B:Blt mg) (qc0:zg P w K mg base n "is_within" ["thing","least","greatest"] (yY K))    :
  FnOk P w K mg base CX0 (n + 1) f fd ["k","thing"] (xJ K):=by
 refine F.ok Zr zB (fun cdv A outer s H vs Q E hr h=>?_)
 obtain ⟨x,y,rfl,k,l,rfl,rfl,k4,hl,q⟩:=h
 refine ⟨_,(zh (zn (ze qc0 hr rfl (za (pv 1) (za zj (za (zr xm (zr yB zj (pv 0)) zj) zb)))))),?_⟩
 refine ⟨_,rfl,_,rfl,_,_,rfl,rfl,vE k4,_,_,rfl,rfl,_,_,_,rfl,_,_,_,rfl,rfl,rfl,?_⟩
 rw [decide_eq_true (show (0:Int) <= l by omega),decide_eq_true (show (l:Int) <= 1 * 2 ^ ((k:Int)).toNat - 1 by rw [yL]; omega)]
 exact q
theorem rH:FnScope ["k","thing"] ["k","thing"] (zf (top 17)):=⟨rfl,rfl,rfl,by decide +kernel,rfl,by decide +kernel,by decide +kernel⟩
theorem rJ (F:Fun K "need_side" "need_side" (top 17) f fd) (B:Blt mg) (qc0:zg P w K mg base n "is_line" ["k","thing"] (xJ K))    :
  FnOk P w K mg base CX0 (n + 1) f fd ["k","thing"] (yz K):=by
 refine F.ok rH zB (fun cdv A outer s H vs Q E hr h=>?_)
 obtain ⟨x,y,rfl,k,l,rfl,rfl,k4,hl,q⟩:=h
 refine ⟨_,(zh (yc (yf (zW (ze qc0 hr rfl (za (pv 0) (za (pv 1) zb))))) (zh xf) zv)),?_⟩
 exact ⟨_,rfl,_,rfl,_,_,rfl,k,l,rfl,rfl,k4,hl,_,rfl,iteF q⟩
theorem rK:FnScope ["k","thing"] ["k","thing"] (zf (top 16)):=⟨rfl,rfl,rfl,by decide +kernel,rfl,by decide +kernel,by decide +kernel⟩
theorem rL (F:Fun K "need_hand" "need_hand" (top 16) f fd) (B:Blt mg) (qc0:zg P w K mg base n "is_line" ["k","thing"] (xJ K))    :
  FnOk P w K mg base CX0 (n + 1) f fd ["k","thing"] (yz K):=by
 refine F.ok rK zB (fun cdv A outer s H vs Q E hr h=>?_)
 obtain ⟨x,y,rfl,k,l,rfl,rfl,k4,hl,q⟩:=h
 refine ⟨_,(zh (yc (yf (zW (ze qc0 hr rfl (za (pv 0) (za (pv 1) zb))))) (zh xf) zv)),?_⟩
 exact ⟨_,rfl,_,rfl,_,_,rfl,k,l,rfl,rfl,k4,hl,_,rfl,iteF q⟩
theorem qH:FnScope ["thing"] ["thing"] (zf (top 14)):=⟨rfl,rfl,rfl,by decide +kernel,rfl,by decide +kernel,by decide +kernel⟩
theorem qI (F:Fun K "need_net" "need_net" (top 14) f fd) (B:Blt mg) (qc0:zg P w K mg base n "is_within" ["thing","least","greatest"] (yY K))  {t_DEEPEST:Tok} (g_DEEPEST:mg "DEEPEST" = some (.int 4 t_DEEPEST))  :
  FnOk P w K mg base CX0 (n + 1) f fd ["thing"] (yu K):=by
 refine F.ok qH xn (fun cdv A outer s H vs Q E hr h=>?_)
 obtain ⟨x,rfl,k,rfl,k4,q⟩:=h
 refine ⟨_,(zh (yc (yf (zW (ze qc0 hr rfl (za (pv 0) (za zj (za (tE rfl g_DEEPEST (show RelV (.int 4) (.int 4 t_DEEPEST) from ⟨_,rfl⟩)) zb)))))) (zh xf) zv)),?_⟩
 exact ⟨_,rfl,_,_,_,rfl,_,_,_,rfl,rfl,rfl,_,rfl,yX (by rw [decide_eq_true (show (0:Int) <= k by omega),decide_eq_true (show (k:Int) <= 4 by omega)]; rfl) q⟩
theorem V5:FnScope ["k","hand","side"] ["k","hand","side"] (zf (top 23)):=⟨rfl,rfl,rfl,by decide +kernel,rfl,by decide +kernel,by decide +kernel⟩
theorem V6 (F:Fun K "way" "way" (top 23) f fd) (B:Blt mg) (qc0:zg P w K mg base n "way_of" ["k","hand","side"] (vF K)) (qc1:zg P w K mg base n "need_side" ["k","thing"] (yz K)) (qc2:zg P w K mg base n "need_hand" ["k","thing"] (yz K)) (qc3:zg P w K mg base n "need_net" ["thing"] (yu K))    :
  FnOk P w K mg base CX0 (n + 1) f fd ["k","hand","side"] (vF K):=by
 refine F.ok V5 yK (fun cdv A outer s H vs Q E hr h=>?_)
 obtain ⟨x,y,z,rfl,k,h0,g0,rfl,rfl,rfl,k4,hh,hg,q⟩:=h
 refine ⟨_,(zd (zI (ze qc3 hr rfl (za (pv 0) zb))) (zd (zI (ze qc2 hr rfl (za (pv 0) (za (pv 1) zb)))) (zd (zI (ze qc1 hr rfl (za (pv 0) (za (pv 2) zb)))) (zh (zn (ze qc0 hr rfl (za (pv 0) (za (pv 1) (za (pv 2) zb))))))))),?_⟩
 exact ⟨_,rfl,_,rfl,k,rfl,k4,_,rfl,_,rfl,_,_,rfl,k,h0,rfl,rfl,k4,hh,_,rfl,_,rfl,_,_,rfl,k,g0,rfl,rfl,k4,hg,_,rfl,_,rfl,_,rfl,_,_,_,rfl,k,h0,g0,rfl,rfl,rfl,k4,hh,hg,q⟩
theorem zz:FnScope ["_law_k","_law_asks","_law_found","_law_hand","_law_box","_law_deed_here","_law_level","_law_line"] ["_law_k","_law_asks"] (zf (top 74)):=⟨rfl,rfl,rfl,by decide +kernel,rfl,by decide +kernel,by decide +kernel⟩
theorem wG (F:Fun K "_law_unlike_boxes" "_law_unlike_boxes" (top 74) f fd) (B:Blt mg) (qc0:zg P w K mg base n "way" ["k","hand","side"] (vF K)) (g_enumerate:mg "enumerate" = none)   :
  FnOk P w K mg base CX0 (n + 1) f fd ["_law_k","_law_asks"] (jM K):=by
 refine F.ok zz zB (fun cdv A outer s H vs Q E hr h=>?_)
 obtain ⟨x,y,rfl,k,ks,rfl,hks,k4,k16,R,q⟩:=h
 refine ⟨_,(zd (xP (i:=2) zz.nd rfl rfl (CSc.of (N':=["_law_level","_law_k"]) (sub:=[none,some 0]) (zf (top 74)) ["_law_k","_law_asks","_law_found","_law_hand","_law_box","_law_deed_here","_law_level","_law_line"] rfl rfl (by decide +kernel) rfl) rfl (yi rfl B.range (za (zr yn (pv 0) zj) zb)) (fun _ _ _ _ _ _=>zi (i:=0) (show (["_law_level","_law_k"]:List Str).Nodup by decide +kernel) rfl (Or.inl rfl)) (fun _ _ _ _ _ _=>zo) (fun _ _ _ _ _ _=>(zt (CSc.nest (N2:=["_law_line"]) (sub2:=[none]) (CSc.of (N':=["_law_level","_law_k"]) (sub:=[none,some 0]) (zf (top 74)) ["_law_k","_law_asks","_law_found","_law_hand","_law_box","_law_deed_here","_law_level","_law_line"] rfl rfl (by decide +kernel) rfl) rfl (by decide +kernel) rfl) rfl (yi rfl B.range (za (zr yB zj (pv 1)) zb)) (fun _ _ _ _ _ _=>zi (i:=0) (show (["_law_line"]:List Str).Nodup by decide +kernel) rfl (Or.inl rfl)) (fun _ _ _ _ _ _=>zo) (fun _ _ _ _ _ _=>(x4 zb))))) (zd (yH PassesOwn.never rfl (ym (pv 1)) (yV rfl (zk (zi (i:=3) zz.nd rfl (Or.inl rfl)) (zk (zi (i:=4) zz.nd rfl (Or.inl rfl)) (zk (zi (i:=5) zz.nd rfl (Or.inl rfl)) zF)))) (zh (yH PassesOwn.never rfl (xQ true (K:=K) rfl rfl g_enumerate (za (ze qc0 hr rfl (za (pv 0) (za (pv 3) (za (zr vC (pv 4) (zr yB zj (pv 0))) zb)))) zb)) (yV rfl (zk (zi (i:=6) zz.nd rfl (Or.inl rfl)) (zk (zi (i:=7) zz.nd rfl (Or.inl rfl)) zF))) (zh (yc (zJ sD (pv 4) (zT zK (zT zK (pv 2) (pv 6) (fun _ _=>rfl)) (pv 7) (fun _ _=>rfl)) (by with_unfolding_all rfl)) (zh (zI (sE PySem.F.plainAttrs_list PySem.F.slot_list_append PySem.F.type_list_append xD (zT zK (zT zK (pv 2) (pv 6) (fun _ _=>rfl)) (pv 7) (fun _ _=>rfl)) (za (pv 4) zb)))) zv))))) (zh (zn (zt (CSc.of (N':=["_law_row"]) (sub:=[none]) (zf (top 74)) ["_law_k","_law_asks","_law_found","_law_hand","_law_box","_law_deed_here","_law_level","_law_line"] rfl rfl (by decide +kernel) rfl) rfl (xO (pv 2)) (fun _ _ _ _ _ _=>zi (i:=0) (show (["_law_row"]:List Str).Nodup by decide +kernel) rfl (Or.inl rfl)) (fun _ _ _ _ _ _=>zo) (fun _ _ _ _ _ _=>(zt (CSc.nest (N2:=["_law_boxes_here"]) (sub2:=[none]) (CSc.of (N':=["_law_row"]) (sub:=[none]) (zf (top 74)) ["_law_k","_law_asks","_law_found","_law_hand","_law_box","_law_deed_here","_law_level","_law_line"] rfl rfl (by decide +kernel) rfl) rfl (by decide +kernel) rfl) rfl (jo (K:=K) rfl (pv 0)) (fun _ _ _ _ _ _=>zi (i:=0) (show (["_law_boxes_here"]:List Str).Nodup by decide +kernel) rfl (Or.inl rfl)) (fun _ _ _ _ _ _=>zo) (fun _ _ _ _ _ _=>(zl (sM (K:=K) rfl) rfl B.len x9 (za (pv 0) zb)))))))))),?_⟩
 have p16:=zU k4
 have hpos:0 < 2 ^ k:=Nat.two_pow_pos k
 have e1k:(1:Int) * 2 ^ ((k:Int)).toNat = ((2 ^ k:Nat):Int):=yL
 obtain ⟨rt,xs,rfl,hrt,hxs⟩:=hks
 have xl:=hxs.len
 refine ⟨_,rfl,_,_,rfl,rfl,_,rfl,by omega,by omega,xg (fun i ys H'=>∃ (rs:List Addr) (CL:List (List Addr)),ys = rs.map V.ref /\ rs.length = i /\ (∀ cs ∈ CL,cs.length = 2 ^ k) /\ CR H H' rs CL (fun _ _=>[]) /\ Grow [] H H') ⟨[],[],rfl,rfl,nofun,.nil,Grow.refl _ _⟩ ?_ ?_⟩
 ·rintro i ys H1 hi ⟨rs,CL,rfl,rl,hcl,hc,g1⟩
  refine ⟨_,rfl,_,_,rfl,rfl,⟨by omega,by omega,by decide⟩,_,rfl,by rw [e1k]; omega,by rw [e1k]; omega,xg (fun j zs H'=>∃ cs:List Addr,zs = cs.map V.ref /\ cs.length = j /\ GR H1 H' cs (List.replicate j []) /\ Grow [] H1 H') ⟨[],rfl,rfl,.nil,Grow.refl _ _⟩ ?_ ?_⟩
  ·rintro j zs H2 hj ⟨cs,rfl,cl,b,g2⟩
   rw [e1k] at hj
   refine ⟨szl rfl,fun t ht=>⟨by rw [List.length_map]; exact zp (by omega),cs ++ [t],by rw [List.map_append]; rfl,by rw [List.length_append,cl]; rfl,?_,g2.trans (Grow.new ht _)⟩⟩
   rw [List.replicate_succ']
   exact GR.new g2 b ht []
  ·rw [e1k,Int.toNat_natCast]
   rintro zs H2 ⟨cs,rfl,cl,b,g2⟩ r hr
   refine ⟨by rw [List.length_map]; exact zp (by omega),rs ++ [r],CL ++ [cs],by rw [List.map_append]; rfl,by rw [List.length_append,rl]; rfl,fun c hc=>?_,CR.new g1 hc g2 b hr,(g1.trans g2).trans (Grow.new hr _)⟩
   rcases List.mem_append.mp hc with z | z
   ·exact hcl c z
   ·rw [List.mem_singleton.mp z]; exact cl
 rw [show ((k:Int) + 1).toNat = k + 1 by omega]
 rintro ys H1 ⟨rs,CL,rfl,rl,hcl,hc,g1⟩ l hl
 have ln:=hc.rows.ne hl
 have l0:=g1.free (by simp) hl
 have lc:∀ s l' c,atC CL s l' = some c -> c ≠ l:=fun s l' c e z=>by
  have:=hc.val s l' c e
  rw [z,hl] at this; cases this
 have g2:=g1.trans (Grow.new (m:=[]) hl (.lst (rs.map V.ref)))
 have hc2:=hc.grow (Grow.new (m:=[]) hl (.lst (rs.map V.ref)))
 have hl2:upd H1 l (.lst (rs.map V.ref)) l = some (.lst (rs.map V.ref)):=zc
 generalize upd H1 l (.lst (rs.map V.ref)) = H2 at g2 hc2 hl2 ⊢
 have hc0:CR H H2 rs CL (fun s l=>dedI (xi k (ks.take 0) s l)):=hc2.congr fun s l c _=>rfl
 have rcl:=hc.lens
 refine ⟨_,rfl,rt,rfl,⟨_,g2.sqT hrt⟩,tG (xs:=xs) (fun i σ H'=>∃ (e3 e4 e5 e6 e7:Option V),σ = [some (.int k),some (.ref rt),some (.ref l),e3,e4,e5,e6,e7] /\ Grow [] H H' /\ H' l = some (.lst (rs.map V.ref)) /\ CR H H' rs CL (fun s l=>dedI (xi k (ks.take i) s l))) ⟨_,_,_,_,_,rfl,g2,hl2,hc0⟩ (fun i σ H' _ ⟨_,_,_,_,_,_,g,_⟩=>g.sqT hrt) ?_ ?_⟩
 ·rintro i v σ H3 hv ⟨e3,e4,e5,e6,e7,rfl,g3,hl3,hc3⟩
  obtain ⟨a,ha,ra,rd,rfl,hra,hrd⟩:=hxs.get hv
  have am:=List.mem_of_getElem? ha
  have hh:=R.hand a am
  have hb:=R.box a am
  refine ⟨ra,_,rfl,g3.sqT hra,rfl,_,_,rfl,_,_,rfl,_,_,rfl,rfl,?_⟩
  refine ⟨_,rfl,_,rfl,_,rfl,_,rfl,_,_,rfl,rfl,⟨by omega,by omega,by decide⟩,_,_,rfl,rfl,(by rw [e1k]; omega),_,_,_,rfl,k,a.hand.toNat,a.box.toNat % 2 ^ k,rfl,(by rw [Int.toNat_of_nonneg hh.1]),congrArg V.int (uz hb.1 k),k4,yj R am,y0,fun yw H4 g4 hw=>?_⟩
  obtain ⟨rw,rfl,hrw⟩:=hw
  have g34:=g3.trans g4
  have hl4:=g4.keep _ _ (by simp) hl3
  have hc4:CR H H4 rs CL (unF k (ks.take i) a 0):=(hc3.grow g4).congr fun s l c _=>(YM s l).symm
  refine ⟨rw,_,rfl,hrw,wY (xs:=(zO k a.hand.toNat (a.box.toNat % 2 ^ k)).map V.int) (fun j σ H'=>∃ (e6 e7:Option V),σ = [some (.int k),some (.ref rt),some (.ref l),some (.int a.hand),some (.int a.box),some (.ref rd),e6,e7] /\ Grow [] H H' /\ SqT K H' rw ((zO k a.hand.toNat (a.box.toNat % 2 ^ k)).map V.int) /\ H' l = some (.lst (rs.map V.ref)) /\ CR H H' rs CL (unF k (ks.take i) a j)) ⟨_,_,rfl,g34,hrw,hl4,hc4⟩ (fun j σ H' _ ⟨_,_,_,_,g,_⟩=>g) ?_ ?_⟩
  ·rintro j v σ H5 t1 hv ⟨e6,e7,rfl,g5,hw5,hl5,hc5⟩ ht1
   obtain ⟨hj,rfl⟩:=jP hv
   obtain ⟨ln',eln,hln⟩:=rD R k4 am hj
   have gT:=Grow.new (m:=[]) ht1 (.tup [.int j,.int (zE k a.hand.toNat ((a.box.toNat % 2 ^ k:Nat):Int) j)])
   have hT:=zc (H:=H5) (a:=t1) (o:=.tup [.int j,.int (zE k a.hand.toNat ((a.box.toNat % 2 ^ k:Nat):Int) j)])
   have g6:=g5.trans gT
   have hw6:=gT.sqT hw5
   have hl6:=gT.keep _ _ (by simp) hl5
   have hc6:=hc5.grow gT
   generalize upd H5 t1 _ = H6 at gT hT g6 hw6 hl6 hc6 ⊢
   refine ⟨t1,_,rfl,SqT.of hT,rfl,_,_,rfl,_,_,rfl,rfl,?_⟩
   have jl:j < rs.length:=by omega
   have jc:j < CL.length:=by omega
   have hr:=List.getElem?_eq_getElem jl
   have hcj:=hcl CL[j] (List.getElem_mem jc)
   have lj:ln' < CL[j].length:=by omega
   have hat:=jR jc lj
   have hrow:=hc6.rows.row j _ _ hr (by rw [List.getElem?_map,List.getElem?_eq_getElem jc]; rfl)
   have hval:=hc6.val _ _ _ hat
   have hix:=tH (show (rs.map V.ref)[j]? = some (V.ref rs[j]) by rw [List.getElem?_map,hr]; rfl)
   have hix2:=tH (show (CL[j].map V.ref)[ln']? = some (V.ref (CL[j])[ln']) by rw [List.getElem?_map,List.getElem?_eq_getElem lj]; rfl)
   have st:=WX (ks:=ks.take i) eln
   have hlen:=WZ (k:=k) (ks:=ks.take i) (a:=a) (j:=j) (s:=j) (l:=ln')
   have tk:(ks.take i).length <= ks.length:=List.length_take_le' ..
   rw [eln]
   refine ⟨_,rfl,_,rfl,_,rfl,l,_,_,_,rfl,rfl,SqL.of hl6,hix,_,rfl,_,_,_,_,rfl,rfl,SqL.of hrow,hix2,_,_,rfl,.inl (SqL.of hval),rfl,Z0,_,rfl,?_⟩
   rw [Xt]
   by_cases cm:a.box ∈ unF k (ks.take i) a j j ln'
   ·refine yX (by rw [decide_eq_true cm]; rfl) ⟨_,_,rfl,g6,hw6,hl6,hc6.congr fun s' l' c e=>?_⟩
    rw [st s' l',XO cm]
    by_cases z:s' = j /\ l' = ln'
    ·rw [if_pos z,z.1,z.2]
    ·rw [if_neg z]
   ·refine wT (by rw [decide_eq_false cm]; rfl) ?_
    refine ⟨_,rfl,_,rfl,l,_,_,_,rfl,rfl,SqL.of hl6,hix,_,rfl,_,_,_,_,rfl,rfl,SqL.of hrow,hix2,.inl ⟨rfl,_,SqL.of hval⟩,_,rfl,_,_,_,rfl,rfl,hval,by rw [List.length_map]; exact zp (by omega),?_⟩
    have hn:=hc6.nc _ _ _ hat
    refine ⟨_,_,rfl,g6.put99 hn.1 _,?_,by rw [zm (fun z=>lc _ _ _ hat z.symm)]; exact hl6,?_⟩
    ·exact (Grow.set (m:=[(CL[j])[ln']]) hval (by simp) _).sqT hw6
    ·have:=hc6.put hat (unF k (ks.take i) a j j ln' ++ [a.box])
     rw [List.map_append] at this
     refine CR.congr this fun s' l' c e=>?_
     rw [st s' l',YN cm]
  ·rintro σ H5 ⟨e6,e7,rfl,g5,hw5,hl5,hc5⟩
   have e:((zO k a.hand.toNat (a.box.toNat % 2 ^ k)).map V.int).length = k + 1:=by unfold zO; rw [List.length_map,List.length_map,List.length_range]
   rw [e] at hc5
   refine ⟨_,_,_,_,_,rfl,g5,hl5,hc5.congr fun s' l' c e=>?_⟩
   have hs:s' <= k:=by
    rcases Nat.lt_or_ge s' CL.length with z | z
    ·omega
    ·unfold atC at e; rw [List.getD_eq_getElem?_getD,List.getElem?_eq_none z] at e; cases e
   rw [XN hs,yO ha]
 ·rintro σ H3 ⟨e3,e4,e5,e6,e7,rfl,g3,hl3,hc3⟩
  rw [xl,List.take_length] at hc3
  refine ⟨_,rfl,l,rfl,⟨_,SqL.of hl3⟩,xH (fun i ys H'=>Grow [] H3 H' /\ ys.length = i /\ AllR (fun v row=>∃ r,v = .ref r /\ H' r = some (.lst (row.map V.int))) ys ((jlR k ks 16).take i)) ⟨Grow.refl _ _,rfl,trivial⟩ (fun i ys H' z=>SqL.of (z.1.keep _ _ (by simp) hl3)) ?_ ?_⟩
  ·rintro i v ys H4 hv ⟨g4,yl,hal⟩
   rw [List.getElem?_map] at hv
   obtain ⟨r,hr,rfl⟩:=Option.map_eq_some_iff.mp hv
   have il:=(List.getElem?_eq_some_iff.mp hr).1
   have ic:i < CL.length:=by omega
   have hci:=hcl CL[i] (List.getElem_mem ic)
   have hc4:=hc3.grow g4
   have hrow:=hc4.rows.row i _ _ hr (by rw [List.getElem?_map,List.getElem?_eq_getElem ic]; rfl)
   refine ⟨_,rfl,r,rfl,⟨_,SqL.of hrow⟩,xH (fun j zs H'=>Grow [] H4 H' /\ zs = (List.range j).map fun l=>V.int (jcB k ks 16 i l)) ⟨Grow.refl _ _,rfl⟩ (fun j zs H' z=>SqL.of (z.1.keep _ _ (by simp) hrow)) ?_ ?_⟩
   ·rintro j v zs H5 hv ⟨g5,rfl⟩
    rw [List.getElem?_map] at hv
    obtain ⟨c,hcc,rfl⟩:=Option.map_eq_some_iff.mp hv
    have jl:=(List.getElem?_eq_some_iff.mp hcc).1
    have hat:=jR ic jl
    rw [← List.getElem?_eq_getElem jl] at hat
    rw [hcc] at hat
    have hval:=(hc4.grow g5).val _ _ _ hat
    refine ⟨_,rfl,c,_,rfl,.inl (SqL.of hval),by rw [List.length_map,List.length_range]; exact zp (by omega),g5,?_⟩
    rw [List.range_succ,List.map_append,List.map_cons,List.map_nil,List.length_map,tV R k4 (by omega) (by omega)]
   ·rintro zs H5 ⟨g5,rfl⟩ r5 hr5
    rw [show ((fun cs:List Addr=>cs.map V.ref) CL[i]).length = 2 ^ k from (List.length_map ..).trans hci]
    refine ⟨zp (by omega),(g4.trans g5).trans (Grow.new hr5 _),by rw [List.length_append,yl]; rfl,?_⟩
    rw [yO (W0 (by omega))]
    have gn:=g5.trans (Grow.new (m:=[]) hr5 (.lst ((List.range (2 ^ k)).map fun l=>V.int (jcB k ks 16 i l))))
    exact (hal.imp fun _ _ ⟨r,e,z⟩=>⟨r,e,gn.keep _ _ (by simp) z⟩).app (AllR.one ⟨r5,rfl,by rw [zc,List.map_map]; rfl⟩)
  ·rintro ys H4 ⟨g4,yl,hal⟩ r hr
   rw [List.length_map,show rs.length = (jlR k ks 16).length by rw [tY]; exact rl,List.take_length] at hal
   have gl:=Grow.new (m:=[]) hr (.lst ys)
   exact q _ _ (g3.trans (g4.trans gl)) ⟨r,ys,rfl,zc,hal.imp fun _ _ ⟨r,e,z⟩=>⟨r,e,gl.keep _ _ (by simp) z⟩⟩
theorem tZ:FnScope ["k","lines"] ["k","lines"] (zf (top 59)):=⟨rfl,rfl,rfl,by decide +kernel,rfl,by decide +kernel,by decide +kernel⟩
theorem t5 (F:Fun K "counted_on" "counted_on" (top 59) f fd) (B:Blt mg)     :
  FnOk P w K mg base CX0 (n + 1) f fd ["k","lines"] (wu K):=by
 refine F.ok tZ zB (fun cdv A outer s H vs Q E hr h=>?_)
 obtain ⟨x,y,rfl,k,l,ns,rfl,k4,rfl,hl,q⟩:=h
 refine ⟨_,(zh (zn (zD zx rfl B.tuple zG (za (zt (CSc.of (N':=["line","lines"]) (sub:=[none,some 1]) (zf (top 59)) ["k","lines"] rfl rfl (by decide +kernel) rfl) rfl (yi rfl B.range (za (zr yB zj (pv 0)) zb)) (fun _ _ _ _ _ _=>zi (i:=0) (show (["line","lines"]:List Str).Nodup by decide +kernel) rfl (Or.inl rfl)) (fun _ _ _ _ _ _=>zo) (fun _ _ _ _ _ _=>(VN (K:=K) rfl PySem.F.plainAttrs_list PySem.F.slot_list_count PySem.F.type_list_count (Zn (K:=K) rfl) (pv 1) (za (pv 0) zb)))) zb)))),?_⟩
 have p16:=zU k4
 obtain ⟨W,hW⟩:∃ W:Nat,W = 2 ^ k:=⟨_,rfl⟩
 have e1k:(1:Int) * 2 ^ ((k:Int)).toNat = W:=by rw [yL,hW]
 rw [← hW] at p16 q
 refine ⟨_,rfl,_,_,rfl,rfl,vE k4,_,rfl,(by show -2 ^ 62 <= (1:Int) * 2 ^ ((k:Int)).toNat; rw [e1k]; omega),(by show (1:Int) * 2 ^ ((k:Int)).toNat < 2 ^ 62; rw [e1k]; omega),xg (fun i ys H'=>H' = H /\ ys = ((List.range i).map (yF ns)).map V.int) ⟨rfl,rfl⟩ ?_ ?_⟩
 ·rintro i ys H' hi ⟨rfl,rfl⟩
  have hi':i < W:=by rw [e1k] at hi; omega
  refine ⟨_,rfl,.inl ⟨rfl,_,SqL.of hl⟩,_,rfl,l,ns,_,rfl,rfl,SqL.of hl,yJ (by rw [List.length_map,List.length_map,List.length_range]; omega),rfl,?_⟩
  rw [List.range_succ,List.map_append,List.map_append]
  show _ ++ [V.int _] = _ ++ [V.int (yF ns i)]
  unfold yF
  rw [Int.zero_add]
 ·rintro ys H' ⟨rfl,rfl⟩ l2 hl2
  rw [e1k,Int.toNat_natCast]
  refine ⟨l2,_,rfl,.inl ⟨SqL.of zc,fun r hr'=>q _ _ ((Grow.new hl2 _).trans (Grow.new hr' _)) ⟨r,rfl,SqT.of zc⟩⟩⟩
theorem W3:FnScope ["add","low","high"] ["add","low","high"] (zf (top 31)):=⟨rfl,rfl,rfl,by decide +kernel,rfl,by decide +kernel,by decide +kernel⟩
theorem ZW (F:Fun K "tidy" "tidy" (top 31) f fd) (B:Blt mg)     :
  FnOk P w K mg base CX0 (n + 1) f fd ["add","low","high"] (ZZ K):=by
 refine F.ok W3 yK (fun cdv A outer s H vs Q E hr h=>?_)
 obtain ⟨x,y,z,rfl,a,lo,hi,rfl,rfl,rfl,q⟩:=h
 refine ⟨_,(zd (yc (PW.pt (v2 (wf (vZ (pv 1))) (vm (zJ vn (pv 1) (pv 2) (zH _))))) (zh (zn (zZ (za zj (za (pv 1) (za (pv 2) zb)))))) zv) (zh (zn (zZ (za (pv 0) (za (pv 1) (za (pv 2) zb))))))),?_⟩
 cases lo with
 | none =>
  refine ⟨_,rfl,_,rfl,iteF (iteF ⟨_,rfl,_,rfl,_,rfl,szl rfl,fun t ht=>?_⟩)⟩
  have:=q t ht
  rw [Vt] at this; exact this
 | some l =>
  cases hi with
  | none =>
   refine ⟨_,rfl,_,rfl,iteT ⟨_,rfl,_,rfl,rfl,_,rfl,iteF ⟨_,rfl,_,rfl,_,rfl,szl rfl,fun t ht=>?_⟩⟩⟩
   have:=q t ht
   rw [XY (by simp)] at this; exact this
  | some u =>
   refine ⟨_,rfl,_,rfl,iteT ⟨_,rfl,_,rfl,rfl,_,rfl,?_⟩⟩
   refine ite2 (fun c=>?_) (fun c=>?_)
   ·have c':l = u:=V.int.inj (of_decide_eq_true c)
    subst c'
    refine ⟨_,rfl,_,rfl,szl rfl,fun t ht=>?_⟩
    have:=q t ht
    rw [Vu] at this; exact this
   ·have c':l ≠ u:=fun z=>c (by rw [z]; simp)
    refine ⟨_,rfl,_,rfl,_,rfl,szl rfl,fun t ht=>?_⟩
    have:=q t ht
    rw [XY (fun z=>c' (Option.some.inj z))] at this; exact this
theorem wO:FnScope ["deed","value","add","low","high","result"] ["deed","value"] (zf (top 30)):=⟨rfl,rfl,rfl,by decide +kernel,rfl,by decide +kernel,by decide +kernel⟩
theorem W4 (F:Fun K "made" "made" (top 30) f fd) (B:Blt mg)     :
  FnOk P w K mg base CX0 (n + 1) f fd ["deed","value"] (ZV K):=by
 refine F.ok wO zB (fun cdv A outer s H vs Q E hr h=>?_)
 obtain ⟨x,y,rfl,d,v,⟨a,rfl,hs⟩,rfl,q⟩:=h
 refine ⟨_,(zd (wm (pv 0) (yV rfl (zk (zi (i:=2) wO.nd rfl (Or.inl rfl)) (zk (zi (i:=3) wO.nd rfl (Or.inl rfl)) (zk (zi (i:=4) wO.nd rfl (Or.inl rfl)) zF))))) (zd (zu (i:=5) wO.nd rfl (Or.inl rfl) (zr yn (pv 1) (pv 2))) (zd (yc (PW.pt (v2 (wf (vZ (pv 3))) (vm (zJ Wh (pv 3) (pv 5) (zH _))))) (zh (zu (i:=5) wO.nd rfl (Or.inl rfl) (pv 3))) zv) (zd (yc (PW.pt (v2 (wf (vZ (pv 4))) (vm (zJ Y2 (pv 4) (pv 5) (zH _))))) (zh (zu (i:=5) wO.nd rfl (Or.inl rfl) (pv 4))) zv) (zh (zn (pv 5))))))),?_⟩
 obtain ⟨ad,lo,hi⟩:=d
 refine ⟨_,rfl,a,_,rfl,hs,rfl,_,_,rfl,_,_,rfl,_,_,rfl,rfl,?_⟩
 refine ⟨_,rfl,_,rfl,_,_,rfl,rfl,?_⟩
 cases lo with
 | none =>
  refine ⟨_,rfl,_,rfl,iteF (iteF ?_)⟩
  cases hi with
  | none=>exact ⟨_,rfl,_,rfl,iteF (iteF ⟨_,rfl,q⟩)⟩
  | some u =>
   refine ⟨_,rfl,_,rfl,iteT ⟨_,rfl,_,rfl,_,_,rfl,rfl,_,rfl,?_⟩⟩
   have q':Q (.int (if u < v + ad then u else v + ad)) H:=q
   refine ite2 (fun c=>?_) (fun c=>?_)
   ·have c':u < v + ad:=of_decide_eq_true c
    rw [if_pos c'] at q'
    exact ⟨_,rfl,_,rfl,q'⟩
   ·have c':¬ u < v + ad:=fun z=>c (decide_eq_true z)
    rw [if_neg c'] at q'
    exact ⟨_,rfl,q'⟩
 | some l =>
  refine ⟨_,rfl,_,rfl,iteT ⟨_,rfl,_,rfl,_,_,rfl,rfl,_,rfl,?_⟩⟩
  have q0:Q (.int (ZT hi (if l > v + ad then l else v + ad))) H:=q
  clear q
  refine ite2 (fun c=>?_) (fun c=>?_)
  ·have c':l > v + ad:=of_decide_eq_true c
   rw [if_pos c'] at q0
   have q:=q0
   refine ⟨_,rfl,?_⟩
   cases hi with
   | none=>exact ⟨_,rfl,_,rfl,iteF (iteF ⟨_,rfl,q⟩)⟩
   | some u =>
    refine ⟨_,rfl,_,rfl,iteT ⟨_,rfl,_,rfl,_,_,rfl,rfl,_,rfl,?_⟩⟩
    have q':Q (.int (if u < l then u else l)) H:=q
    refine ite2 (fun c=>?_) (fun c=>?_)
    ·have c':u < l:=of_decide_eq_true c
     rw [if_pos c'] at q'
     exact ⟨_,rfl,_,rfl,q'⟩
    ·have c':¬ u < l:=fun z=>c (decide_eq_true z)
     rw [if_neg c'] at q'
     exact ⟨_,rfl,q'⟩
  ·have c':¬ l > v + ad:=fun z=>c (decide_eq_true z)
   rw [if_neg c'] at q0
   have q:=q0
   cases hi with
   | none=>exact ⟨_,rfl,_,rfl,iteF (iteF ⟨_,rfl,q⟩)⟩
   | some u =>
    refine ⟨_,rfl,_,rfl,iteT ⟨_,rfl,_,rfl,_,_,rfl,rfl,_,rfl,?_⟩⟩
    have q':Q (.int (if u < v + ad then u else v + ad)) H:=q
    refine ite2 (fun c=>?_) (fun c=>?_)
    ·have c':u < v + ad:=of_decide_eq_true c
     rw [if_pos c'] at q'
     exact ⟨_,rfl,_,rfl,q'⟩
    ·have c':¬ u < v + ad:=fun z=>c (decide_eq_true z)
     rw [if_neg c'] at q'
     exact ⟨_,rfl,q'⟩
theorem uB:FnScope ["one","other","low","high"] ["one","other"] (zf (top 32)):=⟨rfl,rfl,rfl,by decide +kernel,rfl,by decide +kernel,by decide +kernel⟩
theorem YU (F:Fun K "joined" "joined" (top 32) f fd) (B:Blt mg) (qc0:zg P w K mg base n "tidy" ["add","low","high"] (ZZ K)) (qc1:zg P w K mg base n "made" ["deed","value"] (ZV K))    :
  FnOk P w K mg base CX0 (n + 1) f fd ["one","other"] (sK K):=by
 refine F.ok uB zB (fun cdv A outer s H vs Q E hr h=>?_)
 obtain ⟨x,y,rfl,d,e,⟨a,rfl,hsa⟩,⟨b,rfl,hsb⟩,q⟩:=h
 refine ⟨_,(zd (zu (i:=2) uB.nd rfl (Or.inl rfl) (tF (wf (vY (zT yI (pv 0) zj (fun _ _=>rfl)))) (zT yI (pv 1) zj (fun _ _=>rfl)) (ze qc1 hr rfl (za (pv 1) (za (zT yI (pv 0) zj (fun _ _=>rfl)) zb))))) (zd (zu (i:=3) uB.nd rfl (Or.inl rfl) (tF (wf (vY (zT yI (pv 0) zj (fun _ _=>rfl)))) (zT yI (pv 1) zj (fun _ _=>rfl)) (ze qc1 hr rfl (za (pv 1) (za (zT yI (pv 0) zj (fun _ _=>rfl)) zb))))) (zh (zn (ze qc0 hr rfl (za (zr yn (zT yI (pv 0) zj (fun _ _=>rfl)) (zT yI (pv 1) zj (fun _ _=>rfl))) (za (pv 2) (za (pv 3) zb)))))))),?_⟩
 obtain ⟨da,lo,hi⟩:=d
 obtain ⟨ea,elo,ehi⟩:=e
 refine ⟨_,rfl,a,_,_,_,rfl,rfl,hsa,rfl,_,rfl,?_⟩
 cases lo with
 | none =>
  refine iteT ⟨_,rfl,b,_,_,_,rfl,rfl,hsb,rfl,?_⟩
  refine ⟨_,rfl,a,_,_,_,rfl,rfl,hsa,rfl,_,rfl,?_⟩
  cases hi with
  | none =>
   refine iteT ⟨_,rfl,b,_,_,_,rfl,rfl,hsb,rfl,?_⟩
   exact ⟨_,rfl,a,_,_,_,rfl,rfl,hsa,rfl,_,rfl,b,_,_,_,rfl,rfl,hsb,rfl,_,_,rfl,rfl,_,rfl,_,rfl,_,_,_,rfl,_,elo,ehi,rfl,rfl,rfl,q⟩
  | some u =>
   refine iteF ⟨_,rfl,_,rfl,a,_,_,_,rfl,rfl,hsa,rfl,_,_,rfl,⟨ea,elo,ehi⟩,u,⟨b,rfl,hsb⟩,rfl,?_⟩
   exact ⟨_,rfl,a,_,_,_,rfl,rfl,hsa,rfl,_,rfl,b,_,_,_,rfl,rfl,hsb,rfl,_,_,rfl,rfl,_,rfl,_,rfl,_,_,_,rfl,_,elo,some ((Deed.mk ea elo ehi).mk' u),rfl,rfl,rfl,q⟩
 | some l =>
  refine iteF ⟨_,rfl,_,rfl,a,_,_,_,rfl,rfl,hsa,rfl,_,_,rfl,⟨ea,elo,ehi⟩,l,⟨b,rfl,hsb⟩,rfl,?_⟩
  refine ⟨_,rfl,a,_,_,_,rfl,rfl,hsa,rfl,_,rfl,?_⟩
  cases hi with
  | none =>
   refine iteT ⟨_,rfl,b,_,_,_,rfl,rfl,hsb,rfl,?_⟩
   exact ⟨_,rfl,a,_,_,_,rfl,rfl,hsa,rfl,_,rfl,b,_,_,_,rfl,rfl,hsb,rfl,_,_,rfl,rfl,_,rfl,_,rfl,_,_,_,rfl,_,(some ((Deed.mk ea elo ehi).mk' l)),ehi,rfl,rfl,rfl,q⟩
  | some u =>
   refine iteF ⟨_,rfl,_,rfl,a,_,_,_,rfl,rfl,hsa,rfl,_,_,rfl,⟨ea,elo,ehi⟩,u,⟨b,rfl,hsb⟩,rfl,?_⟩
   exact ⟨_,rfl,a,_,_,_,rfl,rfl,hsa,rfl,_,rfl,b,_,_,_,rfl,rfl,hsb,rfl,_,_,rfl,rfl,_,rfl,_,rfl,_,_,_,rfl,_,(some ((Deed.mk ea elo ehi).mk' l)),some ((Deed.mk ea elo ehi).mk' u),rfl,rfl,rfl,q⟩
theorem vJ:FnScope ["k","stage","line","behind"] ["k","stage","line"] (zf (top 21)):=⟨rfl,rfl,rfl,by decide +kernel,rfl,by decide +kernel,by decide +kernel⟩
theorem rM (F:Fun K "switch_at" "switch_at" (top 21) f fd) (B:Blt mg)     :
  FnOk P w K mg base CX0 (n + 1) f fd ["k","stage","line"] (yZ K):=by
 refine F.ok vJ yK (fun cdv A outer s H vs Q E hr h=>?_)
 obtain ⟨x,y,z,rfl,k,st,l,rfl,rfl,rfl,k4,hs,l0,l1,q⟩:=h
 refine ⟨_,(zd (zu (i:=3) vJ.nd rfl (Or.inl rfl) (zr xm (pv 0) (pv 1))) (zh (zn (zr Ug (zr yB (zr q9 (pv 2) (zr yn (pv 3) zj)) (pv 3)) (zr ZB (pv 2) (zr xm (zr yB zj (pv 3)) zj)))))),?_⟩
 have e1:(0:Int) <= l / 2 ^ ((k:Int) - st + 1).toNat:=Int.ediv_nonneg l0 (Int.le_of_lt (Int.pow_pos (by decide)))
 have e2:l / 2 ^ ((k:Int) - st + 1).toNat <= l:=Int.ediv_le_self _ l0
 refine ⟨_,rfl,_,rfl,_,_,rfl,rfl,_,rfl,_,rfl,_,_,rfl,rfl,_,_,rfl,rfl,(by show (0:Int) <= (k:Int) - st + 1; omega),_,rfl,_,_,rfl,rfl,⟨by show (0:Int) <= (k:Int) - st; omega,by show (k:Int) - st <= 1000000; omega,by show (l / 2 ^ ((k:Int) - st + 1).toNat).natAbs < 2 ^ 64; omega⟩,?_⟩
 exact ⟨_,rfl,_,rfl,_,_,rfl,rfl,⟨by show (0:Int) <= (k:Int) - st; omega,by show (k:Int) - st <= 1000000; omega,by decide⟩,_,_,rfl,rfl,_,_,rfl,rfl,_,_,rfl,rfl,q⟩
theorem qJ:FnScope ["k","box"] ["k","box"] (zf (top 53)):=⟨rfl,rfl,rfl,by decide +kernel,rfl,by decide +kernel,by decide +kernel⟩
theorem qK (F:Fun K "side_for" "side_for" (top 53) f fd) (B:Blt mg)     :
  FnOk P w K mg base CX0 (n + 1) f fd ["k","box"] (uu K):=by
 refine F.ok qJ zB (fun cdv A outer s H vs Q E hr h=>?_)
 obtain ⟨x,y,rfl,k,b,rfl,rfl,k4,b16,q⟩:=h
 refine ⟨_,(zh (zn (zr ZB (pv 1) (zr xm (zr yB zj (pv 0)) zj)))),?_⟩
 refine ⟨_,rfl,_,rfl,_,_,rfl,rfl,vE k4,_,_,rfl,rfl,_,_,rfl,rfl,?_⟩
 have e:=XD k4 b16
 show Q (.int (Builtin.bitAnd (b:Int) (1 * 2 ^ ((k:Int)).toNat - 1))) H
 rw [e]
 exact q
theorem uC:FnScope ["k","stage","line","firsts","first"] ["k","stage","line","firsts"] (zf (top 55)):=⟨rfl,rfl,rfl,by decide +kernel,rfl,by decide +kernel,by decide +kernel⟩
theorem qL (F:Fun K "in_order" "in_order" (top 55) f fd) (B:Blt mg) (qc0:zg P w K mg base n "with_figure" ["k","stage","line","wanted"] (yS K)) (qc1:zg P w K mg base n "switch_at" ["k","stage","line"] (yZ K))    :
  FnOk P w K mg base CX0 (n + 1) f fd ["k","stage","line","firsts"] (up K):=by
 refine F.ok uC ud (fun cdv A outer s H vs Q E hr h=>?_)
 obtain ⟨x,y,z,u,rfl,k,st,l,rows,rfl,rfl,rfl,⟨rs,xs,rfl,hs,hall⟩,k4,s1,s2,hl,hset,q⟩:=h
 refine ⟨_,(zd (zu (i:=4) uC.nd rfl (Or.inl rfl) (zT yI (zT yI (pv 3) (zr xm (pv 1) zj) (fun _ _=>rfl)) (ze qc1 hr rfl (za (pv 0) (za (pv 1) (za (pv 2) zb)))) (fun _ _=>rfl))) (zh (zn (zZ (za (ze qc0 hr rfl (za (pv 0) (za (pv 1) (za (pv 2) (za (pv 4) zb))))) (za (ze qc0 hr rfl (za (pv 0) (za (pv 1) (za (pv 2) (za (zr xm zj (pv 4)) zb))))) zb)))))),?_⟩
 have p:=zU k4
 have O:=oneF k4 s1 s2 hl
 have hlt:=O.lt
 have hf:=WG k4 hset s1 s2 hl
 have hb:=hset.bits (show st - 1 < k by omega)
 obtain ⟨ra,hra,hsa⟩:=X1 hall (i:=(st:Int) - 1) (by omega) (by rw [hset.1]; omega)
 rw [show ((st:Int) - 1).toNat = st - 1 by omega] at hsa
 refine ⟨_,rfl,_,rfl,_,_,rfl,rfl,rs,_,_,_,rfl,rfl,hs,hra,_,rfl,_,rfl,_,rfl,_,_,_,rfl,k,st,l,rfl,rfl,rfl,k4,s2,by omega,by omega,?_⟩
 rw [O.sw,O.num]
 have hg:=getI (xs:=rows.getD (st - 1) []) (i:=(nN k st l:Int)) (by omega) (by rw [hb.1]; omega)
 rw [Int.toNat_natCast] at hg
 refine ⟨ra,_,_,_,rfl,rfl,hsa,hg,?_⟩
 have W1:=wfF k4 s1 s2 hl hf
 have W2:=wfF k4 s1 s2 hl (show 1 - fstI rows st (nN k st l) = 0 \/ 1 - fstI rows st (nN k st l) = 1 by omega)
 refine ⟨_,rfl,_,rfl,_,rfl,_,rfl,_,_,_,_,rfl,k,st,l,fstI rows st (nN k st l),rfl,rfl,rfl,rfl,k4,s2,by omega,by omega,hf,?_⟩
 refine ⟨_,rfl,_,rfl,_,rfl,_,rfl,_,_,rfl,rfl,_,_,_,_,rfl,k,st,l,1 - fstI rows st (nN k st l),rfl,rfl,rfl,rfl,k4,s2,by omega,by omega,by omega,szl rfl,fun t ht=>?_⟩
 refine q _ _ (Grow.new ht _) ⟨t,rfl,SqT.of ?_⟩
 rw [zc,W1.eq,W2.eq]; rfl
theorem zQ:FnScope ["k","stage","asked","firsts","behind","kept","line","box","in_lines","deeds","out"] ["k","stage","asked","firsts"] (zf (top 56)):=⟨rfl,rfl,rfl,by decide +kernel,rfl,by decide +kernel,by decide +kernel⟩
theorem t6 (F:Fun K "pass_stage" "pass_stage" (top 56) f fd) (B:Blt mg) (qc0:zg P w K mg base n "joined" ["one","other"] (sK K)) (qc1:zg P w K mg base n "switch_at" ["k","stage","line"] (yZ K)) (qc2:zg P w K mg base n "onward" ["k","stage","line","side"] (uf K)) (qc3:zg P w K mg base n "side_for" ["k","box"] (uu K)) (qc4:zg P w K mg base n "in_order" ["k","stage","line","firsts"] (up K))    :
  FnOk P w K mg base CX0 (n + 1) f fd ["k","stage","asked","firsts"] (rg K):=by
 refine F.ok zQ ud (fun cdv A outer s H vs Q E hr h=>?_)
 obtain ⟨x,y,z,u,rfl,k,st,m,d,rows,ks,rfl,rfl,rfl,k4,s1,sk,m16,hd,hrw,hs,R,q⟩:=h
 refine ⟨_,(zd (zu (i:=4) zQ.nd rfl (Or.inl rfl) jD) (zd (zu (i:=5) zQ.nd rfl (Or.inl rfl) jD) (zd (yH PassesOwn.never rfl (VV (pv 2)) (yV rfl (zk (zi (i:=6) zQ.nd rfl (Or.inl rfl)) (zk (zi (i:=7) zQ.nd rfl (Or.inr rfl)) zF))) (zd (zu (i:=8) zQ.nd rfl (Or.inl rfl) (ze qc4 hr rfl (za (pv 0) (za (pv 1) (za (pv 6) (za (pv 3) zb)))))) (zd (xP (i:=9) zQ.nd rfl rfl (CSc.of (N':=["in_line","asked","box"]) (sub:=[none,some 2,some 7]) (zf (top 56)) ["k","stage","asked","firsts","behind","kept","line","box","in_lines","deeds","out"] rfl rfl (by decide +kernel) rfl) rfl (ym (pv 8)) (fun _ _ _ _ _ _=>zi (i:=0) (show (["in_line","asked","box"]:List Str).Nodup by decide +kernel) rfl (Or.inl rfl)) (fun _ _ _ _ _ _=>(Xe (wf (VR (Room.u1F hr) (zZ (za (pv 0) (za (pv 2) zb))) (pv 1))))) (fun _ _ _ _ _ _=>(WJ (Room.u1F hr) (pv 1) (zZ (za (pv 0) (za (pv 2) zb))) (fun _ _=>rfl)))) (zd (zu (i:=10) zQ.nd rfl (Or.inl rfl) (zZ (za (ze qc2 hr rfl (za (pv 0) (za (pv 1) (za (pv 6) (za (ze qc3 hr rfl (za (pv 0) (za (pv 7) zb))) zb))))) (za (pv 7) zb)))) (zh (yc (zJ vn (zl zw rfl B.len x9 (za (pv 9) zb)) zj (zH _)) (zd (qu (Room.u1F hr) (pv 5) (zZ (za (ze qc1 hr rfl (za (pv 0) (za (pv 1) (za (pv 6) zb)))) (za (pv 7) zb))) (zT zK (pv 9) zj (fun _ _=>rfl)) rfl) (zh (qu (Room.u1F hr) (pv 4) (pv 10) (ze qc0 hr rfl (za (zT zK (pv 9) zj (fun _ _=>rfl)) (za (zT zK (pv 9) zj (fun _ _=>rfl)) zb))) rfl))) (zh (qu (Room.u1F hr) (pv 4) (pv 10) (zT zK (pv 9) zj (fun _ _=>rfl)) rfl)))))))) (zh (zn (zZ (za (pv 4) (za (pv 5) zb)))))))),?_⟩
 have p16:=zU k4
 obtain ⟨kvs,hrd,tab,kl⟩:=hd
 have es:st = st - 1 + 1:=by omega
 have hdn:H d ≠ none:=by rcases hrd with z | ⟨o,z⟩ <;> rw [z] <;> exact fun z=>nomatch z
 refine uL (fun v H'=>∃ b0,v = .ref b0 /\ H b0 = none /\ H' = upd H b0 (.dT [])) (fun Kk hk=>fun p hp=>hk _ _ ⟨p,rfl,hp,rfl⟩) ?_
 rintro _ _ ⟨b0,rfl,hb0,rfl⟩
 have g1:=Grow.new (m:=[]) hb0 (.dT [])
 have eB1:=zc (H:=H) (a:=b0) (o:=.dT [])
 generalize upd H b0 (.dT []) = H1 at g1 eB1 ⊢
 refine uL (fun v H'=>∃ k0,v = .ref k0 /\ H1 k0 = none /\ H' = upd H1 k0 (.dT [])) (fun Kk hk=>fun p hp=>hk _ _ ⟨p,rfl,hp,rfl⟩) ?_
 rintro _ _ ⟨k0,rfl,hk1,rfl⟩
 have g2:=Grow.new (m:=[]) hk1 (.dT [])
 have eK2:=zc (H:=H1) (a:=k0) (o:=.dT [])
 have hk0:H k0 = none:=g1.free (by simp) hk1
 have bk0:b0 ≠ k0:=fun z=>by rw [z,hk1] at eB1; cases eB1
 have eB2:=g2.keep _ _ (by simp) eB1
 have g12:=g1.trans g2
 generalize upd H1 k0 (.dT []) = H2 at g2 g12 eK2 eB2 ⊢
 have nb:d ≠ b0:=fun z=>hdn (z ▸ hb0)
 have nk:d ≠ k0:=fun z=>hdn (z ▸ hk0)
 have hrd2:=Rd.growR g12 (.inl (by simp)) hrd
 refine ⟨_,rfl,d,kvs,rfl,hrd2,fun o H3 hd3 g3 same3=>?_⟩
 have eB3:H3 b0 = some (.dT []):=by rw [same3 b0 (Ne.symm nb)]; exact eB2
 have eK3:H3 k0 = some (.dT []):=by rw [same3 k0 (Ne.symm nk)]; exact eK2
 have hrw3:=g3.rows (g12.rows hrw)
 have tab3:TabR kvs (2 ^ k) m (lvR k rows ks (st - 1)) (yg K H3):=tab.imp fun v x hv=>g3.deed (g12.deed hv)
 refine VW (fun i σ H'=>∃ (e6 e7 e8 e9 e10:Option V) (bk kk:List (List Key × V)),σ = [some (.int k),some (.int st),some (.ref d),some u,some (.ref b0),some (.ref k0),e6,e7,e8,e9,e10] /\ Grow [b0,k0] H3 H' /\ H' b0 = some (.dT bk) /\ H' k0 = some (.dT kk) /\ Beh K H' k m rows ks st kvs i bk kk) ?_ ?_ ?_ ?_
 ·exact ⟨_,_,_,_,_,[],[],rfl,Grow.refl _ _,eB3,eK3,Beh.nil⟩
 ·rintro i σ H' _ ⟨e6,e7,e8,e9,e10,bk,kk,rfl,g,_⟩
  exact g.frz _ _ _ hd3
 ·rintro i p bb σ H4 hp hbb ⟨e6,e7,e8,e9,e10,bk,kk,rfl,g4,hB4,hK4,beh⟩
  obtain ⟨l,b,dd,ep,hl,hb,hlv,hdd⟩:=tab3.keys p (List.mem_of_getElem? hp)
  obtain ⟨pk,v⟩:=p
  cases (show pk = keyR l b from ep)
  have b16:b < 16:=by omega
  have hi:i < kvs.length:=(List.getElem?_eq_some_iff.mp hp).1
  refine ⟨bb,[.int l,.int b],rfl,SqT.of hbb,rfl,_,_,rfl,_,_,rfl,rfl,?_⟩
  refine uL (fun v H'=>VM K H' v [x0R k rows st l,x1R k rows st l] /\ Grow [] H4 H') (fun Kk hk=>⟨_,rfl,_,rfl,_,rfl,_,rfl,_,_,_,_,rfl,k,st,l,rows,rfl,rfl,rfl,g4.rows hrw3,k4,s1,sk,hl,hs,fun y H' g hn=>hk _ _ ⟨hn,g⟩⟩) ?_
  rintro _ H5 ⟨⟨ri,rfl,hri⟩,g5⟩
  have X:=xF (rows:=rows) k4 hs s1 sk hl
  have fz:∀ H',Grow [] H4 H' -> H' d = some (.frz o (.dT kvs)):=fun H' g=>g.frz _ _ _ (g4.frz _ _ _ hd3)
  have fz5:=fz H5 g5
  refine uL (fun v H'=>∃ l9,v = .ref l9 /\ H' l9 = some (.lst ((valV kvs (keyR (x0R k rows st l) b)).toList ++ (valV kvs (keyR (x1R k rows st l) b)).toList)) /\ Grow [] H5 H') (fun Kk hk=>⟨_,rfl,ri,rfl,⟨_,hri⟩,wU (xs:=zM [x0R k rows st l,x1R k rows st l]) (fun n ys σ' H'=>Grow [] H5 H' /\ (∃ e,σ' = [e,some (.ref d),some (.int b)]) /\ ys = (([x0R k rows st l,x1R k rows st l].take n).flatMap fun x=>(valV kvs (keyR x b)).toList)) ⟨Grow.refl _ _,⟨_,rfl⟩,rfl⟩ (fun n ys σ' H' _ z=>z.1.sqT hri) ?_ ?_⟩) ?_
  ·rintro n y ys σ' H' hy ⟨g,⟨e,rfl⟩,rfl⟩
   have fin:∀ x:Nat,y = .int x -> (([x0R k rows st l,x1R k rows st l].take (n + 1)).flatMap fun x=>(valV kvs (keyR x b)).toList) = (([x0R k rows st l,x1R k rows st l].take n).flatMap fun x=>(valV kvs (keyR x b)).toList) ++ (valV kvs (keyR x b)).toList -> (([x0R k rows st l,x1R k rows st l].take n).flatMap fun x=>(valV kvs (keyR x b)).toList).length < sizeLine →
     tB (tDIn (tTup (ZI (tVar 0) (ZI (tVar 2) tNil))) (tVar 1)) [some y,some (.ref d),some (.int b)] H' (fun t H4=>if t = true then VQ (tVar 1) (tTup (ZI (tVar 0) (ZI (tVar 2) tNil))) [some y,some (.ref d),some (.int b)] H4 fun y' H5'=>(([x0R k rows st l,x1R k rows st l].take n).flatMap fun x=>(valV kvs (keyR x b)).toList).length < sizeLine /\ Grow [] H5 H5' /\ (∃ e,[some y,some (V.ref d),some (V.int b)] = [e,some (.ref d),some (.int b)]) /\ (([x0R k rows st l,x1R k rows st l].take n).flatMap fun x=>(valV kvs (keyR x b)).toList) ++ [y'] = (([x0R k rows st l,x1R k rows st l].take (n + 1)).flatMap fun x=>(valV kvs (keyR x b)).toList) else Grow [] H5 H4 /\ (∃ e,[some y,some (V.ref d),some (V.int b)] = [e,some (.ref d),some (.int b)]) /\ (([x0R k rows st l,x1R k rows st l].take n).flatMap fun x=>(valV kvs (keyR x b)).toList) = (([x0R k rows st l,x1R k rows st l].take (n + 1)).flatMap fun x=>(valV kvs (keyR x b)).toList)):=by
    rintro x rfl et hsz
    rw [et]
    refine ⟨_,rfl,_,rfl,szl rfl,fun t ht=>?_⟩
    have gt:=Grow.new (m:=[]) ht (.tup [.int x,.int b])
    refine ⟨_,rfl,d,valV kvs (keyR x b),rfl,YG (gt.frz _ _ _ (g.frz _ _ _ fz5)) zc,_,rfl,?_⟩
    cases hv:valV kvs (keyR x b) with
    | none=>exact iteF ⟨g.trans gt,⟨_,rfl⟩,by rw [show (none:Option V).toList = [] from rfl,List.append_nil]⟩
    | some v =>
     refine wT rfl ⟨_,rfl,_,rfl,_,rfl,szl rfl,fun t2 ht2=>?_⟩
     have gt2:=Grow.new (m:=[]) ht2 (.tup [.int x,.int b])
     have gx:=YG (l:=x) (b:=b) (gt2.frz _ _ _ (gt.frz _ _ _ (g.frz _ _ _ fz5))) (zc (H:=upd H' t (.tup [.int x,.int b])) (a:=t2) (o:=.tup [.int x,.int b]))
     rw [hv] at gx
     exact ⟨d,v,rfl,gx,hsz,g.trans (gt.trans gt2),⟨_,rfl⟩,rfl⟩
   have small:∀ o:Option V,o.toList.length <= 1:=fun o=>by cases o <;> simp
   match n,hy with
   | 0,hy=>cases Option.some.inj hy; exact fin _ rfl (by simp [List.flatMap_cons]) (yJ (by simp))
   | 1,hy =>
    cases Option.some.inj hy
    refine fin _ rfl (by simp [List.flatMap_cons]) (yJ ?_)
    have:=small (valV kvs (keyR (x0R k rows st l) b))
    simp [List.flatMap_cons]; omega
  ·rintro ys σ' H' ⟨g,_,rfl⟩ l9 hl9
   refine hk _ _ ⟨l9,rfl,?_,g.trans (Grow.new hl9 _)⟩
   rw [zc]
   simp [List.flatMap_cons,zM]
  rintro _ H6 ⟨l9,rfl,h9,g6⟩
  have fz6:=g6.frz _ _ _ fz5
  have W:=outF (b:=b) k4 s1 sk hl
  refine uL (fun v H'=>∃ t,v = .ref t /\ H' t = some (.tup [.int (outR k st l b:Nat),.int b]) /\ Grow [] H6 H') (fun Kk hk=>⟨_,rfl,_,rfl,_,rfl,_,rfl,_,rfl,_,_,rfl,k,b,rfl,rfl,k4,b16,_,_,_,_,rfl,k,st,l,((b % 2 ^ k:Nat):Int),rfl,rfl,rfl,rfl,k4,sk,by omega,by omega,by omega,by have:=y0 (k:=k) (b:=b); omega,_,rfl,szl rfl,fun t ht=>hk _ _ ⟨t,rfl,?_,Grow.new ht _⟩⟩) ?_
  ·rw [zc,W.eq]; rfl
  rintro _ H7 ⟨t,rfl,ht,g7⟩
  have G7:=g5.trans (g6.trans g7)
  have h97:=g7.keep _ _ (by simp) h9
  have tab7:TabR kvs (2 ^ k) m (lvR k rows ks (st - 1)) (yg K H7):=tab3.imp fun v x hv=>G7.deed (g4.deed hv)
  have B7:=beh.grow G7
  have hB7:=G7.keep _ _ (by simp) hB4
  have hK7:=G7.keep _ _ (by simp) hK4
  have G37:Grow [b0,k0] H3 H7:=g4.trans G7.wk
  have lvo:lvR k rows ks st (outR k st l b) b = YC (lvR k rows ks (st - 1) (x0R k rows st l) b) (lvR k rows ks (st - 1) (x1R k rows st l) b):=by
   have:=X9 (ks:=ks) (b:=b) k4 hs (s:=st - 1) (by omega) hl
   rw [← es] at this; exact this
  have val0:=tab7.val X.lt0 hb
  have val1:=tab7.val X.lt1 hb
  have tb:=beh.bl
  have tk:=beh.kl
  have O:=oneF k4 s1 sk hl
  have single:∀ (w:V) (x:Deed),H7 l9 = some (.lst [w]) -> lvR k rows ks st (outR k st l b) b = some x -> yg K H7 w x -> kpR k rows ks st l b = none -> ∃ (e6 e7 e8 e9 e10:Option V) (bk' kk':List (List Key × V)),[some (V.int k),some (.int st),some (.ref d),some u,some (.ref b0),some (.ref k0),some (.int l),some (.int b),some (.ref ri),some (.ref l9),some (.ref t)] = [some (.int k),some (.int st),some (.ref d),some u,some (.ref b0),some (.ref k0),e6,e7,e8,e9,e10] /\ Grow [b0,k0] H3 (upd H7 b0 (.dT (putK bk (keyR (outR k st l b) b) w))) /\ upd H7 b0 (.dT (putK bk (keyR (outR k st l b) b) w)) b0 = some (.dT bk') /\ upd H7 b0 (.dT (putK bk (keyR (outR k st l b) b) w)) k0 = some (.dT kk') /\ Beh K (upd H7 b0 (.dT (putK bk (keyR (outR k st l b) b) w))) k m rows ks st kvs (i + 1) bk' kk':=fun w x _ hx hw hkp=>by
   have gs:Grow [b0,k0] H7 (upd H7 b0 (.dT (putK bk (keyR (outR k st l b) b) w))):=Grow.setR hB7 (by simp)
   exact ⟨_,_,_,_,_,_,kk,rfl,G37.trans gs,zc,by rw [zm (Ne.symm bk0)]; exact hK7,(B7.one hp W.lt hb hx hw hkp).grow gs⟩
  cases h0:lvR k rows ks (st - 1) (x0R k rows st l) b with
  | none =>
   rw [h0] at val0 lvo
   cases h1:lvR k rows ks (st - 1) (x1R k rows st l) b with
   | none =>
    rcases X.or with e | e
    ·rw [← e,hlv] at h0; cases h0
    ·rw [← e,hlv] at h1; cases h1
   | some d1 =>
    rw [h1] at val1 lvo
    obtain ⟨v1,e1,w1⟩:=val1
    have kn:kpR k rows ks st l b = none:=by unfold kpR; rw [h0]
    rw [(show valV kvs (keyR (x0R k rows st l) b) = none from val0),e1] at h97
    refine ⟨_,rfl,l9,_,rfl,.inl (SqL.of h97),rfl,_,rfl,yX (decide_eq_false fun z=>nomatch V.int.inj z) ?_⟩
    exact ⟨_,rfl,l9,_,0,v1,rfl,rfl,SqL.of h97,rfl,_,rfl,_,rfl,b0,_,rfl,DPut.t (k:=keyR (outR k st l b) b) hB7 ht (yJ (by omega)),single v1 d1 h97 lvo w1 kn⟩
  | some d0 =>
   rw [h0] at val0
   obtain ⟨v0,e0,w0⟩:=val0
   cases h1:lvR k rows ks (st - 1) (x1R k rows st l) b with
   | none =>
    rw [h0,h1] at lvo
    rw [h1] at val1
    have kn:kpR k rows ks st l b = none:=by unfold kpR; rw [h0,h1]
    rw [e0,(show valV kvs (keyR (x1R k rows st l) b) = none from val1)] at h97
    refine ⟨_,rfl,l9,_,rfl,.inl (SqL.of h97),rfl,_,rfl,yX (decide_eq_false fun z=>nomatch V.int.inj z) ?_⟩
    exact ⟨_,rfl,l9,_,0,v0,rfl,rfl,SqL.of h97,rfl,_,rfl,_,rfl,b0,_,rfl,DPut.t (k:=keyR (outR k st l b) b) hB7 ht (yJ (by omega)),single v0 d0 h97 lvo w0 kn⟩
   | some d1 =>
    rw [h0,h1] at lvo
    rw [h1] at val1
    obtain ⟨v1,e1,w1⟩:=val1
    have kn:kpR k rows ks st l b = some d0:=by unfold kpR; rw [h0,h1]
    rw [e0,e1] at h97
    refine ⟨_,rfl,l9,_,rfl,.inl (SqL.of h97),rfl,_,rfl,wT (decide_eq_true rfl) ?_⟩
    refine ⟨_,rfl,l9,_,0,v0,rfl,rfl,SqL.of h97,rfl,_,rfl,_,rfl,_,rfl,_,rfl,_,_,_,rfl,k,st,l,rfl,rfl,rfl,k4,sk,by omega,by omega,_,rfl,szl rfl,fun t2 ht2=>?_⟩
    rw [O.sw,O.num]
    have g8:=Grow.new (m:=[]) ht2 (.tup [.int (nN k st l:Nat),.int b])
    have e8:=zc (H:=H7) (a:=t2) (o:=.tup [.int (nN k st l:Nat),.int b])
    have hB8:=g8.keep _ _ (by simp) hB7
    have hK8:=g8.keep _ _ (by simp) hK7
    have h98:=g8.keep _ _ (by simp) h97
    have ht8:=g8.keep _ _ (by simp) ht
    have w0':=g8.deed w0
    have w1':=g8.deed w1
    have B8:=B7.grow g8
    generalize upd H7 t2 (.tup [.int (nN k st l:Nat),.int b]) = H8 at g8 e8 hB8 hK8 h98 ht8 w0' w1' B8 ⊢
    refine ⟨k0,_,rfl,DPut.t (k:=keyR (nN k st l) b) hK8 e8 (yJ (by omega)),?_⟩
    have g9:Grow [b0,k0] H8 (upd H8 k0 (.dT (putK kk (keyR (nN k st l) b) v0))):=Grow.setR hK8 (by simp)
    have hB9:upd H8 k0 (.dT (putK kk (keyR (nN k st l) b) v0)) b0 = some (.dT bk):=by rw [zm bk0]; exact hB8
    have hK9:=zc (H:=H8) (a:=k0) (o:=.dT (putK kk (keyR (nN k st l) b) v0))
    have n9:l9 ≠ k0:=Wb h98 hK8 (fun z=>nomatch z)
    have nt9:t ≠ k0:=Wb ht8 hK8 (fun z=>nomatch z)
    have h99:upd H8 k0 (.dT (putK kk (keyR (nN k st l) b) v0)) l9 = some (.lst [v0,v1]):=by rw [zm n9]; exact h98
    have ht9:upd H8 k0 (.dT (putK kk (keyR (nN k st l) b) v0)) t = some (.tup [.int (outR k st l b:Nat),.int b]):=by rw [zm nt9]; exact ht8
    generalize upd H8 k0 (.dT (putK kk (keyR (nN k st l) b) v0)) = H9 at g9 hB9 hK9 h99 ht9 ⊢
    refine ⟨_,rfl,l9,_,0,v0,rfl,rfl,SqL.of h99,rfl,_,rfl,l9,_,1,v1,rfl,rfl,SqL.of h99,rfl,_,_,rfl,d0,d1,g9.deed w0',g9.deed w1',fun t3 ht3=>?_⟩
    have ga:=Grow.new (m:=[]) ht3 (.tup (qc d0 d1).vs)
    have hBa:=ga.keep _ _ (by simp) hB9
    have hKa:=ga.keep _ _ (by simp) hK9
    have hta:=ga.keep _ _ (by simp) ht9
    have wj:yg K (upd H9 t3 (.tup (qc d0 d1).vs)) (.ref t3) (qc d0 d1):=⟨t3,rfl,SqT.of zc⟩
    have Ga:Grow [b0,k0] H3 (upd H9 t3 (.tup (qc d0 d1).vs)):=G37.trans (g8.wk.trans (g9.trans ga.wk))
    have Ba:=(B8.grow g9).grow ga
    have wa:=ga.deed (g9.deed w0')
    generalize upd H9 t3 (.tup (qc d0 d1).vs) = Ha at ga hBa hKa hta wj Ga Ba wa ⊢
    refine ⟨_,rfl,_,rfl,b0,_,rfl,DPut.t (k:=keyR (outR k st l b) b) hBa hta (yJ (by omega)),?_⟩
    have gs:Grow [b0,k0] Ha (upd Ha b0 (.dT (putK bk (keyR (outR k st l b) b) (.ref t3)))):=Grow.setR hBa (by simp)
    exact ⟨_,_,_,_,_,_,_,rfl,Ga.trans gs,zc,by rw [zm (Ne.symm bk0)]; exact hKa,(Ba.two hp hl W.lt hb lvo wj kn wa).grow gs⟩
 ·rintro σ H4 ⟨e6,e7,e8,e9,e10,bk,kk,rfl,g4,hB4,hK4,beh⟩
  have tab4:TabR kvs (2 ^ k) m (lvR k rows ks (st - 1)) (yg K H4):=tab3.imp fun v x hv=>g4.deed hv
  obtain ⟨L1,L2⟩:=beh.done k4 hs s1 sk tab4 kl hB4 hK4
  refine ⟨_,rfl,_,rfl,szl rfl,fun r hr'=>?_⟩
  have g5:=Grow.new (m:=[]) hr' (.tup [.ref b0,.ref k0])
  have G:Grow [d] H (upd H4 r (.tup [.ref b0,.ref k0])):=by
   have a1:Grow [d,b0,k0] H H3:=(g12.wk.trans (g3.mono (by simp)))
   have a2:Grow [d,b0,k0] H3 H4:=g4.mono (by simp)
   refine (a1.trans (a2.trans g5.wk)).less fun b hb=>?_
   simp only [List.mem_cons,List.mem_nil_iff,or_false] at hb
   rcases hb with rfl | rfl | rfl
   ·exact .inl (by simp)
   ·exact .inr hb0
   ·exact .inr hk0
  exact q r b0 k0 _ G hb0 hk0 bk0 (SqT.of zc) (L1.grow g5 (by simp)) (L2.grow g5 (by simp)) ⟨kvs,.inr ⟨o,g5.frz _ _ _ (g4.frz _ _ _ hd3)⟩,tab4.imp fun v x hv=>g5.deed hv,kl⟩
theorem yP:FnScope ["k","asks","firsts","levels","stages","stage","behind","kept"] ["k","asks","firsts"] (zf (top 57)):=⟨rfl,rfl,rfl,by decide +kernel,rfl,by decide +kernel,by decide +kernel⟩
theorem qM (F:Fun K "pass_net" "pass_net" (top 57) f fd) (B:Blt mg) (qc0:zg P w K mg base n "pass_stage" ["k","stage","asked","firsts"] (rg K))    :
  FnOk P w K mg base CX0 (n + 1) f fd ["k","asks","firsts"] (rh K):=by
 refine F.ok yP yK (fun cdv A outer s H vs Q E hr h=>?_)
 obtain ⟨x,y,z,rfl,k,m,rows,ks,rfl,k4,m16,k16,hks,hrw,hs,R,q⟩:=h
 refine ⟨_,(zd (zu (i:=3) yP.nd rfl (Or.inl rfl) (x4 (za (XB (Room.u1F hr) (CSc.of (N':=["hand","box","deed"]) (sub:=[none,none,none]) (zf (top 57)) ["k","asks","firsts","levels","stages","stage","behind","kept"] rfl rfl (by decide +kernel) rfl) rfl (ym (pv 1)) (fun _ _ _ _ _ _=>xR (K:=K) 3 rfl rfl (zk (zi (i:=0) (show (["hand","box","deed"]:List Str).Nodup by decide +kernel) rfl (Or.inl rfl) (Or.inr rfl)) (zk (zi (i:=1) (show (["hand","box","deed"]:List Str).Nodup by decide +kernel) rfl (Or.inl rfl) (Or.inr rfl)) (zk (zi (i:=2) (show (["hand","box","deed"]:List Str).Nodup by decide +kernel) rfl (Or.inl rfl) (Or.inr rfl)) zF))) rfl rfl) (fun _ _ _ _ _ _=>zo) (fun _ _ _ _ _ _=>(zZ (za (pv 0) (za (pv 1) zb)))) (fun _ _ _ _ _ _=>(pv 2))) zb))) (zd (zu (i:=4) yP.nd rfl (Or.inl rfl) (x4 zb)) (zd (yH PassesOwn.never rfl (wR rfl B.range (za zj (za (zr yn (pv 0) zj) zb))) (zi (i:=5) yP.nd rfl (Or.inl rfl)) (zd (wm (ze qc0 hr rfl (za (pv 0) (za (pv 5) (za (zT zK (pv 3) (Vg XS zj) (fun _ _=>rfl)) (za (pv 2) zb))))) (yV rfl (zk (zi (i:=6) yP.nd rfl (Or.inl rfl)) (zk (zi (i:=7) yP.nd rfl (Or.inl rfl)) zF)))) (zd (zI (sE PySem.F.plainAttrs_list PySem.F.slot_list_append PySem.F.type_list_append xD (pv 3) (za (pv 6) zb))) (zh (zI (sE PySem.F.plainAttrs_list PySem.F.slot_list_append PySem.F.type_list_append xD (pv 4) (za (pv 7) zb))))))) (zh (zn (zZ (za (pv 3) (za (pv 4) zb)))))))),?_⟩
 have p16:=zU k4
 obtain ⟨ra,xs,rfl,hra,hxs⟩:=hks
 have xl:=hxs.len
 refine uL (fun v H'=>∃ lL d0 vs,v = .ref lL /\ H' lL = some (.lst [.ref d0]) /\ H' d0 = some (.dT (lv0K ks vs)) /\ vs.length = ks.length /\ (∀ (i:Nat) (a:Ask) (v:V),ks[i]? = some a -> vs[i]? = some v -> yg K H' v a.deed) /\ Grow [] H H' /\ H d0 = none /\ H lL = none) (fun Kk hk=>⟨_,rfl,ra,rfl,⟨_,hra⟩,YE (xs:=xs) (fun n kvs Hb σ' H'=>Grow [] H H' /\ Grow [] Hb H' /\ (∃ e1 e2 e3,σ' = [e1,e2,e3]) /\ n <= ks.length /\ ∃ vs,kvs = lv0K (ks.take n) vs /\ vs.length = n /\ ∀ (i:Nat) (a:Ask) (v:V),ks[i]? = some a -> vs[i]? = some v -> yg K H' v a.deed) ⟨Grow.refl _ _,Grow.refl _ _,⟨_,_,_,rfl⟩,Nat.zero_le _,[],rfl,rfl,fun i a v _ h=>by cases h⟩ (fun n kvs Hb σ' H' z=>z.1.sqT hra) ?_ ?_⟩) ?_
 ·rintro n x kvs Hb σ' H' hx ⟨g,gb,⟨e1,e2,e3,rfl⟩,hn,vs,rfl,vl,hv⟩
  obtain ⟨a,ha,r,rd,rfl,h1,h2⟩:=hxs.get hx
  have hn':=(List.getElem?_eq_some_iff.mp ha).1
  have am:=List.mem_of_getElem? ha
  refine ⟨r,_,rfl,g.sqT h1,rfl,_,_,rfl,_,_,rfl,_,_,rfl,rfl,?_⟩
  refine ⟨_,rfl,_,rfl,szl rfl,fun t ht=>?_⟩
  have gt:=Grow.new (m:=[]) ht (.tup [.int a.hand,.int a.box])
  refine ⟨_,rfl,yJ (by rw [YI]; omega),t,keyR a.hand.toNat a.box.toNat,rfl,?_,(fun c xs e=>gt.tup _ _ (gb.tup _ _ e)),g.trans gt,Grow.refl _ _,⟨_,_,_,rfl⟩,hn',vs ++ [.ref rd],WQ R ha vl,by rw [List.length_append]; show vs.length + 1 = _; omega,?_⟩
  ·rw [XE (R.hand a am).1 (R.box a am).1]; exact zc
  ·intro i a' v' hi hv'
   by_cases c:i < vs.length
   ·rw [List.getElem?_append_left c] at hv'
    exact gt.deed (hv i a' v' hi hv')
   ·have e:i = n:=by have:=(List.getElem?_eq_some_iff.mp hv').1; rw [List.length_append] at this; have:i < vs.length + 1:=this; omega
    rw [e,ha] at hi
    rw [e,← vl,List.getElem?_concat_length] at hv'
    cases Option.some.inj hi
    cases Option.some.inj hv'
    exact ⟨rd,rfl,gt.sqT (g.sqT h2)⟩
 ·rintro kvs Hb σ' H' ⟨g,gb,_,_,vs,rfl,vl,hv⟩
  refine ⟨fun b xs e=>gb.tup _ _ e,fun d0 hd0=>⟨szl rfl,fun lL hlL=>?_⟩⟩
  have g1:=Grow.new (m:=[]) hd0 (.dT (lv0K (ks.take xs.length) vs))
  have g2:=Grow.new (m:=[]) hlL (.lst [.ref d0])
  rw [xl,List.take_length] at g1 g2 hlL ⊢
  exact hk _ _ ⟨lL,d0,vs,rfl,zc,g2.keep _ _ (by simp) zc,by omega,fun i a v h1 h2=>g2.deed (g1.deed (hv i a v h1 h2)),g.trans (g1.trans g2),g.free (by simp) hd0,g.free (by simp) (g1.free (by simp) hlL)⟩
 rintro _ H1 ⟨lL,d0,vs,rfl,hL1,hd1,vl,hv1,g1,hd0,hlL⟩
 refine uL (fun v H'=>∃ lS,v = .ref lS /\ H1 lS = none /\ H' = upd H1 lS (.lst [])) (fun Kk hk=>⟨szl rfl,fun lS hlS=>hk _ _ ⟨lS,rfl,hlS,rfl⟩⟩) ?_
 rintro _ _ ⟨lS,rfl,hlS,rfl⟩
 have g2:=Grow.new (m:=[]) hlS (.lst [])
 have hS2:=zc (H:=H1) (a:=lS) (o:=.lst [])
 have hL2:=g2.keep _ _ (by simp) hL1
 have hd2:=g2.keep _ _ (by simp) hd1
 have nLS:lL ≠ lS:=fun z=>by rw [z,hlS] at hL1; cases hL1
 have hlS0:H lS = none:=g1.free (by simp) hlS
 have G2:=g1.trans g2
 have N2:NetR K (upd H1 lS (.lst [])) k m rows ks [d0] []:=by
  refine ⟨fun s d h=>?_,fun s d h=>(by cases h),by simp⟩
  match s,h with
  | 0,h =>
   cases Option.some.inj h
   exact ⟨_,.inl hd2,WP R vl fun i a v h1 h2=>g2.deed (hv1 i a v h1 h2),by rw [YI]; omega⟩
 generalize upd H1 lS (.lst []) = H2 at g2 hS2 hL2 hd2 G2 N2 ⊢
 refine ⟨_,rfl,_,_,rfl,rfl,_,_,rfl,⟨by omega,by omega,by omega,by omega⟩,xC (fun i σ H'=>∃ (ds kps:List Addr) (e5 e6 e7:Option V),σ = [some (.int k),some (.ref ra),some z,some (.ref lL),some (.ref lS),e5,e6,e7] /\ ds.length = i + 1 /\ kps.length = i /\ H' lL = some (.lst (ds.map V.ref)) /\ H' lS = some (.lst (kps.map V.ref)) /\ NetR K H' k m rows ks ds kps /\ (∀ d ∈ ds ++ kps,H d = none) /\ Grow [] H H') ?_ ?_ ?_⟩
 ·exact ⟨[d0],[],_,_,_,rfl,rfl,rfl,hL2,hS2,N2,(fun d hd=>by rw [show d = d0 from by simpa using hd]; exact hd0),G2⟩
 ·rintro i σ H3 hi ⟨ds,kps,e5,e6,e7,rfl,dl,kpl,hL3,hS3,N3,fr3,G3⟩
  have hik:i + 1 <= k:=by omega
  obtain ⟨ds0,d,rfl⟩:=XG (xs:=ds) (fun z=>by rw [z] at dl; cases dl)
  have dl0:ds0.length = i:=by rw [List.length_append] at dl; have:ds0.length + 1 = i + 1:=dl; omega
  have hLd:LvAt K H3 k m rows ks i d:=N3.lv i d (by rw [← dl0,List.getElem?_concat_length])
  have last:atI ((ds0 ++ [d]).map V.ref) (-1) = some (.ref d):=UA
  have nL:∀ e ∈ (ds0 ++ [d]) ++ kps,e ≠ lL /\ e ≠ lS:=fun e he=>by
   obtain ⟨kv,hk⟩:=N3.isD he
   exact ⟨Rd.ne_lst hk hL3,Rd.ne_lst hk hS3⟩
  have nLd:=nL d (by simp)
  refine ⟨_,rfl,_,rfl,_,rfl,_,rfl,lL,_,_,_,rfl,rfl,SqL.of hL3,last,_,rfl,_,_,_,_,rfl,k,i + 1,m,d,rows,ks,rfl,congrArg V.int (by omega),rfl,k4,by omega,hik,m16,hLd,G3.rows hrw,hs,R,fun r b' kp H4 g4 hb' hkp nbk s4 L4 K4 L4'=>?_⟩
  refine ⟨r,[.ref b',.ref kp],rfl,s4,rfl,_,_,rfl,_,_,rfl,rfl,?_⟩
  have hL4:=g4.keep _ _ (by simpa using Ne.symm nLd.1) hL3
  have hS4:=g4.keep _ _ (by simpa using Ne.symm nLd.2) hS3
  have nb:∀ e ∈ (ds0 ++ [d]) ++ kps,e ≠ b' /\ e ≠ kp:=fun e he=>by
   obtain ⟨kv,hk⟩:=N3.isD he
   exact ⟨fun z=>Rd.ne_none hk (z ▸ hb'),fun z=>Rd.ne_none hk (z ▸ hkp)⟩
  have ndd:∀ e ∈ ds0 ++ kps,e ≠ d:=fun e he z=>by
   have nd:=N3.nd
   rw [List.append_assoc] at nd
   rcases List.mem_append.mp he with h | h
   ·exact (List.nodup_append.mp nd).2.2 e h d (by simp) z
   ·have:=(List.nodup_append.mp nd).2.1
    rw [List.singleton_append,List.nodup_cons] at this
    exact this.1 (z ▸ h)
  have N4:NetR K H4 k m rows ks (ds0 ++ [d] ++ [b']) (kps ++ [kp]):=by
   refine ⟨fun s e h=>?_,fun s e h=>?_,?_⟩
   ·by_cases c:s < (ds0 ++ [d]).length
    ·rw [List.getElem?_append_left c] at h
     by_cases c2:s < ds0.length
     ·rw [List.getElem?_append_left c2] at h
      exact (N3.lv s e (by rw [List.getElem?_append_left c2]; exact h)).grow g4 (by simpa using ndd e (List.mem_append_left _ (List.mem_of_getElem? h)))
     ·have es:s = ds0.length:=by rw [List.length_append] at c; have:s < ds0.length + 1:=c; omega
      rw [es,List.getElem?_concat_length] at h
      cases Option.some.inj h
      rw [es,dl0]; exact L4'
    ·have es:s = (ds0 ++ [d]).length:=by have:=(List.getElem?_eq_some_iff.mp h).1; rw [List.length_append (bs:=[b'])] at this; have:s < (ds0 ++ [d]).length + 1:=this; omega
     rw [es,List.getElem?_concat_length] at h
     cases Option.some.inj h
     rw [es,dl]; exact L4
   ·by_cases c:s < kps.length
    ·rw [List.getElem?_append_left c] at h
     exact (N3.kp s e h).grow g4 (by simpa using ndd e (List.mem_append_right _ (List.mem_of_getElem? h)))
    ·have es:s = kps.length:=by have:=(List.getElem?_eq_some_iff.mp h).1; rw [List.length_append] at this; have:s < kps.length + 1:=this; omega
     rw [es,List.getElem?_concat_length] at h
     cases Option.some.inj h
     rw [es,kpl]; exact K4
   ·exact Zm N3.nd (fun e he=>(nb e he).1) (fun e he=>(nb e he).2) nbk
  have fr4:∀ e ∈ (ds0 ++ [d] ++ [b']) ++ (kps ++ [kp]),H e = none:=fun e he=>by
   rcases List.mem_append.mp he with h | h
   ·rcases List.mem_append.mp h with h | h
    ·exact fr3 e (List.mem_append_left _ h)
    ·rw [List.mem_singleton.mp h]; exact G3.free (by simp) hb'
   ·rcases List.mem_append.mp h with h | h
    ·exact fr3 e (List.mem_append_right _ h)
    ·rw [List.mem_singleton.mp h]; exact G3.free (by simp) hkp
  have G4:Grow [] H H4:=(G3.wk.trans g4).fresh fun b hb=>by rw [List.mem_singleton.mp hb]; exact fr3 d (by simp)
  have nL4:∀ e ∈ (ds0 ++ [d] ++ [b']) ++ (kps ++ [kp]),e ∉ [lL]:=fun e he z=>by
   obtain ⟨kv,hk⟩:=N4.isD he
   exact Rd.ne_lst hk hL4 (by simpa using z)
  have nS4:∀ e ∈ (ds0 ++ [d] ++ [b']) ++ (kps ++ [kp]),e ∉ [lS]:=fun e he z=>by
   obtain ⟨kv,hk⟩:=N4.isD he
   exact Rd.ne_lst hk hS4 (by simpa using z)
  refine ⟨_,rfl,.inl ⟨rfl,_,SqL.of hL4⟩,_,rfl,lL,_,_,rfl,rfl,hL4,yJ (by rw [List.length_map]; omega),?_⟩
  have g5:Grow [lL] H4 (upd H4 lL (.lst ((ds0 ++ [d]).map V.ref ++ [.ref b']))):=Grow.set hL4 (by simp) _
  have hL5:=zc (H:=H4) (a:=lL) (o:=.lst ((ds0 ++ [d]).map V.ref ++ [.ref b']))
  have hS5:upd H4 lL (.lst ((ds0 ++ [d]).map V.ref ++ [.ref b'])) lS = some (.lst (kps.map V.ref)):=by rw [zm (Ne.symm nLS)]; exact hS4
  have N5:=N4.grow g5 nL4
  have G5:Grow [] H (upd H4 lL (.lst ((ds0 ++ [d]).map V.ref ++ [.ref b']))):=(G4.wk.trans g5).fresh fun b hb=>by rw [List.mem_singleton.mp hb]; exact hlL
  generalize upd H4 lL (.lst ((ds0 ++ [d]).map V.ref ++ [.ref b'])) = H5 at g5 hL5 hS5 N5 G5 ⊢
  refine ⟨_,rfl,.inl ⟨rfl,_,SqL.of hS5⟩,_,rfl,lS,_,_,rfl,rfl,hS5,yJ (by rw [List.length_map]; omega),?_⟩
  have g6:Grow [lS] H5 (upd H5 lS (.lst (kps.map V.ref ++ [.ref kp]))):=Grow.set hS5 (by simp) _
  refine ⟨ds0 ++ [d] ++ [b'],kps ++ [kp],_,_,_,rfl,by rw [List.length_append,dl]; rfl,by rw [List.length_append,kpl]; rfl,?_,?_,N5.grow g6 nS4,fr4,(G5.wk.trans g6).fresh fun b hb=>by rw [List.mem_singleton.mp hb]; exact hlS0⟩
  ·rw [zm nLS,hL5,List.map_append (l₂:=[b'])]; rfl
  ·rw [zc,List.map_append (l₂:=[kp])]; rfl
 ·rintro σ H3 ⟨ds,kps,e5,e6,e7,rfl,dl,kpl,hL3,hS3,N3,fr3,G3⟩
  have ek:((k:Int) + 1 - 1).toNat = k:=by omega
  rw [ek] at dl kpl
  refine ⟨_,rfl,_,rfl,szl rfl,fun r hr'=>?_⟩
  have g5:=Grow.new (m:=[]) hr' (.tup [.ref lL,.ref lS])
  exact q r lL lS ds kps _ (G3.trans g5) (SqT.of zc) (g5.keep _ _ (by simp) hL3) (g5.keep _ _ (by simp) hS3) dl kpl (N3.grow g5 (by simp)) fr3
theorem wc:FnScope ["k"] ["k"] (zf (top 42)):=⟨rfl,rfl,rfl,by decide +kernel,rfl,by decide +kernel,by decide +kernel⟩
theorem wd (F:Fun K "switches_in_a_stage" "switches_in_a_stage" (top 42) f fd) (B:Blt mg)     :
  FnOk P w K mg base CX0 (n + 1) f fd ["k"] (yU K):=by
 refine F.ok wc xn (fun cdv A outer s H vs Q E hr h=>?_)
 obtain ⟨x,rfl,k,rfl,k4,q⟩:=h
 refine ⟨_,(zh (zn (zr q9 (zr yB zj (pv 0)) zj))),?_⟩
 refine ⟨_,rfl,_,_,rfl,rfl,vE k4,_,_,rfl,rfl,(by show (0:Int) <= 1; decide),?_⟩
 show Q (V.int (1 * 2 ^ ((k:Int)).toNat / 2 ^ (1:Int).toNat)) H
 rw [WE k4]
 exact q
theorem qN:FnScope ["k"] ["k"] (zf (top 46)):=⟨rfl,rfl,rfl,by decide +kernel,rfl,by decide +kernel,by decide +kernel⟩
theorem qO (F:Fun K "straight" "straight" (top 46) f fd) (B:Blt mg) (qc0:zg P w K mg base n "switches_in_a_stage" ["k"] (yU K)) (qc1:zg P w K mg base n "need_net" ["thing"] (yu K))    :
  FnOk P w K mg base CX0 (n + 1) f fd ["k"] (ve K):=by
 refine F.ok qN xn (fun cdv A outer s H vs Q E hr h=>?_)
 obtain ⟨x,rfl,k,rfl,k4,q⟩:=h
 refine ⟨_,(zd (zI (ze qc1 hr rfl (za (pv 0) zb))) (zh (zn (zr (Yy (K:=K) rfl) (zZ (za (zr (Yy (K:=K) rfl) (zZ (za zj zb)) (ze qc0 hr rfl (za (pv 0) zb))) zb)) (pv 0))))),?_⟩
 refine ⟨_,rfl,_,rfl,k,rfl,k4,?_⟩
 refine c_nx ⟨szl rfl,fun t ht=>⟨_,rfl,_,rfl,k,rfl,k4,?_⟩⟩
 have gt:=Grow.new (m:=[]) ht (.tup [.int 0])
 have p16:=zU k4
 refine ⟨t,2 ^ k / 2,[.int 0],rfl,rfl,SqT.of zc,(fun z=>nomatch z),Nat.le_of_lt (yJ (by show 1 * (2 ^ k / 2) <= 1000; omega)),fun p1 H1 g1 h1=>⟨szl rfl,fun t2 ht2=>⟨_,rfl,?_⟩⟩⟩
 have gt2:=Grow.new (m:=[]) ht2 (.tup [.ref p1])
 refine ⟨t2,k,[.ref p1],rfl,rfl,SqT.of zc,(fun z=>nomatch z),Nat.le_of_lt (yJ (by show 1 * k <= 1000; omega)),fun p2 H2 g2 h2=>q _ _ (gt.trans (g1.trans (gt2.trans g2))) ⟨p2,_,rfl,h2,?_⟩⟩
 have e1:(List.replicate (2 ^ k / 2) [V.int 0]).flatten = (List.replicate (2 ^ k / 2) (0:Int)).map V.int:=by
  rw [List.map_replicate]
  generalize 2 ^ k / 2 = n
  induction n with
  | zero=>rfl
  | succ n ih=>rw [List.replicate_succ,List.flatten_cons,ih,List.replicate_succ]; rfl
 rw [e1] at h1
 have hr1:zy K H2 (.ref p1) (List.replicate (2 ^ k / 2) 0):=⟨p1,rfl,(gt2.trans g2).sqT h1⟩
 exact rk hr1 k
theorem YV:FnScope ["thing"] ["thing"] (zf (top 28)):=⟨rfl,rfl,rfl,by decide +kernel,rfl,by decide +kernel,by decide +kernel⟩
theorem YW (F:Fun K "is_end" "is_end" (top 28) f fd) (B:Blt mg) (qc0:zg P w K mg base n "is_whole" ["thing"] (xo K))    :
  FnOk P w K mg base CX0 (n + 1) f fd ["thing"] (sI K):=by
 refine F.ok YV xn (fun cdv A outer s H vs Q E hr h=>?_)
 obtain ⟨x,rfl,kn,q⟩:=h
 refine ⟨_,(zh (zn (Wg (XQ (vY (pv 0))) (wg (ze qc0 hr rfl (za (pv 0) zb)))))),?_⟩
 refine ⟨x,rfl,_,rfl,?_⟩
 cases x with
 | non=>exact iteT q
 | _=>exact iteF ⟨_,rfl,_,rfl,kn,q⟩
theorem wC:FnScope ["thing","add","low","high"] ["thing"] (zf (top 29)):=⟨rfl,rfl,rfl,by decide +kernel,rfl,by decide +kernel,by decide +kernel⟩
theorem Zt (F:Fun K "is_deed" "is_deed" (top 29) f fd) (B:Blt mg) (qc0:zg P w K mg base n "is_end" ["thing"] (sI K)) (qc1:zg P w K mg base n "is_whole" ["thing"] (xo K))    :
  FnOk P w K mg base CX0 (n + 1) f fd ["thing"] (uT K):=by
 refine F.ok wC xn (fun cdv A outer s H vs Q E hr h=>?_)
 obtain ⟨x,rfl,h⟩:=h
 refine ⟨_,(zd (yc (PW.pt (vM (yf (zW (zl yr rfl B.isinstance zA (za (pv 0) (za (xr rfl B.tuple zG) zb))))) (xZ (zJ rY (zl zw rfl B.len x9 (za (pv 0) zb)) zj (zH _))))) (zh (zn wD)) zv) (zd (wm (pv 0) (yV rfl (zk (zi (i:=1) wC.nd rfl (Or.inl rfl)) (zk (zi (i:=2) wC.nd rfl (Or.inl rfl)) (zk (zi (i:=3) wC.nd rfl (Or.inl rfl)) zF))))) (zd (yc (yf (PW.pt (v2 (zW (ze qc1 hr rfl (za (pv 1) zb))) (v2 (zW (ze qc0 hr rfl (za (pv 2) zb))) (vm (zW (ze qc0 hr rfl (za (pv 3) zb)))))))) (zh (zn wD)) zv) (zd (yc (PW.pt (vM (wf (vY (pv 2))) (xZ (wf (vY (pv 3)))))) (zh (zn wD)) zv) (zh (zn (Wg (xy Y2 (pv 2) (pv 3) (zH _)) (wg (wQ (xy vn (pv 2) (pv 3) (zH _)) (wg (xy vn (pv 1) zj (zH _)))))))))))),?_⟩
 rcases h with ⟨T,hT,ty,q⟩ | ⟨a,xs,rfl,hs,hk,q⟩
 ·have kt:PySem.W.kitOne K (.type T) (.type "tuple") = some false:=by
   cases x with
   | non=>cases (show T = "NoneType" from ty); rfl
   | bl y=>cases (show T = "bool" from ty); rfl
   | int i=>cases (show T = "int" from ty); rfl
   | str y=>cases (show T = "str" from ty); rfl
   | byt y=>exact ty.elim
   | flt y=>exact ty.elim
   | ty y=>exact ty.elim
   | ref a =>
    rcases ty with ⟨rfl,xs,hq⟩ | ⟨rfl,xs,hq⟩ | ⟨rfl,kvs,hq⟩
    ·exact absurd rfl hT
    ·rfl
    ·rfl
  exact ⟨_,rfl,_,_,_,false,rfl,ty,kt,_,rfl,iteT (iteT q)⟩
 ·refine ⟨_,rfl,_,_,_,true,rfl,.inl ⟨rfl,xs,hs⟩,rfl,_,rfl,iteF ⟨_,rfl,a,xs,rfl,.inr hs,rfl,_,rfl,?_⟩⟩
  by_cases hl:xs.length = 3
  ·obtain ⟨y1,y2,y3,rfl⟩:=len3 hl
   refine iteF ⟨_,rfl,a,_,rfl,hs,rfl,_,_,rfl,_,_,rfl,_,_,rfl,rfl,?_⟩
   refine ⟨_,rfl,_,rfl,hk y1 (by simp),_,rfl,?_⟩
   refine ite2 (fun c1=>?_) (fun c1=>?_)
   ·obtain ⟨i1,rfl⟩:=ZU c1
    refine ⟨_,rfl,_,rfl,hk y2 (by simp),_,rfl,?_⟩
    refine ite2 (fun c2=>?_) (fun c2=>?_)
    ·obtain ⟨o2,rfl⟩:=XX c2
     refine ⟨_,rfl,_,rfl,hk y3 (by simp),_,rfl,?_⟩
     by_cases c3:endV y3 = true
     ·obtain ⟨o3,rfl⟩:=XX c3
      rw [c3]
      refine iteF ?_
      cases o2 with
      | none=>exact ⟨_,rfl,_,rfl,iteT (iteT (by cases o3 <;> exact q))⟩
      | some l =>
       cases o3 with
       | none=>exact ⟨_,rfl,_,rfl,iteF ⟨_,rfl,_,rfl,iteT q⟩⟩
       | some u =>
        refine ⟨_,rfl,_,rfl,iteF ⟨_,rfl,_,rfl,iteF ?_⟩⟩
        refine ⟨_,rfl,_,rfl,_,_,rfl,rfl,_,rfl,?_⟩
        have q':Q (.bl (decide (l < u) || (decide (l = u) && decide (i1 = 0)))) H:=q
        refine ite2 (fun c=>?_) (fun c=>?_)
        ·rw [c] at q'; exact q'
        ·rw [Bool.eq_false_iff.mpr c] at q'
         refine ⟨_,rfl,_,rfl,rfl,_,rfl,?_⟩
         refine ite2 (fun d=>?_) (fun d=>?_)
         ·have d':l = u:=V.int.inj (of_decide_eq_true d)
          refine ⟨_,rfl,rfl,?_⟩
          rw [decide_eq_true d'] at q'
          have e:decide (V.int i1 = V.int 0) = decide (i1 = 0):=by simp
          rw [e]; exact q'
         ·have d':¬ l = u:=fun z=>d (by rw [z]; simp)
          rw [decide_eq_false d'] at q'
          exact q'
     ·have e:endV y3 = false:=Bool.eq_false_iff.mpr c3
      rw [e]
      refine iteT ?_
      have z:vp [V.int i1,ov o2,y3] = false:=by show (true && (endV (ov o2) && (endV y3 && _))) = false; rw [e]; simp
      rw [z] at q; exact q
    ·have e:endV y2 = false:=Bool.eq_false_iff.mpr c2
     refine iteT ?_
     have z:vp [V.int i1,y2,y3] = false:=by show (true && (endV y2 && (endV y3 && _))) = false; rw [e]; simp
     rw [z] at q; exact q
   ·have e:sH y1 = false:=Bool.eq_false_iff.mpr c1
    refine iteT ?_
    have z:vp [y1,y2,y3] = false:=by show (sH y1 && (endV y2 && (endV y3 && _))) = false; rw [e]; simp
    rw [z] at q; exact q
  ·have e:decide (V.int (xs.length:Int) = V.int 3) = false:=decide_eq_false fun z=>hl (by have:=V.int.inj z; omega)
   rw [e]
   refine iteT ?_
   rw [qb hl] at q; exact q
theorem vf:FnScope ["board","thing","hand","box","deed"] ["board","thing"] (zf (top 38)):=⟨rfl,rfl,rfl,by decide +kernel,rfl,by decide +kernel,by decide +kernel⟩
theorem YX (F:Fun K "is_ask" "is_ask" (top 38) f fd) (B:Blt mg) (qc0:zg P w K mg base n "is_deed" ["thing"] (uT K)) (qc1:zg P w K mg base n "is_within" ["thing","least","greatest"] (yY K))  {t_LAST_HAND:Tok} (g_LAST_HAND:mg "LAST_HAND" = some (.int 15 t_LAST_HAND))  :
  FnOk P w K mg base CX0 (n + 1) f fd ["board","thing"] (sL K):=by
 refine F.ok vf zB (fun cdv A outer s H vs Q E hr h=>?_)
 obtain ⟨x,y,rfl,b,k,⟨rb,rfl,hb⟩,⟨r,rd,rfl,h1,h2⟩,⟨k1,k2,k3,k4,k5⟩,q⟩:=h
 refine ⟨_,(zd (yc (PW.pt (vM (yf (zW (zl yr rfl B.isinstance zA (za (pv 1) (za (xr rfl B.tuple zG) zb))))) (xZ (zJ rY (zl zw rfl B.len x9 (za (pv 1) zb)) zj (zH _))))) (zh (zn wD)) zv) (zd (wm (pv 1) (yV rfl (zk (zi (i:=2) vf.nd rfl (Or.inl rfl)) (zk (zi (i:=3) vf.nd rfl (Or.inl rfl)) (zk (zi (i:=4) vf.nd rfl (Or.inl rfl)) zF))))) (zh (zn (wQ (ze qc1 hr rfl (za (pv 2) (za zj (za (tE rfl g_LAST_HAND (show RelV (.int 15) (.int 15 t_LAST_HAND) from ⟨_,rfl⟩)) zb)))) (wQ (ze qc1 hr rfl (za (pv 3) (za zj (za (zr xm (zl zw rfl B.len x9 (za (pv 0) zb)) zj) zb)))) (wg (ze qc0 hr rfl (za (pv 4) zb))))))))),?_⟩
 have hl:(b.map V.int).length = b.length:=List.length_map ..
 refine ⟨_,rfl,_,_,_,true,rfl,.inl ⟨rfl,_,h1⟩,rfl,_,rfl,iteF ⟨_,rfl,r,_,rfl,.inr h1,rfl,_,rfl,iteF ?_⟩⟩
 refine ⟨_,rfl,r,_,rfl,h1,rfl,_,_,rfl,_,_,rfl,_,_,rfl,rfl,?_⟩
 refine ⟨_,rfl,_,_,_,rfl,_,_,_,rfl,rfl,rfl,_,rfl,wT (by rw [decide_eq_true k1,decide_eq_true k2]; rfl) ?_⟩
 refine ⟨_,rfl,_,rfl,rb,_,rfl,.inr hb,_,_,rfl,rfl,_,_,_,rfl,_,_,_,rfl,rfl,rfl,_,rfl,wT (by rw [decide_eq_true k3,decide_eq_true (show k.box <= ((b.map V.int).length:Int) - 1 by rw [hl]; omega)]; rfl) ?_⟩
 refine ⟨_,rfl,_,rfl,.inr ⟨rd,_,rfl,h2,?_,?_⟩⟩
 ·intro v hv
  simp only [Deed.vs,List.mem_cons,List.mem_nil_iff,or_false] at hv
  rcases hv with rfl | rfl | rfl
  ·exact jg
  ·exact Vr _
  ·exact Vr _
 ·rw [j0 k5]; exact q
theorem qP:FnScope ["thing"] ["thing"] (zf (top 36)):=⟨rfl,rfl,rfl,by decide +kernel,rfl,by decide +kernel,by decide +kernel⟩
theorem qQ (F:Fun K "is_board" "is_board" (top 36) f fd) (B:Blt mg) (qc0:zg P w K mg base n "is_whole" ["thing"] (xo K))  {t_MOST_BOXES:Tok} (g_MOST_BOXES:mg "MOST_BOXES" = some (.int 16 t_MOST_BOXES))  :
  FnOk P w K mg base CX0 (n + 1) f fd ["thing"] (ub K):=by
 refine F.ok qP xn (fun cdv A outer s H vs Q E hr h=>?_)
 obtain ⟨x,rfl,b,⟨r,rfl,hs⟩,b1,b2,q⟩:=h
 refine ⟨_,(zd (yc (PW.pt (vM (yf (zW (zl yr rfl B.isinstance zA (za (pv 0) (za (xr rfl B.tuple zG) zb))))) (xZ (yf (Y4 ZF ZF zj (zl zw rfl B.len x9 (za (pv 0) zb)) (tE rfl g_MOST_BOXES (show RelV (.int 16) (.int 16 t_MOST_BOXES) from ⟨_,rfl⟩))))))) (zh (zn wD)) zv) (zh (zn (zl (yW rfl) rfl B.all sG (za (zt (CSc.of (N':=["value"]) (sub:=[none]) (zf (top 36)) ["thing"] rfl rfl (by decide +kernel) rfl) rfl (ym (pv 0)) (fun _ _ _ _ _ _=>zi (i:=0) (show (["value"]:List Str).Nodup by decide +kernel) rfl (Or.inl rfl)) (fun _ _ _ _ _ _=>zo) (fun _ _ _ _ _ _=>(ze qc0 hr rfl (za (pv 0) zb)))) zb))))),?_⟩
 have hl:(b.map V.int).length = b.length:=List.length_map ..
 refine ⟨_,rfl,_,_,_,true,rfl,.inl ⟨rfl,_,hs⟩,rfl,_,rfl,iteF ?_⟩
 refine ⟨_,rfl,r,_,rfl,.inr hs,_,_,rfl,rfl,_,rfl,wT (decide_eq_true (by rw [hl]; omega)) ⟨_,_,rfl,rfl,_,rfl,yX (by rw [decide_eq_true (show ((b.map V.int).length:Int) <= 16 by rw [hl]; omega)]; rfl) ?_⟩⟩
 refine ⟨_,rfl,r,rfl,⟨_,hs⟩,yC (fun _=>V.bl true) hs (by rw [hl]; omega) ?_ ?_⟩
 ·intro x H1 R hx g k
  obtain ⟨i,_,rfl⟩:=List.mem_map.mp hx
  exact ⟨_,rfl,_,rfl,jg,k _ (Grow.refl _ _)⟩
 ·intro H1 p g hp
  refine ⟨p,b.map (fun _=>true),rfl,SqL.of (by rw [zc,Xg]),?_⟩
  rw [xG]
  exact q _ (g.trans (Grow.new hp _))
theorem t7:FnScope ["thing"] ["thing"] (zf (top 37)):=⟨rfl,rfl,rfl,by decide +kernel,rfl,by decide +kernel,by decide +kernel⟩
theorem t8 (F:Fun K "need_board" "need_board" (top 37) f fd) (B:Blt mg) (qc0:zg P w K mg base n "is_board" ["thing"] (ub K))    :
  FnOk P w K mg base CX0 (n + 1) f fd ["thing"] (wW K):=by
 refine F.ok t7 xn (fun cdv A outer s H vs Q E hr h=>?_)
 obtain ⟨x,rfl,b,hb,b1,b2,q⟩:=h
 refine ⟨_,(zh (yc (yf (zW (ze qc0 hr rfl (za (pv 0) zb)))) (zh xf) zv)),?_⟩
 exact ⟨_,rfl,_,rfl,b,hb,b1,b2,fun H1 g1=>⟨_,rfl,iteF (q _ g1)⟩⟩
theorem qR:FnScope ["board","thing"] ["board","thing"] (zf (top 39)):=⟨rfl,rfl,rfl,by decide +kernel,rfl,by decide +kernel,by decide +kernel⟩
theorem qS (F:Fun K "are_asks" "are_asks" (top 39) f fd) (B:Blt mg) (qc0:zg P w K mg base n "is_ask" ["board","thing"] (sL K)) (qc1:zg P w K mg base n "need_board" ["thing"] (wW K))    :
  FnOk P w K mg base CX0 (n + 1) f fd ["board","thing"] (uc K):=by
 refine F.ok qR zB (fun cdv A outer s H vs Q E hr h=>?_)
 obtain ⟨x,y,rfl,b,ks,hb,b1,b2,ha,hk,hok,q⟩:=h
 refine ⟨_,(zd (zI (ze qc1 hr rfl (za (pv 0) zb))) (zh (zn (wQ (zl yr rfl B.isinstance zA (za (pv 1) (za (xr rfl B.tuple zG) zb))) (wg (zl (yW rfl) rfl B.all sG (za (zt (CSc.of (N':=["ask","board"]) (sub:=[none,some 0]) (zf (top 39)) ["board","thing"] rfl rfl (by decide +kernel) rfl) rfl (ym (pv 1)) (fun _ _ _ _ _ _=>zi (i:=0) (show (["ask","board"]:List Str).Nodup by decide +kernel) rfl (Or.inl rfl)) (fun _ _ _ _ _ _=>zo) (fun _ _ _ _ _ _=>(ze qc0 hr rfl (za (pv 1) (za (pv 0) zb))))) zb))))))),?_⟩
 refine ⟨_,rfl,_,rfl,b,hb,b1,b2,fun H1 g1=>?_⟩
 obtain ⟨r,xs,rfl,hs,hall⟩:=g1.asks ha
 refine ⟨_,rfl,_,_,_,true,rfl,.inl ⟨rfl,_,hs⟩,rfl,_,rfl,iteT ?_⟩
 have hl:=hall.len
 refine ⟨_,rfl,r,rfl,⟨_,hs⟩,yC (fun _=>V.bl true) hs (by omega) ?_ ?_⟩
 ·intro v H2 R hv g k
  obtain ⟨i,hi⟩:=List.getElem?_of_mem hv
  obtain ⟨kk,hkk,hak⟩:=hall.get hi
  exact ⟨_,rfl,_,rfl,_,_,rfl,b,kk,(g1.trans g).board hb,g.ask hak,hok kk (List.mem_of_getElem? hkk),k _ (Grow.refl _ _)⟩
 ·intro H2 p g hp
  refine ⟨p,xs.map (fun _=>true),rfl,SqL.of (by rw [zc,List.map_map]; rfl),?_⟩
  rw [xG]
  exact q _ (g1.trans (g.trans (Grow.new hp _)))
theorem rN:FnScope ["board","thing"] ["board","thing"] (zf (top 40)):=⟨rfl,rfl,rfl,by decide +kernel,rfl,by decide +kernel,by decide +kernel⟩
theorem rO (F:Fun K "need_asks" "need_asks" (top 40) f fd) (B:Blt mg) (qc0:zg P w K mg base n "are_asks" ["board","thing"] (uc K))    :
  FnOk P w K mg base CX0 (n + 1) f fd ["board","thing"] (vD K):=by
 refine F.ok rN zB (fun cdv A outer s H vs Q E hr h=>?_)
 obtain ⟨x,y,rfl,b,ks,hb,b1,b2,ha,hk,hok,q⟩:=h
 refine ⟨_,(zh (yc (yf (zW (ze qc0 hr rfl (za (pv 0) (za (pv 1) zb))))) (zh xf) zv)),?_⟩
 exact ⟨_,rfl,_,rfl,_,_,rfl,b,ks,hb,b1,b2,ha,hk,hok,fun H1 g1=>⟨_,rfl,iteF (q _ g1)⟩⟩
theorem vg:FnScope ["k","board","asks","hands"] ["k","board","asks"] (zf (top 54)):=⟨rfl,rfl,rfl,by decide +kernel,rfl,by decide +kernel,by decide +kernel⟩
theorem se (F:Fun K "need_round" "need_round" (top 54) f fd) (B:Blt mg) (qc0:zg P w K mg base n "is_line" ["k","thing"] (xJ K)) (qc1:zg P w K mg base n "need_asks" ["board","thing"] (vD K)) (qc2:zg P w K mg base n "need_net" ["thing"] (yu K)) (g_set:mg "set" = none)   :
  FnOk P w K mg base CX0 (n + 1) f fd ["k","board","asks"] (xU K):=by
 refine F.ok vg yK (fun cdv A outer s H vs Q E hr h=>?_)
 obtain ⟨x,y,z,rfl,k,b,ks,rfl,k4,hb,b1,b16,hks,k16,R,q⟩:=h
 refine ⟨_,(zd (zI (ze qc2 hr rfl (za (pv 0) zb))) (zd (zI (ze qc1 hr rfl (za (pv 1) (za (pv 2) zb)))) (zd (xP (i:=3) vg.nd rfl rfl (CSc.of (N':=["hand","box","deed"]) (sub:=[none,none,none]) (zf (top 54)) ["k","board","asks","hands"] rfl rfl (by decide +kernel) rfl) rfl (ym (pv 2)) (fun _ _ _ _ _ _=>xR (K:=K) 3 rfl rfl (zk (zi (i:=0) (show (["hand","box","deed"]:List Str).Nodup by decide +kernel) rfl (Or.inl rfl) (Or.inr rfl)) (zk (zi (i:=1) (show (["hand","box","deed"]:List Str).Nodup by decide +kernel) rfl (Or.inl rfl) (Or.inr rfl)) (zk (zi (i:=2) (show (["hand","box","deed"]:List Str).Nodup by decide +kernel) rfl (Or.inl rfl) (Or.inr rfl)) zF))) rfl rfl) (fun _ _ _ _ _ _=>zo) (fun _ _ _ _ _ _=>(pv 0))) (zh (yc (PW.pt (vM (zJ rY (zl rf rfl B.len x9 (za (zD (re hr) rfl g_set V2 (za (pv 3) zb)) zb)) (zl zw rfl B.len x9 (za (pv 3) zb)) (zH _)) (xZ (yf (zW (zl (yW rfl) rfl B.all sG (za (zt (CSc.of (N':=["hand","k"]) (sub:=[none,some 0]) (zf (top 54)) ["k","board","asks","hands"] rfl rfl (by decide +kernel) rfl) rfl (xO (pv 3)) (fun _ _ _ _ _ _=>zi (i:=0) (show (["hand","k"]:List Str).Nodup by decide +kernel) rfl (Or.inl rfl)) (fun _ _ _ _ _ _=>zo) (fun _ _ _ _ _ _=>(ze qc0 hr rfl (za (pv 1) (za (pv 0) zb))))) zb))))))) (zh xf) zv))))),?_⟩
 have aok:=R.ask k4
 refine ⟨_,rfl,_,rfl,k,rfl,k4,?_⟩
 refine ⟨_,rfl,_,rfl,_,_,rfl,b,ks,hb,b1,b16,hks,by omega,aok,fun H1 g1=>?_⟩
 obtain ⟨ra,xs,rfl,hra,hxs⟩:=g1.asks hks
 have xl:xs.length = ks.length:=tj hxs
 refine c_nx (uL (fun v H'=>∃ l,v = .ref l /\ H' l = some (.lst ((ks.map (·.hand)).map V.int)) /\ Grow [] H1 H') (fun Kk hk=>⟨_,rfl,ra,rfl,⟨_,hra⟩,vd (xs:=xs) (fun n ys σ' H'=>H' = H1 /\ (∃ e1 e2 e3,σ' = [e1,e2,e3]) /\ ys = ((ks.take n).map (·.hand)).map V.int) ⟨rfl,⟨_,_,_,rfl⟩,rfl⟩ (fun n ys σ' H' _ z=>by rw [z.1]; exact hra) ?_ ?_⟩) ?_)
 ·rintro n y ys σ' H' hy ⟨rfl,⟨e1,e2,e3,rfl⟩,rfl⟩
  obtain ⟨a,ha,r,rd,rfl,h1,h2⟩:=hxs.get hy
  have hn:=(List.getElem?_eq_some_iff.mp ha).1
  refine ⟨r,_,rfl,h1,rfl,_,_,rfl,_,_,rfl,_,_,rfl,rfl,?_⟩
  refine ⟨_,rfl,zp (by rw [List.length_map,List.length_map,List.length_take]; omega),rfl,⟨_,_,_,rfl⟩,?_⟩
  rw [List.take_succ,ha,List.map_append,List.map_append]; rfl
 ·rintro ys σ' H' ⟨rfl,_,rfl⟩ l hl
  rw [xl,List.take_length]
  exact hk _ _ ⟨l,rfl,zc,Grow.new hl _⟩
 rintro _ H2 ⟨l,rfl,hl,g2⟩
 have nl:(ks.map (·.hand)).length <= 1000:=by rw [List.length_map]; omega
 refine ⟨_,rfl,l,_,rfl,SqL.of hl,nl,fun l3 hl3=>⟨l3,_,_,rfl,zc,_,rfl,?_⟩⟩
 have g3:=Grow.new (m:=[]) hl3 (.set (fun j=>(dedI (ks.map (·.hand))).any (· == j)) (dedI (ks.map (·.hand))).length)
 have hl3':=g3.keep _ _ (by simp) hl
 have e:decide (V.int ((dedI (ks.map (·.hand))).length:Int) = V.int (((ks.map (·.hand)).map V.int).length:Int)) = true:=decide_eq_true (congrArg V.int (by rw [VZ R.nd]; simp only [List.length_map]))
 refine ⟨l,_,rfl,.inl (SqL.of hl3'),rfl,_,rfl,yX (by rw [e]; rfl) ?_⟩
 generalize upd H2 l3 (.set (fun j=>(dedI (ks.map (·.hand))).any (· == j)) (dedI (ks.map (·.hand))).length) = H3 at g3 hl3' ⊢
 refine ⟨_,rfl,l,rfl,⟨_,SqL.of hl3'⟩,xH (xs:=(ks.map (·.hand)).map V.int) (fun i ys H'=>H' = H3 /\ ys = (List.replicate i true).map V.bl) ⟨rfl,rfl⟩ (fun i ys H' z=>by rw [z.1]; exact SqL.of hl3') ?_ ?_⟩
 ·rintro i x ys H' hx ⟨rfl,rfl⟩
  rw [List.map_map,List.getElem?_map] at hx
  obtain ⟨a,ha,rfl⟩:=Option.map_eq_some_iff.mp hx
  have hn:=(List.getElem?_eq_some_iff.mp ha).1
  obtain ⟨h0,h1⟩:=R.hand a (List.mem_of_getElem? ha)
  have h1':=wB h0 h1
  refine ⟨_,rfl,_,rfl,_,_,rfl,k,a.hand.toNat,rfl,congrArg V.int (Int.toNat_of_nonneg h0).symm,k4,h1',zp (by rw [List.length_map,List.length_replicate]; omega),rfl,?_⟩
  rw [List.replicate_succ',List.map_append]; rfl
 ·rintro ys H' ⟨rfl,rfl⟩ l4 hl4
  refine ⟨l4,_,rfl,SqL.of zc,_,rfl,yX ?_ (q _ (g1.trans (g2.trans (g3.trans (Grow.new hl4 _)))))⟩
  rw [show (List.replicate ((ks.map (·.hand)).map V.int).length true).all id = true from List.all_eq_true.mpr fun x hx=>(List.eq_of_mem_replicate hx)]; rfl
theorem wv:FnScope ["k","board","asks","levels"] ["k","board","asks"] (zf (top 60)):=⟨rfl,rfl,rfl,by decide +kernel,rfl,by decide +kernel,by decide +kernel⟩
theorem uD (F:Fun K "joined_loads" "joined_loads" (top 60) f fd) (B:Blt mg) (qc0:zg P w K mg base n "counted_on" ["k","lines"] (wu K)) (qc1:zg P w K mg base n "pass_net" ["k","asks","firsts"] (rh K)) (qc2:zg P w K mg base n "straight" ["k"] (ve K)) (qc3:zg P w K mg base n "need_round" ["k","board","asks"] (xU K))    :
  FnOk P w K mg base CX0 (n + 1) f fd ["k","board","asks"] (qy K):=by
 refine F.ok wv yK (fun cdv A outer s H vs Q E hr h=>?_)
 obtain ⟨x,y,z,rfl,k,b,ks,rfl,k4,hb,b1,b16,hks,k16,R,q⟩:=h
 refine ⟨_,(zd (zI (ze qc3 hr rfl (za (pv 0) (za (pv 1) (za (pv 2) zb))))) (zd (zu (i:=3) wv.nd rfl (Or.inl rfl) (zT yI (ze qc1 hr rfl (za (pv 0) (za (pv 2) (za (ze qc2 hr rfl (za (pv 0) zb)) zb)))) zj (fun _ _=>rfl))) (zh (zn (zD zx rfl B.tuple zG (za (zt (CSc.of (N':=["asked","k"]) (sub:=[none,some 0]) (zf (top 60)) ["k","board","asks","levels"] rfl rfl (by decide +kernel) rfl) rfl (xO (pv 3)) (fun _ _ _ _ _ _=>zi (i:=0) (show (["asked","k"]:List Str).Nodup by decide +kernel) rfl (Or.inl rfl)) (fun _ _ _ _ _ _=>zo) (fun _ _ _ _ _ _=>(ze qc0 hr rfl (za (pv 1) (za (zt (CSc.nest (N2:=["line","box"]) (sub2:=[none,none]) (CSc.of (N':=["asked","k"]) (sub:=[none,some 0]) (zf (top 60)) ["k","board","asks","levels"] rfl rfl (by decide +kernel) rfl) rfl (by decide +kernel) rfl) rfl (VV (pv 0)) (fun _ _ _ _ _ _=>xR (K:=K) 2 rfl rfl (zk (zi (i:=0) (show (["line","box"]:List Str).Nodup by decide +kernel) rfl (Or.inl rfl) (Or.inr rfl)) (zk (zi (i:=1) (show (["line","box"]:List Str).Nodup by decide +kernel) rfl (Or.inl rfl) (Or.inr rfl)) zF)) rfl rfl) (fun _ _ _ _ _ _=>zo) (fun _ _ _ _ _ _=>(pv 0))) zb))))) zb)))))),?_⟩
 have p16:=zU k4
 have hs:=jH k
 refine ⟨_,rfl,_,rfl,_,rfl,_,_,_,rfl,k,b,ks,rfl,k4,hb,b1,b16,hks,k16,R,fun H1 g1=>?_⟩
 refine c_nx ⟨_,rfl,_,rfl,_,rfl,_,rfl,k,rfl,k4,fun ys H2 g2 hst=>?_⟩
 have G2:=g1.trans g2
 refine ⟨_,_,_,rfl,k,b.length,vA k,ks,rfl,k4,b16,k16,G2.asks hks,hst,hs,R,fun r0 lL lS ds kps H3 g3 s3 hL3 hS3 dl kpl N3 fr3=>?_⟩
 have G3:=G2.trans g3
 refine ⟨r0,_,0,.ref lL,rfl,rfl,s3,rfl,?_⟩
 have ndd:ds.Nodup:=(List.nodup_append.mp N3.nd).1
 have LV3:=N3.lv
 have frd:∀ d ∈ ds,H d = none:=fun d hd=>G2.free (by simp) (fr3 d (List.mem_append_left _ hd))
 have nLd:lL ∉ ds:=fun w=>by
  obtain ⟨s,hs',e⟩:=List.mem_iff_getElem.mp w
  obtain ⟨kvs,hr,_⟩:=LV3 s lL (by rw [List.getElem?_eq_getElem hs',e])
  exact Rd.ne_lst hr hL3 rfl
 refine c_nx ⟨_,rfl,lL,rfl,⟨_,SqL.of hL3⟩,wt (xs:=ds.map V.ref) (fun i ys σ' H'=>(∃ e0,σ' = [e0,some (.int k)]) /\ i <= ds.length /\ Grow ds H3 H' /\ AllR (zy K H') ys ((jlR k ks b.length).take i) /\ ∀ s d,ds[s]? = some d -> LvAt K H' k b.length (vA k) ks s d) ⟨⟨_,rfl⟩,Nat.zero_le _,Grow.refl _ _,trivial,LV3⟩ (fun i ys σ' H' _ w=>SqL.of (w.2.2.1.keep _ _ nLd hL3)) ?_ ?_⟩
 ·rintro i v ys σ' H4 hv ⟨⟨e0,rfl⟩,hi0,g4,al4,LV4⟩
  rw [List.getElem?_map] at hv
  obtain ⟨d,hd,rfl⟩:=Option.map_eq_some_iff.mp hv
  have dm:d ∈ ds:=List.mem_of_getElem? hd
  have hi:i < k + 1:=by rw [← dl]; exact (List.getElem?_eq_some_iff.mp hd).1
  obtain ⟨kvs,hrd,tab,kl⟩:=LV4 i d hd
  refine ⟨_,rfl,_,rfl,d,kvs,rfl,hrd,fun o H5 hd5 g5 same5=>?_⟩
  have tab5:TabR kvs (2 ^ k) b.length (lvR k (vA k) ks i) (yg K H5):=tab.imp fun v x hv=>g5.deed hv
  have LV5:∀ s d',ds[s]? = some d' -> LvAt K H5 k b.length (vA k) ks s d':=fun s d' h=>by
   by_cases c:d' = d
   ·subst c
    have es:s = i:=by
     obtain ⟨a1,a2⟩:=List.getElem?_eq_some_iff.mp h
     obtain ⟨a3,a4⟩:=List.getElem?_eq_some_iff.mp hd
     exact (List.getElem_inj ndd).mp (a2.trans a4.symm)
    subst es
    exact ⟨kvs,.inr ⟨o,hd5⟩,tab5,kl⟩
   ·exact (LV4 s d' h).grow g5 (by simpa using c)
  have g35:Grow ds H3 H5:=g4.trans (g5.mono (by simpa using dm))
  refine XC (fun j zs σ2 H'=>H' = H5 /\ (∃ e0 e1,σ2 = [e0,e1]) /\ j <= kvs.length /\ ∃ ns:List Int,zs = ns.map V.int /\ ns.length = j /\ ∀ (n:Nat) (p:List Key × V),n < j -> kvs[n]? = some p -> ∃ (l' b':Nat),p.1 = keyR l' b' /\ ns[n]? = some (l':Int)) ⟨rfl,⟨_,_,rfl⟩,Nat.zero_le _,[],rfl,rfl,(fun n p h=>absurd h (Nat.not_lt_zero _))⟩ (fun j zs σ2 H' _ w=>by rw [w.1]; exact hd5) ?_ ?_
  ·rintro j p bb zs σ2 H6 hp hbb ⟨rfl,⟨e0,e1,rfl⟩,hj0,ns,rfl,nl,hns⟩
   obtain ⟨l,c,dd,ep,hl,hc,hlv',hdd⟩:=tab5.keys p (List.mem_of_getElem? hp)
   obtain ⟨pk,v⟩:=p
   cases (show pk = keyR l c from ep)
   have hj:j < kvs.length:=(List.getElem?_eq_some_iff.mp hp).1
   have hbb':H6 bb = some (.tup [.int (l:Nat),.int (c:Nat)]):=hbb
   refine ⟨bb,[.int (l:Nat),.int (c:Nat)],rfl,SqT.of hbb',rfl,_,_,rfl,_,_,rfl,rfl,_,rfl,yJ (by rw [List.length_map]; omega),rfl,⟨_,_,rfl⟩,hj,ns ++ [(l:Int)],by rw [List.map_append]; rfl,by rw [List.length_append,nl]; rfl,fun n p hn hp'=>?_⟩
   by_cases c2:n < j
   ·obtain ⟨l',b',a1,a2⟩:=hns n p c2 hp'
    exact ⟨l',b',a1,by rw [List.getElem?_append_left (by omega)]; exact a2⟩
   ·have e:n = j:=by omega
    subst e
    rw [hp] at hp'
    cases Option.some.inj hp'
    exact ⟨l,c,rfl,by rw [← nl,List.getElem?_concat_length]⟩
  ·rintro zs σ2 H6 ⟨rfl,_,_,ns,rfl,nl,hns⟩ l7 hl7
   have g7:=Grow.new (m:=[]) hl7 (.lst (ns.map V.int))
   refine ⟨_,_,rfl,k,l7,ns,rfl,k4,rfl,zc,fun y8 H8 g8 hb8=>?_⟩
   have G8:=g7.trans g8
   refine ⟨yJ (by rw [al4.len,List.length_take]; unfold jlR; rw [List.length_map,List.length_range]; omega),⟨_,rfl⟩,by omega,g35.trans G8.wk,?_,fun s d' h=>(LV5 s d' h).grow G8 (by simp)⟩
   have e:(List.range (2 ^ k)).map (yF ns) = (List.range (2 ^ k)).map fun l=>jcB k ks b.length i l:=List.map_congr_left fun l hl=>YJ tab5 (List.mem_range.mp hl) nl fun n p hp=>hns n p (by rw [← nl]; have:=(List.getElem?_eq_some_iff.mp hp).1; omega) hp
   rw [e] at hb8
   have er:(jlR k ks b.length)[i]? = some ((List.range (2 ^ k)).map fun l=>jcB k ks b.length i l):=by
    unfold jlR; rw [List.getElem?_map,List.getElem?_range hi]; rfl
   rw [List.take_succ,er]
   exact ((g5.mono (m':=ds) (by simpa using dm)).trans G8.wk).boardsR al4 |>.app (.one hb8)
 ·rintro ys σ' H4 ⟨_,_,g4,al4,LV4⟩ l9 hl9
  have le:(jlR k ks b.length).take (ds.map V.ref).length = jlR k ks b.length:=List.take_of_length_le (by unfold jlR; rw [List.length_map,List.length_map,List.length_range]; omega)
  rw [le] at al4
  have G4:Grow [] H H4:=(G3.wk.trans g4).less fun d hd=>.inr (frd d hd)
  refine ⟨l9,_,rfl,.inl ⟨SqL.of zc,fun r hr'=>?_⟩⟩
  have gg:=(Grow.new (m:=[]) hl9 (.lst ys)).trans (Grow.new hr' (.tup ys))
  exact q _ _ (G4.trans gg) ⟨r,ys,rfl,SqT.of zc,gg.boardsR al4⟩
theorem xc:FnScope ["_law_k","_law_board","_law_asks","_law_told"] ["_law_k","_law_board","_law_asks"] (zf (top 75)):=⟨rfl,rfl,rfl,by decide +kernel,rfl,by decide +kernel,by decide +kernel⟩
theorem wH (F:Fun K "_law_joined_right" "_law_joined_right" (top 75) f fd) (B:Blt mg) (qc0:zg P w K mg base n "_law_are_rows" ["_law_told","_law_due_here"] (uy K)) (qc1:zg P w K mg base n "_law_unlike_boxes" ["_law_k","_law_asks"] (jM K)) (qc2:zg P w K mg base n "joined_loads" ["k","board","asks"] (qy K)) (g_set:mg "set" = none)   :
  FnOk P w K mg base CX0 (n + 1) f fd ["_law_k","_law_board","_law_asks"] (xW K):=by
 refine F.ok xc yK (fun cdv A outer s H vs Q E hr h=>?_)
 obtain ⟨x,y,z,rfl,k,b,ks,rfl,k4,hb,b16,hks,k16,R,q⟩:=h
 refine ⟨_,(zd (zu (i:=3) xc.nd rfl (Or.inl rfl) (ze qc2 hr rfl (za (pv 0) (za (pv 1) (za (pv 2) zb))))) (zd (yc (yf (zW (ze qc0 hr rfl (za (pv 3) (za (ze qc1 hr rfl (za (pv 0) (za (pv 2) zb))) zb))))) (zh (zn wD)) zv) (zh (zn (Wg (xy Wh (zl rf rfl B.len x9 (za (zD (re hr) rfl g_set V2 (za (zt (CSc.of (N':=["_law_hand","_law_box","_law_deed_here"]) (sub:=[none,none,none]) (zf (top 75)) ["_law_k","_law_board","_law_asks","_law_told"] rfl rfl (by decide +kernel) rfl) rfl (ym (pv 2)) (fun _ _ _ _ _ _=>xR (K:=K) 3 rfl rfl (zk (zi (i:=0) (show (["_law_hand","_law_box","_law_deed_here"]:List Str).Nodup by decide +kernel) rfl (Or.inl rfl) (Or.inr rfl)) (zk (zi (i:=1) (show (["_law_hand","_law_box","_law_deed_here"]:List Str).Nodup by decide +kernel) rfl (Or.inl rfl) (Or.inr rfl)) (zk (zi (i:=2) (show (["_law_hand","_law_box","_law_deed_here"]:List Str).Nodup by decide +kernel) rfl (Or.inl rfl) (Or.inr rfl)) zF))) rfl rfl) (fun _ _ _ _ _ _=>zo) (fun _ _ _ _ _ _=>(pv 1))) zb)) zb)) zj (zH _)) (wg (xy Y2 (zl (qC (K:=K) rfl rfl) rfl B.max Xb (za (zt (CSc.of (N':=["_law_row"]) (sub:=[none]) (zf (top 75)) ["_law_k","_law_board","_law_asks","_law_told"] rfl rfl (by decide +kernel) rfl) rfl (ym (pv 3)) (fun _ _ _ _ _ _=>zi (i:=0) (show (["_law_row"]:List Str).Nodup by decide +kernel) rfl (Or.inl rfl)) (fun _ _ _ _ _ _=>zo) (fun _ _ _ _ _ _=>(zl (qB (K:=K) rfl rfl) rfl B.max Xb (za (pv 0) zb)))) zb)) zj (zH _)))))))),?_⟩
 have p16:=zU k4
 have hpos:0 < 2 ^ k:=Nat.two_pow_pos k
 refine ⟨_,rfl,_,rfl,_,rfl,_,_,_,rfl,k,b,ks,rfl,k4,hb,by omega,by omega,hks,k16,by rw [b16]; exact R,fun y1 H1 g1 h1=>?_⟩
 rw [b16] at h1
 refine ⟨_,rfl,_,rfl,_,rfl,_,_,rfl,k,ks,rfl,g1.asks hks,k4,k16,R,fun y2 H2 g2 h2=>?_⟩
 have g12:=g1.trans g2
 have h12:=g2.rows h1
 refine ⟨_,_,rfl,k,_,h12,h2,k4,⟨tY,fun r hr=>?_⟩,fun H3 g3=>⟨_,rfl,iteF ?_⟩⟩
 ·unfold jlR at hr
  obtain ⟨s,_,rfl⟩:=List.mem_map.mp hr
  rw [List.length_map,List.length_range]
 have g13:=g12.trans g3
 have h13:=g3.rows h12
 obtain ⟨rt,xs,rfl,hrt,hxs⟩:=hks
 have xl:=hxs.len
 obtain ⟨rr,rxs,rfl,hrr,hrows⟩:=h13
 refine ⟨_,rfl,rt,rfl,⟨_,g13.sqT hrt⟩,vd (xs:=xs) (fun i ys σ' H'=>(∃ e0 e1 e2:Option V,σ' = [e0,e1,e2]) /\ Grow [] H3 H' /\ ys = ((ks.map (·.box)).take i).map V.int) ⟨⟨_,_,_,rfl⟩,Grow.refl _ _,rfl⟩ (fun i ys σ' H' _ z=>(g13.trans z.2.1).sqT hrt) ?_ ?_⟩
 ·rintro i v ys σ' H4 hv ⟨⟨e0,e1,e2,rfl⟩,g4,rfl⟩
  obtain ⟨a,ha,ra,rd,rfl,hra,hrd⟩:=hxs.get hv
  have hi:=(List.getElem?_eq_some_iff.mp ha).1
  refine ⟨ra,_,rfl,(g13.trans g4).sqT hra,rfl,_,_,rfl,_,_,rfl,_,_,rfl,rfl,_,rfl,by rw [List.length_map]; exact zp (by rw [List.length_take]; omega),⟨_,_,_,rfl⟩,g4,?_⟩
  rw [yO (a:=a.box) (by rw [List.getElem?_map,ha]; rfl),List.map_append]; rfl
 rintro ys σ' H4 ⟨_,g4,rfl⟩ l hl
 rw [xl,List.take_of_length_le (by rw [List.length_map]; exact Nat.le_refl _)]
 have g5:=g4.trans (Grow.new (m:=[]) hl (.lst ((ks.map (·.box)).map V.int)))
 have hl5:=zc (H:=H4) (a:=l) (o:=.lst ((ks.map (·.box)).map V.int))
 generalize upd H4 l _ = H5 at g5 hl5 ⊢
 refine ⟨l,ks.map (·.box),rfl,SqL.of hl5,by rw [List.length_map]; omega,fun ls hls=>⟨ls,_,_,rfl,zc,_,_,rfl,rfl,?_⟩⟩
 have g6:=g5.trans (Grow.new (m:=[]) hls (.set (fun j=>(dedI (ks.map (·.box))).any (· == j)) (dedI (ks.map (·.box))).length))
 generalize upd H5 ls _ = H6 at g6 ⊢
 refine ⟨_,rfl,ite2 (fun c=>q _ (g13.trans g6)) (fun c=>?_)⟩
 have c1:(dedI (ks.map (·.box))).length <= 1:=by
  have:¬ (1:Int) < ((dedI (ks.map (·.box))).length:Int):=fun z=>c (decide_eq_true z)
  omega
 have rl:=hrows.len
 have jl:=tY (k:=k) (m:=16) (ks:=ks)
 have small:∀ row ∈ jlR k ks 16,row.length = 2 ^ k /\ ∀ n ∈ row,n <= 1:=fun row hr=>by
  unfold jlR at hr
  obtain ⟨s,hs,rfl⟩:=List.mem_map.mp hr
  refine ⟨by rw [List.length_map,List.length_range],fun n hn=>?_⟩
  obtain ⟨l,hl,rfl⟩:=List.mem_map.mp hn
  have:=XI (s:=s) (l:=l) R k4 (by have:=List.mem_range.mp hs; omega) (List.mem_range.mp hl)
  omega
 refine ⟨_,rfl,rr,rfl,⟨_,g6.sqT hrr⟩,rj (fun i ys H'=>Grow [] H6 H' /\ ∃ ms:List Int,ys = ms.map V.int /\ ms.length = i /\ ∀ n ∈ ms,n <= 1) ⟨Grow.refl _ _,[],rfl,rfl,nofun⟩ (fun i ys H' z=>(g6.trans z.1).sqT hrr) ?_ ?_⟩
 ·rintro i v ys H7 hv ⟨g7,ms,rfl,ml,hm⟩
  obtain ⟨row,hrow,rw,rfl,hrw⟩:=hrows.get hv
  have il:=(List.getElem?_eq_some_iff.mp hrow).1
  have sm:=small row (List.mem_of_getElem? hrow)
  refine ⟨_,rfl,rw,row,rfl,(g6.trans g7).sqT hrw,by omega,fun M hM _=>⟨by rw [List.length_map]; exact zp (by omega),g7,ms ++ [M],by rw [List.map_append]; rfl,by rw [List.length_append,ml]; rfl,fun n hn=>?_⟩⟩
  rcases List.mem_append.mp hn with z | z
  ·exact hm n z
  ·rw [List.mem_singleton.mp z]; exact sm.2 M hM
 rintro ys H7 ⟨g7,ms,rfl,ml,hm⟩ l7 hl7
 refine ⟨l7,ms,rfl,SqL.of zc,by omega,fun M hM _=>⟨_,_,rfl,rfl,?_⟩⟩
 have:=hm M hM
 show Q (V.bl (decide (M < 2))) _
 rw [show decide (M < 2) = true from decide_eq_true (by omega)]
 exact q _ (g13.trans (g6.trans (g7.trans (Grow.new hl7 _))))
theorem z9:FnScope ["k","pairs","ways","level","level_lines","line","following"] ["k","pairs"] (zf (top 25)):=⟨rfl,rfl,rfl,by decide +kernel,rfl,by decide +kernel,by decide +kernel⟩
theorem uO (F:Fun K "shared_line" "shared_line" (top 25) f fd) (B:Blt mg) (qc0:zg P w K mg base n "way_of" ["k","hand","side"] (vF K)) (g_zip:mg "zip" = none) (g_sorted:mg "sorted" = none)   :
  FnOk P w K mg base CX0 (n + 1) f fd ["k","pairs"] (yq K):=by
 refine F.ok z9 zB (fun cdv A outer s H vs Q E hr h=>?_)
 obtain ⟨x,y,rfl,k,pl,rfl,k4,⟨r,xs,rfl,hs,hall⟩,hl40,hok,q⟩:=h
 refine ⟨_,(zd (xP (i:=2) z9.nd rfl rfl (CSc.of (N':=["hand","side","k"]) (sub:=[none,none,some 0]) (zf (top 25)) ["k","pairs","ways","level","level_lines","line","following"] rfl rfl (by decide +kernel) rfl) rfl (ym (pv 1)) (fun _ _ _ _ _ _=>xR (K:=K) 2 rfl rfl (zk (zi (i:=0) (show (["hand","side","k"]:List Str).Nodup by decide +kernel) rfl (Or.inl rfl) (Or.inr rfl)) (zk (zi (i:=1) (show (["hand","side","k"]:List Str).Nodup by decide +kernel) rfl (Or.inl rfl) (Or.inr rfl)) zF)) rfl rfl) (fun _ _ _ _ _ _=>zo) (fun _ _ _ _ _ _=>(ze qc0 hr rfl (za (pv 2) (za (pv 0) (za (pv 1) zb)))))) (zd (yH PassesOwn.never rfl (yi rfl B.range (za (zr yn (pv 0) zj) zb)) (zi (i:=3) z9.nd rfl (Or.inr rfl)) (zd (zu (i:=4) z9.nd rfl (Or.inl rfl) (zl (sP (K:=K) rfl) rfl g_sorted Xc (za (zt (CSc.of (N':=["lines","level"]) (sub:=[none,some 3]) (zf (top 25)) ["k","pairs","ways","level","level_lines","line","following"] rfl rfl (by decide +kernel) rfl) rfl (xO (pv 2)) (fun _ _ _ _ _ _=>zi (i:=0) (show (["lines","level"]:List Str).Nodup by decide +kernel) rfl (Or.inl rfl)) (fun _ _ _ _ _ _=>zo) (fun _ _ _ _ _ _=>(zT (ZY (K:=K) rfl) (pv 0) (pv 1) (fun _ _=>rfl)))) zb))) (zh (yH PassesOwn.never rfl (VA (K:=K) rfl rfl g_zip (za (pv 4) (za (je Wn (pv 4) (ZN zj) ZM) zb))) (yV rfl (zk (zi (i:=5) z9.nd rfl (Or.inl rfl)) (zk (zi (i:=6) z9.nd rfl (Or.inl rfl)) zF))) (zh (yc (zJ vn (pv 5) (pv 6) (zH _)) (zh (zn (zZ (za (pv 3) (za (pv 5) zb))))) zv)))))) (zh (zn vX)))),?_⟩
 have hl:=hall.len
 refine ⟨_,rfl,r,rfl,⟨_,hs⟩,wU (xs:=xs) (fun i ws σ H'=>∃ (e0 e1:Option V),σ = [e0,e1,some (.int k)] /\ AllR (zy K H') ws ((zS k pl).take i) /\ Grow [] H H') ⟨_,_,rfl,trivial,Grow.refl _ _⟩ (fun i ws σ H' _ ⟨_,_,_,_,g⟩=>g.sqT hs) ?_ ?_⟩
 ·rintro i x ws σ H1 hx ⟨e0,e1,rfl,ha,g1⟩
  obtain ⟨pq,hpq,rp,rfl,hrp⟩:=hall.get hx
  have o:=hok pq (List.mem_of_getElem? hpq)
  have hi:i < pl.length:=(List.getElem?_eq_some_iff.mp hpq).1
  refine ⟨rp,_,rfl,g1.sqT hrp,rfl,_,_,rfl,_,_,rfl,rfl,ZX ?_⟩
  refine ⟨_,rfl,_,rfl,_,rfl,_,_,_,rfl,k,pq.1,pq.2,rfl,rfl,rfl,k4,o.1,o.2,fun y2 H2 g2 h2=>⟨zp (by rw [ha.len,List.length_take]; omega),_,_,rfl,?_,g1.trans g2⟩⟩
  have e:(zS k pl)[i]? = some (zO k pq.1 pq.2):=by unfold zS; rw [List.getElem?_map,hpq]; rfl
  rw [List.take_add_one,e]
  exact (g2.boardsR ha).app (.one h2)
 rintro ws σ H2 ⟨_,_,rfl,ha2,g2⟩ lw hlw
 rw [hl,List.take_of_length_le (by unfold zS; rw [List.length_map]; omega)] at ha2
 have g3:=Grow.new (m:=[]) hlw (.lst ws)
 have hall3:=g3.boardsR ha2
 have hlw3:upd H2 lw (.lst ws) lw = some (.lst ws):=zc
 have gB:=g2.trans g3
 revert hall3 hlw3 gB
 clear g3
 generalize upd H2 lw (.lst ws) = HB
 intro hall3 hlw3 gB
 have hrl:(zS k pl).length = pl.length:=by unfold zS; rw [List.length_map]
 refine ⟨_,rfl,_,_,rfl,rfl,_,rfl,by omega,by omega,xC (fun i σ H'=>∃ (e3 e4 e5 e6:Option V),σ = [some (.int k),some (.ref r),some (.ref lw),e3,e4,e5,e6] /\ Grow [] HB H' /\ ∀ j,j < i -> yh (zS k pl) j = none) ⟨_,_,_,_,rfl,Grow.refl _ _,fun j hj=>absurd hj (Nat.not_lt_zero j)⟩ ?_ ?_⟩
 ·rintro i σ H4 hi ⟨e3,e4,e5,e6,rfl,g4,hno⟩
  have hik:i <= k:=by omega
  have hall4:=g4.boardsR hall3
  have hlw4:=g4.keep _ _ (by simp) hlw3
  refine ⟨_,rfl,lw,rfl,⟨_,SqL.of hlw4⟩,xH (xs:=ws) (fun j ys H'=>H' = H4 /\ ys = ((zL (zS k pl) i).take j).map V.int) ⟨rfl,rfl⟩ (fun j ys H' h=>by rw [h.1]; exact SqL.of hlw4) ?_ ?_⟩
  ·rintro j x ys H' hx ⟨rfl,rfl⟩
   obtain ⟨row,hrow,rr,rfl,hrr⟩:=hall4.get hx
   have hj:j < (zS k pl).length:=(List.getElem?_eq_some_iff.mp hrow).1
   obtain ⟨pq,hpq,rfl⟩:∃ pq,pl[j]? = some pq /\ row = zO k pq.1 pq.2:=by
    unfold zS at hrow
    rw [List.getElem?_map] at hrow
    cases e:pl[j]? with
    | none=>rw [e] at hrow; cases hrow
    | some pq=>rw [e] at hrow; exact ⟨pq,rfl,(Option.some.inj hrow).symm⟩
   have hwl:(zO k pq.1 pq.2).length = k + 1:=by unfold zO; rw [List.length_map,List.length_range]
   refine ⟨_,rfl,_,rfl,rr,_,_,_,rfl,rfl,hrr,getI (by omega) (by rw [hwl]; omega),zp ?_,rfl,?_⟩
   ·rw [List.length_map,List.length_take]
    have:(zL (zS k pl) i).length = pl.length:=by unfold zL; rw [List.length_map,hrl]
    omega
   ·have e1:(zL (zS k pl) i)[j]? = some ((zO k pq.1 pq.2).getD i 0):=by unfold zL; rw [List.getElem?_map,hrow]; rfl
    rw [List.take_add_one,e1,List.map_append,show (0 + (i:Int)).toNat = i by omega]; rfl
  rintro ys H' ⟨rfl,rfl⟩ l5 hl5
  have hall4l:=hall4.len
  have elen:(zL (zS k pl) i).length = pl.length:=by unfold zL; rw [List.length_map,hrl]
  have e5:((zL (zS k pl) i).take ws.length).map V.int = (zL (zS k pl) i).map V.int:=by rw [List.take_of_length_le (by omega)]
  rw [e5]
  have g5:=Grow.new (m:=[]) hl5 (.lst ((zL (zS k pl) i).map V.int))
  refine ⟨l5,zL (zS k pl) i,rfl,SqL.of zc,by omega,fun p6 ms hp6 pm po=>?_⟩
  have ems:=tP pm po
  have lms:=pm.length_eq
  have g6:=Grow.new (m:=[]) hp6 (.lst (ms.map V.int))
  refine ⟨_,rfl,_,rfl,_,rfl,p6,_,rfl,SqL.of zc,fun p7 hp7=>?_⟩
  have ec:cutV (ms.map V.int) (some 1) none = (ms.drop 1).map V.int:=by
   unfold cutV
   rw [List.length_map,show (1:Int) = ((1:Nat):Int) from rfl,HT.sIx_none,HT.sIx_nat,← List.map_drop,← List.map_take]
   by_cases c:1 <= ms.length
   ·rw [Nat.min_eq_left c,List.take_of_length_le (by rw [List.length_drop]; exact Nat.le_refl _)]
   ·rw [Nat.min_eq_right (by omega),List.drop_eq_nil_of_le (by omega),List.drop_eq_nil_of_le (by omega)]; simp
  rw [ec]
  have g7:=Grow.new (m:=[]) hp7 (.lst ((ms.drop 1).map V.int))
  have gE:Grow [] H' _:=g5.trans (g6.trans g7)
  have hp6':(upd (upd (upd H' l5 (.lst ((zL (zS k pl) i).map V.int))) p6 (.lst (ms.map V.int))) p7 (.lst ((ms.drop 1).map V.int))) p6 = some (.lst (ms.map V.int)):=g7.keep _ _ (by simp) zc
  have hp7':(upd (upd (upd H' l5 (.lst ((zL (zS k pl) i).map V.int))) p6 (.lst (ms.map V.int))) p7 (.lst ((ms.drop 1).map V.int))) p7 = some (.lst ((ms.drop 1).map V.int)):=zc
  revert gE hp6' hp7'
  clear g5 g6 g7
  generalize upd (upd (upd H' l5 (.lst ((zL (zS k pl) i).map V.int))) p6 (.lst (ms.map V.int))) p7 (.lst ((ms.drop 1).map V.int)) = H7
  intro gE hp6' hp7'
  refine ⟨false,false,p6,p7,rfl,⟨_,SqL.of hp6'⟩,⟨_,SqL.of hp7'⟩,Ww (xs:=ms.map V.int) (ys:=(ms.drop 1).map V.int) (fun j σ H'=>∃ (e5 e6:Option V),σ = [some (.int k),some (.ref r),some (.ref lw),some (.int (0 + (i:Int))),some (.ref p6),e5,e6] /\ Grow [] H7 H' /\ dupS ms = dupS (ms.drop j)) ⟨_,_,rfl,Grow.refl _ _,rfl⟩ (fun j σ H' ⟨_,_,_,g,_⟩=>⟨SqL.of (g.keep _ _ (by simp) hp6'),SqL.of (g.keep _ _ (by simp) hp7')⟩) ?_ ?_⟩
  ·rintro j xa xb σ H8 T hxa hxb ⟨e5,e6,rfl,g8,hd⟩ hT
   rw [List.getElem?_map] at hxa hxb
   obtain ⟨va,hva,rfl⟩:∃ va,ms[j]? = some va /\ xa = V.int va:=by
    cases e:ms[j]? with
    | none=>rw [e] at hxa; cases hxa
    | some va=>rw [e] at hxa; exact ⟨va,rfl,(Option.some.inj hxa).symm⟩
   obtain ⟨vb,hvb,rfl⟩:∃ vb,ms[j + 1]? = some vb /\ xb = V.int vb:=by
    rw [List.getElem?_drop,Nat.add_comm 1 j] at hxb
    cases e:ms[j + 1]? with
    | none=>rw [e] at hxb; cases hxb
    | some vb=>rw [e] at hxb; exact ⟨vb,rfl,(Option.some.inj hxb).symm⟩
   have gT:=Grow.new (m:=[]) hT (.tup [.int va,.int vb])
   refine ⟨T,_,rfl,SqT.of zc,rfl,_,_,rfl,_,_,rfl,rfl,_,rfl,_,rfl,rfl,_,rfl,?_⟩
   by_cases c:va = vb
   ·subst c
    refine wT (decide_eq_true rfl) ⟨_,rfl,_,rfl,szl rfl,fun t9 ht9=>?_⟩
    refine q (some (i,va)) _ _ (gB.trans (g4.trans (gE.trans (g8.trans (gT.trans (Grow.new ht9 _)))))) ⟨t9,rfl,SqT.of (by rw [zc,Int.zero_add])⟩ ⟨hik,?_,hno⟩
    show dupS (vN (zL (zS k pl) i)) = some va
    rw [← ems,hd,VF hva hvb]
   ·exact yX (decide_eq_false fun z=>c (V.int.inj z)) ⟨_,_,rfl,g8.trans gT,by rw [hd,VG hva hvb c]⟩
  ·rintro σ H8 ⟨e5,e6,rfl,g8,hd⟩
   refine ⟨_,_,_,_,rfl,g4.trans (gE.trans g8),fun j hj=>?_⟩
   by_cases c:j < i
   ·exact hno j c
   ·have:j = i:=by omega
    subst this
    show dupS (vN (zL (zS k pl) j)) = none
    rw [← ems,hd]
    exact WA (by rw [List.length_map,List.length_map,List.length_drop]; omega)
 ·rintro σ H4 ⟨e3,e4,e5,e6,rfl,g4,hno⟩
  exact q none _ _ (gB.trans g4) rfl fun l hl=>hno l (by omega)
theorem yk:FnScope ["k","thing","row","hand","side"] ["k","thing"] (zf (top 24)):=⟨rfl,rfl,rfl,by decide +kernel,rfl,by decide +kernel,by decide +kernel⟩
theorem sf (F:Fun K "need_pairs" "need_pairs" (top 24) f fd) (B:Blt mg) (qc0:zg P w K mg base n "need_side" ["k","thing"] (yz K)) (qc1:zg P w K mg base n "need_hand" ["k","thing"] (yz K))  {t_MOST_PAIRS:Tok} (g_MOST_PAIRS:mg "MOST_PAIRS" = some (.int 40 t_MOST_PAIRS))  :
  FnOk P w K mg base CX0 (n + 1) f fd ["k","thing"] (w4 K):=by
 refine F.ok yk zB (fun cdv A outer s H vs Q E hr h=>?_)
 obtain ⟨x,y,rfl,k,pl,rfl,k4,⟨r,xs,rfl,hs,hall⟩,hl40,hok,q⟩:=h
 refine ⟨_,(zd (zu (i:=2) yk.nd rfl (Or.inl rfl) (wQ (zl yr rfl B.isinstance zA (za (pv 1) (za (xr rfl B.tuple zG) zb))) (wg (xy ZF (zl zw rfl B.len x9 (za (pv 1) zb)) (tE rfl g_MOST_PAIRS (show RelV (.int 40) (.int 40 t_MOST_PAIRS) from ⟨_,rfl⟩)) (zH _))))) (zd (yc (PW.pt (vM (yf (zW (pv 2))) (xZ (yf (zW (zl (yW rfl) rfl B.all sG (za (zt (CSc.of (N':=["pair"]) (sub:=[none]) (zf (top 24)) ["k","thing","row","hand","side"] rfl rfl (by decide +kernel) rfl) rfl (ym (pv 1)) (fun _ _ _ _ _ _=>zi (i:=0) (show (["pair"]:List Str).Nodup by decide +kernel) rfl (Or.inl rfl)) (fun _ _ _ _ _ _=>zo) (fun _ _ _ _ _ _=>(wQ (zl (ue (K:=K) rfl) rfl B.isinstance zA (za (pv 0) (za (xr rfl B.tuple zG) zb))) (wg (xy vn (zl (sM (K:=K) rfl) rfl B.len x9 (za (pv 0) zb)) zj (zH _)))))) zb))))))) (zh xf) zv) (zd (yH PassesOwn.never rfl (ym (pv 1)) (yV rfl (zk (zi (i:=3) yk.nd rfl (Or.inl rfl)) (zk (zi (i:=4) yk.nd rfl (Or.inl rfl)) zF))) (zh (zI (ze qc1 hr rfl (za (pv 0) (za (pv 3) zb)))))) (zh (yH PassesOwn.never rfl (ym (pv 1)) (yV rfl (zk (zi (i:=3) yk.nd rfl (Or.inl rfl)) (zk (zi (i:=4) yk.nd rfl (Or.inl rfl)) zF))) (zh (zI (ze qc0 hr rfl (za (pv 0) (za (pv 4) zb)))))))))),?_⟩
 have hl:=hall.len
 refine ⟨_,rfl,_,_,_,true,rfl,.inl ⟨rfl,_,hs⟩,rfl,_,rfl,iteT ?_⟩
 refine ⟨_,rfl,r,_,rfl,.inr hs,_,_,rfl,rfl,?_⟩
 refine ⟨_,rfl,_,rfl,yX (by rw [decide_eq_true (show (xs.length:Int) <= 40 by omega)]; rfl) ?_⟩
 refine ⟨_,rfl,r,rfl,⟨_,hs⟩,yC (fun _=>V.bl true) hs (by omega) ?_ ?_⟩
 ·intro v H2 R hv g kk
  obtain ⟨i,hi⟩:=List.getElem?_of_mem hv
  obtain ⟨pq,_,rp,rfl,hrp⟩:=hall.get hi
  exact ⟨_,rfl,_,_,_,true,rfl,.inl ⟨rfl,_,g.sqT hrp⟩,rfl,_,rfl,iteT ⟨_,rfl,rp,_,rfl,.inr (g.sqT hrp),rfl,kk _ (Grow.refl _ _)⟩⟩
 intro H2 p g hp
 refine ⟨p,xs.map (fun _=>true),rfl,SqL.of (by rw [zc,List.map_map]; rfl),_,rfl,yX (by rw [xG]; rfl) ?_⟩
 have g3:Grow [] H (upd H2 p (.lst (xs.map fun _=>V.bl true))):=g.trans (Grow.new hp _)
 refine ⟨_,rfl,r,rfl,⟨_,g3.sqT hs⟩,tG (xs:=xs) (fun i σ H'=>∃ (e3 e4:Option V),σ = [some (.int k),some (.ref r),some (.bl (decide ((xs.length:Int) <= 40))),e3,e4] /\ Grow [] H H') ⟨_,_,rfl,g3⟩ ?_ ?_ ?_⟩
 ·rintro i σ H' _ ⟨_,_,_,g⟩
  exact g.sqT hs
 ·rintro i x σ H' hx ⟨e3,e4,rfl,g⟩
  obtain ⟨pq,hpq,rp,rfl,hrp⟩:=hall.get hx
  have o:=hok pq (List.mem_of_getElem? hpq)
  exact ⟨rp,_,rfl,g.sqT hrp,rfl,_,_,rfl,_,_,rfl,rfl,_,rfl,_,rfl,_,_,rfl,k,pq.1,rfl,rfl,k4,o.1,_,_,rfl,g⟩
 rintro σ H4 ⟨e3,e4,rfl,g4⟩
 refine ⟨_,rfl,r,rfl,⟨_,g4.sqT hs⟩,tG (xs:=xs) (fun i σ H'=>∃ (e3 e4:Option V),σ = [some (.int k),some (.ref r),some (.bl (decide ((xs.length:Int) <= 40))),e3,e4] /\ Grow [] H H') ⟨_,_,rfl,g4⟩ ?_ ?_ ?_⟩
 ·rintro i σ H' _ ⟨_,_,_,g⟩
  exact g.sqT hs
 ·rintro i x σ H' hx ⟨e3,e4,rfl,g⟩
  obtain ⟨pq,hpq,rp,rfl,hrp⟩:=hall.get hx
  have o:=hok pq (List.mem_of_getElem? hpq)
  exact ⟨rp,_,rfl,g.sqT hrp,rfl,_,_,rfl,_,_,rfl,rfl,_,rfl,_,rfl,_,_,rfl,k,pq.2,rfl,rfl,k4,o.2,_,_,rfl,g⟩
 rintro σ H5 ⟨_,_,rfl,g5⟩
 exact q _ g5
theorem uE:FnScope ["k","pairs"] ["k","pairs"] (zf (top 26)):=⟨rfl,rfl,rfl,by decide +kernel,rfl,by decide +kernel,by decide +kernel⟩
theorem uF (F:Fun K "first_shared" "first_shared" (top 26) f fd) (B:Blt mg) (qc0:zg P w K mg base n "shared_line" ["k","pairs"] (yq K)) (qc1:zg P w K mg base n "need_pairs" ["k","thing"] (w4 K)) (qc2:zg P w K mg base n "need_net" ["thing"] (yu K))    :
  FnOk P w K mg base CX0 (n + 1) f fd ["k","pairs"] (yq K):=by
 refine F.ok uE zB (fun cdv A outer s H vs Q E hr h=>?_)
 obtain ⟨x,y,rfl,k,pl,rfl,k4,hp,hl40,hok,q⟩:=h
 refine ⟨_,(zd (zI (ze qc2 hr rfl (za (pv 0) zb))) (zd (zI (ze qc1 hr rfl (za (pv 0) (za (pv 1) zb)))) (zh (zn (ze qc0 hr rfl (za (pv 0) (za (pv 1) zb))))))),?_⟩
 refine ⟨_,rfl,_,rfl,k,rfl,k4,_,rfl,_,rfl,_,_,rfl,k,pl,rfl,k4,hp,hl40,hok,fun H1 g1=>?_⟩
 exact ⟨_,rfl,_,rfl,_,_,rfl,k,pl,rfl,k4,g1.prsT hp,hl40,hok,fun o y2 H2 g2 h2 s2=>q o y2 H2 (g1.trans g2) h2 s2⟩
theorem zR:FnScope ["_law_loads","_law_level","_law_row","_law_line","_law_many"] ["_law_loads"] (zf (top 73)):=⟨rfl,rfl,rfl,by decide +kernel,rfl,by decide +kernel,by decide +kernel⟩
theorem vh (F:Fun K "_law_first_full" "_law_first_full" (top 73) f fd) (B:Blt mg)  (g_enumerate:mg "enumerate" = none)   :
  FnOk P w K mg base CX0 (n + 1) f fd ["_law_loads"] (ux K):=by
 refine F.ok zR xn (fun cdv A outer s H vs Q E hr h=>?_)
 obtain ⟨x,rfl,k,T,hT,k4,hld,q⟩:=h
 refine ⟨_,(zd (yH PassesOwn.never rfl (xQ true (K:=K) rfl rfl g_enumerate (za (pv 0) zb)) (yV rfl (zk (zi (i:=1) zR.nd rfl (Or.inl rfl)) (zk (zi (i:=2) zR.nd rfl (Or.inl rfl)) zF))) (zh (yH PassesOwn.never rfl (xQ true (K:=K) rfl rfl g_enumerate (za (pv 2) zb)) (yV rfl (zk (zi (i:=3) zR.nd rfl (Or.inl rfl)) (zk (zi (i:=4) zR.nd rfl (Or.inl rfl)) zF))) (zh (yc (zJ Wh (pv 4) zj (zH _)) (zh (zn (zZ (za (pv 1) (za (pv 3) zb))))) zv))))) (zh (zn vX))),?_⟩
 have p16:=zU k4
 obtain ⟨rt,xs,rfl,hrt,hxs⟩:=hT
 have xl:=hxs.len
 refine ⟨_,rfl,rt,_,rfl,hrt,wY (xs:=xs) (fun i σ H'=>∃ (e1 e2 e3 e4:Option V),σ = [some (.ref rt),e1,e2,e3,e4] /\ Grow [] H H' /\ ∀ s' l',s' < i -> l' < 2 ^ k -> (T.getD s' []).getD l' 0 <= 1) ⟨_,_,_,_,rfl,Grow.refl _ _,fun _ _ z=>absurd z (Nat.not_lt_zero _)⟩ (fun i σ H' _ ⟨_,_,_,_,_,g,_⟩=>g.sqT hrt) ?_ ?_⟩
 ·rintro i v σ H1 t0 hv ⟨e1,e2,e3,e4,rfl,g1,hb⟩ ht0
  obtain ⟨row,hrow,rr,rfl,hrr⟩:=hxs.get hv
  have hi:=(List.getElem?_eq_some_iff.mp hrow).1
  have hik:i <= k:=by have:=hld.1; omega
  have hrl:=hld.2 row (List.mem_of_getElem? hrow)
  have eT:T.getD i [] = row:=by rw [List.getD_eq_getElem?_getD,hrow]; rfl
  have gT:=Grow.new (m:=[]) ht0 (.tup [.int i,.ref rr])
  have hTt:=zc (H:=H1) (a:=t0) (o:=.tup [.int i,.ref rr])
  have g2:=g1.trans gT
  generalize upd H1 t0 (.tup [.int i,.ref rr]) = H2 at gT hTt g2 ⊢
  have hrr2:=g2.sqT hrr
  refine ⟨t0,[.int i,.ref rr],rfl,SqT.of hTt,rfl,_,_,rfl,_,_,rfl,rfl,?_⟩
  refine ⟨_,rfl,rr,_,rfl,hrr2,wY (xs:=row.map V.int) (fun j σ H'=>∃ (e3 e4:Option V),σ = [some (.ref rt),some (.int i),some (.ref rr),e3,e4] /\ Grow [] H H' /\ ∀ l',l' < j -> row.getD l' 0 <= 1) ⟨_,_,rfl,g2,fun _ z=>absurd z (Nat.not_lt_zero _)⟩ (fun j σ H' _ ⟨_,_,_,g,_⟩=>g.sqT hrr) ?_ ?_⟩
  ·rintro j v σ H3 t1 hv ⟨e3,e4,rfl,g3,hc⟩ ht1
   rw [List.getElem?_map] at hv
   obtain ⟨n,hn,rfl⟩:=Option.map_eq_some_iff.mp hv
   have hj:=(List.getElem?_eq_some_iff.mp hn).1
   have en:row.getD j 0 = n:=by rw [List.getD_eq_getElem?_getD,hn]; rfl
   have gU:=Grow.new (m:=[]) ht1 (.tup [.int j,.int n])
   have hUt:=zc (H:=H3) (a:=t1) (o:=.tup [.int j,.int n])
   have g4:=g3.trans gU
   generalize upd H3 t1 (.tup [.int j,.int n]) = H4 at gU hUt g4 ⊢
   refine ⟨t1,[.int j,.int n],rfl,SqT.of hUt,rfl,_,_,rfl,_,_,rfl,rfl,?_⟩
   refine ⟨_,rfl,_,_,rfl,rfl,_,rfl,?_⟩
   refine ite2 (fun c=>?_) (fun c=>?_)
   ·have hn1:1 < n:=of_decide_eq_true c
    refine ⟨_,rfl,_,rfl,szl rfl,fun t ht=>q (some (i,(j:Int))) _ _ (g4.trans (Grow.new ht _)) ⟨t,rfl,SqT.of zc⟩ ⟨hik,⟨j,rfl,by omega,by rw [eT,en]; exact hn1,fun l' hl'=>by rw [eT]; exact hc l' hl'⟩,hb⟩⟩
   ·have hn1:¬ 1 < n:=fun z=>c (decide_eq_true z)
    refine ⟨_,_,rfl,g4,fun l' hl'=>?_⟩
    by_cases z:l' = j
    ·rw [z,en]; omega
    ·exact hc l' (by omega)
  ·rintro σ H3 ⟨e3,e4,rfl,g3,hc⟩
   refine ⟨_,_,_,_,rfl,g3,fun s' l' hs hl=>?_⟩
   by_cases z:s' = i
   ·rw [z,eT]; exact hc l' (by rw [List.length_map,hrl]; exact hl)
   ·exact hb s' l' (by omega) hl
 ·rintro σ H1 ⟨e1,e2,e3,e4,rfl,g1,hb⟩
  exact q none _ _ g1 rfl fun s l hs hl=>hb s l (by have:=hld.1; omega) hl
theorem yx:FnScope ["_law_k","_law_asks","_law_found","_law_hand","_law_box","_law_deed_here","_law_level","_law_line"] ["_law_k","_law_asks"] (zf (top 71)):=⟨rfl,rfl,rfl,by decide +kernel,rfl,by decide +kernel,by decide +kernel⟩
theorem qT (F:Fun K "_law_due" "_law_due" (top 71) f fd) (B:Blt mg) (qc0:zg P w K mg base n "way" ["k","hand","side"] (vF K)) (g_enumerate:mg "enumerate" = none)   :
  FnOk P w K mg base CX0 (n + 1) f fd ["_law_k","_law_asks"] (jL K):=by
 refine F.ok yx zB (fun cdv A outer s H vs Q E hr h=>?_)
 obtain ⟨x,y,rfl,k,ks,rfl,hks,k4,k16,R,q⟩:=h
 refine ⟨_,(zd (xP (i:=2) yx.nd rfl rfl (CSc.of (N':=["_law_level","_law_k"]) (sub:=[none,some 0]) (zf (top 71)) ["_law_k","_law_asks","_law_found","_law_hand","_law_box","_law_deed_here","_law_level","_law_line"] rfl rfl (by decide +kernel) rfl) rfl (yi rfl B.range (za (zr yn (pv 0) zj) zb)) (fun _ _ _ _ _ _=>zi (i:=0) (show (["_law_level","_law_k"]:List Str).Nodup by decide +kernel) rfl (Or.inl rfl)) (fun _ _ _ _ _ _=>zo) (fun _ _ _ _ _ _=>(zr ZQ (x4 (za zj zb)) (zr yB zj (pv 1))))) (zd (yH PassesOwn.never rfl (ym (pv 1)) (yV rfl (zk (zi (i:=3) yx.nd rfl (Or.inl rfl)) (zk (zi (i:=4) yx.nd rfl (Or.inl rfl)) (zk (zi (i:=5) yx.nd rfl (Or.inl rfl)) zF)))) (zh (yH PassesOwn.never rfl (xQ true (K:=K) rfl rfl g_enumerate (za (ze qc0 hr rfl (za (pv 0) (za (pv 3) (za (zr vC (pv 4) (zr yB zj (pv 0))) zb)))) zb)) (yV rfl (zk (zi (i:=6) yx.nd rfl (Or.inl rfl)) (zk (zi (i:=7) yx.nd rfl (Or.inl rfl)) zF))) (zh (wm (zr yn (zT zK (zT zK (pv 2) (pv 6) (fun _ _=>rfl)) (pv 7) (fun _ _=>rfl)) zj) (vB (zT zK (pv 2) (pv 6) (fun _ _=>rfl)) (pv 7) xq)))))) (zh (zn (pv 2))))),?_⟩
 have p16:=zU k4
 have hpos:0 < 2 ^ k:=Nat.two_pow_pos k
 have e1k:(1:Int) * 2 ^ ((k:Int)).toNat = ((2 ^ k:Nat):Int):=yL
 obtain ⟨rt,xs,rfl,hrt,hxs⟩:=hks
 have xl:=hxs.len
 refine ⟨_,rfl,_,_,rfl,rfl,_,rfl,by omega,by omega,xg (fun i ys H'=>∃ rs:List Addr,ys = rs.map V.ref /\ rs.length = i /\ GR H H' rs (List.replicate i (List.replicate (2 ^ k) (V.int 0))) /\ Grow [] H H') ⟨[],rfl,rfl,.nil,Grow.refl _ _⟩ ?_ ?_⟩
 ·rintro i ys H1 hi ⟨rs,rfl,rl,hg,g1⟩
  refine ⟨szl rfl,fun t ht=>⟨_,rfl,_,_,rfl,rfl,⟨by omega,by omega,by decide⟩,?_⟩⟩
  show rRep (V.ref t) (V.int (1 * 2 ^ (k:Int).toNat)) _ _
  rw [e1k]
  have gt:=Grow.new (m:=[]) ht (.lst [.int 0])
  refine ⟨t,_,_,rfl,rfl,zc,by omega,by omega,by show 1 * ((2 ^ k:Nat):Int).toNat <= sizeLine; rw [Int.toNat_natCast,Nat.one_mul]; exact Nat.le_of_lt (zp (by omega)),fun l hl=>⟨by rw [List.length_map]; exact zp (by omega),rs ++ [l],by rw [List.map_append]; rfl,by rw [List.length_append,rl]; rfl,?_,(g1.trans gt).trans (Grow.new hl _)⟩⟩
  have:=GR.new (g1.trans gt) (hg.grow gt) hl (List.replicate (2 ^ k) (V.int 0))
  rw [List.replicate_succ',show (List.replicate (((2 ^ k:Nat):Int)).toNat [V.int 0]).flatten = List.replicate (2 ^ k) (V.int 0) from by rw [Int.toNat_natCast,List.flatten_replicate_singleton]]
  exact this
 rw [show ((k:Int) + 1).toNat = k + 1 by omega]
 rintro ys H1 ⟨rs,rfl,rl,hg,g1⟩ l hl
 have ln:=hg.ne hl
 have l0:=g1.free (by simp) hl
 have g2:=g1.trans (Grow.new (m:=[]) hl (.lst (rs.map V.ref)))
 have hg2:=hg.grow (Grow.new (m:=[]) hl (.lst (rs.map V.ref)))
 have hl2:upd H1 l (.lst (rs.map V.ref)) l = some (.lst (rs.map V.ref)):=zc
 generalize upd H1 l (.lst (rs.map V.ref)) = H2 at g2 hg2 hl2 ⊢
 have hg0:GR H H2 rs ((plR k (ks.take 0)).map (·.map V.int)):=by
  rw [List.take_zero,V4,List.map_replicate,List.map_replicate]; exact hg2
 refine ⟨_,rfl,rt,rfl,⟨_,g2.sqT hrt⟩,tG (xs:=xs) (fun i σ H'=>∃ (e3 e4 e5 e6 e7:Option V),σ = [some (.int k),some (.ref rt),some (.ref l),e3,e4,e5,e6,e7] /\ Grow [] H H' /\ H' l = some (.lst (rs.map V.ref)) /\ GR H H' rs ((plR k (ks.take i)).map (·.map V.int))) ⟨_,_,_,_,_,rfl,g2,hl2,hg0⟩ (fun i σ H' _ ⟨_,_,_,_,_,_,g,_⟩=>g.sqT hrt) ?_ ?_⟩
 ·rintro i v σ H3 hv ⟨e3,e4,e5,e6,e7,rfl,g3,hl3,hg3⟩
  obtain ⟨a,ha,ra,rd,rfl,hra,hrd⟩:=hxs.get hv
  have am:=List.mem_of_getElem? ha
  have hh:=R.hand a am
  have hb:=R.box a am
  obtain ⟨hd,ehd⟩:∃ n:Nat,a.hand = n:=⟨a.hand.toNat,by omega⟩
  obtain ⟨bx,ebx⟩:∃ n:Nat,a.box = n:=⟨a.box.toNat,by omega⟩
  refine ⟨ra,_,rfl,g3.sqT hra,rfl,_,_,rfl,_,_,rfl,_,_,rfl,rfl,?_⟩
  refine ⟨_,rfl,_,rfl,_,rfl,_,rfl,_,_,rfl,rfl,⟨by omega,by omega,by decide⟩,_,_,rfl,rfl,(by rw [e1k]; omega),_,_,_,rfl,k,a.hand.toNat,a.box.toNat % 2 ^ k,rfl,(by rw [Int.toNat_of_nonneg hh.1]),congrArg V.int (uz hb.1 k),k4,yj R am,y0,fun yw H4 g4 hw=>?_⟩
  obtain ⟨rw,rfl,hrw⟩:=hw
  have g34:=g3.trans g4
  have hl4:=g4.keep _ _ (by simp) hl3
  have hg4:=hg3.grow g4
  rw [← WU (a:=a)] at hg4
  refine ⟨rw,_,rfl,hrw,wY (xs:=(zO k a.hand.toNat (a.box.toNat % 2 ^ k)).map V.int) (fun j σ H'=>∃ (e6 e7:Option V),σ = [some (.int k),some (.ref rt),some (.ref l),some (.int a.hand),some (.int a.box),some (.ref rd),e6,e7] /\ Grow [] H H' /\ Grow rs H4 H' /\ H' l = some (.lst (rs.map V.ref)) /\ GR H H' rs ((duR k (ks.take i) a j).map (·.map V.int))) ⟨_,_,rfl,g34,Grow.refl _ _,hl4,hg4⟩ (fun j σ H' _ ⟨_,_,_,_,g,_⟩=>g.sqT hrw) ?_ ?_⟩
  ·rintro j v σ H5 t1 hv ⟨e6,e7,rfl,g5,gr5,hl5,hg5⟩ ht1
   obtain ⟨hj,rfl⟩:=jP hv
   obtain ⟨ln',eln,hln⟩:=rD R k4 am hj
   have gT:=Grow.new (m:=[]) ht1 (.tup [.int j,.int (zE k a.hand.toNat ((a.box.toNat % 2 ^ k:Nat):Int) j)])
   have hT:=zc (H:=H5) (a:=t1) (o:=.tup [.int j,.int (zE k a.hand.toNat ((a.box.toNat % 2 ^ k:Nat):Int) j)])
   have g6:=g5.trans gT
   have gr6:=gr5.trans gT.wk
   have hl6:=gT.keep _ _ (by simp) hl5
   have hg6:=hg5.grow gT
   generalize upd H5 t1 _ = H6 at gT hT g6 gr6 hl6 hg6 ⊢
   refine ⟨t1,_,rfl,SqT.of hT,rfl,_,_,rfl,_,_,rfl,rfl,?_⟩
   have jl:j < rs.length:=by omega
   have hr:=List.getElem?_eq_getElem jl
   have hdu:=WV (k:=k) (ks:=ks.take i) (a:=a) (j:=j) hj
   obtain ⟨n0,hn0,est⟩:=WW hj eln hln hdu
   have hrow:=hg6.row j _ _ hr (by rw [List.getElem?_map,hdu]; rfl)
   have hix:=tH (show (rs.map V.ref)[j]? = some (V.ref rs[j]) by rw [List.getElem?_map,hr]; rfl)
   generalize ((List.range (2 ^ k)).map fun l=>yF ((ks.take i ++ if j < j then [a] else []).map fun a=>zE k a.hand.toNat (a.box.toNat % 2 ^ k) j) l) = row at hdu hn0 est hrow
   rw [eln]
   have hnl:ln' < (row.map V.int).length:=by rw [List.length_map]; exact (List.getElem?_eq_some_iff.mp hn0).1
   refine ⟨_,rfl,_,rfl,l,_,_,_,rfl,rfl,SqL.of hl6,hix,_,rfl,_,_,_,V.int n0,rfl,rfl,SqL.of hrow,tH (by rw [List.getElem?_map,hn0]; rfl),_,_,rfl,rfl,?_⟩
   refine ⟨_,rfl,_,rfl,l,_,_,_,rfl,rfl,SqL.of hl6,hix,_,rfl,_,_,_,ln',rfl,rfl,hrow,by rw [xz (by omega) (by rw [Int.toNat_natCast]; exact hnl),Int.toNat_natCast],?_⟩
   have hmem:=List.mem_of_getElem? hr
   refine ⟨_,_,rfl,g6.put99 (hg6.nr _ hmem) _,gr6.trans (Grow.set hrow hmem _),by rw [zm (fun z=>ln (by rw [z]; exact hmem))]; exact hl6,?_⟩
   have:=hg6.set hr ((row.set ln' (n0 + 1)).map V.int)
   rw [← est,List.map_set,List.map_set]
   rw [List.map_set] at this
   exact this
  ·rintro σ H5 ⟨e6,e7,rfl,g5,gr5,hl5,hg5⟩
   have e:((zO k a.hand.toNat (a.box.toNat % 2 ^ k)).map V.int).length = k + 1:=by unfold zO; rw [List.length_map,List.length_map,List.length_range]
   rw [e,V3,← yO ha] at hg5
   exact ⟨_,_,_,_,_,rfl,g5,hl5,hg5⟩
 ·rintro σ H3 ⟨e3,e4,e5,e6,e7,rfl,g3,hl3,hg3⟩
  rw [xl,List.take_length] at hg3
  exact ⟨_,rfl,q _ _ g3 (hg3.lr hl3)⟩
theorem wK:FnScope ["k","board","asks","ways"] ["k","board","asks"] (zf (top 61)):=⟨rfl,rfl,rfl,by decide +kernel,rfl,by decide +kernel,by decide +kernel⟩
theorem uP (F:Fun K "plain_loads" "plain_loads" (top 61) f fd) (B:Blt mg) (qc0:zg P w K mg base n "counted_on" ["k","lines"] (wu K)) (qc1:zg P w K mg base n "way_of" ["k","hand","side"] (vF K)) (qc2:zg P w K mg base n "side_for" ["k","box"] (uu K)) (qc3:zg P w K mg base n "need_round" ["k","board","asks"] (xU K))    :
  FnOk P w K mg base CX0 (n + 1) f fd ["k","board","asks"] (qz K):=by
 refine F.ok wK yK (fun cdv A outer s H vs Q E hr h=>?_)
 obtain ⟨x,y,z,rfl,k,b,ks,rfl,k4,hb,b1,b16,hks,k16,R,q⟩:=h
 refine ⟨_,(zd (zI (ze qc3 hr rfl (za (pv 0) (za (pv 1) (za (pv 2) zb))))) (zd (zu (i:=3) wK.nd rfl (Or.inr rfl) (zt (CSc.of (N':=["hand","box","deed","k"]) (sub:=[none,none,none,some 0]) (zf (top 61)) ["k","board","asks","ways"] rfl rfl (by decide +kernel) rfl) rfl (ym (pv 2)) (fun _ _ _ _ _ _=>xR (K:=K) 3 rfl rfl (zk (zi (i:=0) (show (["hand","box","deed","k"]:List Str).Nodup by decide +kernel) rfl (Or.inl rfl) (Or.inr rfl)) (zk (zi (i:=1) (show (["hand","box","deed","k"]:List Str).Nodup by decide +kernel) rfl (Or.inl rfl) (Or.inr rfl)) (zk (zi (i:=2) (show (["hand","box","deed","k"]:List Str).Nodup by decide +kernel) rfl (Or.inl rfl) (Or.inr rfl)) zF))) rfl rfl) (fun _ _ _ _ _ _=>zo) (fun _ _ _ _ _ _=>(ze qc1 hr rfl (za (pv 3) (za (pv 0) (za (ze qc2 hr rfl (za (pv 3) (za (pv 1) zb))) zb))))))) (zh (zn (zD zx rfl B.tuple zG (za (Xu (CScC.of (N':=["level","k","ways"]) (sub:=[none,some 0,some 3]) (zf (top 61)) ["k","board","asks","ways"] rfl rfl (by decide +kernel) (by decide +kernel) rfl) rfl (yi rfl B.range (za (zr yn (pv 0) zj) zb)) (fun _ _ _ _ _ _=>zi (i:=0) (show (["level","k","ways"]:List Str).Nodup by decide +kernel) rfl (Or.inr rfl) (Or.inl rfl)) (fun _ _ _ _ _ _=>zo) (fun _ _ _ _ _ _=>(ze qc0 hr rfl (za (pv 1) (za (zt (CSc.nestO (N2:=["lines","level"]) (sub2:=[none,some 0]) (CScC.of (N':=["level","k","ways"]) (sub:=[none,some 0,some 3]) (zf (top 61)) ["k","board","asks","ways"] rfl rfl (by decide +kernel) (by decide +kernel) rfl) rfl (by decide +kernel) rfl) rfl (jo (K:=K) rfl (pv 2)) (fun _ _ _ _ _ _=>zi (i:=0) (show (["lines","level"]:List Str).Nodup by decide +kernel) rfl (Or.inl rfl)) (fun _ _ _ _ _ _=>zo) (fun _ _ _ _ _ _=>(zT (ZY (K:=K) rfl) (pv 0) (pv 1) (fun _ _=>rfl)))) zb))))) zb)))))),?_⟩
 have p16:=zU k4
 refine ⟨_,rfl,_,rfl,_,rfl,_,_,_,rfl,k,b,ks,rfl,k4,hb,b1,b16,hks,k16,R,fun H1 g1=>?_⟩
 refine c_nx ?_
 obtain ⟨ra,xs,rfl,hra,hxs⟩:=g1.asks hks
 have xl:=hxs.len
 have W1:0 < 2 ^ k:=Nat.two_pow_pos k
 let wy:Ask -> List Int:=fun a=>zO k a.hand.toNat (a.box.toNat % 2 ^ k)
 refine uL (fun v H'=>∃ lw ws,v = .ref lw /\ H' lw = some (.lst ws) /\ AllR (zy K H') ws (ks.map wy) /\ Grow [] H1 H') (fun Kk hk=>⟨_,rfl,ra,rfl,⟨_,hra⟩,vd (xs:=xs) (fun n ys σ' H'=>Grow [] H1 H' /\ (∃ e1 e2 e3,σ' = [e1,e2,e3,some (.int k)]) /\ AllR (zy K H') ys ((ks.take n).map wy)) ⟨Grow.refl _ _,⟨_,_,_,rfl⟩,trivial⟩ (fun n ys σ' H' _ w=>w.1.sqT hra) ?_ ?_⟩) ?_
 ·rintro n x ys σ' H2 hx ⟨g2,⟨e1,e2,e3,rfl⟩,al2⟩
  obtain ⟨a,ha,r,rd,rfl,h1,h2⟩:=hxs.get hx
  have am:=List.mem_of_getElem? ha
  have hn:=(List.getElem?_eq_some_iff.mp ha).1
  have hh:=R.hand a am
  have hbx:=R.box a am
  have hhn:=wB hh.1 hh.2
  refine ⟨r,_,rfl,g2.sqT h1,rfl,_,_,rfl,_,_,rfl,_,_,rfl,rfl,?_⟩
  refine ⟨_,rfl,_,rfl,_,rfl,_,rfl,_,_,rfl,k,a.box.toNat,rfl,congrArg V.int (Int.toNat_of_nonneg hbx.1).symm,k4,by omega,_,_,_,rfl,k,a.hand.toNat,a.box.toNat % 2 ^ k,rfl,congrArg V.int (Int.toNat_of_nonneg hh.1).symm,rfl,k4,hhn,Nat.mod_lt _ W1,fun y3 H3 g3 hb3=>⟨yJ (by rw [al2.len,List.length_map,List.length_take]; omega),g2.trans g3,⟨_,_,_,rfl⟩,?_⟩⟩
  rw [List.take_succ,ha,List.map_append]
  exact (g3.boardsR al2).app (.one hb3)
 ·rintro ys σ' H2 ⟨g2,_,al2⟩ l hl
  rw [xl,List.take_length] at al2
  have gl:=Grow.new (m:=[]) hl (.lst ys)
  exact hk _ _ ⟨l,ys,rfl,zc,gl.boardsR al2,g2.trans gl⟩
 rintro _ H2 ⟨lw,ws,rfl,hw2,al2,g2⟩
 have wl:ws.length = ks.length:=by rw [al2.len,List.length_map]
 refine ⟨_,rfl,_,_,rfl,rfl,_,rfl,(by show -2 ^ 62 <= (k:Int) + 1; omega),(by show (k:Int) + 1 < 2 ^ 62; omega),xg (fun i ys H'=>Grow [] H2 H' /\ AllR (zy K H') ys ((plR k ks).take i)) ⟨Grow.refl _ _,trivial⟩ ?_ ?_⟩
 ·rintro i ys H3 hi ⟨g3,al3⟩
  have hi':i < k + 1:=by have:i < ((k:Int) + 1).toNat:=hi; omega
  refine ⟨_,rfl,_,rfl,lw,rfl,⟨_,SqL.of (g3.keep _ _ (by simp) hw2)⟩,wt (xs:=ws) (fun n zs σ' H'=>H' = H3 /\ (∃ e0,σ' = [e0,some (.int (0 + (i:Int)))]) /\ zs = ((ks.take n).map fun a=>zE k a.hand.toNat (a.box.toNat % 2 ^ k) i).map V.int) ⟨rfl,⟨_,rfl⟩,rfl⟩ (fun n zs σ' H' _ w=>by rw [w.1]; exact SqL.of (g3.keep _ _ (by simp) hw2)) ?_ ?_⟩
  ·rintro n x zs σ' H4 hx ⟨rfl,⟨e0,rfl⟩,rfl⟩
   obtain ⟨row,hrow,rr,rfl,hrr⟩:=al2.get hx
   rw [List.getElem?_map] at hrow
   obtain ⟨a,ha,rfl⟩:=Option.map_eq_some_iff.mp hrow
   have hn:=(List.getElem?_eq_some_iff.mp ha).1
   refine ⟨_,rfl,_,rfl,rr,_,_,.int (zE k a.hand.toNat (a.box.toNat % 2 ^ k) i),rfl,rfl,g3.sqT hrr,?_,yJ (by rw [List.length_map,List.length_map,List.length_take]; omega),rfl,⟨_,rfl⟩,?_⟩
   ·refine WR (by omega) (j:=i) ?_
    show (zO k a.hand.toNat (a.box.toNat % 2 ^ k))[i]? = _
    unfold zO; rw [List.getElem?_map,List.getElem?_range hi']; rfl
   ·rw [List.take_succ,ha,List.map_append,List.map_append]; rfl
  ·rintro zs σ' H4 ⟨rfl,_,rfl⟩ l5 hl5
   rw [wl,List.take_length]
   refine ⟨_,_,rfl,k,l5,_,rfl,k4,rfl,zc,fun y6 H6 g6 hb6=>?_⟩
   have G6:=(Grow.new (m:=[]) hl5 (.lst ((ks.map fun a=>zE k a.hand.toNat (a.box.toNat % 2 ^ k) i).map V.int))).trans g6
   refine ⟨yJ (by rw [al3.len,List.length_take]; omega),g3.trans G6,?_⟩
   have er:(plR k ks)[i]? = some ((List.range (2 ^ k)).map fun l=>yF (ks.map fun a=>zE k a.hand.toNat (a.box.toNat % 2 ^ k) i) l):=by
    unfold plR; rw [List.getElem?_map,List.getElem?_range hi']; rfl
   rw [List.take_succ,er]
   exact (G6.boardsR al3).app (.one hb6)
 ·rintro ys H3 ⟨g3,al3⟩ l9 hl9
  have le:(plR k ks).take ((k:Int) + 1).toNat = plR k ks:=List.take_of_length_le (by unfold plR; rw [List.length_map,List.length_range]; omega)
  rw [le] at al3
  refine ⟨l9,_,rfl,.inl ⟨SqL.of zc,fun r hr'=>?_⟩⟩
  have gg:=(Grow.new (m:=[]) hl9 (.lst ys)).trans (Grow.new hr' (.tup ys))
  exact q _ _ (g1.trans (g2.trans (g3.trans gg))) ⟨r,ys,rfl,SqT.of zc,gg.boardsR al3⟩
theorem zY:FnScope ["_law_k","_law_board","_law_asks","_law_told","_law_pairs","_law_line"] ["_law_k","_law_board","_law_asks"] (zf (top 76)):=⟨rfl,rfl,rfl,by decide +kernel,rfl,by decide +kernel,by decide +kernel⟩
theorem wP (F:Fun K "_law_loads_right" "_law_loads_right" (top 76) f fd) (B:Blt mg) (qc0:zg P w K mg base n "_law_joined_right" ["_law_k","_law_board","_law_asks"] (xW K)) (qc1:zg P w K mg base n "joined_loads" ["k","board","asks"] (qy K)) (qc2:zg P w K mg base n "first_shared" ["k","pairs"] (yq K)) (qc3:zg P w K mg base n "_law_first_full" ["_law_loads"] (ux K)) (qc4:zg P w K mg base n "_law_are_rows" ["_law_told","_law_due_here"] (uy K)) (qc5:zg P w K mg base n "_law_due" ["_law_k","_law_asks"] (jL K)) (qc6:zg P w K mg base n "plain_loads" ["k","board","asks"] (qz K))    :
  FnOk P w K mg base CX0 (n + 1) f fd ["_law_k","_law_board","_law_asks"] (xW K):=by
 refine F.ok zY yK (fun cdv A outer s H vs Q E hr h=>?_)
 obtain ⟨x,y,z,rfl,k,b,ks,rfl,k4,hb,b16,hks,k16,R,q⟩:=h
 refine ⟨_,(zd (zu (i:=3) zY.nd rfl (Or.inl rfl) (ze qc6 hr rfl (za (pv 0) (za (pv 1) (za (pv 2) zb))))) (zd (yc (yf (zW (ze qc4 hr rfl (za (pv 3) (za (ze qc5 hr rfl (za (pv 0) (za (pv 2) zb))) zb))))) (zh (zn wD)) zv) (zd (zu (i:=4) zY.nd rfl (Or.inl rfl) (zD zx rfl B.tuple zG (za (zt (CSc.of (N':=["_law_hand","_law_box","_law_deed_here","_law_k"]) (sub:=[none,none,none,some 0]) (zf (top 76)) ["_law_k","_law_board","_law_asks","_law_told","_law_pairs","_law_line"] rfl rfl (by decide +kernel) rfl) rfl (ym (pv 2)) (fun _ _ _ _ _ _=>xR (K:=K) 3 rfl rfl (zk (zi (i:=0) (show (["_law_hand","_law_box","_law_deed_here","_law_k"]:List Str).Nodup by decide +kernel) rfl (Or.inl rfl) (Or.inr rfl)) (zk (zi (i:=1) (show (["_law_hand","_law_box","_law_deed_here","_law_k"]:List Str).Nodup by decide +kernel) rfl (Or.inl rfl) (Or.inr rfl)) (zk (zi (i:=2) (show (["_law_hand","_law_box","_law_deed_here","_law_k"]:List Str).Nodup by decide +kernel) rfl (Or.inl rfl) (Or.inr rfl)) zF))) rfl rfl) (fun _ _ _ _ _ _=>zo) (fun _ _ _ _ _ _=>(zZ (za (pv 0) (za (zr vC (pv 1) (zr yB zj (pv 3))) zb))))) zb))) (zd (zu (i:=5) zY.nd rfl (Or.inl rfl) (ze qc3 hr rfl (za (pv 3) zb))) (zd (yc (zJ (XL (K:=K) rfl hr) (ze qc2 hr rfl (za (pv 0) (za (pv 4) zb))) (pv 5) (zH _)) (zh (zn wD)) zv) (zd (yc (PW.pt (v2 (wf (vY (pv 5))) (vm (zJ (Yg (K:=K) rfl hr) (ze qc1 hr rfl (za (pv 0) (za (pv 1) (za (pv 2) zb)))) (pv 3) (zH _))))) (zh (zn wD)) zv) (zh (zn (ze qc0 hr rfl (za (pv 0) (za (pv 1) (za (pv 2) zb)))))))))))),?_⟩
 have p16:=zU k4
 have hpos:0 < 2 ^ k:=Nat.two_pow_pos k
 have e1k:(1:Int) * 2 ^ ((k:Int)).toNat = ((2 ^ k:Nat):Int):=yL
 refine ⟨_,rfl,_,rfl,_,rfl,_,_,_,rfl,k,b,ks,rfl,k4,hb,by omega,by omega,hks,k16,by rw [b16]; exact R,fun y1 H1 g1 h1=>?_⟩
 have lok:LdOk k (plR k ks):=⟨jQ,fun r hr=>by
  unfold plR at hr
  obtain ⟨s,_,rfl⟩:=List.mem_map.mp hr
  rw [List.length_map,List.length_range]⟩
 refine ⟨_,rfl,_,rfl,_,rfl,_,_,rfl,k,ks,rfl,g1.asks hks,k4,k16,R,fun y2 H2 g2 h2=>?_⟩
 have g12:=g1.trans g2
 refine ⟨_,_,rfl,k,_,g2.rows h1,h2,k4,lok,fun H3 g3=>⟨_,rfl,iteF ?_⟩⟩
 have g13:=g12.trans g3
 have h13:=g3.rows (g2.rows h1)
 obtain ⟨rt,xs,rfl,hrt,hxs⟩:=hks
 have xl:=hxs.len
 refine ⟨_,rfl,rt,rfl,⟨_,g13.sqT hrt⟩,vd (xs:=xs) (fun i ys σ' H'=>(∃ e0 e1 e2:Option V,σ' = [e0,e1,e2,some (.int k)]) /\ Grow [] H3 H' /\ ys.length = i /\ AllR (PrAt K H') ys ((xA k ks).take i)) ⟨⟨_,_,_,rfl⟩,Grow.refl _ _,rfl,trivial⟩ (fun i ys σ' H' _ z=>(g13.trans z.2.1).sqT hrt) ?_ ?_⟩
 ·rintro i v ys σ' H4 hv ⟨⟨e0,e1,e2,rfl⟩,g4,yl,hal⟩
  obtain ⟨a,ha,ra,rd,rfl,hra,hrd⟩:=hxs.get hv
  have am:=List.mem_of_getElem? ha
  have hh:=R.hand a am
  have hbx:=R.box a am
  have hi:=(List.getElem?_eq_some_iff.mp ha).1
  refine ⟨ra,_,rfl,(g13.trans g4).sqT hra,rfl,_,_,rfl,_,_,rfl,_,_,rfl,rfl,?_⟩
  refine ⟨_,rfl,_,rfl,_,rfl,_,_,rfl,rfl,⟨by omega,by omega,by decide⟩,_,_,rfl,rfl,(by rw [e1k]; omega),szl rfl,fun t ht=>⟨zp (by omega),⟨_,_,_,rfl⟩,g4.trans (Grow.new ht _),by rw [List.length_append,yl]; rfl,?_⟩⟩
  have ep:(xA k ks)[i]? = some (a.hand.toNat,a.box.toNat % 2 ^ k):=by unfold xA; rw [List.getElem?_map,ha]; rfl
  rw [yO ep]
  refine (hal.imp fun _ _ ⟨r,e,z⟩=>⟨r,e,(Grow.new (m:=[]) ht _).sqT z⟩).app (AllR.one ⟨t,rfl,SqT.of ?_⟩)
  rw [zc]
  show some (HO.tup [V.int a.hand,V.int (a.box % (1 * 2 ^ (k:Int).toNat))]) = some (.tup [.int ((a.hand.toNat:Nat):Int),.int ((a.box.toNat % 2 ^ k:Nat):Int)])
  rw [uz hbx.1,Int.toNat_of_nonneg hh.1]
 rintro ys σ' H4 ⟨_,g4,yl,hal⟩ l hl
 have pl:(xA k ks).length = ks.length:=by unfold xA; rw [List.length_map]
 rw [xl,← pl,List.take_length] at hal
 refine ⟨l,_,rfl,.inl ⟨SqL.of zc,fun r hr=>?_⟩⟩
 have g5:=(Grow.new (m:=[]) hl (.lst ys)).trans (Grow.new (m:=[]) hr (.tup ys))
 have hr5:=zc (H:=upd H4 l (.lst ys)) (a:=r) (o:=.tup ys)
 generalize upd (upd H4 l (.lst ys)) r _ = H5 at g5 hr5 ⊢
 have g35:=g4.trans g5
 have hP:PrsT K H5 (.ref r) (xA k ks):=⟨r,ys,rfl,SqT.of hr5,hal.imp fun _ _ ⟨r,e,z⟩=>⟨r,e,g5.sqT z⟩⟩
 have pok:Xq k (xA k ks):=fun p hp=>by
  unfold xA at hp
  obtain ⟨a,ha,rfl⟩:=List.mem_map.mp hp
  exact ⟨yj R ha,y0⟩
 refine ⟨_,rfl,_,rfl,k,_,g35.rows h13,k4,lok,fun o y6 H6 g6 hc6 hf6=>?_⟩
 have g36:=g35.trans g6
 refine ⟨_,rfl,_,rfl,_,_,rfl,k,xA k ks,rfl,k4,?_,by omega,pok,fun o' y7 H7 g7 hc7 hs7=>?_⟩
 ·obtain ⟨r',ys',e,h1,h2⟩:=hP
  exact ⟨r',ys',e,g6.sqT h1,h2.imp fun _ _ ⟨r,e,z⟩=>⟨r,e,g6.sqT z⟩⟩
 have eo:=tu R k4 (.refl _) hf6 hs7
 subst eo
 refine ⟨_,rfl,rB hc7 (g7.clash hc6) ⟨_,rfl,iteF ?_⟩⟩
 have g37:=g36.trans g7
 cases o' with
 | some p =>
  obtain ⟨lv,lw⟩:=p
  obtain ⟨rc,rfl,hrc⟩:=g7.clash hc6
  refine ⟨_,rfl,_,rfl,iteF ?_⟩
  exact ⟨_,rfl,_,rfl,_,rfl,_,_,_,rfl,k,b,ks,rfl,k4,(g13.trans g37).board hb,b16,⟨rt,xs,rfl,(g13.trans g37).sqT hrt,(g13.trans g37).allA hxs⟩,k16,R,fun H8 g8=>q _ (g13.trans (g37.trans g8))⟩
 | none =>
  cases (show y6 = V.non from hc6)
  have ej:=WT R k4 hf6
  refine ⟨_,rfl,_,rfl,iteT ?_⟩
  refine ⟨_,rfl,_,rfl,_,rfl,_,_,_,rfl,k,b,ks,rfl,k4,(g13.trans g37).board hb,by omega,by omega,⟨rt,xs,rfl,(g13.trans g37).sqT hrt,(g13.trans g37).allA hxs⟩,k16,by rw [b16]; exact R,fun y8 H8 g8 h8=>?_⟩
  rw [b16,ej] at h8
  have g38:=g37.trans g8
  have h18:=g38.rows h13
  refine ⟨_,rfl,WF (plR k ks),Ym h8,Ym h18,(by obtain ⟨a,_,e,_⟩:=h8; exact ⟨a,e⟩),Nat.le_trans (Yl _) (by decide),_,rfl,iteF ?_⟩
  exact ⟨_,rfl,_,rfl,_,rfl,_,_,_,rfl,k,b,ks,rfl,k4,(g13.trans g38).board hb,b16,⟨rt,xs,rfl,(g13.trans g38).sqT hrt,(g13.trans g38).allA hxs⟩,k16,R,fun H9 g9=>q _ (g13.trans (g38.trans g9))⟩
theorem yA:FnScope ["_law_cell","_law_turn","_law_found","_law_k","_law_prime","_law_seed"] ["_law_cell","_law_turn"] (zf (top 63)):=⟨rfl,rfl,rfl,by decide +kernel,rfl,by decide +kernel,by decide +kernel⟩
theorem rP (F:Fun K "_law_rich" "_law_rich" (top 63) f fd) (B:Blt mg)  (g_enumerate:mg "enumerate" = none)   :
  FnOk P w K mg base CX0 (n + 1) f fd ["_law_cell","_law_turn"] (jp K):=by
 refine F.ok yA zB (fun cdv A outer s H vs Q E hr h=>?_)
 obtain ⟨x,y,rfl,c0,t0,rfl,rfl,q⟩:=h
 refine ⟨_,(zd (zu (i:=2) yA.nd rfl (Or.inl rfl) zj) (zd (yH PassesOwn.never rfl (xQ true (K:=K) rfl rfl g_enumerate (za (zZ (za zj (za zj (za zj (za zj (za zj (za zj zb))))))) zb)) (yV rfl (zk (zi (i:=3) yA.nd rfl (Or.inl rfl)) (zk (zi (i:=4) yA.nd rfl (Or.inl rfl)) zF))) (zd (zu (i:=5) yA.nd rfl (Or.inl rfl) (zr vC (zr v8 (zr yn (zr vC (zl Y6 rfl B.abs Ul (za (pv 0) zb)) (pv 4)) zj) (zr yn (zr yn (zr v8 zj (pv 1)) (zr v8 zj (pv 3))) zj)) (pv 4))) (zh (zu (i:=2) yA.nd rfl (Or.inl rfl) (zr yn (zr v8 (pv 2) (pv 4)) (zr vC (zr yn (zr yn (zr XR (pv 5) zj) (zr v8 zj (pv 5))) (pv 3)) (pv 4))))))) (zh (zn (pv 2))))),?_⟩
 refine ⟨szl rfl,fun a ha=>?_⟩
 have ga:Grow [] H (upd H a (.tup (([2147483647,2147483629,2147483587,2147483579,2147483563,2147483549]:List Int).map V.int))):=Grow.new ha _
 refine ⟨a,([2147483647,2147483629,2147483587,2147483579,2147483563,2147483549]:List Int).map V.int,rfl,SqT.of zc,Xk (xs:=([2147483647,2147483629,2147483587,2147483579,2147483563,2147483549]:List Int).map V.int) (fun i σ H'=>∃ (f:Int) (e3 e4 e5:Option V),σ = [some (.int c0),some (.int t0),some (.int f),e3,e4,e5] /\ 0 <= f /\ Grow [] (upd H a (.tup (([2147483647,2147483629,2147483587,2147483579,2147483563,2147483549]:List Int).map V.int))) H') ⟨1,_,_,_,rfl,by decide,Grow.refl _ _⟩ ?_ ?_ ?_⟩
 ·rintro i σ H' _ ⟨f,e3,e4,e5,_,_,g⟩
  exact g.sqT (SqT.of zc)
 ·rintro i x σ H1 T hx ⟨f,e3,e4,e5,rfl,f0,g⟩ hT
  have hi6:i < 6:=(List.getElem?_eq_some_iff.mp hx).1
  obtain ⟨pr,hpr,rfl⟩:=List.mem_map.mp (List.mem_of_getElem? hx)
  have hp:2147483549 <= pr /\ pr <= 2147483647:=by
   simp only [List.mem_cons,List.mem_nil_iff,or_false] at hpr
   omega
  refine ⟨T,_,rfl,SqT.of zc,rfl,_,_,rfl,_,_,rfl,rfl,?_⟩
  have b0:0 <= (if c0 < 0 then -c0 else c0) % pr:=Int.emod_nonneg _ (by omega)
  have b1:(if c0 < 0 then -c0 else c0) % pr < pr:=Int.emod_lt_of_pos _ (by omega)
  refine ⟨_,rfl,_,rfl,_,rfl,_,_,rfl,rfl,(by show (0:Int) < pr; omega),_,_,rfl,rfl,_,rfl,_,_,rfl,rfl,jn ⟨by decide,by decide⟩,_,rfl,_,_,rfl,rfl,jn ⟨by decide,by decide⟩,_,_,rfl,rfl,_,_,rfl,rfl,_,_,rfl,rfl,jn ⟨by omega,by omega⟩,_,rfl,_,_,rfl,rfl,(by show (0:Int) < pr; omega),?_⟩
  have s0:0 <= (((if c0 < 0 then -c0 else c0) % pr + 1) * (7 * t0 + 1000003 * (i:Int) + 139)) % pr:=Int.emod_nonneg _ (by omega)
  have s1:(((if c0 < 0 then -c0 else c0) % pr + 1) * (7 * t0 + 1000003 * (i:Int) + 139)) % pr < pr:=Int.emod_lt_of_pos _ (by omega)
  refine ⟨_,rfl,_,rfl,_,_,rfl,rfl,Vs ⟨by omega,by omega⟩,_,rfl,_,_,rfl,rfl,⟨by decide,by decide,?_⟩,_,rfl,_,_,rfl,rfl,jn ⟨by decide,by decide⟩,_,_,rfl,rfl,_,rfl,_,_,rfl,rfl,_,rfl,_,_,rfl,rfl,(by show (0:Int) < pr; omega),_,_,rfl,rfl,?_⟩
  ·show ((((if c0 < 0 then -c0 else c0) % pr + 1) * (7 * t0 + 1000003 * (i:Int) + 139)) % pr).natAbs < 2 ^ 64
   generalize (((if c0 < 0 then -c0 else c0) % pr + 1) * (7 * t0 + 1000003 * (i:Int) + 139)) % pr = sd at s0 s1
   omega
  refine ⟨_,_,_,_,rfl,?_,g.trans (Grow.new hT _)⟩
  exact Int.add_nonneg (Int.mul_nonneg f0 (by omega)) (Int.emod_nonneg _ (by omega))
 ·rintro σ H1 ⟨f,e3,e4,e5,rfl,f0,g⟩
  exact ⟨_,rfl,q _ _ f0 (ga.trans g)⟩
theorem vK:FnScope ["_law_purse_here","_law_many","_law_digit"] ["_law_purse_here","_law_many"] (zf (top 65)):=⟨rfl,rfl,rfl,by decide +kernel,rfl,by decide +kernel,by decide +kernel⟩
theorem rQ (F:Fun K "_law_take" "_law_take" (top 65) f fd) (B:Blt mg) (qc0:zg P w K mg base n "_law_rich" ["_law_cell","_law_turn"] (jp K))    :
  FnOk P w K mg base CX0 (n + 1) f fd ["_law_purse_here","_law_many"] (xS K):=by
 refine F.ok vK zB (fun cdv A outer s H vs Q E hr h=>?_)
 obtain ⟨x,y,rfl,a,m,rfl,rfl,⟨p0,c0,t0,hp,h0⟩,hm,hm2,q⟩:=h
 refine ⟨_,(zd (yc (zJ vn (zT zK (pv 0) zj (fun _ _=>rfl)) zj (zH _)) (zd (wm (ze qc0 hr rfl (za (zT zK (pv 0) zj (fun _ _=>rfl)) (za (zT zK (pv 0) zj (fun _ _=>rfl)) zb))) (vB (pv 0) zj xq)) (zh (wm (zr yn (zT zK (pv 0) zj (fun _ _=>rfl)) zj) (vB (pv 0) zj xq)))) zv) (zd (zu (i:=2) vK.nd rfl (Or.inl rfl) (zr vC (zT zK (pv 0) zj (fun _ _=>rfl)) (pv 1))) (zd (wm (zr Xd (zT zK (pv 0) zj (fun _ _=>rfl)) (pv 1)) (vB (pv 0) zj xq)) (zh (zn (pv 2)))))),?_⟩
 refine ⟨_,rfl,a,_,_,_,rfl,rfl,SqL.of hp,rfl,rfl,_,rfl,?_⟩
 by_cases c:p0 = 0
 ·refine wT (decide_eq_true (congrArg V.int c)) ?_
  refine ⟨_,rfl,a,_,_,_,rfl,rfl,SqL.of hp,rfl,_,rfl,a,_,_,_,rfl,rfl,SqL.of hp,rfl,_,_,rfl,c0,t0,rfl,rfl,fun n1 H1 l1 g1=>?_⟩
  have hp1:=g1.keep _ _ (by simp) hp
  refine ⟨_,rfl,a,_,0,0,rfl,rfl,hp1,rfl,?_⟩
  refine ⟨_,rfl,a,_,_,_,rfl,rfl,SqL.of zc,rfl,_,_,rfl,rfl,_,rfl,a,_,2,2,rfl,rfl,zc,rfl,?_⟩
  refine ⟨_,rfl,a,_,_,_,rfl,rfl,SqL.of zc,rfl,_,rfl,n1,m,rfl,rfl,hm,?_⟩
  refine ⟨_,rfl,a,_,_,_,rfl,rfl,SqL.of zc,rfl,_,rfl,n1,m,rfl,rfl,⟨hm,hm2⟩,_,rfl,a,_,0,0,rfl,rfl,zc,rfl,?_⟩
  exact ⟨_,rfl,q _ _ (Int.emod_nonneg _ (by omega)) (Int.emod_lt_of_pos _ hm) ((g1.wk (m:=[a])).trans ((Grow.set hp1 (by simp) _).trans ((Grow.set zc (by simp) _).trans (Grow.set zc (by simp) _)))) ⟨_,_,_,zc,Int.ediv_nonneg l1 (by omega)⟩⟩
 ·refine yX (decide_eq_false fun z=>c (V.int.inj z)) ?_
  refine ⟨_,rfl,a,_,_,_,rfl,rfl,SqL.of hp,rfl,_,rfl,p0,m,rfl,rfl,hm,?_⟩
  refine ⟨_,rfl,a,_,_,_,rfl,rfl,SqL.of hp,rfl,_,rfl,p0,m,rfl,rfl,⟨hm,hm2⟩,_,rfl,a,_,0,0,rfl,rfl,hp,rfl,?_⟩
  exact ⟨_,rfl,q _ _ (Int.emod_nonneg _ (by omega)) (Int.emod_lt_of_pos _ hm) (Grow.set hp (by simp) _) ⟨_,_,_,zc,Int.ediv_nonneg h0 (by omega)⟩⟩
theorem xX:FnScope ["k","stage","ways","marks","lines","crossed"] ["k","stage","ways"] (zf (top 50)):=⟨rfl,rfl,rfl,by decide +kernel,rfl,by decide +kernel,by decide +kernel⟩
theorem qU (F:Fun K "marks_by" "marks_by" (top 50) f fd) (B:Blt mg) (qc0:zg P w K mg base n "switch_at" ["k","stage","line"] (yZ K)) (qc1:zg P w K mg base n "figure" ["k","stage","line"] (wp K)) (qc2:zg P w K mg base n "switches_in_a_stage" ["k"] (yU K))    :
  FnOk P w K mg base CX0 (n + 1) f fd ["k","stage","ways"] (ul K):=by
 refine F.ok xX yK (fun cdv A outer s H vs Q E hr h=>?_)
 obtain ⟨x,y,z,rfl,k,st,gs,lw,ws,rfl,rfl,rfl,hlw,hall,k4,s1,s2,hok,q⟩:=h
 refine ⟨_,(zd (zu (i:=3) xX.nd rfl (Or.inl rfl) (zr ZQ (x4 (za zj zb)) (ze qc2 hr rfl (za (pv 0) zb)))) (zd (yH PassesOwn.never rfl (xO (pv 2)) (zi (i:=4) xX.nd rfl (Or.inl rfl)) (zd (zu (i:=5) xX.nd rfl (Or.inl rfl) (zr ja (ze qc1 hr rfl (za (pv 0) (za (pv 1) (za (zT yI (pv 4) (zr xm (pv 1) zj) (fun _ _=>rfl)) zb)))) (ze qc1 hr rfl (za (pv 0) (za (pv 1) (za (zT yI (pv 4) (pv 1) (fun _ _=>rfl)) zb)))))) (zh (wm (pv 5) (vB (pv 3) (ze qc0 hr rfl (za (pv 0) (za (pv 1) (za (zT yI (pv 4) (pv 1) (fun _ _=>rfl)) zb)))) xq))))) (zh (zn (zD zx rfl B.tuple zG (za (pv 3) zb)))))),?_⟩
 have p:=zU k4
 have hpl:(plOf gs).length = 2 ^ k:=jr.trans hok.1
 have hwl:(zS k (plOf gs)).length = 2 ^ k:=by unfold zS; rw [List.length_map,hpl]
 have hwsl:ws.length = 2 ^ k:=hall.len.trans hwl
 refine ⟨szl rfl,fun l0 hl0=>?_⟩
 have g0:=Grow.new (m:=[]) hl0 (.lst [V.int 0])
 refine ⟨_,rfl,_,rfl,k,rfl,k4,l0,_,_,rfl,rfl,zc,by omega,by omega,?_,fun lm hlm=>?_⟩
 ·show 1 * _ <= _
  rw [Int.toNat_natCast]; exact Nat.le_of_lt (zp (by omega))
 have gm:=g0.trans (Grow.new (m:=[]) hlm (.lst (List.replicate ((2 ^ k / 2:Nat):Int).toNat [V.int 0]).flatten))
 have hlmH:H lm = none:=g0.free (by simp) hlm
 have em:(List.replicate ((2 ^ k / 2:Nat):Int).toNat [V.int 0]).flatten = (List.replicate (2 ^ k / 2) (0:Int)).map V.int:=by
  rw [Int.toNat_natCast]
  generalize 2 ^ k / 2 = n
  induction n with
  | zero=>rfl
  | succ n ih=>rw [List.replicate_succ,List.flatten_cons,ih,List.replicate_succ]; rfl
 have nlw:lw ≠ lm:=fun e=>by rw [e,hlmH] at hlw; cases hlw
 rw [em] at gm
 rw [em]
 refine ⟨_,rfl,lw,rfl,⟨_,SqL.of (gm.keep _ _ (by simp) hlw)⟩,Y1 (xs:=ws) (fun i σ H'=>∃ (e4 e5:Option V),σ = [some (.int k),some (.int st),some (.ref lw),some (.ref lm),e4,e5] /\ Grow [lm] H H' /\ H' lm = some (.lst ((((plOf gs).take i).foldl (u7 k st) (List.replicate (2 ^ k / 2) 0)).map V.int))) ⟨_,_,rfl,gm.wk,zc⟩ ?_ ?_ ?_⟩
 ·rintro i σ H' _ ⟨_,_,_,g,_⟩
  exact SqL.of (g.keep _ _ (by simpa using nlw) hlw)
 ·rintro i x σ H' hx ⟨e4,e5,rfl,g,hm⟩
  obtain ⟨row,hrow,rr,rfl,hrr⟩:=hall.get hx
  have hi:i < 2 ^ k:=by rw [← hwsl]; exact (List.getElem?_eq_some_iff.mp hx).1
  have epl:(plOf gs)[i]? = some (i,gs.getD i 0):=by
   unfold plOf
   rw [List.getElem?_map,List.getElem?_range (by rw [hok.1]; exact hi)]; rfl
  have er:row = zO k i (gs.getD i 0):=by
   unfold zS at hrow
   rw [List.getElem?_map,epl] at hrow
   exact (Option.some.inj hrow).symm
  subst er
  have hg:=hok.get hi
  obtain ⟨_,_,Wf⟩:=wayF k4 hi hg
  have w1:=(Wf st s2).1
  have hwr:(zO k i (gs.getD i 0)).length = k + 1:=by unfold zO; rw [List.length_map,List.length_range]
  have hrr':=g.sqT hrr
  have O:=oneF k4 s1 s2 w1.2
  have gi1:=getI (xs:=zO k i (gs.getD i 0)) (i:=(st:Int) - 1) (by omega) (by rw [hwr]; omega)
  rw [show ((st:Int) - 1).toNat = st - 1 by omega,uX (by omega)] at gi1
  have gi2:=getI (xs:=zO k i (gs.getD i 0)) (i:=(st:Int)) (by omega) (by rw [hwr]; omega)
  rw [Int.toNat_natCast,uX s2] at gi2
  refine ⟨_,rfl,_,rfl,_,rfl,_,rfl,_,_,rfl,rfl,rr,_,_,_,rfl,rfl,hrr',gi1,_,_,_,rfl,k,st,_,rfl,rfl,rfl,s2,?_⟩
  refine ⟨_,rfl,_,rfl,_,rfl,_,rfl,rr,_,_,_,rfl,rfl,hrr',gi2,_,_,_,rfl,k,st,_,rfl,rfl,rfl,s2,_,_,rfl,rfl,?_⟩
  refine ⟨_,rfl,_,rfl,_,rfl,_,rfl,_,rfl,_,rfl,rr,_,_,_,rfl,rfl,hrr',gi2,_,_,_,rfl,k,st,_,rfl,rfl,rfl,k4,s2,by rw [w1.1]; omega,by rw [w1.1]; have:=w1.2; omega,?_⟩
  rw [w1.1,O.sw,O.num]
  have hn:=O.lt
  have hml:((plOf gs).take i).foldl (u7 k st) (List.replicate (2 ^ k / 2) 0) = uj k st ((plOf gs).take i):=rfl
  rw [hml] at hm
  have hlen:=Yj (k:=k) (st:=st) (pl:=(plOf gs).take i)
  rw [Yk (by omega)] at hlen
  refine ⟨lm,_,_,nN k st (lN k i (gs.getD i 0) st),rfl,rfl,hm,?_,?_⟩
  ·have:=xz (n:=((uj k st ((plOf gs).take i)).map V.int).length) (i:=(nN k st (lN k i (gs.getD i 0) st):Int)) (by omega) (by rw [List.length_map,hlen]; omega)
   rw [Int.toNat_natCast] at this
   exact this
  refine ⟨_,_,rfl,g.trans (Grow.set hm (by simp) _),?_⟩
  rw [zc,List.take_add_one,epl,List.foldl_append]
  show _ = some (HO.lst ((u7 k st (uj k st ((plOf gs).take i)) (i,gs.getD i 0)).map V.int))
  unfold u7
  rw [List.map_set]
  unfold X5
  rw [w1.1]
 ·rintro σ H' ⟨e4,e5,rfl,g,hm⟩
  rw [hwsl,List.take_of_length_le (by omega)] at hm
  refine ⟨_,rfl,lm,_,rfl,.inl ⟨SqL.of hm,fun r hr=>q _ _ ((g.shrink hlmH).trans (Grow.new hr _)) ⟨r,rfl,SqT.of ?_⟩⟩⟩
  rw [zc]; rfl
theorem vj:FnScope ["k","thing","row"] ["k","thing"] (zf (top 49)):=⟨rfl,rfl,rfl,by decide +kernel,rfl,by decide +kernel,by decide +kernel⟩
theorem sg (F:Fun K "need_sides" "need_sides" (top 49) f fd) (B:Blt mg) (qc0:zg P w K mg base n "is_line" ["k","thing"] (xJ K))    :
  FnOk P w K mg base CX0 (n + 1) f fd ["k","thing"] (w5 K):=by
 refine F.ok vj zB (fun cdv A outer s H vs Q E hr h=>?_)
 obtain ⟨x,y,rfl,k,gs,r,rfl,k4,rfl,hs,hok,q⟩:=h
 refine ⟨_,(zd (zu (i:=2) vj.nd rfl (Or.inl rfl) (wQ (zl yr rfl B.isinstance zA (za (pv 1) (za (xr rfl B.tuple zG) zb))) (wg (xy vn (zl zw rfl B.len x9 (za (pv 1) zb)) (zr yB zj (pv 0)) (zH _))))) (zh (yc (PW.pt (vM (yf (zW (pv 2))) (xZ (yf (zW (zl (yW rfl) rfl B.all sG (za (zt (CSc.of (N':=["side","k"]) (sub:=[none,some 0]) (zf (top 49)) ["k","thing","row"] rfl rfl (by decide +kernel) rfl) rfl (ym (pv 1)) (fun _ _ _ _ _ _=>zi (i:=0) (show (["side","k"]:List Str).Nodup by decide +kernel) rfl (Or.inl rfl)) (fun _ _ _ _ _ _=>zo) (fun _ _ _ _ _ _=>(ze qc0 hr rfl (za (pv 1) (za (pv 0) zb))))) zb))))))) (zh xf) zv))),?_⟩
 obtain ⟨W,hW⟩:∃ W:Nat,W = 2 ^ k:=⟨_,rfl⟩
 have pw:W <= 16:=by rw [hW]; exact zU k4
 have pw1:1 <= W:=by rw [hW]; exact Nat.one_le_two_pow
 have e1k:(1:Int) * 2 ^ ((k:Int)).toNat = W:=by rw [yL,hW]
 have hl:(zM gs).length = W:=by rw [xM hok,hW]
 refine ⟨_,rfl,_,_,_,true,rfl,.inl ⟨rfl,_,hs⟩,rfl,_,rfl,iteT ?_⟩
 refine ⟨_,rfl,r,_,rfl,.inr hs,_,rfl,_,_,rfl,rfl,vE k4,rfl,?_⟩
 refine ⟨_,rfl,_,rfl,yX (by show (!decide (V.int _ = V.int (1 * 2 ^ ((k:Int)).toNat))) = false; rw [e1k,hl]; simp) ?_⟩
 refine ⟨_,rfl,r,rfl,⟨_,hs⟩,yC (fun _=>V.bl true) hs (by omega) ?_ ?_⟩
 ·intro v H2 R hv g kk
  obtain ⟨i,hi⟩:=List.getElem?_of_mem hv
  obtain ⟨h1,rfl⟩:=sX hi
  exact ⟨_,rfl,_,rfl,_,_,rfl,k,gs.getD i 0,rfl,rfl,k4,hok.get (by rw [← hok.1]; exact h1),kk _ (Grow.refl _ _)⟩
 intro H2 p g hp
 refine ⟨p,(zM gs).map (fun _=>true),rfl,SqL.of (by rw [zc,List.map_map]; rfl),_,rfl,yX (by rw [xG]; rfl) ?_⟩
 exact q _ (g.trans (Grow.new hp _))
theorem xp:FnScope ["k","sides","clash","ways"] ["k","sides"] (zf (top 51)):=⟨rfl,rfl,rfl,by decide +kernel,rfl,by decide +kernel,by decide +kernel⟩
theorem uG (F:Fun K "settings_for" "settings_for" (top 51) f fd) (B:Blt mg) (qc0:zg P w K mg base n "marks_by" ["k","stage","ways"] (ul K)) (qc1:zg P w K mg base n "way_of" ["k","hand","side"] (vF K)) (qc2:zg P w K mg base n "shared_line" ["k","pairs"] (yq K)) (qc3:zg P w K mg base n "need_sides" ["k","thing"] (w5 K)) (qc4:zg P w K mg base n "need_net" ["thing"] (yu K)) (g_enumerate:mg "enumerate" = none)   :
  FnOk P w K mg base CX0 (n + 1) f fd ["k","sides"] (wr K):=by
 refine F.ok xp zB (fun cdv A outer s H vs Q E hr h=>?_)
 obtain ⟨x,y,rfl,k,gs,r,rfl,k4,rfl,hs,hok,q⟩:=h
 refine ⟨_,(zd (zI (ze qc4 hr rfl (za (pv 0) zb))) (zd (zI (ze qc3 hr rfl (za (pv 0) (za (pv 1) zb)))) (zd (zu (i:=2) xp.nd rfl (Or.inl rfl) (ze qc2 hr rfl (za (pv 0) (za (sT true (K:=K) rfl rfl rfl B.tuple rfl g_enumerate (za (pv 1) zb)) zb)))) (zd (yc (wf (vZ (pv 2))) (zh (zn (zZ (za qX (za (pv 2) zb))))) zv) (zd (zu (i:=3) xp.nd rfl (Or.inr rfl) (zt (CSc.of (N':=["hand","side","k"]) (sub:=[none,none,some 0]) (zf (top 51)) ["k","sides","clash","ways"] rfl rfl (by decide +kernel) rfl) rfl (xQ true (K:=K) rfl rfl g_enumerate (za (pv 1) zb)) (fun _ _ _ _ _ _=>xR (K:=K) 2 rfl rfl (zk (zi (i:=0) (show (["hand","side","k"]:List Str).Nodup by decide +kernel) rfl (Or.inl rfl) (Or.inr rfl)) (zk (zi (i:=1) (show (["hand","side","k"]:List Str).Nodup by decide +kernel) rfl (Or.inl rfl) (Or.inr rfl)) zF)) rfl rfl) (fun _ _ _ _ _ _=>zo) (fun _ _ _ _ _ _=>(ze qc1 hr rfl (za (pv 2) (za (pv 0) (za (pv 1) zb))))))) (zh (zn (zZ (za qX (za (zD zx rfl B.tuple zG (za (zt (CSc.of (N':=["stage","k","ways"]) (sub:=[none,some 0,some 3]) (zf (top 51)) ["k","sides","clash","ways"] rfl rfl (by decide +kernel) rfl) rfl (wR rfl B.range (za zj (za (zr yn (pv 0) zj) zb))) (fun _ _ _ _ _ _=>zi (i:=0) (show (["stage","k","ways"]:List Str).Nodup by decide +kernel) rfl (Or.inl rfl)) (fun _ _ _ _ _ _=>zo) (fun _ _ _ _ _ _=>(ze qc0 hr rfl (za (pv 1) (za (pv 0) (za (pv 2) zb)))))) zb)) zb)))))))))),?_⟩
 obtain ⟨W,hW⟩:∃ W:Nat,W = 2 ^ k:=⟨_,rfl⟩
 have pw:W <= 16:=by rw [hW]; exact zU k4
 have pw1:1 <= W:=by rw [hW]; exact Nat.one_le_two_pow
 have e1k:(1:Int) * 2 ^ ((k:Int)).toNat = W:=by rw [yL,hW]
 have hl:(zM gs).length = W:=by rw [xM hok,hW]
 have hpl:(plOf gs).length = W:=by rw [jr,hok.1,hW]
 refine ⟨_,rfl,_,rfl,k,rfl,k4,_,rfl,_,rfl,_,_,rfl,k,gs,r,rfl,k4,rfl,hs,hok,fun H1 g1=>?_⟩
 refine ⟨_,rfl,_,rfl,r,_,rfl,g1.sqT hs,by omega,fun r2 Ts H2 g2 hn2 h2 hT2 hTs=>?_⟩
 rw [hl] at hT2
 have hprs:AllR (PrAt K H2) (Ts.map V.ref) (plOf gs):=by
  refine AllR.of_get (by rw [List.length_map,hT2,hpl]) fun i x hx=>?_
  have hi:i < W:=by have:=(List.getElem?_eq_some_iff.mp hx).1; rw [List.length_map,hT2] at this; exact this
  have epl:(plOf gs)[i]? = some (i,gs.getD i 0):=by
   unfold plOf
   rw [List.getElem?_map,List.getElem?_range (by rw [hok.1,← hW]; exact hi)]; rfl
  have hgi:(zM gs)[i]? = some (V.int (gs.getD i 0:Nat)):=by
   unfold zM
   rw [List.getElem?_map,List.getD_eq_getElem?_getD,List.getElem?_eq_getElem (by rw [hok.1,← hW]; exact hi)]; rfl
  obtain ⟨T,hT,hTo⟩:=hTs i _ hgi
  rw [List.getElem?_map,hT] at hx
  cases hx
  exact ⟨_,epl,T,rfl,SqT.of hTo⟩
 refine ⟨_,_,rfl,k,plOf gs,rfl,k4,⟨r2,_,rfl,SqT.of h2,hprs⟩,by omega,WD hok,fun o y3 H3 g3 h3 s3=>?_⟩
 have g13:=g1.trans (g2.trans g3)
 cases o with
 | some pv =>
  obtain ⟨lv,v⟩:=pv
  obtain ⟨c,rfl,hc⟩:=h3
  refine ⟨_,rfl,_,rfl,iteT ⟨_,rfl,szl rfl,fun t ht=>?_⟩⟩
  have gt:=Grow.new (m:=[]) ht (.tup [.str "clash",.ref c])
  exact q (some (lv,v)) _ _ (g13.trans gt) s3 ⟨t,_,_,rfl,SqT.of zc,rfl,c,rfl,gt.sqT hc⟩
 | none =>
  cases (show y3 = V.non from h3)
  refine ⟨_,rfl,_,rfl,iteF ?_⟩
  refine ⟨_,rfl,r,_,rfl,g13.sqT hs,u6 (xs:=zM gs) (fun i ws σ H'=>∃ (e0 e1:Option V),σ = [e0,e1,some (.int k)] /\ AllR (zy K H') ws ((zS k (plOf gs)).take i) /\ Grow [] H3 H') ⟨_,_,rfl,trivial,Grow.refl _ _⟩ (fun i ws σ H' ⟨_,_,_,_,g⟩=>g.sqT (g13.sqT hs)) ?_ ?_⟩
  ·rintro i x ws σ H4 T hx ⟨e0,e1,rfl,ha,g4⟩ hT
   obtain ⟨hi,rfl⟩:=sX hx
   have hi':i < 2 ^ k:=by rw [← hok.1]; exact hi
   have gT:=Grow.new (m:=[]) hT (.tup [.int i,.int (gs.getD i 0:Nat)])
   refine ⟨T,_,rfl,SqT.of zc,rfl,_,_,rfl,_,_,rfl,rfl,ZX ?_⟩
   refine ⟨_,rfl,_,rfl,_,rfl,_,_,_,rfl,k,i,gs.getD i 0,rfl,rfl,rfl,k4,hi',hok.get hi',fun y5 H5 g5 h5=>⟨zp (by rw [ha.len,List.length_take]; omega),_,_,rfl,?_,g4.trans (gT.trans g5)⟩⟩
   have epl:(plOf gs)[i]? = some (i,gs.getD i 0):=by
    unfold plOf
    rw [List.getElem?_map,List.getElem?_range hi]; rfl
   have e:(zS k (plOf gs))[i]? = some (zO k i (gs.getD i 0)):=by unfold zS; rw [List.getElem?_map,epl]; rfl
   rw [List.take_add_one,e]
   exact ((gT.trans g5).boardsR ha).app (.one h5)
  rintro ws σ H4 ⟨_,_,rfl,ha4,g4⟩ lw hlw
  rw [hl,List.take_of_length_le (by unfold zS; rw [List.length_map]; omega)] at ha4
  have gw:=Grow.new (m:=[]) hlw (.lst ws)
  have ha5:=gw.boardsR ha4
  have hlw5:upd H4 lw (.lst ws) lw = some (.lst ws):=zc
  have g15:=g13.trans (g4.trans gw)
  revert ha5 hlw5 g15
  clear gw
  generalize upd H4 lw (.lst ws) = H5
  intro ha5 hlw5 g15
  refine ⟨_,rfl,_,_,rfl,rfl,_,_,rfl,⟨by omega,by omega,by omega,by omega⟩,xg (fun i ys H'=>AllR (zy K H') ys ((List.range i).map fun n=>uj k (n + 1) (plOf gs)) /\ Grow [] H5 H') ⟨trivial,Grow.refl _ _⟩ ?_ ?_⟩
  ·rintro i ys H6 hi ⟨ha,g6⟩
   have hik:i + 1 <= k:=by omega
   refine ⟨_,rfl,_,rfl,_,rfl,_,_,_,rfl,k,i + 1,gs,lw,ws,rfl,congrArg V.int (by omega),rfl,g6.keep _ _ (by simp) hlw5,g6.boardsR ha5,k4,by omega,hik,hok,fun y7 H7 g7 h7=>⟨zp (by rw [ha.len,List.length_map,List.length_range]; omega),?_,g6.trans g7⟩⟩
   rw [List.range_succ,List.map_append]
   exact (g7.boardsR ha).app (.one h7)
  ·rintro ys H6 ⟨ha,g6⟩ l7 hl7
   have g7:=Grow.new (m:=[]) hl7 (.lst ys)
   rw [show ((k:Int) + 1 - 1).toNat = k by omega] at ha
   refine ⟨l7,_,rfl,.inl ⟨SqL.of zc,fun r8 hr8=>⟨szl rfl,fun t ht=>?_⟩⟩⟩
   have g8:=Grow.new (m:=[]) hr8 (.tup ys)
   have gt:=Grow.new (m:=[]) ht (.tup [.str "settings",.ref r8])
   exact q none _ _ (g15.trans (g6.trans (g7.trans (g8.trans gt)))) s3 ⟨t,_,_,rfl,SqT.of zc,rfl,r8,ys,rfl,gt.sqT (SqT.of zc),(g7.trans (g8.trans gt)).boardsR ha⟩
theorem xY:FnScope ["_law_purse_here","_law_some","_law_left","_law_found"] ["_law_purse_here","_law_some"] (zf (top 69)):=⟨rfl,rfl,rfl,by decide +kernel,rfl,by decide +kernel,by decide +kernel⟩
theorem sh (F:Fun K "_law_mixed" "_law_mixed" (top 69) f fd) (B:Blt mg) (qc0:zg P w K mg base n "_law_take" ["_law_purse_here","_law_many"] (xS K))    :
  FnOk P w K mg base CX0 (n + 1) f fd ["_law_purse_here","_law_some"] (jq K):=by
 refine F.ok xY zB (fun cdv A outer s H vs Q E hr h=>?_)
 obtain ⟨x,y,rfl,a,l,xs,rfl,rfl,pp,hl,l60,q⟩:=h
 refine ⟨_,(zd (zu (i:=2) xY.nd rfl (Or.inl rfl) (zD wo rfl B.list jf (za (pv 1) zb))) (zd (zu (i:=3) xY.nd rfl (Or.inl rfl) (x4 zb)) (zd (YZ PassesOwn.never (zJ (Xp (K:=K) rfl hr) (pv 2) (x4 zb) (zH _)) (zh (zI (sE PySem.F.plainAttrs_list PySem.F.slot_list_append PySem.F.type_list_append xD (pv 3) (za (sE PySem.F.plainAttrs_list PySem.F.slot_list_pop PySem.F.type_list_pop Y9 (pv 2) (za (ze qc0 hr rfl (za (pv 0) (za (zl zw rfl B.len x9 (za (pv 2) zb)) zb))) zb)) zb))))) (zh (zn (pv 3)))))),?_⟩
 refine ⟨_,rfl,l,_,rfl,.inl (SqL.of hl),fun ll hll=>⟨szl rfl,fun lf hlf=>?_⟩⟩
 have nl:=pp.ne hll
 have gll:=Grow.new (m:=[]) hll (.lst xs)
 have nf:=(pp.grow gll).ne hlf
 have nlf:ll ≠ lf:=fun z=>by rw [← z,zc] at hlf; cases hlf
 have glf:=Grow.new (m:=[]) hlf (.lst [])
 have lff:H lf = none:=gll.free (by simp) hlf
 refine ⟨fun μ σ' H'=>∃ left found,σ' = [some (V.ref a),some (V.ref l),some (V.ref ll),some (V.ref lf)] /\ Grow [a,ll,lf] H H' /\ zP H' a /\ H' ll = some (.lst left) /\ H' lf = some (.lst found) /\ (found ++ left).Perm xs /\ μ = left.length,⟨xs.length,xs,[],rfl,(gll.trans glf).wk,(pp.grow gll).grow glf,glf.keep _ _ (by simp) zc,zc,.refl _,rfl⟩,?_⟩
 rintro μ σ' H1 ⟨left,found,rfl,g1,pp1,h1,h2,pm,rfl⟩
 have hlen:=pm.length_eq
 rw [List.length_append] at hlen
 refine ⟨_,rfl,szl rfl,fun le hle=>?_⟩
 have ge:=Grow.new (m:=[]) hle (.lst [])
 have g1e:=g1.trans (ge.wk)
 have h1e:=ge.keep _ _ (by simp) h1
 have h2e:=ge.keep _ _ (by simp) h2
 have ppe:=pp1.grow ge
 refine ⟨ll,le,left,rfl,rfl,SqL.of h1e,SqL.of zc,_,rfl,?_⟩
 by_cases hx:left = []
 ·subst hx
  refine yX rfl ⟨_,rfl,q lf found _ (g1e.less (m':=[a]) fun z hz=>?_) ppe h2e (by simpa using pm)⟩
  simp only [List.mem_cons,List.mem_nil_iff,or_false] at hz
  rcases hz with rfl | rfl | rfl
  ·exact .inl (by simp)
  ·exact .inr hll
  ·exact .inr lff
 have hpos:0 < left.length:=List.length_pos_iff.mpr hx
 refine wT (by cases left with | nil=>exact absurd rfl hx | cons _ _=>rfl) ⟨fun σ' H'=>∃ μ,μ < left.length /\ ∃ left found,σ' = [some (V.ref a),some (V.ref l),some (V.ref ll),some (V.ref lf)] /\ Grow [a,ll,lf] H H' /\ zP H' a /\ H' ll = some (.lst left) /\ H' lf = some (.lst found) /\ (found ++ left).Perm xs /\ μ = left.length,fun _ _ z=>z,?_⟩
 refine ⟨_,rfl,.inl ⟨rfl,_,SqL.of h2e⟩,_,rfl,.inl ⟨rfl,_,SqL.of h1e⟩,_,rfl,_,rfl,ll,_,rfl,.inl (SqL.of h1e),_,_,rfl,a,_,rfl,rfl,ppe,by omega,by omega,fun n H2 n0 n1 g2 pp2=>?_⟩
 have h12:=g2.keep _ _ nl h1e
 have h22:=g2.keep _ _ nf h2e
 have hj:n.toNat < left.length:=by omega
 refine ⟨ll,left,n,n.toNat,left[n.toNat],rfl,rfl,h12,by omega,by omega,seqIndex_of n0 n1,List.getElem?_eq_getElem hj,?_⟩
 have gs1:Grow [a,ll,lf] H2 (upd H2 ll (.lst (left.eraseIdx n.toNat))):=Grow.set h12 (by simp) _
 have h23:upd H2 ll (.lst (left.eraseIdx n.toNat)) lf = some (.lst found):=by rw [zm (Ne.symm nlf)]; exact h22
 have gs2:Grow [a,ll,lf] (upd H2 ll (.lst (left.eraseIdx n.toNat))) (upd (upd H2 ll (.lst (left.eraseIdx n.toNat))) lf (.lst (found ++ [left[n.toNat]]))):=Grow.set h23 (by simp) _
 refine ⟨lf,found,_,rfl,rfl,h23,zp (by omega),left.length - 1,by omega,left.eraseIdx n.toNat,found ++ [left[n.toNat]],rfl,g1e.trans ((g2.mono (m':=[a,ll,lf]) (by simp)).trans (gs1.trans gs2)),?_,?_,zc,?_,?_⟩
 ·obtain ⟨z1,z2,z3,hz,z0⟩:=pp2
  refine ⟨z1,z2,z3,?_,z0⟩
  rw [zm (show a ≠ lf from fun z=>nf (by rw [z]; simp)),zm (show a ≠ ll from fun z=>nl (by rw [z]; simp))]; exact hz
 ·rw [zm nlf,zc]
 ·rw [List.append_assoc]
  exact ((Zd hj).append_left found).trans pm
 ·rw [List.length_eraseIdx,if_pos hj]
theorem vL:FnScope ["_law_purse_here","_law_add"] ["_law_purse_here"] (zf (top 70)):=⟨rfl,rfl,rfl,by decide +kernel,rfl,by decide +kernel,by decide +kernel⟩
theorem rR (F:Fun K "_law_deed" "_law_deed" (top 70) f fd) (B:Blt mg) (qc0:zg P w K mg base n "_law_take" ["_law_purse_here","_law_many"] (xS K))    :
  FnOk P w K mg base CX0 (n + 1) f fd ["_law_purse_here"] (rA K):=by
 refine F.ok vL xn (fun cdv A outer s H vs Q E hr h=>?_)
 obtain ⟨x,rfl,a,rfl,pf,q⟩:=h
 refine ⟨_,(zd (zu (i:=1) vL.nd rfl (Or.inl rfl) (zr xm (ze qc0 hr rfl (za (pv 0) (za zj zb))) zj)) (zh (zn (zT zK (x4 (za (zZ (za (pv 1) (za vX (za vX zb)))) (za (zZ (za zj (za (pv 1) (za (pv 1) zb)))) (za (zZ (za zj (za (pv 1) (za vX zb)))) (za (zZ (za zj (za vX (za vX zb)))) zb))))) (ze qc0 hr rfl (za (pv 0) (za zj zb))) (fun _ _=>rfl))))),?_⟩
 refine uL (fun v H'=>∃ n:Int,v = .int n /\ -9 <= n /\ n <= 9 /\ Grow [a] H H' /\ zP H' a) (fun Kk hk=>⟨_,rfl,_,_,rfl,a,19,rfl,rfl,pf,by decide,by decide,fun t H' t0 t1 g pf'=>⟨_,_,rfl,rfl,hk _ _ ⟨t - 9,rfl,by omega,by omega,g,pf'⟩⟩⟩) ?_
 rintro _ H1 ⟨n,rfl,n0,n1,g1,pf1⟩
 refine ⟨_,rfl,szl rfl,fun t1 h1=>⟨_,rfl,_,rfl,szl rfl,fun t2 h2=>⟨_,rfl,szl rfl,fun t3 h3=>⟨szl rfl,fun t4 h4=>⟨szl rfl,fun l hl=>?_⟩⟩⟩⟩⟩
 have q1:=Grow.new (m:=[]) h1 (.tup [.int n,.non,.non])
 have q2:=Grow.new (m:=[]) h2 (.tup [.int 0,.int n,.int n])
 have q3:=Grow.new (m:=[]) h3 (.tup [.int 0,.int n,.non])
 have q4:=Grow.new (m:=[]) h4 (.tup [.int 0,.non,.non])
 have q5:=Grow.new (m:=[]) hl (.lst [.ref t1,.ref t2,.ref t3,.ref t4])
 have e1:=(q2.trans (q3.trans (q4.trans q5))).keep _ _ (by simp) (zc (H:=H1) (a:=t1) (o:=.tup [.int n,.non,.non]))
 have e2:=(q3.trans (q4.trans q5)).keep _ _ (by simp) (zc (a:=t2) (o:=.tup [.int 0,.int n,.int n]))
 have e3:=(q4.trans q5).keep _ _ (by simp) (zc (a:=t3) (o:=.tup [.int 0,.int n,.non]))
 have e4:=q5.keep _ _ (by simp) (zc (a:=t4) (o:=.tup [.int 0,.non,.non]))
 have e5:=zc (a:=l) (o:=.lst [.ref t1,.ref t2,.ref t3,.ref t4]) (H:=upd (upd (upd (upd H1 t1 (.tup [.int n,.non,.non])) t2 (.tup [.int 0,.int n,.int n])) t3 (.tup [.int 0,.int n,.non])) t4 (.tup [.int 0,.non,.non]))
 have G:=q1.trans (q2.trans (q3.trans (q4.trans q5)))
 have pf6:=pf1.grow G
 have nl:l ∉ [a]:=((((pf1.new h1 _).new h2 _).new h3 _).new h4 _).ne hl
 generalize upd (upd (upd (upd (upd H1 t1 _) t2 _) t3 _) t4 _) l _ = H6 at e1 e2 e3 e4 e5 G pf6 ⊢
 refine ⟨_,rfl,_,_,rfl,a,4,rfl,rfl,pf6,by decide,by decide,fun ix H7 i0 i1 g7 pf7=>?_⟩
 have GA:Grow [a] H H7:=g1.trans (G.wk.trans g7)
 have hl7:=g7.keep _ _ nl e5
 have sn:L3.Sm n:=⟨by omega,by omega⟩
 have s0:L3.Sm 0:=⟨by decide,by decide⟩
 obtain rfl | rfl | rfl | rfl:ix = 0 \/ ix = 1 \/ ix = 2 \/ ix = 3:=by omega
 ·exact ⟨l,_,0,.ref t1,rfl,rfl,SqL.of hl7,rfl,q ⟨n,none,none⟩ _ _ (fun _ _ z=>nomatch z) ⟨sn,(fun _ z=>nomatch z),(fun _ z=>nomatch z)⟩ GA pf7 ⟨t1,rfl,g7.sqT (SqT.of e1)⟩⟩
 ·exact ⟨l,_,1,.ref t2,rfl,rfl,SqL.of hl7,rfl,q ⟨0,some n,some n⟩ _ _ (fun _ _ z z'=>by cases z; cases z'; exact .inr ⟨rfl,rfl⟩) ⟨s0,(fun _ z=>by cases z; exact sn),(fun _ z=>by cases z; exact sn)⟩ GA pf7 ⟨t2,rfl,g7.sqT (SqT.of e2)⟩⟩
 ·exact ⟨l,_,2,.ref t3,rfl,rfl,SqL.of hl7,rfl,q ⟨0,some n,none⟩ _ _ (fun _ _ _ z=>nomatch z) ⟨s0,(fun _ z=>by cases z; exact sn),(fun _ z=>nomatch z)⟩ GA pf7 ⟨t3,rfl,g7.sqT (SqT.of e3)⟩⟩
 ·exact ⟨l,_,3,.ref t4,rfl,rfl,SqL.of hl7,rfl,q ⟨0,none,none⟩ _ _ (fun _ _ z=>nomatch z) ⟨s0,(fun _ z=>nomatch z),(fun _ z=>nomatch z)⟩ GA pf7 ⟨t4,rfl,g7.sqT (SqT.of e4)⟩⟩
theorem uH:FnScope ["k","stage","line","marks","crossed"] ["k","stage","line","marks"] (zf (top 47)):=⟨rfl,rfl,rfl,by decide +kernel,rfl,by decide +kernel,by decide +kernel⟩
theorem qV (F:Fun K "out_line" "out_line" (top 47) f fd) (B:Blt mg) (qc0:zg P w K mg base n "with_figure" ["k","stage","line","wanted"] (yS K)) (qc1:zg P w K mg base n "figure" ["k","stage","line"] (wp K)) (qc2:zg P w K mg base n "switch_at" ["k","stage","line"] (yZ K))    :
  FnOk P w K mg base CX0 (n + 1) f fd ["k","stage","line","marks"] (uk K):=by
 refine F.ok uH ud (fun cdv A outer s H vs Q E hr h=>?_)
 obtain ⟨x,y,z,u,rfl,k,st,a,row,rfl,rfl,rfl,⟨r,rfl,hs⟩,k4,s1,s2,ha,hl,hb,q⟩:=h
 refine ⟨_,(zd (zu (i:=4) uH.nd rfl (Or.inl rfl) (zT yI (pv 3) (ze qc2 hr rfl (za (pv 0) (za (pv 1) (za (pv 2) zb)))) (fun _ _=>rfl))) (zh (zn (ze qc0 hr rfl (za (pv 0) (za (pv 1) (za (pv 2) (za (zr ja (ze qc1 hr rfl (za (pv 0) (za (pv 1) (za (pv 2) zb)))) (pv 4)) zb)))))))),?_⟩
 have O:=oneF k4 s1 s2 ha
 have p:=zU k4
 have hlt:=O.lt
 refine ⟨_,rfl,_,rfl,_,rfl,_,rfl,_,_,_,rfl,k,st,a,rfl,rfl,rfl,k4,s2,by omega,by omega,?_⟩
 rw [O.sw,O.num]
 have hg:=getI (xs:=row) (i:=(nN k st a:Int)) (by omega) (by rw [hl]; omega)
 rw [Int.toNat_natCast] at hg
 have hin:nN k st a < row.length:=by rw [hl]; exact hlt
 have hv:=hb _ (List.mem_of_getElem? (qe hin))
 refine ⟨r,_,_,_,rfl,rfl,hs,hg,?_⟩
 refine ⟨_,rfl,_,rfl,_,rfl,_,rfl,_,rfl,_,rfl,_,_,_,rfl,k,st,a,rfl,rfl,rfl,s2,_,rfl,_,_,rfl,rfl,?_⟩
 unfold stR at q
 rcases hv with hv | hv
 ·rw [if_neg (by rw [hv]; decide)] at q
  rw [hv]
  refine ⟨_,_,_,_,rfl,k,st,a,_,rfl,rfl,rfl,rfl,k4,s2,by omega,by omega,O.b0,?_⟩
  rw [O.w0]; exact q
 ·rw [if_pos hv] at q
  rw [hv]
  refine ⟨_,_,_,_,rfl,k,st,a,_,rfl,rfl,rfl,rfl,k4,s2,by omega,by omega,O.b1,?_⟩
  rw [O.w1]; exact q
theorem rS:FnScope ["k","thing"] ["k","thing"] (zf (top 43)):=⟨rfl,rfl,rfl,by decide +kernel,rfl,by decide +kernel,by decide +kernel⟩
theorem rT (F:Fun K "are_marks" "are_marks" (top 43) f fd) (B:Blt mg) (qc0:zg P w K mg base n "is_within" ["thing","least","greatest"] (yY K)) (qc1:zg P w K mg base n "switches_in_a_stage" ["k"] (yU K))    :
  FnOk P w K mg base CX0 (n + 1) f fd ["k","thing"] (vG K):=by
 refine F.ok rS zB (fun cdv A outer s H vs Q E hr h=>?_)
 obtain ⟨x,y,rfl,k,row,rfl,k4,⟨r,rfl,hs⟩,hl,hb,q⟩:=h
 refine ⟨_,(zd (yc (PW.pt (vM (yf (zW (zl yr rfl B.isinstance zA (za (pv 1) (za (xr rfl B.tuple zG) zb))))) (xZ (zJ rY (zl zw rfl B.len x9 (za (pv 1) zb)) (ze qc1 hr rfl (za (pv 0) zb)) (zH _))))) (zh (zn wD)) zv) (zh (zn (zl (yW rfl) rfl B.all sG (za (zt (CSc.of (N':=["mark"]) (sub:=[none]) (zf (top 43)) ["k","thing"] rfl rfl (by decide +kernel) rfl) rfl (ym (pv 1)) (fun _ _ _ _ _ _=>zi (i:=0) (show (["mark"]:List Str).Nodup by decide +kernel) rfl (Or.inl rfl)) (fun _ _ _ _ _ _=>zo) (fun _ _ _ _ _ _=>(ze qc0 hr rfl (za (pv 0) (za zj (za zj zb)))))) zb))))),?_⟩
 refine ⟨_,rfl,_,_,_,true,rfl,.inl ⟨rfl,_,hs⟩,rfl,_,rfl,iteF ?_⟩
 have hl2:(row.map V.int).length = 2 ^ k / 2:=by rw [List.length_map,hl]
 have p:=zU k4
 refine ⟨_,rfl,r,_,rfl,.inr hs,_,rfl,_,rfl,k,rfl,k4,rfl,_,rfl,yX (by rw [hl2]; simp) ?_⟩
 refine ⟨_,rfl,r,rfl,⟨_,hs⟩,yC (fun _=>V.bl true) hs (by omega) ?_ ?_⟩
 ·intro v H2 R hv g kk
  obtain ⟨i,hi,rfl⟩:=List.mem_map.mp hv
  have:=hb i hi
  refine ⟨_,rfl,_,_,_,rfl,_,_,_,rfl,rfl,rfl,?_⟩
  rw [decide_eq_true (show (0:Int) <= i by omega),decide_eq_true (show i <= (1:Int) by omega)]
  exact kk _ (Grow.refl _ _)
 intro H2 p g hp
 refine ⟨p,row.map (fun _=>true),rfl,SqL.of (by rw [zc,List.map_map,List.map_map]; rfl),?_⟩
 rw [xG]
 exact q _ (g.trans (Grow.new hp _))
theorem uQ:FnScope ["k","thing"] ["k","thing"] (zf (top 44)):=⟨rfl,rfl,rfl,by decide +kernel,rfl,by decide +kernel,by decide +kernel⟩
theorem uR (F:Fun K "is_settings" "is_settings" (top 44) f fd) (B:Blt mg) (qc0:zg P w K mg base n "are_marks" ["k","thing"] (vG K)) (qc1:zg P w K mg base n "need_net" ["thing"] (yu K))    :
  FnOk P w K mg base CX0 (n + 1) f fd ["k","thing"] (wI K):=by
 refine F.ok uQ zB (fun cdv A outer s H vs Q E hr h=>?_)
 obtain ⟨x,y,rfl,k,rows,rfl,k4,⟨r,xs,rfl,hs,hall⟩,hset,q⟩:=h
 refine ⟨_,(zd (zI (ze qc1 hr rfl (za (pv 0) zb))) (zd (yc (PW.pt (vM (yf (zW (zl yr rfl B.isinstance zA (za (pv 1) (za (xr rfl B.tuple zG) zb))))) (xZ (zJ rY (zl zw rfl B.len x9 (za (pv 1) zb)) (pv 0) (zH _))))) (zh (zn wD)) zv) (zh (zn (zl (yW rfl) rfl B.all sG (za (zt (CSc.of (N':=["marks","k"]) (sub:=[none,some 0]) (zf (top 44)) ["k","thing"] rfl rfl (by decide +kernel) rfl) rfl (ym (pv 1)) (fun _ _ _ _ _ _=>zi (i:=0) (show (["marks","k"]:List Str).Nodup by decide +kernel) rfl (Or.inl rfl)) (fun _ _ _ _ _ _=>zo) (fun _ _ _ _ _ _=>(ze qc0 hr rfl (za (pv 1) (za (pv 0) zb))))) zb)))))),?_⟩
 have hxl:xs.length = k:=hall.len.trans hset.1
 refine ⟨_,rfl,_,rfl,k,rfl,k4,?_⟩
 refine ⟨_,rfl,_,_,_,true,rfl,.inl ⟨rfl,_,hs⟩,rfl,_,rfl,iteF ?_⟩
 refine ⟨_,rfl,r,_,rfl,.inr hs,_,rfl,rfl,_,rfl,yX (by rw [hxl]; simp) ?_⟩
 refine ⟨_,rfl,r,rfl,⟨_,hs⟩,yC (fun _=>V.bl true) hs (by omega) ?_ ?_⟩
 ·intro v H2 R hv g kk
  obtain ⟨i,hi⟩:=List.getElem?_of_mem hv
  obtain ⟨row,hrow,hb⟩:=hall.get hi
  have o:=hset.2 row (List.mem_of_getElem? hrow)
  have hk1:1 <= k:=by have:=(List.getElem?_eq_some_iff.mp hi).1; omega
  exact ⟨_,rfl,_,rfl,_,_,rfl,k,row,rfl,k4,g.board hb,by rw [Yk hk1]; exact o.1,o.2,fun H3 g3=>kk _ g3⟩
 intro H2 p g hp
 refine ⟨p,xs.map (fun _=>true),rfl,SqL.of (by rw [zc,List.map_map]; rfl),?_⟩
 rw [xG]
 exact q _ (g.trans (Grow.new hp _))
theorem vR:FnScope ["k","thing"] ["k","thing"] (zf (top 45)):=⟨rfl,rfl,rfl,by decide +kernel,rfl,by decide +kernel,by decide +kernel⟩
theorem vS (F:Fun K "need_settings" "need_settings" (top 45) f fd) (B:Blt mg) (qc0:zg P w K mg base n "is_settings" ["k","thing"] (wI K))    :
  FnOk P w K mg base CX0 (n + 1) f fd ["k","thing"] (x8 K):=by
 refine F.ok vR zB (fun cdv A outer s H vs Q E hr h=>?_)
 obtain ⟨x,y,rfl,k,rows,rfl,k4,hR,hset,q⟩:=h
 refine ⟨_,(zh (yc (yf (zW (ze qc0 hr rfl (za (pv 0) (za (pv 1) zb))))) (zh xf) zv)),?_⟩
 exact ⟨_,rfl,_,rfl,_,_,rfl,k,rows,rfl,k4,hR,hset,fun H1 g1=>⟨_,rfl,iteF (q _ g1)⟩⟩
theorem rV:FnScope ["k","settings","lines","stage","marks"] ["k","settings"] (zf (top 48)):=⟨rfl,rfl,rfl,by decide +kernel,rfl,by decide +kernel,by decide +kernel⟩
theorem V7 (F:Fun K "led" "led" (top 48) f fd) (B:Blt mg) (qc0:zg P w K mg base n "out_line" ["k","stage","line","marks"] (uk K)) (qc1:zg P w K mg base n "need_settings" ["k","thing"] (x8 K))    :
  FnOk P w K mg base CX0 (n + 1) f fd ["k","settings"] (Yf K):=by
 refine F.ok rV zB (fun cdv A outer s H vs Q E hr h=>?_)
 obtain ⟨x,y,rfl,k,rows,rfl,hR,k4,hset,q⟩:=h
 refine ⟨_,(zd (zI (ze qc1 hr rfl (za (pv 0) (za (pv 1) zb)))) (zd (zu (i:=2) rV.nd rfl (Or.inl rfl) (sW rfl rfl B.list rfl B.range (za (zr yB zj (pv 0)) zb))) (zd (yH PassesOwn.never rfl (wR rfl B.range (za zj (za (zr yn (pv 0) zj) zb))) (zi (i:=3) rV.nd rfl (Or.inr rfl)) (zd (zu (i:=4) rV.nd rfl (Or.inr rfl) (zT yI (pv 1) (zr xm (pv 3) zj) (fun _ _=>rfl))) (zh (xP (i:=2) rV.nd rfl rfl (CSc.of (N':=["line","k","stage","marks"]) (sub:=[none,some 0,some 3,some 4]) (zf (top 48)) ["k","settings","lines","stage","marks"] rfl rfl (by decide +kernel) rfl) rfl (xO (pv 2)) (fun _ _ _ _ _ _=>zi (i:=0) (show (["line","k","stage","marks"]:List Str).Nodup by decide +kernel) rfl (Or.inl rfl)) (fun _ _ _ _ _ _=>zo) (fun _ _ _ _ _ _=>(ze qc0 hr rfl (za (pv 1) (za (pv 2) (za (pv 0) (za (pv 3) zb)))))))))) (zh (zn (zD zx rfl B.tuple zG (za (pv 2) zb))))))),?_⟩
 obtain ⟨W,hW⟩:∃ W:Nat,W = 2 ^ k:=⟨_,rfl⟩
 have pw:W <= 16:=by rw [hW]; exact zU k4
 have pw1:1 <= W:=by rw [hW]; exact Nat.one_le_two_pow
 have e1k:(1:Int) * 2 ^ ((k:Int)).toNat = W:=by rw [yL,hW]
 refine ⟨_,rfl,_,rfl,_,_,rfl,k,rows,rfl,k4,hR,hset,fun H1 g1=>?_⟩
 refine ⟨_,rfl,_,_,rfl,rfl,vE k4,W,congrArg (fun z=>[V.int z]) e1k,by omega,fun l hl=>?_⟩
 have gl:=Grow.new (m:=[]) hl (.lst ((List.range W).map fun i:Nat=>V.int i))
 refine ⟨_,rfl,_,_,rfl,rfl,_,_,rfl,⟨by omega,by omega,by omega,by omega⟩,xC (fun i σ H'=>∃ (l:Addr) (e3 e4:Option V),σ = [some (.int k),some y,some (.ref l),e3,e4] /\ Grow [] H H' /\ H' l = some (.lst ((List.range W).map fun h:Nat=>V.int (ledN k rows h i)))) ⟨l,_,_,rfl,g1.trans gl,zc⟩ ?_ ?_⟩
 ·rintro i σ H2 hi ⟨l,e3,e4,rfl,g2,hl2⟩
  have hik:i + 1 <= k:=by omega
  obtain ⟨rs,xs,rfl,hs,hall⟩:=g2.rows hR
  obtain ⟨ra,hra,hsa⟩:=X1 hall (i:=1 + (i:Int) - 1) (by omega) (by rw [hset.1]; omega)
  rw [show (1 + (i:Int) - 1).toNat = i by omega] at hsa
  have hb:=hset.bits (show i < k by omega)
  refine ⟨_,rfl,_,rfl,_,_,rfl,rfl,rs,_,_,_,rfl,rfl,hs,hra,?_⟩
  refine ⟨_,rfl,l,rfl,⟨_,SqL.of hl2⟩,xH (xs:=(List.range W).map fun h:Nat=>V.int (ledN k rows h i)) (fun j ys H'=>H' = H2 /\ ys = (List.range j).map fun h:Nat=>V.int (ledN k rows h (i + 1))) ⟨rfl,rfl⟩ (fun j ys H' h=>by rw [h.1]; exact SqL.of hl2) ?_ ?_⟩
  ·rintro j x ys H' hx ⟨rfl,rfl⟩
   have hj:j < W:=by have:=(List.getElem?_eq_some_iff.mp hx).1; rw [List.length_map,List.length_range] at this; exact this
   rw [List.getElem?_map,List.getElem?_range hj] at hx
   cases hx
   refine ⟨_,rfl,_,rfl,_,rfl,_,rfl,_,_,_,_,rfl,k,i + 1,ledN k rows j i,rows.getD i [],rfl,congrArg V.int (by omega),rfl,⟨ra,rfl,hsa⟩,k4,by omega,hik,ql k4 (by rw [← hW]; exact hj) i (by omega),hb.1,hb.2,zp (by rw [List.length_map,List.length_range]; omega),rfl,?_⟩
   rw [List.range_succ,List.map_append]; rfl
  rintro ys H' ⟨rfl,rfl⟩ l3 hl3
  rw [List.length_map,List.length_range]
  exact ⟨l3,_,_,rfl,g2.trans (Grow.new hl3 _),zc⟩
 ·rintro σ H2 ⟨l,e3,e4,rfl,g2,hl2⟩
  rw [show ((k:Int) + 1 - 1).toNat = k by omega] at hl2
  refine ⟨_,rfl,l,_,rfl,.inl ⟨SqL.of hl2,fun r hr=>q _ _ (g2.trans (Grow.new hr _)) ⟨r,rfl,SqT.of ?_⟩⟩⟩
  rw [zc]
  unfold ledL
  rw [List.map_map,hW]; rfl
theorem y4:FnScope ["_law_purse_here","_law_k","_law_rows","_law_stage"] ["_law_purse_here","_law_k"] (zf (top 66)):=⟨rfl,rfl,rfl,by decide +kernel,rfl,by decide +kernel,by decide +kernel⟩
theorem vT (F:Fun K "_law_settings" "_law_settings" (top 66) f fd) (B:Blt mg) (qc0:zg P w K mg base n "_law_take" ["_law_purse_here","_law_many"] (xS K))    :
  FnOk P w K mg base CX0 (n + 1) f fd ["_law_purse_here","_law_k"] (ui K):=by
 refine F.ok y4 zB (fun cdv A outer s H vs Q E hr h=>?_)
 obtain ⟨x,y,rfl,a,k,rfl,rfl,k4,pp,q⟩:=h
 refine ⟨_,(zd (zu (i:=2) y4.nd rfl (Or.inl rfl) (x4 zb)) (zd (yH PassesOwn.never rfl (yi rfl B.range (za (pv 1) zb)) (zi (i:=3) y4.nd rfl (Or.inl rfl)) (zh (zI (sE PySem.F.plainAttrs_list PySem.F.slot_list_append PySem.F.type_list_append xD (pv 2) (za (zD zx rfl B.tuple zG (za (zt (CSc.of (N':=["_law_number","_law_purse_here"]) (sub:=[none,some 0]) (zf (top 66)) ["_law_purse_here","_law_k","_law_rows","_law_stage"] rfl rfl (by decide +kernel) rfl) rfl (yi rfl B.range (za (zr yB zj (zr xm (pv 1) zj)) zb)) (fun _ _ _ _ _ _=>zi (i:=0) (show (["_law_number","_law_purse_here"]:List Str).Nodup by decide +kernel) rfl (Or.inl rfl)) (fun _ _ _ _ _ _=>zo) (fun _ _ _ _ _ _=>(ze qc0 hr rfl (za (pv 1) (za zj zb))))) zb)) zb))))) (zh (zn (zD zx rfl B.tuple zG (za (pv 2) zb)))))),?_⟩
 refine ⟨szl rfl,fun lf hlf=>?_⟩
 have nf:=pp.ne hlf
 have gf:Grow [a,lf] H (upd H lf (.lst [])):=Grow.new hlf _
 refine ⟨_,rfl,_,rfl,by omega,by omega,xC (fun i σ H'=>∃ (e3:Option V) (xs:List V) (rows:List (List Int)),σ = [some (.ref a),some (.int k),some (.ref lf),e3] /\ Grow [a,lf] H H' /\ zP H' a /\ H' lf = some (.lst xs) /\ AllR (zy K H') xs rows /\ rows.length = i /\ ∀ r ∈ rows,r.length = 2 ^ (k - 1) /\ ∀ b ∈ r,b = 0 \/ b = 1) ⟨_,[],[],rfl,gf,pp.new hlf _,zc,trivial,rfl,(fun r hr=>by cases hr)⟩ ?_ ?_⟩
 ·rintro i σ H1 hi ⟨e3,xs,rows,rfl,g1,pp1,hl1,ha1,rl,ro⟩
  have hk1:1 <= k:=by omega
  obtain ⟨W,hW⟩:∃ W:Nat,W = 2 ^ (k - 1):=⟨_,rfl⟩
  have pw:W <= 16:=by rw [hW]; exact zU (by omega)
  have e1k:(1:Int) * 2 ^ (((k:Int) - 1)).toNat = W:=by rw [show (k:Int) - 1 = ((k - 1:Nat):Int) by omega,yL,hW]
  refine ⟨_,rfl,.inl ⟨rfl,_,SqL.of hl1⟩,?_⟩
  refine ⟨_,rfl,_,_,rfl,rfl,_,_,rfl,rfl,⟨by omega,by omega,by decide⟩,_,rfl,by rw [e1k]; omega,by rw [e1k]; omega,xg (fun j ys H'=>∃ bs:List Int,ys = bs.map V.int /\ bs.length = j /\ (∀ b ∈ bs,b = 0 \/ b = 1) /\ Grow [a] H1 H' /\ zP H' a) ⟨[],rfl,rfl,(fun b hb=>by cases hb),Grow.refl _ _,pp1⟩ ?_ ?_⟩
  ·rintro j ys H2 hj ⟨bs,rfl,bl,bo,g2,pp2⟩
   have hj16:j < 16:=by rw [e1k] at hj; omega
   refine ⟨_,rfl,_,_,rfl,a,2,rfl,rfl,pp2,by decide,by decide,fun n H3 l3 u3 g3 pp3=>⟨zp (by rw [List.length_map]; omega),bs ++ [n],by rw [List.map_append]; rfl,by rw [List.length_append]; show bs.length + 1 = _; omega,?_,g2.trans g3,pp3⟩⟩
   intro b hb
   rcases List.mem_append.mp hb with z | z
   ·exact bo b z
   ·rw [List.mem_singleton.mp z]; omega
  rintro ys H2 ⟨bs,rfl,bl,bo,g2,pp2⟩ l2 hl2
  refine ⟨l2,_,rfl,.inl ⟨SqL.of zc,fun r hr=>?_⟩⟩
  have g3:Grow [] H2 (upd (upd H2 l2 (.lst (bs.map V.int))) r (.tup (bs.map V.int))):=(Grow.new hl2 _).trans (Grow.new hr _)
  have hl3:=g3.keep _ _ (by simp) (g2.keep _ _ nf hl1)
  have g13:Grow [a] H1 _:=g2.trans g3.wk
  have gs:=Grow.set (m:=[a,lf]) hl3 (by simp) (xs ++ [.ref r])
  have gA:=(g13.mono (m':=[a,lf]) (by simp)).trans gs
  refine ⟨lf,xs,_,rfl,rfl,hl3,zp (by rw [ha1.len]; omega),_,xs ++ [.ref r],rows ++ [bs],rfl,g1.trans gA,?_,zc,(gA.boardsR ha1).app (.one ⟨r,rfl,gs.sqT (SqT.of zc)⟩),by rw [List.length_append]; show rows.length + 1 = _; omega,?_⟩
  ·obtain ⟨z1,z2,z3,hz,z0⟩:=pp2.grow g3
   exact ⟨z1,z2,z3,by rw [zm (show a ≠ lf from fun z=>nf (by rw [z]; simp))]; exact hz,z0⟩
  ·intro rw' hrw
   rcases List.mem_append.mp hrw with z | z
   ·exact ro rw' z
   ·rw [List.mem_singleton.mp z]
    refine ⟨?_,bo⟩
    rw [bl,e1k,← hW]; exact Int.toNat_natCast W
 ·rintro σ H1 ⟨e3,xs,rows,rfl,g1,pp1,hl1,ha1,rl,ro⟩
  refine ⟨_,rfl,lf,_,rfl,.inl ⟨SqL.of hl1,fun r hr=>?_⟩⟩
  have g2:=Grow.new (m:=[]) hr (.tup xs)
  refine q _ rows _ (((g1.less (m':=[a]) fun z hz=>?_)).trans g2.wk) (pp1.grow g2) ⟨r,xs,rfl,SqT.of zc,g2.boardsR ha1⟩ ⟨by omega,ro⟩
  simp only [List.mem_cons,List.mem_nil_iff,or_false] at hz
  rcases hz with rfl | rfl
  ·exact .inl (by simp)
  ·exact .inr hlf
theorem yG:FnScope ["_law_purse_here","_law_k","_law_turn","_law_many","_law_found","_law_one","_law_other"] ["_law_purse_here","_law_k"] (zf (top 67)):=⟨rfl,rfl,rfl,by decide +kernel,rfl,by decide +kernel,by decide +kernel⟩
theorem si (F:Fun K "_law_sides" "_law_sides" (top 67) f fd) (B:Blt mg) (qc0:zg P w K mg base n "_law_take" ["_law_purse_here","_law_many"] (xS K)) (qc1:zg P w K mg base n "led" ["k","settings"] (Yf K)) (qc2:zg P w K mg base n "_law_settings" ["_law_purse_here","_law_k"] (ui K))    :
  FnOk P w K mg base CX0 (n + 1) f fd ["_law_purse_here","_law_k"] (tw K):=by
 refine F.ok yG zB (fun cdv A outer s H vs Q E hr h=>?_)
 obtain ⟨x,y,rfl,a,k,rfl,rfl,k4,pp,q⟩:=h
 refine ⟨_,(zd (zu (i:=2) yG.nd rfl (Or.inl rfl) (ze qc0 hr rfl (za (pv 0) (za zj zb)))) (zd (zu (i:=3) yG.nd rfl (Or.inr rfl) (zr yB zj (pv 1))) (zd (zu (i:=4) yG.nd rfl (Or.inl rfl) (zD wo rfl B.list jf (za (ze qc1 hr rfl (za (pv 1) (za (ze qc2 hr rfl (za (pv 0) (za (pv 1) zb))) zb))) zb))) (zd (yc (zJ vn (pv 2) zj (zH _)) (zh (zn (zt (CSc.of (N':=["_law_hand","_law_purse_here","_law_many"]) (sub:=[none,some 0,some 3]) (zf (top 67)) ["_law_purse_here","_law_k","_law_turn","_law_many","_law_found","_law_one","_law_other"] rfl rfl (by decide +kernel) rfl) rfl (yi rfl B.range (za (pv 3) zb)) (fun _ _ _ _ _ _=>zi (i:=0) (show (["_law_hand","_law_purse_here","_law_many"]:List Str).Nodup by decide +kernel) rfl (Or.inl rfl)) (fun _ _ _ _ _ _=>zo) (fun _ _ _ _ _ _=>(ze qc0 hr rfl (za (pv 1) (za (pv 2) zb))))))) zv) (zd (Vd (i:=5) (j:=6) rfl yG.nd rfl rfl (by decide) rfl rfl (za (ze qc0 hr rfl (za (pv 0) (za (pv 3) zb))) (za (ze qc0 hr rfl (za (pv 0) (za (pv 3) zb))) zb)) rfl) (zd (yc (zJ vn (pv 2) zj (zH _)) (zh (wm (zZ (za (zT zK (pv 4) (pv 6) (fun _ _=>rfl)) (za (zT zK (pv 4) (pv 5) (fun _ _=>rfl)) zb))) (yV rfl (zk (vB (pv 4) (pv 5) xq) (zk (vB (pv 4) (pv 6) xq) zF))))) zv) (zd (yc (zJ vn (pv 2) zj (zH _)) (zh (wm (pv 6) (vB (pv 4) (pv 5) xq))) zv) (zh (zn (pv 4)))))))))),?_⟩
 obtain ⟨W,hW⟩:∃ W:Nat,W = 2 ^ k:=⟨_,rfl⟩
 have pw:W <= 16:=by rw [hW]; exact zU k4
 have pw1:1 <= W:=by rw [hW]; exact Nat.one_le_two_pow
 have e1k:(1:Int) * 2 ^ ((k:Int)).toNat = W:=by rw [yL,hW]
 refine ⟨_,rfl,_,_,rfl,a,4,rfl,rfl,pp,by decide,by decide,fun c0 H1 l0 u0 g1 pp1=>?_⟩
 refine ⟨_,rfl,_,_,rfl,rfl,vE k4,?_⟩
 refine ⟨_,rfl,_,rfl,_,rfl,_,_,rfl,a,k,rfl,rfl,k4,pp1,fun ys rows H1b g1b pp1b hR hset=>⟨_,_,rfl,k,rows,rfl,hR,k4,hset,fun y2 H2 g2 h2=>?_⟩⟩
 have g1:=g1.trans g1b
 have pp1:=pp1b
 obtain ⟨r2,rfl,hs2⟩:=h2
 refine ⟨r2,_,rfl,.inr hs2,fun lf hlf=>?_⟩
 have gf:=Grow.new (m:=[]) hlf (.lst ((ledL k rows).map V.int))
 have hlf3:upd H2 lf (.lst ((ledL k rows).map V.int)) lf = some (.lst (zM (ye k rows))):=by
  rw [zc,u8,Zf]; rfl
 have g13:=g2.trans gf
 have pp3:=pp1.grow g13
 have gA3:Grow [a] H (upd H2 lf (.lst ((ledL k rows).map V.int))):=g1.trans g13.wk
 have nf:=(pp1.grow g2).ne hlf
 revert hlf3 g13 pp3 gA3
 clear gf
 generalize upd H2 lf (.lst ((ledL k rows).map V.int)) = H3
 intro hlf3 g13 pp3 gA3
 have hso:=Ze (rows:=rows) k4
 have hsl:=xM hso
 rw [← hW] at hsl
 refine ⟨_,rfl,rfl,_,rfl,?_⟩
 by_cases c1:c0 = 1
 ·refine wT (decide_eq_true (congrArg V.int c1)) ?_
  refine ⟨_,rfl,_,congrArg (fun z=>[V.int z]) e1k,by omega,by omega,xg (fun j ys H'=>∃ gs:List Nat,ys = zM gs /\ gs.length = j /\ (∀ g ∈ gs,g < 2 ^ k) /\ Grow [a] H3 H' /\ zP H' a) ⟨[],rfl,rfl,(fun y hy=>by cases hy),Grow.refl _ _,pp3⟩ ?_ ?_⟩
  ·rintro j ys H4 hj ⟨gs,rfl,yl,yo,g4,pp4⟩
   refine ⟨_,rfl,_,rfl,_,_,rfl,a,_,rfl,congrArg V.int e1k,pp4,by omega,by omega,fun n5 H5 l5 u5 g5 pp5=>⟨zp (by unfold zM; rw [List.length_map]; omega),gs ++ [n5.toNat],?_,by rw [List.length_append]; show gs.length + 1 = _; omega,?_,g4.trans g5,pp5⟩⟩
   ·unfold zM
    rw [List.map_append]
    show _ = _ ++ [V.int (n5.toNat:Int)]
    rw [Int.toNat_of_nonneg l5]
   ·intro g hg
    rcases List.mem_append.mp hg with z | z
    ·exact yo g z
    ·rw [List.mem_singleton.mp z,← hW]; omega
  rintro ys H4 ⟨gs,rfl,yl,yo,g4,pp4⟩ l5 hl5
  have g5:=Grow.new (m:=[]) hl5 (.lst (zM gs))
  exact q l5 gs _ (pp4.ne hl5) (gA3.trans (g4.trans g5.wk)) (pp4.grow g5) zc ⟨by rw [yl,← hW]; omega,yo⟩
 refine yX (decide_eq_false fun z=>c1 (V.int.inj z)) ?_
 refine ⟨_,rfl,_,rfl,_,_,rfl,a,_,rfl,congrArg V.int e1k,pp3,by omega,by omega,fun n4 H4 l4 u4 g4 pp4=>?_⟩
 refine ⟨_,rfl,_,rfl,_,_,rfl,a,_,rfl,congrArg V.int e1k,pp4,by omega,by omega,fun n5 H5 l5 u5 g5 pp5=>?_⟩
 have h5:=g5.keep _ _ nf (g4.keep _ _ nf hlf3)
 have gA5:=gA3.trans (g4.trans g5)
 have hn4:n4.toNat < 2 ^ k:=by rw [← hW]; omega
 have hn5:n5.toNat < 2 ^ k:=by rw [← hW]; omega
 have lfH:H lf = none:=g1.free nf (g2.free (by simp) hlf)
 have ne:a ≠ lf:=fun z=>nf (by rw [z]; simp)
 have hgl:=hso.1
 have e4:n4 = (n4.toNat:Int):=by omega
 have e5:n5 = (n5.toNat:Int):=by omega
 have lss:∀ {H':Hp},Grow [a,lf] H H' -> Grow [a] H H':=fun g=>g.less (m':=[a]) fun z hz=>by
  simp only [List.mem_cons,List.mem_nil_iff,or_false] at hz
  rcases hz with rfl | rfl
  ·exact .inl (by simp)
  ·exact .inr lfH
 refine ⟨_,_,rfl,_,rfl,rfl,_,rfl,?_⟩
 by_cases c3:c0 = 2
 ·refine wT (decide_eq_true (congrArg V.int c3)) ?_
  refine ⟨_,rfl,_,rfl,lf,_,_,_,rfl,rfl,SqL.of h5,jw l5 (by rw [hgl,← hW]; exact u5),_,rfl,_,rfl,lf,_,_,_,rfl,rfl,SqL.of h5,jw l4 (by rw [hgl,← hW]; exact u4),szl rfl,fun t ht=>?_⟩
  have gt:=Grow.new (m:=[]) ht (.tup [.int ((ye k rows).getD n5.toNat 0:Nat),.int ((ye k rows).getD n4.toNat 0:Nat)])
  have h6:=gt.keep _ _ (by simp) h5
  have pp6:=pp5.grow gt
  refine ⟨t,_,rfl,SqT.of zc,rfl,_,_,rfl,_,rfl,_,rfl,lf,_,_,n4.toNat,rfl,rfl,h6,xz l4 (by rw [xM hso]; exact hn4),?_⟩
  rw [uo]
  refine ⟨_,_,rfl,_,rfl,_,rfl,lf,_,_,n5.toNat,rfl,rfl,zc,xz l5 (by rw [xM (hso.set (hso.get hn5))]; exact hn5),rfl,?_⟩
  rw [uo]
  refine ⟨_,rfl,rfl,_,rfl,yX (by rw [c3]; rfl) ⟨_,rfl,?_⟩⟩
  have gs1:=Grow.set (m:=[a,lf]) h6 (by simp) (zM ((ye k rows).set n4.toNat ((ye k rows).getD n5.toNat 0)))
  have gs2:=Grow.set (m:=[a,lf]) (H:=upd (upd H5 t (.tup [.int ((ye k rows).getD n5.toNat 0:Nat),.int ((ye k rows).getD n4.toNat 0:Nat)])) lf (.lst (zM ((ye k rows).set n4.toNat ((ye k rows).getD n5.toNat 0))))) zc (by simp) (zM (((ye k rows).set n4.toNat ((ye k rows).getD n5.toNat 0)).set n5.toNat ((ye k rows).getD n4.toNat 0)))
  refine q lf _ _ nf (lss ((gA5.mono (m':=[a,lf]) (by simp)).trans (gt.wk.trans (gs1.trans gs2)))) ?_ zc ((hso.set (hso.get hn5)).set (hso.get hn4))
  obtain ⟨z1,z2,z3,hz,z0⟩:=pp6
  exact ⟨z1,z2,z3,by rw [zm ne,zm ne]; exact hz,z0⟩
 refine yX (decide_eq_false fun z=>c3 (V.int.inj z)) ⟨_,rfl,rfl,_,rfl,?_⟩
 by_cases c4:c0 = 3
 ·refine wT (decide_eq_true (congrArg V.int c4)) ?_
  refine ⟨_,rfl,_,rfl,_,rfl,lf,_,_,n4.toNat,rfl,rfl,h5,xz l4 (by rw [xM hso]; exact hn4),⟨_,rfl,?_⟩⟩
  have gs1:=Grow.set (m:=[a,lf]) h5 (by simp) ((zM (ye k rows)).set n4.toNat (.int n5))
  refine q lf ((ye k rows).set n4.toNat n5.toNat) _ nf (lss ((gA5.mono (m':=[a,lf]) (by simp)).trans gs1)) ?_ ?_ (hso.set hn5)
  ·obtain ⟨z1,z2,z3,hz,z0⟩:=pp5
   exact ⟨z1,z2,z3,by rw [zm ne]; exact hz,z0⟩
  ·rw [zc,← uo,← e5]
 exact yX (decide_eq_false fun z=>c4 (V.int.inj z)) ⟨_,rfl,q lf _ _ nf gA5 pp5 h5 hso⟩
theorem sj:FnScope ["_law_purse_here","_law_k"] ["_law_purse_here","_law_k"] (zf (top 68)):=⟨rfl,rfl,rfl,by decide +kernel,rfl,by decide +kernel,by decide +kernel⟩
theorem sr (F:Fun K "_law_boxes" "_law_boxes" (top 68) f fd) (B:Blt mg) (qc0:zg P w K mg base n "_law_sides" ["_law_purse_here","_law_k"] (tw K)) (qc1:zg P w K mg base n "_law_take" ["_law_purse_here","_law_many"] (xS K))    :
  FnOk P w K mg base CX0 (n + 1) f fd ["_law_purse_here","_law_k"] (tD K):=by
 refine F.ok sj zB (fun cdv A outer s H vs Q E hr h=>?_)
 obtain ⟨x,y,rfl,a,k,rfl,rfl,k4,pf,q⟩:=h
 refine ⟨_,(zd (yc (zJ vn (ze qc1 hr rfl (za (pv 0) (za zj zb))) zj (zH _)) (zh (zn (zr ZQ (x4 (za (ze qc1 hr rfl (za (pv 0) (za zj zb))) zb)) (zr yB zj (pv 1))))) zv) (zh (zn (zt (CSc.of (N':=["_law_goal","_law_purse_here","_law_k"]) (sub:=[none,some 0,some 1]) (zf (top 68)) ["_law_purse_here","_law_k"] rfl rfl (by decide +kernel) rfl) rfl (xO (ze qc0 hr rfl (za (pv 0) (za (pv 1) zb)))) (fun _ _ _ _ _ _=>zi (i:=0) (show (["_law_goal","_law_purse_here","_law_k"]:List Str).Nodup by decide +kernel) rfl (Or.inl rfl)) (fun _ _ _ _ _ _=>zo) (fun _ _ _ _ _ _=>(zr yn (pv 0) (zr yB (ze qc1 hr rfl (za (pv 1) (za (zr q9 zj (pv 2)) zb))) (pv 2)))))))),?_⟩
 have p16:=zU k4
 have e1k:(1:Int) * 2 ^ ((k:Int)).toNat = ((2 ^ k:Nat):Int):=yL
 refine ⟨_,rfl,_,_,rfl,a,5,rfl,rfl,pf,by decide,by decide,fun t H1 t0 t1 g1 pf1=>⟨rfl,_,rfl,?_⟩⟩
 refine ite2 (fun c=>?_) (fun c=>?_)
 ·refine ⟨_,rfl,_,_,rfl,a,16,rfl,rfl,pf1,by decide,by decide,fun n H2 n0 n1 g2 pf2=>⟨szl rfl,fun l hl=>⟨_,rfl,_,_,rfl,rfl,vE k4,?_⟩⟩⟩
  have gl:=Grow.new (m:=[]) hl (.lst [.int n])
  obtain ⟨u,rfl⟩:∃ u:Nat,n = (u:Int):=⟨n.toNat,by omega⟩
  have pf3:=pf2.new hl (.lst [.int u])
  refine ⟨l,_,[.int u],rfl,rfl,zc,?_,?_,?_,fun l' hl'=>?_⟩
  ·show -(2 ^ 63) <= (1:Int) * 2 ^ ((k:Int)).toNat
   rw [e1k]; exact Int.le_trans (by decide) (Int.natCast_nonneg (2 ^ k))
  ·show (1:Int) * 2 ^ ((k:Int)).toNat < 2 ^ 63
   rw [e1k]; exact Int.lt_of_le_of_lt (Int.ofNat_le.mpr p16) (by decide)
  ·rw [e1k,Int.toNat_natCast]; exact Nat.le_trans (show 1 * 2 ^ k <= 1000 by omega) (by decide)
  have er:(List.replicate ((1:Int) * 2 ^ ((k:Int)).toNat).toNat [V.int u]).flatten = zM (List.replicate (2 ^ k) u):=by
   rw [e1k,Int.toNat_natCast]
   generalize 2 ^ k = w
   induction w with
   | zero=>rfl
   | succ w ih=>rw [List.replicate_succ,List.flatten_cons,ih]; rfl
  rw [er]
  exact q l' (List.replicate (2 ^ k) u) _ (pf3.ne hl') (g1.trans (g2.trans (gl.wk.trans (Grow.new hl' _)))) (pf3.new hl' _) zc List.length_replicate (fun g hg=>by rw [(List.mem_replicate.mp hg).2]; omega)
 ·refine V1 ?_
  refine ⟨_,rfl,_,rfl,_,_,rfl,a,k,rfl,rfl,k4,pf1,fun ls gs H2 nls g2 pf2 hls ok=>?_⟩
  have gl:=ok.1
  have e16:(16:Int) / 2 ^ ((k:Int)).toNat = ((2 ^ (4 - k):Nat):Int):=by
   have:k = 0 \/ k = 1 \/ k = 2 \/ k = 3 \/ k = 4:=by omega
   rcases this with rfl | rfl | rfl | rfl | rfl <;> rfl
  have p4:2 ^ (4 - k) <= 16:=zU (by omega)
  have pp:2 ^ (4 - k) * 2 ^ k = 16:=by rw [← Nat.pow_add,show 4 - k + k = 4 by omega]
  refine ⟨ls,rfl,⟨_,SqL.of hls⟩,wt (xs:=zM gs) (fun n ys σ' H'=>Grow [a] H2 H' /\ zP H' a /\ (∃ e0,σ' = [e0,some (.ref a),some (.int k)]) /\ ∃ bs:List Nat,ys = zM bs /\ bs.length = n /\ ∀ g ∈ bs,g < 16) ⟨Grow.refl _ _,pf2,⟨_,rfl⟩,[],rfl,rfl,(fun g hg=>nomatch hg)⟩ (fun n ys σ' H' _ w=>SqL.of (w.1.keep _ _ nls hls)) ?_ ?_⟩
  ·rintro n x ys σ' H3 hx ⟨g3,pf3,⟨e0,rfl⟩,bs,rfl,bl,bb⟩
   unfold zM at hx
   rw [List.getElem?_map] at hx
   obtain ⟨g,hg,rfl⟩:=Option.map_eq_some_iff.mp hx
   have hgk:=ok.2 g (List.mem_of_getElem? hg)
   have hn:=(List.getElem?_eq_some_iff.mp hg).1
   refine ⟨_,rfl,_,rfl,_,rfl,_,_,rfl,rfl,Int.natCast_nonneg k,_,_,rfl,a,_,rfl,congrArg V.int e16,pf3,Int.natCast_pos.mpr (Nat.two_pow_pos _),Int.lt_of_le_of_lt (show ((2 ^ (4 - k):Nat):Int) <= 16 by exact Int.ofNat_le.mpr p4) (by decide),fun t H4 t0 t1 g4 pf4=>?_⟩
   have t1':t < ((2 ^ (4 - k):Nat):Int):=t1
   obtain ⟨u,rfl⟩:∃ u:Nat,t = (u:Int):=⟨t.toNat,by omega⟩
   have hu:u < 2 ^ (4 - k):=Int.ofNat_lt.mp t1'
   have hb:g + u * 2 ^ k < 16:=by
    have:=Nat.mul_le_mul_right (2 ^ k) (show u + 1 <= 2 ^ (4 - k) from hu)
    rw [pp,Nat.succ_mul] at this
    omega
   refine ⟨_,rfl,_,_,rfl,rfl,⟨by omega,by omega,by omega⟩,_,_,rfl,rfl,yJ (by unfold zM; rw [List.length_map,bl]; omega),g3.trans g4,pf4,⟨_,rfl⟩,bs ++ [g + u * 2 ^ k],?_,by rw [List.length_append,bl]; rfl,fun x hx=>?_⟩
   ·unfold zM
    rw [List.map_append]
    show _ ++ [V.int ((g:Int) + (u:Int) * 2 ^ ((k:Int)).toNat)] = _ ++ [V.int ((g + u * 2 ^ k:Nat):Int)]
    congr 3
   ·rcases List.mem_append.mp hx with z | z
    ·exact bb x z
    ·rw [List.mem_singleton.mp z]; exact hb
  ·rintro ys σ' H3 ⟨g3,pf3,_,bs,rfl,bl,bb⟩ l hl
   have ln:(zM gs).length = gs.length:=by unfold zM; rw [List.length_map]
   exact q l bs _ (pf3.ne hl) (g1.trans (g2.trans (g3.trans (Grow.new hl _)))) (pf3.new hl _) zc (by rw [bl,ln,gl]) bb
theorem vk:FnScope ["_law_script","_law_k","_law_cell"] ["_law_script","_law_k"] (zf (top 64)):=⟨rfl,rfl,rfl,by decide +kernel,rfl,by decide +kernel,by decide +kernel⟩
theorem ss (F:Fun K "_law_purse" "_law_purse" (top 64) f fd) (B:Blt mg)     :
  FnOk P w K mg base CX0 (n + 1) f fd ["_law_script","_law_k"] (sU K):=by
 refine F.ok vk zB (fun cdv A outer s H vs Q E hr h=>?_)
 obtain ⟨x,y,rfl,a,ns,k,rfl,rfl,hs,k0,k1,q⟩:=h
 refine ⟨_,(zd (zu (i:=2) vk.nd rfl (Or.inl rfl) (tF (zJ Y2 (pv 1) (zl zw rfl B.len x9 (za (pv 0) zb)) (zH _)) (zT zK (pv 0) (pv 1) (fun _ _=>rfl)) zj)) (zh (zn (x4 (za (zl (su rfl) rfl B.max Xb (za zj (za (zr xm (pv 2) (zr XR zj zj)) zb))) (za (pv 2) (za (pv 1) zb))))))),?_⟩
 have hs2:=hs.sq
 have hl:(ns.map V.int).length = ns.length:=List.length_map ..
 refine ⟨_,rfl,_,rfl,a,_,rfl,.inl hs2,_,_,rfl,rfl,_,rfl,?_⟩
 by_cases c:k < ((ns.map V.int).length:Int)
 ·refine wT (decide_eq_true c) ?_
  have hj:k.toNat < ns.length:=by omega
  refine ⟨_,rfl,_,rfl,a,_,_,V.int ns[k.toNat],rfl,rfl,hs2,qd (xz k0 (by omega)) (by rw [List.getElem?_map,List.getElem?_eq_getElem hj]; rfl),?_⟩
  refine ⟨_,rfl,_,_,rfl,rfl,⟨by decide,by decide,by decide⟩,_,_,rfl,rfl,_,_,rfl,_,rfl,_,rfl,szl rfl,fun p hp=>q p _ hp (Grow.new hp _) ⟨_,_,_,zc,?_⟩⟩
  show 0 <= (if (ns[k.toNat] - 10 ^ (18:Int).toNat) > 0 then _ else _)
  split <;> omega
 ·refine yX (decide_eq_false c) ?_
  refine ⟨_,rfl,_,_,rfl,rfl,⟨by decide,by decide,by decide⟩,_,_,rfl,rfl,_,_,rfl,_,rfl,_,rfl,szl rfl,fun p hp=>q p _ hp (Grow.new hp _) ⟨_,_,_,zc,?_⟩⟩
  show 0 <= (if ((0:Int) - 10 ^ (18:Int).toNat) > 0 then _ else _)
  split <;> omega
theorem ww:FnScope ["_law_script","_law_cell","_law_purse_here","_law_k","_law_board","_law_boxes_here","_law_asks","_law_line","_law_told","_law_some"] ["_law_script"] (zf (top 77)):=⟨rfl,rfl,rfl,by decide +kernel,rfl,by decide +kernel,by decide +kernel⟩
theorem V8 (F:Fun K "law" "law" (top 77) f fd) (B:Blt mg) (qc0:zg P w K mg base n "_law_loads_right" ["_law_k","_law_board","_law_asks"] (xW K)) (qc1:zg P w K mg base n "_law_take" ["_law_purse_here","_law_many"] (xS K)) (qc2:zg P w K mg base n "settings_for" ["k","sides"] (wr K)) (qc3:zg P w K mg base n "_law_first_full" ["_law_loads"] (ux K)) (qc4:zg P w K mg base n "plain_loads" ["k","board","asks"] (qz K)) (qc5:zg P w K mg base n "_law_mixed" ["_law_purse_here","_law_some"] (jq K)) (qc6:zg P w K mg base n "_law_deed" ["_law_purse_here"] (rA K)) (qc7:zg P w K mg base n "_law_boxes" ["_law_purse_here","_law_k"] (tD K)) (qc8:zg P w K mg base n "_law_purse" ["_law_script","_law_k"] (sU K)) (g_enumerate:mg "enumerate" = none)   :
  FnOk P w K mg base CX0 (n + 1) f fd ["_law_script"] (jh K):=by
 refine F.ok ww xn (fun cdv A outer s H vs Q E hr h=>?_)
 obtain ⟨x,rfl,a,ns,rfl,hs,h63,q⟩:=h
 refine ⟨_,(zd (yH PassesOwn.never rfl (yi rfl B.range (za (zl (su rfl) rfl B.max Xb (za zj (za (zl (ZG rfl) rfl B.min Um (za zj (za (zl zw rfl B.len x9 (za (pv 0) zb)) zb))) zb))) zb)) (zi (i:=1) ww.nd rfl (Or.inl rfl)) (zd (zu (i:=2) ww.nd rfl (Or.inr rfl) (ze qc8 hr rfl (za (pv 0) (za (pv 1) zb)))) (zd (zu (i:=3) ww.nd rfl (Or.inr rfl) (ze qc1 hr rfl (za (pv 2) (za zj zb)))) (zd (zu (i:=4) ww.nd rfl (Or.inl rfl) (zD zx rfl B.tuple zG (za (zt (CSc.of (N':=["_law_box","_law_purse_here"]) (sub:=[none,some 2]) (zf (top 77)) ["_law_script","_law_cell","_law_purse_here","_law_k","_law_board","_law_boxes_here","_law_asks","_law_line","_law_told","_law_some"] rfl rfl (by decide +kernel) rfl) rfl (yi rfl B.range (za zj zb)) (fun _ _ _ _ _ _=>zi (i:=0) (show (["_law_box","_law_purse_here"]:List Str).Nodup by decide +kernel) rfl (Or.inl rfl)) (fun _ _ _ _ _ _=>zo) (fun _ _ _ _ _ _=>(zr xm (ze qc1 hr rfl (za (pv 1) (za zj zb))) zj))) zb))) (zd (zu (i:=5) ww.nd rfl (Or.inl rfl) (ze qc7 hr rfl (za (pv 2) (za (pv 3) zb)))) (zd (xP (i:=6) ww.nd rfl rfl (CSc.of (N':=["_law_hand","_law_box","_law_purse_here"]) (sub:=[none,none,some 2]) (zf (top 77)) ["_law_script","_law_cell","_law_purse_here","_law_k","_law_board","_law_boxes_here","_law_asks","_law_line","_law_told","_law_some"] rfl rfl (by decide +kernel) rfl) rfl (xQ false (K:=K) rfl rfl g_enumerate (za (pv 5) zb)) (fun _ _ _ _ _ _=>xR (K:=K) 2 rfl rfl (zk (zi (i:=0) (show (["_law_hand","_law_box","_law_purse_here"]:List Str).Nodup by decide +kernel) rfl (Or.inl rfl) (Or.inr rfl)) (zk (zi (i:=1) (show (["_law_hand","_law_box","_law_purse_here"]:List Str).Nodup by decide +kernel) rfl (Or.inl rfl) (Or.inr rfl)) zF)) rfl rfl) (fun _ _ _ _ _ _=>zo) (fun _ _ _ _ _ _=>(zZ (za (pv 0) (za (pv 1) (za (ze qc6 hr rfl (za (pv 2) zb)) zb)))))) (zd (zu (i:=6) ww.nd rfl (Or.inl rfl) (zD zx rfl B.tuple zG (za (ze qc5 hr rfl (za (pv 2) (za (pv 6) zb))) zb))) (zd (zu (i:=7) ww.nd rfl (Or.inl rfl) (ze qc3 hr rfl (za (ze qc4 hr rfl (za (pv 3) (za (pv 4) (za (pv 6) zb)))) zb))) (zd (zu (i:=8) ww.nd rfl (Or.inl rfl) (ze qc2 hr rfl (za (pv 3) (za (zD zx rfl B.tuple zG (za (zt (CSc.of (N':=["_law_box","_law_k"]) (sub:=[none,some 3]) (zf (top 77)) ["_law_script","_law_cell","_law_purse_here","_law_k","_law_board","_law_boxes_here","_law_asks","_law_line","_law_told","_law_some"] rfl rfl (by decide +kernel) rfl) rfl (xO (pv 5)) (fun _ _ _ _ _ _=>zi (i:=0) (show (["_law_box","_law_k"]:List Str).Nodup by decide +kernel) rfl (Or.inl rfl)) (fun _ _ _ _ _ _=>zo) (fun _ _ _ _ _ _=>(zr vC (pv 0) (zr yB zj (pv 1))))) zb)) zb)))) (zd (yc (PW.pt (vM (zJ rY (xy vn (zT yI (pv 8) zj (fun _ _=>rfl)) qX (zH _)) (XQ (vY (pv 7))) (zH _)) (xZ (PW.pt (v2 (wf (vZ (pv 7))) (vm (zJ (Yg (K:=K) rfl hr) (pv 8) (zZ (za qX (za (pv 7) zb))) (zH _)))))))) (zh (zn wD)) zv) (zd (zu (i:=9) ww.nd rfl (Or.inl rfl) (je (WH (K:=K) rfl) (pv 6) ZM (ZN (ze qc1 hr rfl (za (pv 2) (za (zr yn (zl zw rfl B.len x9 (za (pv 6) zb)) zj) zb)))))) (zh (yc (PW.pt (vM (yf (zW (ze qc0 hr rfl (za (pv 3) (za (pv 4) (za (pv 6) zb)))))) (xZ (yf (zW (ze qc0 hr rfl (za (pv 3) (za (pv 4) (za (pv 9) zb))))))))) (zh (zn wD)) zv))))))))))))) (zh (zn wD))),?_⟩
 have hl:(ns.map V.int).length = ns.length:=List.length_map ..
 refine ⟨_,rfl,a,_,rfl,.inl hs.sq,_,_,rfl,_,_,rfl,_,rfl,?_,?_,?_⟩
 ·split <;> split <;> omega
 ·rw [hl]; split <;> split <;> omega
 refine xC (fun i σ H'=>∃ (e1 e2 e3 e4 e5 e6 e7 e8 e9:Option V),σ = [some (.ref a),e1,e2,e3,e4,e5,e6,e7,e8,e9] /\ Grow [] H H') ⟨_,_,_,_,_,_,_,_,_,rfl,Grow.refl _ _⟩ ?_ ?_
 ·rintro i σ H1 hi ⟨e1,e2,e3,e4,e5,e6,e7,e8,e9,rfl,g⟩
  have i63:i < 1000:=by
   have hi':=hi
   revert hi'
   split <;> split <;> omega
  refine ⟨_,rfl,_,rfl,_,_,rfl,a,ns,_,rfl,rfl,g.scr hs,by omega,by omega,fun p H2 hp g2 pp=>?_⟩
  refine ⟨_,rfl,_,_,rfl,p,5,rfl,rfl,pp,by decide,by decide,fun k0 H3 l3 u3 g3 pp3=>?_⟩
  obtain ⟨k,rfl⟩:∃ k:Nat,k0 = k:=⟨k0.toNat,by omega⟩
  have k4:k <= 4:=by omega
  have p16:=zU k4
  have hpos:0 < 2 ^ k:=Nat.two_pow_pos k
  have e1k:(1:Int) * 2 ^ ((k:Int)).toNat = ((2 ^ k:Nat):Int):=yL
  refine ⟨_,rfl,by decide,by decide,xg (fun j ys H'=>∃ bs:List Int,ys = bs.map V.int /\ bs.length = j /\ Grow [p] H3 H' /\ zP H' p) ⟨[],rfl,rfl,Grow.refl _ _,pp3⟩ ?_ ?_⟩
  ·rintro j ys H4 hj ⟨bs,rfl,bl,g4,pp4⟩
   refine ⟨_,rfl,_,_,rfl,p,199,rfl,rfl,pp4,by decide,by decide,fun n H5 l5 u5 g5 pp5=>⟨_,_,rfl,rfl,zp (by rw [List.length_map]; omega),bs ++ [n - 99],by rw [List.map_append]; rfl,by rw [List.length_append]; show bs.length + 1 = _; omega,g4.trans g5,pp5⟩⟩
  rintro ys H4 ⟨bs,rfl,bl,g4,pp4⟩ l4 hl4
  refine ⟨l4,_,rfl,.inl ⟨SqL.of zc,fun r4 hr4=>?_⟩⟩
  have g5:=(Grow.new (m:=[]) hl4 (.lst (bs.map V.int))).trans (Grow.new (m:=[]) hr4 (.tup (bs.map V.int)))
  have hb5:zy K _ (.ref r4) bs:=⟨r4,rfl,SqT.of (zc (H:=upd H4 l4 (.lst (bs.map V.int))) (a:=r4) (o:=.tup (bs.map V.int)))⟩
  generalize upd (upd H4 l4 (.lst (bs.map V.int))) r4 _ = H5 at g5 hb5 ⊢
  have b16:bs.length = 16:=bl
  have pp5:=pp4.grow g5
  have g35:Grow [p] H3 H5:=g4.trans g5.wk
  refine ⟨_,rfl,_,rfl,_,_,rfl,p,k,rfl,rfl,k4,pp5,fun lb gs H6 nlb g6 pp6 hlb gl hgs=>?_⟩
  have hb6:=g6.board hb5
  refine ⟨_,rfl,lb,_,rfl,SqL.of hlb,rE (xs:=zM gs) (fun j ys σ' H'=>(∃ e0 e1:Option V,σ' = [e0,e1,some (.ref p)]) /\ Grow [p] H6 H' /\ zP H' p /\ ∃ ks0:List Ask,AllR (tL K H') ys ks0 /\ wJ gs j ks0) ⟨⟨_,_,rfl⟩,Grow.refl _ _,pp6,[],trivial,rfl,nofun⟩ (fun j ys σ' H' z=>SqL.of (z.2.1.keep _ _ nlb hlb)) ?_ ?_⟩
  ·rintro j v ys σ' H7 T hv ⟨⟨e0,e1,rfl⟩,g7,pp7,ks0,hal,hk0⟩ hT
   unfold zM at hv
   rw [List.getElem?_map] at hv
   obtain ⟨gj,hgj,rfl⟩:=Option.map_eq_some_iff.mp hv
   have jl:=(List.getElem?_eq_some_iff.mp hgj).1
   have egj:gs.getD j 0 = gj:=by rw [List.getD_eq_getElem?_getD,hgj]; rfl
   have gT:=Grow.new (m:=[]) hT (.tup [.int j,.int gj])
   have hTT:=zc (H:=H7) (a:=T) (o:=.tup [.int j,.int gj])
   have pp8:=pp7.grow gT
   have g8:=g7.trans gT.wk
   have hal8:=hal.imp fun _ _ z=>gT.ask z
   generalize upd H7 T _ = H8 at gT hTT pp8 g8 hal8 ⊢
   refine ⟨T,_,rfl,SqT.of hTT,rfl,_,_,rfl,_,_,rfl,rfl,?_⟩
   refine ⟨_,rfl,_,rfl,_,rfl,_,rfl,p,rfl,pp8,fun d yd H9 dok dsm g9 pp9 hd9=>⟨szl rfl,fun t ht=>⟨zp (by rw [hal.len,hk0.len]; omega),⟨_,_,rfl⟩,g8.trans (g9.trans (Grow.new ht _)),pp9.new ht _,ks0 ++ [⟨j,gj,d⟩],?_,hk0.snoc (by rw [egj]; rfl) dok⟩⟩⟩
   obtain ⟨rd,rfl,hrd⟩:=hd9
   have gt:=Grow.new (m:=[]) ht (.tup [.int j,.int gj,.ref rd])
   exact (hal8.imp fun _ _ z=>gt.ask (g9.ask z)).app (AllR.one ⟨t,rd,rfl,SqT.of zc,gt.sqT hrd⟩)
  rintro ys σ' H7 ⟨_,g7,pp7,ks0,hal,hk0⟩ l7 hl7
  rw [zM,List.length_map] at hk0
  have gL:=Grow.new (m:=[]) hl7 (.lst ys)
  have hl8:=zc (H:=H7) (a:=l7) (o:=.lst ys)
  have pp8:=pp7.grow gL
  have g8:=g7.trans gL.wk
  have hal8:=hal.imp fun _ _ z=>gL.ask z
  generalize upd H7 l7 _ = H8 at gL hl8 pp8 g8 hal8 ⊢
  refine ⟨_,rfl,_,rfl,_,_,rfl,p,l7,ys,rfl,rfl,pp8,hl8,by rw [hal.len,hk0.len]; omega,fun lf zs H9 g9 pp9 hlf pm=>?_⟩
  obtain ⟨ks,hks,kpm⟩:=AllR.permR pm (hal8.imp fun _ _ z=>g9.ask z)
  obtain ⟨R,ppl⟩:=hk0.rnd gl hgs kpm
  have k16:ks.length <= 16:=by rw [kpm.length_eq,hk0.len]; omega
  refine ⟨lf,_,rfl,.inl ⟨SqL.of hlf,fun ra hra=>?_⟩⟩
  have gA:=Grow.new (m:=[]) hra (.tup zs)
  have hAs:xu K (upd H9 ra (.tup zs)) (.ref ra) ks:=⟨ra,zs,rfl,SqT.of zc,vc.mpr (hks.imp fun _ _ z=>gA.ask z)⟩
  have pp10:=pp9.grow gA
  have g610:Grow [p] H6 (upd H9 ra (.tup zs)):=g8.trans (g9.trans gA.wk)
  generalize upd H9 ra _ = H10 at gA hAs pp10 g610 ⊢
  have hlb10:=g610.keep _ _ nlb hlb
  have hb10:=g610.board hb6
  have lok:LdOk k (plR k ks):=⟨jQ,fun r hr=>by
   unfold plR at hr
   obtain ⟨s,_,rfl⟩:=List.mem_map.mp hr
   rw [List.length_map,List.length_range]⟩
  refine ⟨_,rfl,_,rfl,_,rfl,_,_,_,rfl,k,bs,ks,rfl,k4,hb10,by omega,by omega,hAs,k16,by rw [b16]; exact R,fun yp H11 g11 hp11=>?_⟩
  refine ⟨_,rfl,k,_,hp11,k4,lok,fun o yo H12 g12 hc12 hf12=>?_⟩
  have g1012:=g11.trans g12
  have hlb12:=g1012.keep _ _ (by simp) hlb10
  rw [u8] at hlb12
  refine ⟨_,rfl,_,rfl,lb,rfl,⟨_,SqL.of hlb12⟩,j4 (fun b=>b % ((2 ^ k:Nat):Int)) (SqL.of hlb12) (by rw [List.length_map]; omega) ?_ ?_⟩
  ·rintro b H13 Rk hbm g13 kk
   refine ⟨_,rfl,_,rfl,_,_,rfl,rfl,⟨by omega,by omega,by decide⟩,_,_,rfl,rfl,(by rw [e1k]; omega),?_⟩
   show Rk (V.int (b % (1 * 2 ^ (k:Int).toNat))) _
   rw [e1k]
   exact kk _ (Grow.refl _ _)
  rintro H13 l13 g13 hl13
  refine ⟨l13,_,rfl,.inl ⟨SqL.of zc,fun r13 hr13=>?_⟩⟩
  have g14:=g13.trans ((Grow.new (m:=[]) hl13 (.lst (((gs.map fun g:Nat=>(g:Int)).map fun b=>b % ((2 ^ k:Nat):Int)).map V.int))).trans (Grow.new (m:=[]) hr13 (.tup (((gs.map fun g:Nat=>(g:Int)).map fun b=>b % ((2 ^ k:Nat):Int)).map V.int))))
  have hr14:=zc (H:=upd H13 l13 (.lst (((gs.map fun g:Nat=>(g:Int)).map fun b=>b % ((2 ^ k:Nat):Int)).map V.int))) (a:=r13) (o:=.tup (((gs.map fun g:Nat=>(g:Int)).map fun b=>b % ((2 ^ k:Nat):Int)).map V.int))
  generalize upd (upd H13 l13 _) r13 _ = H14 at g14 hr14 ⊢
  have en:(((gs.map fun g:Nat=>(g:Int)).map fun b=>b % ((2 ^ k:Nat):Int)).map V.int) = zM (gs.map (· % 2 ^ k)):=by
   unfold zM
   rw [List.map_map,List.map_map,List.map_map]; rfl
  rw [en] at hr14
  have sok:yM k (gs.map (· % 2 ^ k)):=⟨by rw [List.length_map]; exact gl,fun g hg=>by
   obtain ⟨g',_,rfl⟩:=List.mem_map.mp hg
   exact Nat.mod_lt _ hpos⟩
  refine ⟨_,_,rfl,k,gs.map (· % 2 ^ k),r13,rfl,k4,rfl,SqT.of hr14,sok,fun o' ya H15 g15 hs15 ha15=>?_⟩
  have eo:=tu R k4 ppl hf12 hs15
  subst eo
  have g1215:=g14.trans g15
  have hc15:=g1215.clash hc12
  have g1015:=g1012.trans g1215
  obtain ⟨rt,st,yt,rfl,hrt,w⟩:=ha15
  refine V0 ?_
  refine c_if (fun σ' H'=>σ' = [some (.ref a),some (.int (0 + (i:Int))),some (.ref p),some (.int k),some (.ref r4),some (.ref lb),some (.ref ra),some yo,some (.ref rt),e9] /\ Grow [] H15 H') ?_ (fun kk=>?_)
  ·rintro σ' H16 ⟨rfl,g16⟩
   have g1016:=g1015.trans g16
   have hAs16:=g1016.asks hAs
   have pp16:=pp10.grow g1016
   have hb16:=g1016.board hb10
   obtain ⟨rx,xs6,e,hx6,hall6⟩:=hAs16
   cases e
   have xl6:=hall6.len
   refine ⟨_,rfl,_,rfl,_,rfl,ra,_,rfl,.inr hx6,_,_,rfl,rfl,_,_,rfl,p,((xs6.length:Int) + 1),rfl,rfl,pp16,by omega,by omega,fun m H17 l17 u17 g17 pp17=>?_⟩
   obtain ⟨m,rfl⟩:∃ j:Nat,m = j:=⟨m.toNat,by omega⟩
   refine ⟨_,rfl,ra,xs6,rfl,g17.sqT hx6,fun rs H18 g18 hrs=>?_⟩
   rw [Xv (by omega)] at hrs
   have g1618:Grow [p] H16 H18:=g17.trans g18.wk
   have hAs18:xu K H18 (.ref ra) ks:=⟨ra,xs6,rfl,g1618.sqT hx6,g1618.allA hall6⟩
   have hSo18:xu K H18 (.ref rs) (ks.take m):=⟨rs,_,rfl,hrs,vc.mpr ((vc.mp (g1618.allA hall6)).take)⟩
   have hb18:=g1618.board hb16
   refine ⟨_,rfl,_,rfl,_,rfl,_,_,_,rfl,k,bs,ks,rfl,k4,hb18,b16,hAs18,k16,R,fun H19 g19=>⟨_,rfl,iteF ?_⟩⟩
   refine ⟨_,rfl,_,rfl,_,rfl,_,_,_,rfl,k,bs,ks.take m,rfl,k4,g19.board hb18,b16,g19.asks hSo18,by rw [List.length_take]; omega,R.take99 m,fun H20 g20=>⟨_,rfl,iteF ?_⟩⟩
   have gp:Grow [p] H2 H20:=g3.trans (g35.trans (g6.trans (g610.trans (g1016.wk.trans (g1618.trans (g19.wk.trans g20.wk))))))
   exact ⟨_,_,_,_,_,_,_,_,_,rfl,g.trans ((g2.wk.trans gp).shrink hp)⟩
  ·cases o' with
   | none =>
    cases (show yo = V.non from hc15)
    obtain ⟨rfl,hw⟩:=w
    refine ⟨_,rfl,rt,_,_,_,rfl,rfl,hrt,rfl,rfl,_,rfl,rfl,_,rfl,yX rfl ?_⟩
    refine ⟨_,rfl,_,rfl,iteF ?_⟩
    exact kk _ _ ⟨rfl,Grow.refl _ _⟩
   | some pv =>
    obtain ⟨lv,lw⟩:=pv
    obtain ⟨rfl,c,rfl,hc⟩:=w
    obtain ⟨c2,rfl,hc2⟩:=hc15
    refine ⟨_,rfl,rt,_,_,_,rfl,rfl,hrt,rfl,rfl,_,rfl,rfl,_,rfl,yX rfl ?_⟩
    refine ⟨_,rfl,_,rfl,iteT ?_⟩
    refine ⟨_,rfl,_,rfl,szl rfl,fun t ht=>?_⟩
    have gt:=Grow.new (m:=[]) ht (.tup [.str "clash",.ref c2])
    refine ⟨.tuple [.str "clash",.tuple [.int lv,.int lw]],.tup (gt.sqT hrt) (.cons (.str _) (.cons (.tup (gt.sqT hc) (.cons (.int _) (.cons (.int _) .nil))) .nil)),.tup (SqT.of zc) (.cons (.str _) (.cons (.tup (gt.sqT hc2) (.cons (.int _) (.cons (.int _) .nil))) .nil)),⟨_,rfl⟩,Nat.le_of_ble_eq_true rfl,_,rfl,iteF ?_⟩
    exact kk _ _ ⟨rfl,gt⟩
 ·rintro σ H1 _
  exact q _
end
theorem xB:∀ {us:List Value},us.length = 1 -> ∃ x0,us = [x0]
 | [x0],_=>⟨x0,rfl⟩
theorem zC:∀ {us:List Value},us.length = 2 -> ∃ x0,∃ x1,us = [x0,x1]
 | [x0,x1],_=>⟨x0,x1,rfl⟩
theorem yQ:∀ {us:List Value},us.length = 3 -> ∃ x0,∃ x1,∃ x2,us = [x0,x1,x2]
 | [x0,x1,x2],_=>⟨x0,x1,x2,rfl⟩
theorem uI:∀ {us:List Value},us.length = 4 -> ∃ x0,∃ x1,∃ x2,∃ x3,us = [x0,x1,x2,x3]
 | [x0,x1,x2,x3],_=>⟨x0,x1,x2,x3,rfl⟩
def FA (K:FG7) (x:Str) (t:Stmt) (f:Addr) (d:FuncData):Prop:=PySem.W.nsIn K mainGlobals x = some (some (.ref f)) /\ Fun K x x t f d
theorem FA.cl {P:Program} {w:World} {K:FG7} {h base:Heap} {mg:Str -> Option Value} {x:Str} {t:Stmt} {f:Addr} {d:FuncData} {k:Nat} {ps:List Str} {sp:Sp} (a:FA K x t f d) (X:K.In h) (G:h.Ns mainGlobals mg) (F:FnOk P w K mg base CX0 k f d ps sp) (b:rZ K d ps []):zg P w K mg base k x ps sp:=⟨_,_,F,b,a.2.kp,PySem.W.mg_of X G a.1⟩
theorem all_mk {l:PySem.W.OpenLaw} {w:World} {K:FG7} {h:Heap} {mg:Str -> Option Value} {fa f1 f2 f3 f4 f5 f6 f7 f8 f9 f10 f11 f12 f13 f14 f15 f16 f17 f18 f19 f20 f21 f22 f23 f24 f25 f26 f27 f28 f29 f30 f31 f32 f33 f34 f35 f36 f37 f38 f39 f40 f41 f42 f43 f44 f45 f46 f47 f48 f49 f50 f51 f52 f53 f54 f55 f56 f57 f58:Addr} (X:K.In h) (G:h.Ns mainGlobals mg) (hfa:mg "law" = some (.ref fa))
    {d1 d2 d3 d4 d5 d6 d7 d8 d9 d10 d11 d12 d13 d14 d15 d16 d17 d18 d19 d20 d21 d22 d23 d24 d25 d26 d27 d28 d29 d30 d31 d32 d33 d34 d35 d36 d37 d38 d39 d40 d41 d42 d43 d44 d45 d46 d47 d48 d49 d50 d51 d52 d53 d54 d55 d56 d57 d58:FuncData}
 (h1:FA K "_law_are_rows" ((top 72)) f1 d1)
 (h2:FA K "figure" ((top 18)) f2 d2)
 (h3:FA K "with_figure" ((top 19)) f3 d3)
 (h4:FA K "onward" ((top 20)) f4 d4)
 (h5:FA K "way_of" ((top 22)) f5 d5)
 (h6:FA K "is_whole" ((top 9)) f6 d6)
 (h7:FA K "is_within" ((top 10)) f7 d7)
 (h8:FA K "is_line" ((top 15)) f8 d8)
 (h9:FA K "need_side" ((top 17)) f9 d9)
 (h10:FA K "need_hand" ((top 16)) f10 d10)
 (h11:FA K "need_net" ((top 14)) f11 d11)
 (h12:FA K "way" ((top 23)) f12 d12)
 (h13:FA K "_law_unlike_boxes" ((top 74)) f13 d13)
 (h14:FA K "counted_on" ((top 59)) f14 d14)
 (h15:FA K "tidy" ((top 31)) f15 d15)
 (h16:FA K "made" ((top 30)) f16 d16)
 (h17:FA K "joined" ((top 32)) f17 d17)
 (h18:FA K "switch_at" ((top 21)) f18 d18)
 (h19:FA K "side_for" ((top 53)) f19 d19)
 (h20:FA K "in_order" ((top 55)) f20 d20)
 (h21:FA K "pass_stage" ((top 56)) f21 d21)
 (h22:FA K "pass_net" ((top 57)) f22 d22)
 (h23:FA K "switches_in_a_stage" ((top 42)) f23 d23)
 (h24:FA K "straight" ((top 46)) f24 d24)
 (h25:FA K "is_end" ((top 28)) f25 d25)
 (h26:FA K "is_deed" ((top 29)) f26 d26)
 (h27:FA K "is_ask" ((top 38)) f27 d27)
 (h28:FA K "is_board" ((top 36)) f28 d28)
 (h29:FA K "need_board" ((top 37)) f29 d29)
 (h30:FA K "are_asks" ((top 39)) f30 d30)
 (h31:FA K "need_asks" ((top 40)) f31 d31)
 (h32:FA K "need_round" ((top 54)) f32 d32)
 (h33:FA K "joined_loads" ((top 60)) f33 d33)
 (h34:FA K "_law_joined_right" ((top 75)) f34 d34)
 (h35:FA K "shared_line" ((top 25)) f35 d35)
 (h36:FA K "need_pairs" ((top 24)) f36 d36)
 (h37:FA K "first_shared" ((top 26)) f37 d37)
 (h38:FA K "_law_first_full" ((top 73)) f38 d38)
 (h39:FA K "_law_due" ((top 71)) f39 d39)
 (h40:FA K "plain_loads" ((top 61)) f40 d40)
 (h41:FA K "_law_loads_right" ((top 76)) f41 d41)
 (h42:FA K "_law_rich" ((top 63)) f42 d42)
 (h43:FA K "_law_take" ((top 65)) f43 d43)
 (h44:FA K "marks_by" ((top 50)) f44 d44)
 (h45:FA K "need_sides" ((top 49)) f45 d45)
 (h46:FA K "settings_for" ((top 51)) f46 d46)
 (h47:FA K "_law_mixed" ((top 69)) f47 d47)
 (h48:FA K "_law_deed" ((top 70)) f48 d48)
 (h49:FA K "out_line" ((top 47)) f49 d49)
 (h50:FA K "are_marks" ((top 43)) f50 d50)
 (h51:FA K "is_settings" ((top 44)) f51 d51)
 (h52:FA K "need_settings" ((top 45)) f52 d52)
 (h53:FA K "led" ((top 48)) f53 d53)
 (h54:FA K "_law_settings" ((top 66)) f54 d54)
 (h55:FA K "_law_sides" ((top 67)) f55 d55)
 (h56:FA K "_law_boxes" ((top 68)) f56 d56)
 (h57:FA K "_law_purse" ((top 64)) f57 d57)
 (h58:FA K "law" ((top 77)) f58 d58)
    {t_DEEPEST:Tok} (ga_DEEPEST:PySem.W.nsIn K mainGlobals "DEEPEST" = some (some (.int 4 t_DEEPEST)))
    {t_LAST_HAND:Tok} (ga_LAST_HAND:PySem.W.nsIn K mainGlobals "LAST_HAND" = some (some (.int 15 t_LAST_HAND)))
    {t_MOST_BOXES:Tok} (ga_MOST_BOXES:PySem.W.nsIn K mainGlobals "MOST_BOXES" = some (some (.int 16 t_MOST_BOXES)))
    {t_MOST_PAIRS:Tok} (ga_MOST_PAIRS:PySem.W.nsIn K mainGlobals "MOST_PAIRS" = some (some (.int 40 t_MOST_PAIRS)))
    (ga_any:PySem.W.nsIn K mainGlobals "any" = some none)
    (ga_enumerate:PySem.W.nsIn K mainGlobals "enumerate" = some none)
    (ga_set:PySem.W.nsIn K mainGlobals "set" = some none)
    (ga_sorted:PySem.W.nsIn K mainGlobals "sorted" = some none)
    (ga_zip:PySem.W.nsIn K mainGlobals "zip" = some none)
    (z_abs:PySem.W.nsIn K mainGlobals "abs" = some none)
    (z_len:PySem.W.nsIn K mainGlobals "len" = some none)
    (z_max:PySem.W.nsIn K mainGlobals "max" = some none)
    (z_min:PySem.W.nsIn K mainGlobals "min" = some none)
    (z_divmod:PySem.W.nsIn K mainGlobals "divmod" = some none)
    (z_repr:PySem.W.nsIn K mainGlobals "repr" = some none)
    (z_isinstance:PySem.W.nsIn K mainGlobals "isinstance" = some none)
    (z_all:PySem.W.nsIn K mainGlobals "all" = some none)
    (z_range:PySem.W.nsIn K mainGlobals "range" = some none)
    (z_int:PySem.W.nsIn K mainGlobals "int" = some none)
    (z_bool:PySem.W.nsIn K mainGlobals "bool" = some none)
    (z_str:PySem.W.nsIn K mainGlobals "str" = some none)
    (z_tuple:PySem.W.nsIn K mainGlobals "tuple" = some none)
    (z_list:PySem.W.nsIn K mainGlobals "list" = some none)
    (z_dict:PySem.W.nsIn K mainGlobals "dict" = some none)
    :
    ∃ fd:FuncData,(∀ (s:Shared) (v:Value),BindsTo s fd ⟨[v],[]⟩ [("_law_script",v)]) /\ ∀ base:Heap,K.In base -> base.Ns mainGlobals mg -> FnOk l.prog w K mg base CX0 11 fa fd ["_law_script"] (jh K):=by
  have e:=hfa.symm.trans (PySem.W.mg_of X G h58.1)
  cases e
  have B:Blt mg:=⟨PySem.W.mg_none_of X G z_abs,PySem.W.mg_none_of X G z_len,PySem.W.mg_none_of X G z_max,PySem.W.mg_none_of X G z_min,PySem.W.mg_none_of X G z_divmod,PySem.W.mg_none_of X G z_repr,PySem.W.mg_none_of X G z_isinstance,PySem.W.mg_none_of X G z_all,PySem.W.mg_none_of X G z_range,PySem.W.mg_none_of X G z_int,PySem.W.mg_none_of X G z_bool,PySem.W.mg_none_of X G z_str,PySem.W.mg_none_of X G z_tuple,PySem.W.mg_none_of X G z_list,PySem.W.mg_none_of X G z_dict⟩
  obtain ⟨oc,od,kV,dc,pm,an,cd,ct,sl,rfl,lk,hc⟩:=h58.2.ex
  refine ⟨PySem.W.fnOf "law" "law" (v7 (top 77)) (vo (top 77)) (zf (top 77)) .none kV dc pm an cd ct,fun s v=>.of_eq rfl,fun base _ _=>?_⟩
  have C1:zg l.prog w K mg base 1 _ _ _:=h1.cl X G (vQ h1.2 B    (PySem.W.mg_none_of X G ga_any)  ) (h1.2.binds fun _ _ _ _ _ _ us hl=>by obtain ⟨_,_,rfl⟩:=zC hl; rfl)
  have C2:zg l.prog w K mg base 1 _ _ _:=h2.cl X G (YQ h2.2 B      ) (h2.2.binds fun _ _ _ _ _ _ us hl=>by obtain ⟨_,_,_,rfl⟩:=yQ hl; rfl)
  have C3:zg l.prog w K mg base 2 _ _ _:=h3.cl X G (uN h3.2 B   (C2.mono (by decide))   ) (h3.2.binds fun _ _ _ _ _ _ us hl=>by obtain ⟨_,_,_,_,rfl⟩:=uI hl; rfl)
  have C4:zg l.prog w K mg base 3 _ _ _:=h4.cl X G (YS h4.2 B   (C3.mono (by decide)) (C2.mono (by decide))   ) (h4.2.binds fun _ _ _ _ _ _ us hl=>by obtain ⟨_,_,_,_,rfl⟩:=uI hl; rfl)
  have C5:zg l.prog w K mg base 4 _ _ _:=h5.cl X G (YT h5.2 B   (C4.mono (by decide))   ) (h5.2.binds fun _ _ _ _ _ _ us hl=>by obtain ⟨_,_,_,rfl⟩:=yQ hl; rfl)
  have C6:zg l.prog w K mg base 1 _ _ _:=h6.cl X G (qG h6.2 B      ) (h6.2.binds fun _ _ _ _ _ _ us hl=>by obtain ⟨_,rfl⟩:=xB hl; rfl)
  have C7:zg l.prog w K mg base 2 _ _ _:=h7.cl X G (rG h7.2 B   (C6.mono (by decide))   ) (h7.2.binds fun _ _ _ _ _ _ us hl=>by obtain ⟨_,_,_,rfl⟩:=yQ hl; rfl)
  have C8:zg l.prog w K mg base 3 _ _ _:=h8.cl X G (Zs h8.2 B   (C7.mono (by decide))   ) (h8.2.binds fun _ _ _ _ _ _ us hl=>by obtain ⟨_,_,rfl⟩:=zC hl; rfl)
  have C9:zg l.prog w K mg base 4 _ _ _:=h9.cl X G (rJ h9.2 B   (C8.mono (by decide))   ) (h9.2.binds fun _ _ _ _ _ _ us hl=>by obtain ⟨_,_,rfl⟩:=zC hl; rfl)
  have C10:zg l.prog w K mg base 4 _ _ _:=h10.cl X G (rL h10.2 B   (C8.mono (by decide))   ) (h10.2.binds fun _ _ _ _ _ _ us hl=>by obtain ⟨_,_,rfl⟩:=zC hl; rfl)
  have C11:zg l.prog w K mg base 3 _ _ _:=h11.cl X G (qI h11.2 B   (C7.mono (by decide))  (PySem.W.mg_of X G ga_DEEPEST) ) (h11.2.binds fun _ _ _ _ _ _ us hl=>by obtain ⟨_,rfl⟩:=xB hl; rfl)
  have C12:zg l.prog w K mg base 5 _ _ _:=h12.cl X G (V6 h12.2 B   (C5.mono (by decide)) (C9.mono (by decide)) (C10.mono (by decide)) (C11.mono (by decide))   ) (h12.2.binds fun _ _ _ _ _ _ us hl=>by obtain ⟨_,_,_,rfl⟩:=yQ hl; rfl)
  have C13:zg l.prog w K mg base 6 _ _ _:=h13.cl X G (wG h13.2 B   (C12.mono (by decide)) (PySem.W.mg_none_of X G ga_enumerate)  ) (h13.2.binds fun _ _ _ _ _ _ us hl=>by obtain ⟨_,_,rfl⟩:=zC hl; rfl)
  have C14:zg l.prog w K mg base 1 _ _ _:=h14.cl X G (t5 h14.2 B      ) (h14.2.binds fun _ _ _ _ _ _ us hl=>by obtain ⟨_,_,rfl⟩:=zC hl; rfl)
  have C15:zg l.prog w K mg base 1 _ _ _:=h15.cl X G (ZW h15.2 B      ) (h15.2.binds fun _ _ _ _ _ _ us hl=>by obtain ⟨_,_,_,rfl⟩:=yQ hl; rfl)
  have C16:zg l.prog w K mg base 1 _ _ _:=h16.cl X G (W4 h16.2 B      ) (h16.2.binds fun _ _ _ _ _ _ us hl=>by obtain ⟨_,_,rfl⟩:=zC hl; rfl)
  have C17:zg l.prog w K mg base 2 _ _ _:=h17.cl X G (YU h17.2 B   (C15.mono (by decide)) (C16.mono (by decide))   ) (h17.2.binds fun _ _ _ _ _ _ us hl=>by obtain ⟨_,_,rfl⟩:=zC hl; rfl)
  have C18:zg l.prog w K mg base 1 _ _ _:=h18.cl X G (rM h18.2 B      ) (h18.2.binds fun _ _ _ _ _ _ us hl=>by obtain ⟨_,_,_,rfl⟩:=yQ hl; rfl)
  have C19:zg l.prog w K mg base 1 _ _ _:=h19.cl X G (qK h19.2 B      ) (h19.2.binds fun _ _ _ _ _ _ us hl=>by obtain ⟨_,_,rfl⟩:=zC hl; rfl)
  have C20:zg l.prog w K mg base 3 _ _ _:=h20.cl X G (qL h20.2 B   (C3.mono (by decide)) (C18.mono (by decide))   ) (h20.2.binds fun _ _ _ _ _ _ us hl=>by obtain ⟨_,_,_,_,rfl⟩:=uI hl; rfl)
  have C21:zg l.prog w K mg base 4 _ _ _:=h21.cl X G (t6 h21.2 B   (C17.mono (by decide)) (C18.mono (by decide)) (C4.mono (by decide)) (C19.mono (by decide)) (C20.mono (by decide))   ) (h21.2.binds fun _ _ _ _ _ _ us hl=>by obtain ⟨_,_,_,_,rfl⟩:=uI hl; rfl)
  have C22:zg l.prog w K mg base 5 _ _ _:=h22.cl X G (qM h22.2 B   (C21.mono (by decide))   ) (h22.2.binds fun _ _ _ _ _ _ us hl=>by obtain ⟨_,_,_,rfl⟩:=yQ hl; rfl)
  have C23:zg l.prog w K mg base 1 _ _ _:=h23.cl X G (wd h23.2 B      ) (h23.2.binds fun _ _ _ _ _ _ us hl=>by obtain ⟨_,rfl⟩:=xB hl; rfl)
  have C24:zg l.prog w K mg base 4 _ _ _:=h24.cl X G (qO h24.2 B   (C23.mono (by decide)) (C11.mono (by decide))   ) (h24.2.binds fun _ _ _ _ _ _ us hl=>by obtain ⟨_,rfl⟩:=xB hl; rfl)
  have C25:zg l.prog w K mg base 2 _ _ _:=h25.cl X G (YW h25.2 B   (C6.mono (by decide))   ) (h25.2.binds fun _ _ _ _ _ _ us hl=>by obtain ⟨_,rfl⟩:=xB hl; rfl)
  have C26:zg l.prog w K mg base 3 _ _ _:=h26.cl X G (Zt h26.2 B   (C25.mono (by decide)) (C6.mono (by decide))   ) (h26.2.binds fun _ _ _ _ _ _ us hl=>by obtain ⟨_,rfl⟩:=xB hl; rfl)
  have C27:zg l.prog w K mg base 4 _ _ _:=h27.cl X G (YX h27.2 B   (C26.mono (by decide)) (C7.mono (by decide))  (PySem.W.mg_of X G ga_LAST_HAND) ) (h27.2.binds fun _ _ _ _ _ _ us hl=>by obtain ⟨_,_,rfl⟩:=zC hl; rfl)
  have C28:zg l.prog w K mg base 2 _ _ _:=h28.cl X G (qQ h28.2 B   (C6.mono (by decide))  (PySem.W.mg_of X G ga_MOST_BOXES) ) (h28.2.binds fun _ _ _ _ _ _ us hl=>by obtain ⟨_,rfl⟩:=xB hl; rfl)
  have C29:zg l.prog w K mg base 3 _ _ _:=h29.cl X G (t8 h29.2 B   (C28.mono (by decide))   ) (h29.2.binds fun _ _ _ _ _ _ us hl=>by obtain ⟨_,rfl⟩:=xB hl; rfl)
  have C30:zg l.prog w K mg base 5 _ _ _:=h30.cl X G (qS h30.2 B   (C27.mono (by decide)) (C29.mono (by decide))   ) (h30.2.binds fun _ _ _ _ _ _ us hl=>by obtain ⟨_,_,rfl⟩:=zC hl; rfl)
  have C31:zg l.prog w K mg base 6 _ _ _:=h31.cl X G (rO h31.2 B   (C30.mono (by decide))   ) (h31.2.binds fun _ _ _ _ _ _ us hl=>by obtain ⟨_,_,rfl⟩:=zC hl; rfl)
  have C32:zg l.prog w K mg base 7 _ _ _:=h32.cl X G (se h32.2 B   (C8.mono (by decide)) (C31.mono (by decide)) (C11.mono (by decide)) (PySem.W.mg_none_of X G ga_set)  ) (h32.2.binds fun _ _ _ _ _ _ us hl=>by obtain ⟨_,_,_,rfl⟩:=yQ hl; rfl)
  have C33:zg l.prog w K mg base 8 _ _ _:=h33.cl X G (uD h33.2 B   (C14.mono (by decide)) (C22.mono (by decide)) (C24.mono (by decide)) (C32.mono (by decide))   ) (h33.2.binds fun _ _ _ _ _ _ us hl=>by obtain ⟨_,_,_,rfl⟩:=yQ hl; rfl)
  have C34:zg l.prog w K mg base 9 _ _ _:=h34.cl X G (wH h34.2 B   (C1.mono (by decide)) (C13.mono (by decide)) (C33.mono (by decide)) (PySem.W.mg_none_of X G ga_set)  ) (h34.2.binds fun _ _ _ _ _ _ us hl=>by obtain ⟨_,_,_,rfl⟩:=yQ hl; rfl)
  have C35:zg l.prog w K mg base 5 _ _ _:=h35.cl X G (uO h35.2 B   (C5.mono (by decide)) (PySem.W.mg_none_of X G ga_zip) (PySem.W.mg_none_of X G ga_sorted)  ) (h35.2.binds fun _ _ _ _ _ _ us hl=>by obtain ⟨_,_,rfl⟩:=zC hl; rfl)
  have C36:zg l.prog w K mg base 5 _ _ _:=h36.cl X G (sf h36.2 B   (C9.mono (by decide)) (C10.mono (by decide))  (PySem.W.mg_of X G ga_MOST_PAIRS) ) (h36.2.binds fun _ _ _ _ _ _ us hl=>by obtain ⟨_,_,rfl⟩:=zC hl; rfl)
  have C37:zg l.prog w K mg base 6 _ _ _:=h37.cl X G (uF h37.2 B   (C35.mono (by decide)) (C36.mono (by decide)) (C11.mono (by decide))   ) (h37.2.binds fun _ _ _ _ _ _ us hl=>by obtain ⟨_,_,rfl⟩:=zC hl; rfl)
  have C38:zg l.prog w K mg base 1 _ _ _:=h38.cl X G (vh h38.2 B    (PySem.W.mg_none_of X G ga_enumerate)  ) (h38.2.binds fun _ _ _ _ _ _ us hl=>by obtain ⟨_,rfl⟩:=xB hl; rfl)
  have C39:zg l.prog w K mg base 6 _ _ _:=h39.cl X G (qT h39.2 B   (C12.mono (by decide)) (PySem.W.mg_none_of X G ga_enumerate)  ) (h39.2.binds fun _ _ _ _ _ _ us hl=>by obtain ⟨_,_,rfl⟩:=zC hl; rfl)
  have C40:zg l.prog w K mg base 8 _ _ _:=h40.cl X G (uP h40.2 B   (C14.mono (by decide)) (C5.mono (by decide)) (C19.mono (by decide)) (C32.mono (by decide))   ) (h40.2.binds fun _ _ _ _ _ _ us hl=>by obtain ⟨_,_,_,rfl⟩:=yQ hl; rfl)
  have C41:zg l.prog w K mg base 10 _ _ _:=h41.cl X G (wP h41.2 B   (C34.mono (by decide)) (C33.mono (by decide)) (C37.mono (by decide)) (C38.mono (by decide)) (C1.mono (by decide)) (C39.mono (by decide)) (C40.mono (by decide))   ) (h41.2.binds fun _ _ _ _ _ _ us hl=>by obtain ⟨_,_,_,rfl⟩:=yQ hl; rfl)
  have C42:zg l.prog w K mg base 1 _ _ _:=h42.cl X G (rP h42.2 B    (PySem.W.mg_none_of X G ga_enumerate)  ) (h42.2.binds fun _ _ _ _ _ _ us hl=>by obtain ⟨_,_,rfl⟩:=zC hl; rfl)
  have C43:zg l.prog w K mg base 2 _ _ _:=h43.cl X G (rQ h43.2 B   (C42.mono (by decide))   ) (h43.2.binds fun _ _ _ _ _ _ us hl=>by obtain ⟨_,_,rfl⟩:=zC hl; rfl)
  have C44:zg l.prog w K mg base 2 _ _ _:=h44.cl X G (qU h44.2 B   (C18.mono (by decide)) (C2.mono (by decide)) (C23.mono (by decide))   ) (h44.2.binds fun _ _ _ _ _ _ us hl=>by obtain ⟨_,_,_,rfl⟩:=yQ hl; rfl)
  have C45:zg l.prog w K mg base 4 _ _ _:=h45.cl X G (sg h45.2 B   (C8.mono (by decide))   ) (h45.2.binds fun _ _ _ _ _ _ us hl=>by obtain ⟨_,_,rfl⟩:=zC hl; rfl)
  have C46:zg l.prog w K mg base 6 _ _ _:=h46.cl X G (uG h46.2 B   (C44.mono (by decide)) (C5.mono (by decide)) (C35.mono (by decide)) (C45.mono (by decide)) (C11.mono (by decide)) (PySem.W.mg_none_of X G ga_enumerate)  ) (h46.2.binds fun _ _ _ _ _ _ us hl=>by obtain ⟨_,_,rfl⟩:=zC hl; rfl)
  have C47:zg l.prog w K mg base 3 _ _ _:=h47.cl X G (sh h47.2 B   (C43.mono (by decide))   ) (h47.2.binds fun _ _ _ _ _ _ us hl=>by obtain ⟨_,_,rfl⟩:=zC hl; rfl)
  have C48:zg l.prog w K mg base 3 _ _ _:=h48.cl X G (rR h48.2 B   (C43.mono (by decide))   ) (h48.2.binds fun _ _ _ _ _ _ us hl=>by obtain ⟨_,rfl⟩:=xB hl; rfl)
  have C49:zg l.prog w K mg base 3 _ _ _:=h49.cl X G (qV h49.2 B   (C3.mono (by decide)) (C2.mono (by decide)) (C18.mono (by decide))   ) (h49.2.binds fun _ _ _ _ _ _ us hl=>by obtain ⟨_,_,_,_,rfl⟩:=uI hl; rfl)
  have C50:zg l.prog w K mg base 3 _ _ _:=h50.cl X G (rT h50.2 B   (C7.mono (by decide)) (C23.mono (by decide))   ) (h50.2.binds fun _ _ _ _ _ _ us hl=>by obtain ⟨_,_,rfl⟩:=zC hl; rfl)
  have C51:zg l.prog w K mg base 4 _ _ _:=h51.cl X G (uR h51.2 B   (C50.mono (by decide)) (C11.mono (by decide))   ) (h51.2.binds fun _ _ _ _ _ _ us hl=>by obtain ⟨_,_,rfl⟩:=zC hl; rfl)
  have C52:zg l.prog w K mg base 5 _ _ _:=h52.cl X G (vS h52.2 B   (C51.mono (by decide))   ) (h52.2.binds fun _ _ _ _ _ _ us hl=>by obtain ⟨_,_,rfl⟩:=zC hl; rfl)
  have C53:zg l.prog w K mg base 6 _ _ _:=h53.cl X G (V7 h53.2 B   (C49.mono (by decide)) (C52.mono (by decide))   ) (h53.2.binds fun _ _ _ _ _ _ us hl=>by obtain ⟨_,_,rfl⟩:=zC hl; rfl)
  have C54:zg l.prog w K mg base 3 _ _ _:=h54.cl X G (vT h54.2 B   (C43.mono (by decide))   ) (h54.2.binds fun _ _ _ _ _ _ us hl=>by obtain ⟨_,_,rfl⟩:=zC hl; rfl)
  have C55:zg l.prog w K mg base 7 _ _ _:=h55.cl X G (si h55.2 B   (C43.mono (by decide)) (C53.mono (by decide)) (C54.mono (by decide))   ) (h55.2.binds fun _ _ _ _ _ _ us hl=>by obtain ⟨_,_,rfl⟩:=zC hl; rfl)
  have C56:zg l.prog w K mg base 8 _ _ _:=h56.cl X G (sr h56.2 B   (C55.mono (by decide)) (C43.mono (by decide))   ) (h56.2.binds fun _ _ _ _ _ _ us hl=>by obtain ⟨_,_,rfl⟩:=zC hl; rfl)
  have C57:zg l.prog w K mg base 1 _ _ _:=h57.cl X G (ss h57.2 B      ) (h57.2.binds fun _ _ _ _ _ _ us hl=>by obtain ⟨_,_,rfl⟩:=zC hl; rfl)
  exact V8 (P:=l.prog) (w:=w) (base:=base) (n:=10) h58.2 B   (C41.mono (by decide)) (C43.mono (by decide)) (C46.mono (by decide)) (C38.mono (by decide)) (C40.mono (by decide)) (C47.mono (by decide)) (C48.mono (by decide)) (C56.mono (by decide)) (C57.mono (by decide)) (PySem.W.mg_none_of X G ga_enumerate)
theorem walk {l:PySem.W.OpenLaw} {q:Program} {loose:List Str} {XP:(Str -> Option Value) -> Heap -> Prop} {YP:World -> Heap -> Prop} {d:DefRec} {K:Params -> FG7} (hn:l.most = some 63) (hdf:d.params.defaults = [])
  (hY:∀ (w:World) (h:Heap),YP w h -> (K w.params).In h)
  (F:∀ (w:World) (mg:Str -> Option Value) (fa:Addr) (h:Heap),(K w.params).In h -> h.Ns mainGlobals mg -> mg d.name = some (.ref fa) →
   ∃ fd:FuncData,(∀ (s:Shared) (u:Value),BindsTo s fd ⟨[u],[]⟩ [("_law_script",u)]) /\ ∀ base:Heap,(K w.params).In base -> base.Ns mainGlobals mg -> FnOk l.prog w (K w.params) mg base CX0 11 fa fd ["_law_script"] (jh (K w.params))) :
  PySem.W.WalkO q loose XP YP l.row.toRowW d [] (fun f vs=>PySem.call f vs) :=
 L2.walk_of (n:=63) (k:=11) (x:="_law_script") (CX:=fun _=>CX0) (sp:=fun w=>jh (K w.params)) hn (by decide) hdf ⟨rfl,by decide,by decide,rfl⟩ hY F (fun _ _ a ns hl hO hS=>⟨_,rfl,a,ns,rfl,Scr.of hO hS,hl,fun _=>rfl⟩) fun _ _ _ _ _ z=>z
theorem walkX {q:Program} {loose:List Str} {XP:(Str -> Option Value) -> Heap -> Prop} {K:Params -> FG7} {as:List Addr} {n t:Nat} {r:PySem.W.RowW} {d:DefRec} {kwd:List (Str × Expr)} {run:Value -> List Value -> Sem Value}
  (e:∀ P,as = (K P).map (·.1)) (W:PySem.W.WalkO q loose XP (PySem.W.InK K) r d kwd run):PySem.W.WalkX q loose XP (PySem.W.X.obsZ as) (PySem.W.X.valZ K n t) r d kwd run :=
 fun w s₀ s₁ mg mb G Y a o pm cd doc dV kV h2 h3 h4 h5 h6 h7 args vals as' L hpre hlay hrd hwl hlo =>
  W w s₀ s₁ mg mb G (PySem.W.InK.keeps w s₀.heap s₁.heap (PySem.W.X.z_facts e Y).2.1 L.keeps) a o pm cd doc dV kV h2 h3 h4 h5 h6 h7 args vals as' hpre hlay hrd hwl hlo
end My
open PySem PySem.W PyProof.Rows
def PySem.W.Fast.tw16996055153704904818:Unit:=()
def PySem.W.Fast.tw7271074506405933177:Unit:=()
def PySem.W.Fast.tw1655981132800146548:Unit:=()
def PySem.W.Fast.tw1577307634237506338:Unit:=()
def PySem.W.Fast.tw8410312673409915395:Unit:=()
def PySem.W.Fast.tw13643529385209678756:Unit:=()
def PySem.W.Fast.tw14616029753849049610:Unit:=()
def PySem.W.Fast.tw9177644809789146670:Unit:=()
def PySem.W.Fast.tw7358595745746914746:Unit:=()
def PySem.W.Fast.tw14663561248735051225:Unit:=()
def PySem.W.Fast.tw2433839665628873990:Unit:=()
def PySem.W.Fast.tw11773371948361197110:Unit:=()
def PySem.W.Fast.tw1201212113328948586:Unit:=()
def PySem.W.Fast.tw14740606122582572425:Unit:=()
def PySem.W.Fast.tw17532867779528754889:Unit:=()
def PySem.W.Fast.tw4887288720636225913:Unit:=()
def PySem.W.Fast.tw13676021720756118049:Unit:=()
def PySem.W.Fast.tw9824918052010974221:Unit:=()
def PySem.W.Fast.tw6745608710243971010:Unit:=()
def PySem.W.Fast.tw4704142045331636113:Unit:=()
def PySem.W.Fast.tw6124107262197155857:Unit:=()
def PySem.W.Fast.tw1015652631509502522:Unit:=()
def PySem.W.Fast.tw12403113242248791670:Unit:=()
def PySem.W.Fast.tw16751671000429981991:Unit:=()
def PySem.W.Fast.tw15588521640372047410:Unit:=()
def PySem.W.Fast.tw5625015598309418791:Unit:=()
def PySem.W.Fast.tw17161617607100713642:Unit:=()
def PySem.W.Fast.tw13123832237771194206:Unit:=()
def PySem.W.Fast.tw7289337145759020632:Unit:=()
def PySem.W.Fast.tw9027361195483489687:Unit:=()
def PySem.W.Fast.tw236647013888814623:Unit:=()
def PySem.W.Fast.tw12808942833514504138:Unit:=()
def PySem.W.Fast.tw16711541876009490454:Unit:=()
def PySem.W.Fast.tw11560879802404092592:Unit:=()
def PySem.W.Fast.tw18132809519478448367:Unit:=()
def PySem.W.Fast.tw10827144943973274592:Unit:=()
def PySem.W.Fast.tw12560613615517695596:Unit:=()
def PySem.W.Fast.tw1174406991445304594:Unit:=()
def PySem.W.Fast.tw17640870466282502797:Unit:=()
def PySem.W.Fast.tw7451062371750446680:Unit:=()
def PySem.W.Fast.tw8849298452063024445:Unit:=()
def PySem.W.Fast.tw17618049660044618146:Unit:=()
def PySem.W.Fast.tw9927137993923662406:Unit:=()
def PySem.W.Fast.tw7298161427012748391:Unit:=()
def PySem.W.Fast.tw10425476979849719442:Unit:=()
def PySem.W.Fast.tw9282458473867978159:Unit:=()
def PySem.W.Fast.tw2030437034154906115:Unit:=()
def PySem.W.Fast.tw6910473430857500303:Unit:=()
def PySem.W.Fast.tw2438345145094373119:Unit:=()
def PySem.W.Fast.tw2715522955059524586:Unit:=()
def PySem.W.Fast.tw6995255845192412557:Unit:=()
def PySem.W.Fast.tw3721962187559630947:Unit:=()
def PySem.W.Fast.tw14883700642117110343:Unit:=()
def PySem.W.Fast.tw4010571105229360076:Unit:=()
def PySem.W.Fast.tw15075858504882348020:Unit:=()
def PySem.W.Fast.tw2994254238619605997:Unit:=()
def PySem.W.Fast.tw10872556147251350093:Unit:=()
def PySem.W.Fast.tw17631571812646100326:Unit:=()
def PySem.W.Fast.tw12223128908351979621:Unit:=()
def PySem.W.Fast.tw16543815522055412092:Unit:=()
def PySem.W.Fast.tw15462478935707650653:Unit:=()
def PySem.W.Fast.tw4691794721749935133:Unit:=()
def PySem.W.Fast.tw3581393315317587458:Unit:=()
def PySem.W.Fast.tw9515336876876715922:Unit:=()
def PySem.W.Fast.tw6212798888207881789:Unit:=()
def PySem.W.Fast.tw11010505497144714402:Unit:=()
def PySem.W.Fast.tw10263657863706757552:Unit:=()
def PySem.W.Fast.tw15020232907477320553:Unit:=()
def PySem.W.Fast.tw15427301416706386761:Unit:=()
def PySem.W.Fast.tw14945384877411732106:Unit:=()
def PySem.W.Fast.tw18028273705152947951:Unit:=()
def PySem.W.Fast.tw10715376487299875579:Unit:=()
def PySem.W.Fast.tw12487380217400084643:Unit:=()
def PySem.W.Fast.tw12996994520781463311:Unit:=()
def PySem.W.Fast.tw12762728901361321066:Unit:=()
def PySem.W.Fast.tw1958283722511497054:Unit:=()
def PySem.W.Fast.tw14005074978041931589:Unit:=()
def PySem.W.Fast.tw2919511890639272455:Unit:=()
def PySem.W.Fast.tw5323077377114047983:Unit:=()
def PySem.W.Fast.tw4664265968424660851:Unit:=()
def PySem.W.Fast.tw157908931966481073:Unit:=()
def PySem.W.Fast.tw17886289337173702807:Unit:=()
def PySem.W.Fast.tw12418480152929109248:Unit:=()
def PySem.W.Fast.tw16352357610154066295:Unit:=()
def PySem.W.Fast.tw17646456118926588668:Unit:=()
def PySem.W.Fast.tw10834135178113815426:Unit:=()
def PySem.W.Fast.tw12503297104259475307:Unit:=()
def PySem.W.Fast.tw12703162490638767563:Unit:=()
def PySem.W.Fast.tw10618261740640138653:Unit:=()
def PySem.W.Fast.tw11577586725935930228:Unit:=()
def PySem.W.Fast.tw7867916432065872709:Unit:=()
def PySem.W.Fast.tw8982449037788661573:Unit:=()
def PySem.W.Fast.tw5866381743062993596:Unit:=()
def PySem.W.Fast.tw3271863193477224792:Unit:=()
def PySem.W.Fast.tw7615866517559682191:Unit:=()
def PySem.W.Fast.tw14795178080863446917:Unit:=()
def PySem.W.Fast.tw181204846146305661:Unit:=()
def PySem.W.Fast.tw2060486622997747331:Unit:=()
def PySem.W.Fast.tw7875301118920414591:Unit:=()
def PySem.W.Fast.tw13722456194257371953:Unit:=()
def PySem.W.Fast.tw368794910543686965:Unit:=()
def PySem.W.Fast.tw8993631276178738471:Unit:=()
def PySem.W.Fast.tw5616847893859075944:Unit:=()
def PySem.W.Fast.tw7500395102200160505:Unit:=()
def PySem.W.Fast.tw9377899671353029058:Unit:=()
def PySem.W.Fast.tw1113069792075289688:Unit:=()
def PySem.W.Fast.tw3410124240790470009:Unit:=()
def PySem.W.Fast.tw6968962505507622308:Unit:=()
def PySem.W.Fast.tw16116146127580998105:Unit:=()
def PySem.W.Fast.tw5776206868253249182:Unit:=()
def PySem.W.Fast.tw8445857953812021889:Unit:=()
def PySem.W.Fast.tw770456472809093504:Unit:=()
def PySem.W.Fast.tw18281254715048199403:Unit:=()
def PySem.W.Fast.tw13314312059595114642:Unit:=()
def PySem.W.Fast.tw6247950286104165128:Unit:=()
def PySem.W.Fast.tw17559370396600897600:Unit:=()
def PySem.W.Fast.tw12231874083067869494:Unit:=()
def PySem.W.Fast.tw16087933758472200986:Unit:=()
def PySem.W.Fast.tw4777241959779774170:Unit:=()
def PySem.W.Fast.tw16853329928494426254:Unit:=()
def PySem.W.Fast.tw13822162858762558168:Unit:=()
def PySem.W.Fast.tw2710405941620248789:Unit:=()
def PySem.W.Fast.tw882961388103454269:Unit:=()
def PySem.W.Fast.tw10763768337180326132:Unit:=()
def PySem.W.Fast.tw8678231057880739425:Unit:=()
def PySem.W.Fast.tw1804391462651512385:Unit:=()
def PySem.W.Fast.tw1211751258220041446:Unit:=()
def PySem.W.Fast.tw9652303110224008683:Unit:=()
def PySem.W.Fast.tw3453075153304293512:Unit:=()
def PySem.W.Fast.tw5007231858718464933:Unit:=()
def PySem.W.Fast.tw16001946991270402395:Unit:=()
def PySem.W.Fast.tw8561386665277569158:Unit:=()
def PySem.W.Fast.tw6753928240023900014:Unit:=()
def PySem.W.Fast.tw7286815304331790465:Unit:=()
def PySem.W.Fast.tw6284045827715851868:Unit:=()
def PySem.W.Fast.tw18309654157232575911:Unit:=()
def PySem.W.Fast.tw890949620098969751:Unit:=()
def PySem.W.Fast.tw15700062297057958428:Unit:=()
def PySem.W.Fast.tw7518035541065536648:Unit:=()
def PySem.W.Fast.tw1407428165335521626:Unit:=()
def PySem.W.Fast.tw9878224374198339340:Unit:=()
def PySem.W.Fast.tw13413259159107146885:Unit:=()
def PySem.W.Fast.tw1282646332562999642:Unit:=()
def PySem.W.Fast.tw14548692935413199709:Unit:=()
def PySem.W.Fast.tw13455934796510033465:Unit:=()
def PySem.W.Fast.tw4221715872863379776:Unit:=()
def PySem.W.Fast.tw7889582386396888406:Unit:=()
def PySem.W.Fast.tw6235019219016338193:Unit:=()
def PySem.W.Fast.tw1834260305045237328:Unit:=()
def PySem.W.Fast.tw5655856684196803934:Unit:=()
def PySem.W.Fast.tw2344705665504142315:Unit:=()
def PySem.W.Fast.tw14551342543903110711:Unit:=()
def PySem.W.Fast.tw10133946125383766890:Unit:=()
def PySem.W.Fast.tw8992892393107679353:Unit:=()
def PySem.W.Fast.tw11458988318991502027:Unit:=()
def PySem.W.Fast.tw16688700600650696979:Unit:=()
def PySem.W.Fast.tw18209761778887948601:Unit:=()
def PySem.W.Fast.tw1255649597374538051:Unit:=()
def PySem.W.Fast.tw17184897738160569454:Unit:=()
def PySem.W.Fast.tw12410741456760158081:Unit:=()
def PySem.W.Fast.tw2517639860575434016:Unit:=()
def PySem.W.Fast.tw9030977926580579605:Unit:=()
def PySem.W.Fast.tw13247645654792772068:Unit:=()
def PySem.W.Fast.tw16650327221784322595:Unit:=()
def PySem.W.Fast.tw16376985391092144010:Unit:=()
def PySem.W.Fast.tw17072703652439597877:Unit:=()
def PySem.W.Fast.tw17011365242121867169:Unit:=()
def PySem.W.Fast.tw8140216291840190105:Unit:=()
def PySem.W.Fast.tw17243569427402422738:Unit:=()
def PySem.W.Fast.tw11514434333791235664:Unit:=()
def PySem.W.Fast.tw16426496158309321605:Unit:=()
def PySem.W.Fast.tw12303817408173413732:Unit:=()
def PySem.W.Fast.tw12793352590264699310:Unit:=()
def PySem.W.Fast.tw9113564841694986718:Unit:=()
def PySem.W.Fast.tw11934787118088501194:Unit:=()
def PySem.W.Fast.tw2326680054494763109:Unit:=()
def PySem.W.Fast.tw16312450986387564635:Unit:=()
def PySem.W.Fast.tw498624315624613973:Unit:=()
def PySem.W.Fast.tw4154933597188264076:Unit:=()
def PySem.W.Fast.tw13418582682945413930:Unit:=()
def PySem.W.Fast.tw8122624507856338117:Unit:=()
def PySem.W.Fast.tw9964184482620502980:Unit:=()
def PySem.W.Fast.tw3794994604175781586:Unit:=()
def PySem.W.Fast.tw3400009130010694507:Unit:=()
def PySem.W.Fast.tw12984714862742755455:Unit:=()
def PySem.W.Fast.tw14238351932596576155:Unit:=()
def PySem.W.Fast.tw9738520647391260905:Unit:=()
def PySem.W.Fast.tw16717266920654287711:Unit:=()
def PySem.W.Fast.tw6956821247209890150:Unit:=()
def PySem.W.Fast.tw2043934629944414195:Unit:=()
def PySem.W.Fast.tw17348411921314808458:Unit:=()
def PySem.W.Fast.tw2033065575395690751:Unit:=()
def PySem.W.Fast.tw4621459260049088548:Unit:=()
def PySem.W.Fast.tw7470744018753221589:Unit:=()
def PySem.W.Fast.tw16271180604809539917:Unit:=()
def PySem.W.Fast.tw10961009262390864307:Unit:=()
def PySem.W.Fast.tw9278963256170464793:Unit:=()
def PySem.W.Fast.tw6811366129461714324:Unit:=()
def PySem.W.Fast.tw6264052323969736760:Unit:=()
def PySem.W.Fast.tw10918864837924786484:Unit:=()
def PySem.W.Fast.tw7521768114729173317:Unit:=()
def PySem.W.Fast.tw9347980823240309261:Unit:=()
def PySem.W.Fast.tw16165201435626644476:Unit:=()
def PySem.W.Fast.tw7386088081653338519:Unit:=()
def PySem.W.Fast.tw16171477500954197391:Unit:=()
def PySem.W.Fast.tw9739431893049225172:Unit:=()
def PySem.W.Fast.tw7122880951570437142:Unit:=()
def PySem.W.Fast.tw11217111592420623038:Unit:=()
def PySem.W.Fast.tw6523403820270209814:Unit:=()
def PySem.W.Fast.tw7565461729467136500:Unit:=()
def PySem.W.Fast.tw11970274704041091678:Unit:=()
def PySem.W.Fast.tw13953594459317773401:Unit:=()
def PySem.W.Fast.tw15474064038157266033:Unit:=()
def PySem.W.Fast.tw4177553639421629404:Unit:=()
def PySem.W.Fast.tw17842503333532319259:Unit:=()
def PySem.W.Fast.tw3794877108159848177:Unit:=()
def PySem.W.Fast.tw5304994525367564148:Unit:=()
def PySem.W.Fast.tw15746441913901671566:Unit:=()
def PySem.W.Fast.tw17268000327335077399:Unit:=()
def PySem.W.Fast.tw10213857982172584440:Unit:=()
def PySem.W.Fast.tw1152005410705317221:Unit:=()
def PySem.W.Fast.tw15142204423283372665:Unit:=()
def PySem.W.Fast.tw16974965118152788657:Unit:=()
def PySem.W.Fast.tw7040401280306127306:Unit:=()
def PySem.W.Fast.tw17818058858054397515:Unit:=()
def PySem.W.Fast.tw3889348360151413313:Unit:=()
def PySem.W.Fast.tw5650889168448171356:Unit:=()
def PySem.W.Fast.tw5820805294076666870:Unit:=()
set_option maxRecDepth 100000 in
theorem PySem.Challenge.cw_joinedasks_k99_whole_loads_and_settings_holds : PySem.Challenge.rw_joinedasks_k99_whole_loads_and_settings.Holds := by
 w_on; o_law; z_head; (case hw=>w_witness2)
 refine My.walkX (fun _=>by kernel_rfl) (My.walk (l:=PySem.Challenge.rw_joinedasks_k99_whole_loads_and_settings) rfl rfl (fun w h Y=>Y) ?F)
 case F =>
  intro w mg fa h KX G hmg
  refine' My.all_mk KX G hmg       ?h1 ?h2 ?h3 ?h4 ?h5 ?h6 ?h7 ?h8 ?h9 ?h10 ?h11 ?h12 ?h13 ?h14 ?h15 ?h16 ?h17 ?h18 ?h19 ?h20 ?h21 ?h22 ?h23 ?h24 ?h25 ?h26 ?h27 ?h28 ?h29 ?h30 ?h31 ?h32 ?h33 ?h34 ?h35 ?h36 ?h37 ?h38 ?h39 ?h40 ?h41 ?h42 ?h43 ?h44 ?h45 ?h46 ?h47 ?h48 ?h49 ?h50 ?h51 ?h52 ?h53 ?h54 ?h55 ?h56 ?h57 ?h58 ?ga_DEEPEST ?ga_LAST_HAND ?ga_MOST_BOXES ?ga_MOST_PAIRS ?ga_any ?ga_enumerate ?ga_set ?ga_sorted ?ga_zip ?z_abs ?z_len ?z_max ?z_min ?z_divmod ?z_repr ?z_isinstance ?z_all ?z_range ?z_int ?z_bool ?z_str ?z_tuple ?z_list ?z_dict
  (case h1=>exact ⟨by k_is,L2.fun_mk (by k_is) (by k_is) (by k_is)⟩)
  (case h2=>exact ⟨by k_is,L2.fun_mk (by k_is) (by k_is) (by k_is)⟩)
  (case h3=>exact ⟨by k_is,L2.fun_mk (by k_is) (by k_is) (by k_is)⟩)
  (case h4=>exact ⟨by k_is,L2.fun_mk (by k_is) (by k_is) (by k_is)⟩)
  (case h5=>exact ⟨by k_is,L2.fun_mk (by k_is) (by k_is) (by k_is)⟩)
  (case h6=>exact ⟨by k_is,L2.fun_mk (by k_is) (by k_is) (by k_is)⟩)
  (case h7=>exact ⟨by k_is,L2.fun_mk (by k_is) (by k_is) (by k_is)⟩)
  (case h8=>exact ⟨by k_is,L2.fun_mk (by k_is) (by k_is) (by k_is)⟩)
  (case h9=>exact ⟨by k_is,L2.fun_mk (by k_is) (by k_is) (by k_is)⟩)
  (case h10=>exact ⟨by k_is,L2.fun_mk (by k_is) (by k_is) (by k_is)⟩)
  (case h11=>exact ⟨by k_is,L2.fun_mk (by k_is) (by k_is) (by k_is)⟩)
  (case h12=>exact ⟨by k_is,L2.fun_mk (by k_is) (by k_is) (by k_is)⟩)
  (case h13=>exact ⟨by k_is,L2.fun_mk (by k_is) (by k_is) (by k_is)⟩)
  (case h14=>exact ⟨by k_is,L2.fun_mk (by k_is) (by k_is) (by k_is)⟩)
  (case h15=>exact ⟨by k_is,L2.fun_mk (by k_is) (by k_is) (by k_is)⟩)
  (case h16=>exact ⟨by k_is,L2.fun_mk (by k_is) (by k_is) (by k_is)⟩)
  (case h17=>exact ⟨by k_is,L2.fun_mk (by k_is) (by k_is) (by k_is)⟩)
  (case h18=>exact ⟨by k_is,L2.fun_mk (by k_is) (by k_is) (by k_is)⟩)
  (case h19=>exact ⟨by k_is,L2.fun_mk (by k_is) (by k_is) (by k_is)⟩)
  (case h20=>exact ⟨by k_is,L2.fun_mk (by k_is) (by k_is) (by k_is)⟩)
  (case h21=>exact ⟨by k_is,L2.fun_mk (by k_is) (by k_is) (by k_is)⟩)
  (case h22=>exact ⟨by k_is,L2.fun_mk (by k_is) (by k_is) (by k_is)⟩)
  (case h23=>exact ⟨by k_is,L2.fun_mk (by k_is) (by k_is) (by k_is)⟩)
  (case h24=>exact ⟨by k_is,L2.fun_mk (by k_is) (by k_is) (by k_is)⟩)
  (case h25=>exact ⟨by k_is,L2.fun_mk (by k_is) (by k_is) (by k_is)⟩)
  (case h26=>exact ⟨by k_is,L2.fun_mk (by k_is) (by k_is) (by k_is)⟩)
  (case h27=>exact ⟨by k_is,L2.fun_mk (by k_is) (by k_is) (by k_is)⟩)
  (case h28=>exact ⟨by k_is,L2.fun_mk (by k_is) (by k_is) (by k_is)⟩)
  (case h29=>exact ⟨by k_is,L2.fun_mk (by k_is) (by k_is) (by k_is)⟩)
  (case h30=>exact ⟨by k_is,L2.fun_mk (by k_is) (by k_is) (by k_is)⟩)
  (case h31=>exact ⟨by k_is,L2.fun_mk (by k_is) (by k_is) (by k_is)⟩)
  (case h32=>exact ⟨by k_is,L2.fun_mk (by k_is) (by k_is) (by k_is)⟩)
  (case h33=>exact ⟨by k_is,L2.fun_mk (by k_is) (by k_is) (by k_is)⟩)
  (case h34=>exact ⟨by k_is,L2.fun_mk (by k_is) (by k_is) (by k_is)⟩)
  (case h35=>exact ⟨by k_is,L2.fun_mk (by k_is) (by k_is) (by k_is)⟩)
  (case h36=>exact ⟨by k_is,L2.fun_mk (by k_is) (by k_is) (by k_is)⟩)
  (case h37=>exact ⟨by k_is,L2.fun_mk (by k_is) (by k_is) (by k_is)⟩)
  (case h38=>exact ⟨by k_is,L2.fun_mk (by k_is) (by k_is) (by k_is)⟩)
  (case h39=>exact ⟨by k_is,L2.fun_mk (by k_is) (by k_is) (by k_is)⟩)
  (case h40=>exact ⟨by k_is,L2.fun_mk (by k_is) (by k_is) (by k_is)⟩)
  (case h41=>exact ⟨by k_is,L2.fun_mk (by k_is) (by k_is) (by k_is)⟩)
  (case h42=>exact ⟨by k_is,L2.fun_mk (by k_is) (by k_is) (by k_is)⟩)
  (case h43=>exact ⟨by k_is,L2.fun_mk (by k_is) (by k_is) (by k_is)⟩)
  (case h44=>exact ⟨by k_is,L2.fun_mk (by k_is) (by k_is) (by k_is)⟩)
  (case h45=>exact ⟨by k_is,L2.fun_mk (by k_is) (by k_is) (by k_is)⟩)
  (case h46=>exact ⟨by k_is,L2.fun_mk (by k_is) (by k_is) (by k_is)⟩)
  (case h47=>exact ⟨by k_is,L2.fun_mk (by k_is) (by k_is) (by k_is)⟩)
  (case h48=>exact ⟨by k_is,L2.fun_mk (by k_is) (by k_is) (by k_is)⟩)
  (case h49=>exact ⟨by k_is,L2.fun_mk (by k_is) (by k_is) (by k_is)⟩)
  (case h50=>exact ⟨by k_is,L2.fun_mk (by k_is) (by k_is) (by k_is)⟩)
  (case h51=>exact ⟨by k_is,L2.fun_mk (by k_is) (by k_is) (by k_is)⟩)
  (case h52=>exact ⟨by k_is,L2.fun_mk (by k_is) (by k_is) (by k_is)⟩)
  (case h53=>exact ⟨by k_is,L2.fun_mk (by k_is) (by k_is) (by k_is)⟩)
  (case h54=>exact ⟨by k_is,L2.fun_mk (by k_is) (by k_is) (by k_is)⟩)
  (case h55=>exact ⟨by k_is,L2.fun_mk (by k_is) (by k_is) (by k_is)⟩)
  (case h56=>exact ⟨by k_is,L2.fun_mk (by k_is) (by k_is) (by k_is)⟩)
  (case h57=>exact ⟨by k_is,L2.fun_mk (by k_is) (by k_is) (by k_is)⟩)
  (case h58=>exact ⟨by k_is,L2.fun_mk (by k_is) (by k_is) (by k_is)⟩)
  (case ga_DEEPEST=>k_is)
  (case ga_LAST_HAND=>k_is)
  (case ga_MOST_BOXES=>k_is)
  (case ga_MOST_PAIRS=>k_is)
  (case ga_any=>k_is)
  (case ga_enumerate=>k_is)
  (case ga_set=>k_is)
  (case ga_sorted=>k_is)
  (case ga_zip=>k_is)
  (case z_abs=>k_is); (case z_len=>k_is); (case z_max=>k_is); (case z_min=>k_is); (case z_divmod=>k_is); (case z_repr=>k_is); (case z_isinstance=>k_is); (case z_all=>k_is); (case z_range=>k_is); (case z_int=>k_is); (case z_bool=>k_is); (case z_str=>k_is); (case z_tuple=>k_is); (case z_list=>k_is); (case z_dict=>k_is)
