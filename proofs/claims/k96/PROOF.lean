import PyProof.Rows.All
import Wide.All
import OpenK.AllK
import Wide.FinOn
import Lean
import PyProof.EqAt
import PyProof.EqKinds
import PyProof.TupleCall
import PyProof.NeKinds
import PyProof.ReprRoads
import PyProof.ReprLen
import PyProof.Rows.RegStrFacts
import PyProof.Draws
import PyProof.EnumStmt
import PyProof.ZipIter
import PyProof.ListNew
import PyProof.TupleOfGen
import PyProof.ListRange
import PyProof.Rows.Range3
import PyProof.SumWalkG
import PyProof.Rows.RuleB_lshift
import PyProof.AutoSeq1
import PyProof.Cells
import PyProof.AutoListH
import PyProof.DictTable
import PyProof.RulesAs
import PyProof.NsDelKeeps
import KE.KDictList
import PyProof.DictCompW
import KE.KSortTup
import PyProof.DictWalks
import PySem.Challenge.RW_joinedasks_k96_whole_deeds_of_few_states
set_option Elab.async false
set_option linter.all false
set_option maxRecDepth 100000
set_option maxHeartbeats 0
abbrev FG7:=PySem.W.Frag
abbrev VS7:=PySem.Value -> PySem.Shared -> Prop
namespace L2
open PySem PySem.Spec PyProof.Rows
abbrev Key:=Sum Int Str
def ZE:Key -> Value -> Bool
 | .inl k,v=>Value.isInt k v
 | .inr x,v=>Value.isStrOf x v
def keyH (w:World):Key -> Int
 | .inl k=>hashInt k
 | .inr x=>hashStr w x
theorem z6:∀ {k:Key} {v:Value},ZE k v = true -> (∃ i t,k = Sum.inl i /\ v = Value.int i t) \/ (∃ x t,k = Sum.inr x /\ v = Value.str x t)
 | .inl i,v,h=>by
  obtain ⟨t,e⟩:=Value.isInt_shape (k:=i) (v:=v) h
  exact .inl ⟨i,t,rfl,e⟩
 | .inr x,v,h=>by
  obtain ⟨t,e⟩:=Value.isStrOf_shape (x:=x) (v:=v) h
  exact .inr ⟨x,t,rfl,e⟩
theorem Yf (i:Int) (t:Tok):ZE (.inl i) (.int i t) = true:=by simp [ZE,Value.isInt]
theorem Yg (x:Str) (t:Tok):ZE (.inr x) (.str x t) = true:=by simp [ZE,Value.isStrOf]
theorem V7 (a b:Int):decide ((Sum.inl a:Key) = Sum.inl b) = (a == b):=by
 by_cases e:a = b
 ·subst e; simp
 ·have h:¬ (Sum.inl a:Key) = Sum.inl b:=fun q=>e (Sum.inl.inj q)
  rw [decide_eq_false h]
  exact (beq_eq_false_iff_ne.mpr e).symm
theorem V8 (a b:Str):decide ((Sum.inr a:Key) = Sum.inr b) = decide (a = b):=by
 by_cases e:a = b
 ·subst e; simp
 ·have h:¬ (Sum.inr a:Key) = Sum.inr b:=fun q=>e (Sum.inr.inj q)
  rw [decide_eq_false h,decide_eq_false e]
theorem V9 (a:Int) (b:Str):decide ((Sum.inl a:Key) = Sum.inr b) = false:=decide_eq_false (fun q=>nomatch q)
theorem Ua (a:Str) (b:Int):decide ((Sum.inr a:Key) = Sum.inl b) = false:=decide_eq_false (fun q=>nomatch q)
def z7 (prog:Program) (w:World):PySem.KeyKind prog w Key where
 is:=ZE
 hash:=keyH w
 inj:=fun v a b ha hb=>by
  rcases z6 ha with ⟨i,t,rfl,rfl⟩ | ⟨x,t,rfl,rfl⟩
  ·rcases z6 hb with ⟨j,u,rfl,e⟩ | ⟨y,u,rfl,e⟩
   ·injection e with e1 _; rw [e1]
   ·exact nomatch e
  ·rcases z6 hb with ⟨j,u,rfl,e⟩ | ⟨y,u,rfl,e⟩
   ·exact nomatch e
   ·injection e with e1 _; rw [e1]
 byValue:=fun k v h=>by
  rcases z6 h with ⟨i,t,rfl,rfl⟩ | ⟨x,t,rfl,rfl⟩ <;> rfl
 pyHash:=fun hv h=>by
  rcases z6 hv with ⟨i,t,rfl,rfl⟩ | ⟨x,t,rfl,rfl⟩
  ·exact wpAny_pyHash_int h
  ·exact wpAny_pyHash_str h
 eqBool:=fun hu hv h=>by
  rcases z6 hu with ⟨i,t,rfl,rfl⟩ | ⟨x,t,rfl,rfl⟩
  ·rcases z6 hv with ⟨j,u,rfl,rfl⟩ | ⟨y,u,rfl,rfl⟩
   ·rw [V7] at h; exact wpAny_eqBool_int h
   ·rw [V9] at h; exact SeqAt.EqAt.int_str i t y u _ _ _ _ h
  ·rcases z6 hv with ⟨j,u,rfl,rfl⟩ | ⟨y,u,rfl,rfl⟩
   ·rw [Ua] at h; exact SeqAt.EqAt.str_int x t j u _ _ _ _ h
   ·rw [V8] at h; exact wpAny_eqBool_str h
 «strs»:=fun k x t v h=>by
  rcases z6 h with ⟨i,u,rfl,e⟩ | ⟨y,u,rfl,e⟩
  ·exact nomatch e
  ·injection e with e1 _
   subst e1
   cases v <;> rfl
theorem qS (prog:Program) (w:World) (i:Int) (t:Tok):(z7 prog w).is (.inl i) (.int i t) = true:=Yf i t
theorem qT (prog:Program) (w:World) (x:Str) (t:Tok):(z7 prog w).is (.inr x) (.str x t) = true:=Yg x t
end L2
namespace L2
open PySem PySem.Spec PyProof.Rows
inductive V where
 | non | bl (b:Bool) | int (i:Int) | str (x:Str) | byt (b:Array UInt8) | flt (b:UInt64) | ref (a:Addr) | ty (n:String)
 deriving DecidableEq
def RelV:V -> Value -> Prop
 | .non,u=>u = Value.none
 | .bl b,u=>u = Value.bool b
 | .int i,u=>∃ t,u = Value.int i t
 | .str x,u=>∃ t,u = Value.str x t
 | .byt b,u=>∃ t,u = Value.bytes b t
 | .flt b,u=>∃ t,u = Value.float b t
 | .ref a,u=>u = Value.ref a
 | .ty n,u=>u = Value.type n
abbrev Vals:List V -> List Value -> Prop:=Paired RelV
theorem Vals.length {xs:List V} {us:List Value} (r:Vals xs us):xs.length = us.length:=Paired.length r
theorem Vals.get:∀ {xs:List V} {us:List Value} {i:Nat} {x:V},Vals xs us -> xs[i]? = some x -> ∃ u,us[i]? = some u /\ RelV x u
 | _,_,_,_,.nil,e=>by simp at e
 | _,_,0,_,.cons r _,e=>by simp at e; subst e; exact ⟨_,rfl,r⟩
 | _,_,i + 1,x,.cons _ t,e=>by
  obtain ⟨u,h1,h2⟩:=Vals.get (i:=i) (x:=x) t (by simpa using e)
  exact ⟨u,by simpa using h1,h2⟩
theorem Vals.set {x:V} {u:Value} (r:RelV x u):∀ {xs:List V} {us:List Value} (i:Nat),Vals xs us -> Vals (xs.set i x) (us.set i u)
 | _,_,_,.nil=>.nil
 | _,_,0,.cons _ t=>.cons r t
 | _,_,i + 1,.cons q t=>.cons q (Vals.set r i t)
theorem Vals.append:∀ {xs ys:List V} {us ws:List Value},Vals xs us -> Vals ys ws -> Vals (xs ++ ys) (us ++ ws)
 | _,_,_,_,.nil,s=>s
 | _,_,_,_,.cons r t,s=>.cons r (Vals.append t s)
theorem Vals.take:∀ {xs:List V} {us:List Value} (n:Nat),Vals xs us -> Vals (xs.take n) (us.take n)
 | _,_,0,_=>.nil
 | _,_,_ + 1,.nil=>.nil
 | _,_,n + 1,.cons r t=>.cons r (Vals.take n t)
theorem Vals.drop:∀ {xs:List V} {us:List Value} (n:Nat),Vals xs us -> Vals (xs.drop n) (us.drop n)
 | _,_,0,r=>r
 | _,_,_ + 1,.nil=>.nil
 | _,_,n + 1,.cons _ t=>Vals.drop n t
def RelO:Option V -> Option Value -> Prop
 | some v,some u=>RelV v u
 | none,none=>True
 | _,_=>False
def KV {κ:Type}:List (κ × V) -> List (κ × Value) -> Prop:=Paired fun (p:κ × V) (q:κ × Value)=>p.1 = q.1 /\ RelV p.2 q.2
def kV:Key -> V
 | .inl i=>.int i
 | .inr x=>.str x
inductive HO where
 /-- a list -/
 | lst (xs:List V)
 /-- a tuple (never changes) -/
 | tup (xs:List V)
 /-- a dict whose keys are ints and texts; one whose keys are tuples of ints and texts (the empty one is both) -/
 | dK (kvs:List (Key × V)) | dT (kvs:List (List Key × V))
 /-- a set of ints: its members,its size -/
 | set (S:Int -> Bool) (n:Nat)
 /-- an instance of the class at C,its dict at dx,its attributes -/
 | ins (C dx:Addr) (fs:List (Str × V))
 /-- the dict of the instance at x -/
 | own (x:Addr)
 /-- the dict of an exception -/
 | xd (fs:List (Str × V))
 /-- a bound method,f of x -/
 | met (f x:Addr)
 /-- a range object lo,lo + 1,.. below hi -/
 | rng (lo hi:Int)
 /-- a thing that is known to the object (the script; a dict while a loop walks it): read,never written while it is so -/
 | frz (o:Obj) (u:HO)
 /-- a code object's table -/
 | tbl (ps:Array Value)
 /-- any other thing,by what is true of its one object (a def of one's own: SetO a S n:=HO.ext fun h=>..) -/
 | ext (φ:Heap -> Prop)
abbrev Hp:=Addr -> Option HO
def upd (H:Hp) (a:Addr) (o:HO):Hp:=fun b=>if b = a then some o else H b
theorem ze {H:Hp} {a:Addr} {o:HO}:upd H a o a = some o:=by unfold upd; rw [if_pos rfl]
theorem zq {H:Hp} {a b:Addr} {o:HO} (h:b ≠ a):upd H a o b = H b:=by unfold upd; rw [if_neg h]
theorem Ub {H:Hp} {a b:Addr} {o u:HO} (h:H a = some o) (h':H b = some u) (d:o ≠ u):a ≠ b:=by
 intro e; subst e; rw [h] at h'; exact d (Option.some.inj h')
theorem zt {H:Hp} {a b:Addr} {o:HO} (h:H a = some o) (h':H b = none):a ≠ b:=by
 intro e; subst e; rw [h] at h'; cases h'
section
variable (P:Program) (w:World)
def yA (H:Hp) (h:Heap) (a:Addr):HO -> Prop
 | .lst xs=>xs.length <= sizeLine /\ ∃ (its:List Value) (n:Nat),Vals xs its /\ h.get? a = some { cls:=.type "list",data:=.seq its.toArray n }
 | .tup xs=>xs.length <= sizeLine /\ ∃ its:List Value,Vals xs its /\ IsTup h a its.toArray
 | .dK kvs=>kvs.length <= sizeLine /\ (a == sysModules) = false /\ ∃ vs,KV kvs vs /\ h.DictOf (z7 P w) a vs
 | .dT kvs=>kvs.length <= sizeLine /\ (a == sysModules) = false /\ ∃ xs:List (List Key × Addr × Value),
   Paired (fun (p:List Key × V) (q:List Key × Addr × Value)=>p.1 = q.1 /\ H q.2.1 = some (.tup (p.1.map kV)) /\ RelV p.2 q.2.2) kvs xs ∧
   ∃ o es ep,h.get? a = some o /\ o.ExactDict /\ o.data = .dict es ep /\ es.toList = xs.map (entryOfKey (tupleKind (z7 P w))) /\ (xs.map (·.1)).Nodup
 | .set S n=>h.SetOf (intKind P w) a S n
 | .ins C dx fs=>H dx = some (.own a) /\ fs.length <= 1000 /\ dx ≠ a /\ h.get? a = some (PySem.W.instObj C dx) ∧
   ∃ mA,h.Ns1 dx mA /\ (∀ f,RelO (fs.lookup f) (mA f)) /\ PySem.Within mA (fs.map (·.1))
 | .own _=>∃ o,h.get? a = some o
 | .xd fs=>∃ mA,h.Ns1 a mA /\ ∀ f,RelO (fs.lookup f) (mA f)
 | .rng lo hi=>∃ t u v,h.get? a = some { cls:=.type "range",data:=.fields #[.int lo t,.int hi u,.int 1 v] }
 | .frz o u=>h.get? a = some o /\ yA H h a u
 | .tbl ps=>h.get? a = some { cls:=.none,data:=.fields ps }
 | .met f x=>h.get? a = some (PySem.W.methodObj (.ref f) (.ref x))
 | .ext φ=>φ h /\ (∃ o,h.get? a = some o) /\ ∀ h1 h2:Heap,φ h1 -> (∀ o,h1.get? a = some o -> h2.get? a = some o) -> φ h2
def HOk (H:Hp) (h:Heap):Prop:=∀ a o,H a = some o -> yA P w H h a o
end
section
variable {P:Program} {w:World} {H H':Hp} {h h':Heap} {a:Addr} {o:HO}
theorem yA.lt (x:yA P w H h a o):a < h.objs.size:=by
 cases o with
 | lst xs=>obtain ⟨_,_,_,_,e⟩:=x; exact Heap.lt_size e
 | tup xs=>obtain ⟨_,_,_,p⟩:=x; exact p.lt
 | dK kvs=>obtain ⟨_,_,_,_,o,_,_,e,_⟩:=x; exact Heap.lt_size e
 | dT kvs=>obtain ⟨_,_,_,_,o,_,_,e,_⟩:=x; exact Heap.lt_size e
 | set S n=>obtain ⟨o,_,_,_,e,_⟩:=x; exact Heap.lt_size e
 | ins C dx fs=>obtain ⟨_,_,_,e,_⟩:=x; exact Heap.lt_size e
 | own y=>obtain ⟨_,e⟩:=x; exact Heap.lt_size e
 | xd fs=>obtain ⟨_,⟨_,_,_,e,_⟩,_⟩:=x; exact Heap.lt_size e
 | rng lo hi=>obtain ⟨_,_,_,e⟩:=x; exact Heap.lt_size e
 | frz ob u=>obtain ⟨e,_⟩:=x; exact Heap.lt_size e
 | tbl ps=>exact Heap.lt_size (show h.get? a = some _ from x)
 | met f y=>exact Heap.lt_size (show h.get? a = some _ from x)
 | ext φ=>obtain ⟨_,⟨_,e⟩,_⟩:=x; exact Heap.lt_size e
theorem Paired.mapP {α β:Type} {F G:α -> β -> Prop}:∀ {l₁:List α} {l₂:List β},Paired F l₁ l₂ -> (∀ a b,F a b -> G a b) -> Paired G l₁ l₂
 | _,_,.nil,_=>.nil
 | _,_,.cons r t,f=>.cons (f _ _ r) (Paired.mapP t f)
theorem yA.stay (x:yA P w H h a o) (k:∀ b u,(b = a \/ H b = some (.own a)) -> h.get? b = some u -> h'.get? b = some u)
  (ho:∀ b,H b = some (.own a) -> H' b = some (.own a)) (ht:∀ b xs,H b = some (.tup xs) -> H' b = some (.tup xs)):yA P w H' h' a o:=by
 induction o with
 | lst xs=>obtain ⟨z,its,n,r,e⟩:=x; exact ⟨z,its,n,r,k _ _ (.inl rfl) e⟩
 | tup xs=>obtain ⟨z,its,r,ob,e,c⟩:=x; exact ⟨z,its,r,ob,k _ _ (.inl rfl) e,c⟩
 | dK kvs=>obtain ⟨z,y,vs,r,ob,es,ep,e,c⟩:=x; exact ⟨z,y,vs,r,ob,es,ep,k _ _ (.inl rfl) e,c⟩
 | dT kvs =>
  obtain ⟨z,y,xs,r,ob,es,ep,e,c⟩:=x
  exact ⟨z,y,xs,Paired.mapP r fun p q z=>⟨z.1,ht _ _ z.2.1,z.2.2⟩,ob,es,ep,k _ _ (.inl rfl) e,c⟩
 | set S n=>obtain ⟨ob,es,ep,t,e,c⟩:=x; exact ⟨ob,es,ep,t,k _ _ (.inl rfl) e,c⟩
 | ins C dx fs =>
  obtain ⟨d,z,ne,e,mA,⟨od,es,ep,e2,c⟩,r⟩:=x
  exact ⟨ho _ d,z,ne,k _ _ (.inl rfl) e,mA,⟨od,es,ep,k _ _ (.inr d) e2,c⟩,r⟩
 | own y=>obtain ⟨ob,e⟩:=x; exact ⟨ob,k _ _ (.inl rfl) e⟩
 | xd fs=>obtain ⟨mA,⟨od,es,ep,e,c⟩,r⟩:=x; exact ⟨mA,⟨od,es,ep,k _ _ (.inl rfl) e,c⟩,r⟩
 | rng lo hi=>obtain ⟨t,u,v,e⟩:=x; exact ⟨t,u,v,k _ _ (.inl rfl) e⟩
 | frz ob u ih=>obtain ⟨e,q⟩:=x; exact ⟨k _ _ (.inl rfl) e,ih q⟩
 | tbl ps =>
  have e:h.get? a = some { cls:=.none,data:=.fields ps }:=x
  show h'.get? a = some { cls:=.none,data:=.fields ps }
  exact k a _ (.inl rfl) e
 | met f y =>
  have e:h.get? a = some (PySem.W.methodObj (.ref f) (.ref y)):=x
  show h'.get? a = some (PySem.W.methodObj (.ref f) (.ref y))
  exact k a _ (.inl rfl) e
 | ext φ=>obtain ⟨p,⟨o,e⟩,st⟩:=x; exact ⟨st _ _ p fun o q=>k _ _ (.inl rfl) q,⟨o,k _ _ (.inl rfl) e⟩,st⟩
theorem HOk.lt (x:HOk P w H h) (e:H a = some o):a < h.objs.size:=(x a o e).lt
theorem HOk.fresh (x:HOk P w H h) (e:h.objs.size <= a):H a = none:=by
 cases q:H a with
 | none=>rfl
 | some u=>exact absurd (Nat.lt_of_lt_of_le (x.lt q) e) (Nat.lt_irrefl _)
theorem HOk.kept (x:HOk P w H h) (k:∀ b u,h.get? b = some u -> h'.get? b = some u):HOk P w H h':=fun a o e =>
 (x a o e).stay (fun b u _ q=>k b u q) (fun _ q=>q) fun _ _ q=>q
theorem HOk.laid (x:HOk P w H h) (k:∀ b u,h.get? b = some u -> h'.get? b = some u) (hp:h.objs.size <= a) (new:yA P w (upd H a o) h' a o):HOk P w (upd H a o) h':=fun b u e=>by
 have hn:=x.fresh hp
 by_cases hb:b = a
 ·subst hb; rw [ze] at e; cases e; exact new
 ·rw [zq hb] at e
  exact (x b u e).stay (fun c v _ q=>k c v q) (fun c q=>by rw [zq (zt q hn)]; exact q) fun c xs q=>by rw [zq (zt q hn)]; exact q
end
def Rd (H:Hp) (a:Addr) (u:HO):Prop:=H a = some u \/ ∃ o,H a = some (.frz o u)
theorem Rd.of {H:Hp} {a:Addr} {u:HO} (h:H a = some u):Rd H a u:=.inl h
theorem Rd.ok {P:Program} {w:World} {H:Hp} {h:Heap} {a:Addr} {u:HO} (r:Rd H a u) (x:HOk P w H h):yA P w H h a u:=by
 rcases r with r | ⟨o,r⟩
 ·exact x a u r
 ·obtain ⟨_,q⟩:=x a _ r
  exact q
def Mut:Option HO -> Prop
 | some (.lst _)=>True
 | some (.dK _)=>True
 | some (.dT _)=>True
 | some (.set _ _)=>True
 | some (.ins _ _ _)=>True
 | some (.ext _)=>True
 | _=>False
section
variable {P:Program} {w:World} {H:Hp} {h h':Heap} {x e:Addr} {o':HO}
theorem HOk.write (ok:HOk P w H h) (mu:Mut (H x)) (he:e = x \/ H e = some (.own x)) (k:∀ b u,b ≠ e -> h.get? b = some u -> h'.get? b = some u) (heo:∃ u,h'.get? e = some u)
  (new:yA P w (upd H x o') h' x o'):HOk P w (upd H x o') h':=fun b u q=>by
 have nown:∀ c y,H c = some (.own y) -> c ≠ x:=fun c y r z=>by subst z; rw [r] at mu; exact mu
 have ntup:∀ c xs,H c = some (.tup xs) -> c ≠ x:=fun c xs r z=>by subst z; rw [r] at mu; exact mu
 by_cases hb:b = x
 ·subst hb; rw [ze] at q; cases q; exact new
 ·rw [zq hb] at q
  by_cases hbe:b = e
  ·have q':H b = some (.own x):=by
    rcases he with z | z
    ·exact absurd (hbe.trans z) hb
    ·rw [hbe]; exact z
   rw [q] at q'; cases q'
   obtain ⟨v,hv⟩:=heo
   exact ⟨v,by rw [hbe]; exact hv⟩
  ·refine (ok b u q).stay (fun c v hc r=>k c v ?_ r) (fun c r=>by rw [zq (nown c b r)]; exact r) fun c xs r=>by rw [zq (ntup c xs r)]; exact r
   rcases hc with rfl | hc
   ·exact hbe
   ·rintro rfl
    rcases he with z | z
    ·exact nown c b hc z
    ·rw [hc] at z; cases z; exact hb rfl
end
structure Un (fs ex:List Addr) (H H':Hp) (h h':Heap):Prop where
 keep:∀ b o,h.get? b = some o -> H b = none -> b ∉ fs -> b ∉ ex -> h'.get? b = some o
 slot:∀ b o,h.get? b = some o -> H b = none -> b ∈ fs -> b ∉ ex -> ∃ sl,h'.get? b = some { o with slots:=sl }
 free:∀ b o,h.get? b = some o -> H b = none -> b ∉ ex -> H' b = none
 there:∀ b o,h.get? b = some o -> b ∉ ex -> ∃ o',h'.get? b = some o'
 tups:∀ b xs,H b = some (.tup xs) -> H' b = some (.tup xs)
 frzs:∀ b o u,H b = some (.frz o u) -> H' b = some (.frz o u)
 tbls:∀ b ps,H b = some (.tbl ps) -> ∃ more,H' b = some (.tbl (ps ++ more))
section
variable {fs fs' ex ex':List Addr} {H H1 H2:Hp} {h h1 h2 h':Heap} {a x e:Addr} {o:HO}
theorem Un.any (u:Un fs ex H H1 h h1) {b:Addr} {ob:Obj} (q:h.get? b = some ob) (n:H b = none) (hx:b ∉ ex):∃ sl,h1.get? b = some { ob with slots:=sl }:=by
 by_cases hb:b ∈ fs
 ·exact u.slot b ob q n hb hx
 ·exact ⟨ob.slots,u.keep b ob q n hb hx⟩
theorem Un.trans (a:Un fs ex H H1 h h1) (b:Un fs ex H1 H2 h1 h2):Un fs ex H H2 h h2 where
 keep:=fun c ob q n hc hx=>b.keep c ob (a.keep c ob q n hc hx) (a.free c ob q n hx) hc hx
 slot:=fun c ob q n hc hx=>by
  obtain ⟨sl,e1⟩:=a.slot c ob q n hc hx
  obtain ⟨sl',e2⟩:=b.slot c _ e1 (a.free c ob q n hx) hc hx
  exact ⟨sl',e2⟩
 free:=fun c ob q n hx=>by
  obtain ⟨o',e1⟩:=a.there c ob q hx
  exact b.free c o' e1 (a.free c ob q n hx) hx
 there:=fun c ob q hx=>by
  obtain ⟨o',e1⟩:=a.there c ob q hx
  exact b.there c o' e1 hx
 tups:=fun c xs q=>b.tups c xs (a.tups c xs q)
 frzs:=fun c ob xs q=>b.frzs c ob xs (a.frzs c ob xs q)
 tbls:=fun c ps q=>by
  obtain ⟨m1,e1⟩:=a.tbls c ps q
  obtain ⟨m2,e2⟩:=b.tbls c _ e1
  exact ⟨m1 ++ m2,by rw [e2,Array.append_assoc]⟩
theorem Un.kept (k:∀ b u,h.get? b = some u -> h'.get? b = some u):Un fs ex H H h h' :=
 ⟨fun b ob q _ _ _=>k b ob q,fun b ob q _ _ _=>⟨ob.slots,k b ob q⟩,fun _ _ _ n _=>n,fun b ob q _=>⟨ob,k b ob q⟩,fun _ _ q=>q,fun _ _ _ q=>q,fun _ ps q=>⟨#[],by rw [q]; simp⟩⟩
theorem Un.refl:Un fs ex H H h h:=Un.kept fun _ _ q=>q
theorem Un.laid (k:∀ b u,h.get? b = some u -> h'.get? b = some u) (hp:h.objs.size <= a) (hn:H a = none):Un fs ex H (upd H a o) h h' where
 keep:=fun b u q _ _ _=>k b u q
 slot:=fun b u q _ _ _=>⟨u.slots,k b u q⟩
 free:=fun b u q n _=>by rw [zq (Nat.ne_of_lt (Nat.lt_of_lt_of_le (Heap.lt_size q) hp))]; exact n
 there:=fun b u q _=>⟨u,k b u q⟩
 tups:=fun b xs q=>by rw [zq (zt q hn)]; exact q
 frzs:=fun b u xs q=>by rw [zq (zt q hn)]; exact q
 tbls:=fun b ps q=>⟨#[],by rw [zq (zt q hn),q]; simp⟩
theorem Un.write (mu:Mut (H x)) (he:e = x \/ H e = some (.own x)) (k:∀ b u,b ≠ e -> h.get? b = some u -> h'.get? b = some u) (heo:∃ u,h'.get? e = some u):Un fs ex H (upd H x o) h h':=by
 have hx:∀ b,H b = none -> b ≠ x:=fun b n z=>by subst z; rw [n] at mu; exact mu
 have hb:∀ b,H b = none -> b ≠ e:=fun b n z=>by
  subst z
  rcases he with r | r
  ·exact hx b n r
  ·rw [n] at r; cases r
 have hm:∀ b u,H b = some u -> ¬ Mut (some u) -> b ≠ x:=fun b u q nm z=>by subst z; rw [q] at mu; exact nm mu
 refine ⟨fun b u q n _ _=>k b u (hb b n) q,fun b u q n _ _=>⟨u.slots,k b u (hb b n) q⟩,fun b u q n _=>by rw [zq (hx b n)]; exact n,fun b u q _=>?_,
  fun b xs q=>by rw [zq (hm b _ q fun z=>z)]; exact q,fun b u xs q=>by rw [zq (hm b _ q fun z=>z)]; exact q,fun b ps q=>⟨#[],by rw [zq (hm b _ q fun z=>z),q]; simp⟩⟩
 by_cases hbe:b = e
 ·subst hbe; exact heo
 ·exact ⟨u,k b u hbe q⟩
theorem Un.mono (u:Un fs ex H H1 h h1) (hs:∀ b ∈ fs,b ∈ fs') (hx:∀ b ∈ ex,b ∈ ex'):Un fs' ex' H H1 h h1 :=
 ⟨fun b ob q n hb he=>u.keep b ob q n (fun z=>hb (hs b z)) fun z=>he (hx b z),fun _ _ q n _ he=>u.any q n fun z=>he (hx _ z),fun b ob q n he=>u.free b ob q n fun z=>he (hx b z),fun b ob q he=>u.there b ob q fun z=>he (hx b z),u.tups,u.frzs,u.tbls⟩
end
def trk (h:Heap) (H:Hp):List Addr:=(List.range h.objs.size).filter fun a=>(H a).isSome
def hidT (h:Heap) (H:Hp):Heap:=PySem.W.hideAll h (trk h H)
theorem Yh (h:Heap) (H:Hp):(hidT h H).objs.size = h.objs.size:=PySem.W.hideAll_size _ _
theorem XW {h:Heap} {H:Hp} {b:Addr} {o:Obj} (e:h.get? b = some o) (n:H b = none):(hidT h H).get? b = some o :=
 PySem.W.hideAll_get _ e fun hm=>by
  have q:(H b).isSome = true:=(List.mem_filter.mp hm).2
  rw [n] at q; simp at q
theorem Vh {h:Heap} {H:Hp} {b:Addr} {o:Obj} (e:(hidT h H).get? b = some o):h.get? b = some o /\ H b = none:=by
 have e':h.get? b = some o:=PySem.W.of_hideAll (trk h H) e
 refine ⟨e',?_⟩
 cases q:H b with
 | none=>rfl
 | some x =>
  have hm:b ∈ trk h H:=List.mem_filter.mpr ⟨List.mem_range.mpr (Heap.lt_size e'),by simp [q]⟩
  have z:(hidT h H).get? b = none:=PySem.W.hideAll_none (trk h H) hm
  rw [z] at e; cases e
def Vi (g h:Heap) (L:Addr):List (Addr × Obj):=(List.range h.objs.size).filterMap fun a=>if a = L \/ (g.get? a).isSome = true then none else (h.get? a).map fun o=>(a,o)
def rest (g h:Heap) (L d:Addr):List (Addr × Obj):=(Vi g h L).filter fun p=>decide (p.1 ≠ d)
end L2
namespace L2
open PySem PySem.Spec PyProof.Rows
structure Mod (K:FG7) (mg:Str -> Option Value) (base:Heap):Prop where
 kin:K.In base
 glob:base.Ns mainGlobals mg
 blt:∃ mb,base.Ns builtinsNs mb /\ ∀ x:Str,x ≠ "__name__" -> mb x = bootBuiltins x
 nolimit:base.NoLimit
structure Cx where
 prog:Program
 w:World
 K:FG7
 mg:Str -> Option Value
 base:Heap
 A:Around
 N:List Str
 s₀:Shared
 H₀:Hp
 env:Env
 outer:List Env
 stack:List Env
 ex:List Addr
 fn:Str -> Bool
 calm:Bool
 pn:List (Addr × Obj)
 xe:VS7
def frs (l:List Env):List Addr:=l.filterMap (·.frame)
abbrev Cx.fs (X:Cx):List Addr:=frs X.outer
def Vis (sc:Scope) (x:Str):Prop:=sc.names.lookup x = some .local \/ sc.names.lookup x = some .cell \/ sc.names.lookup x = some .free
def Loc (sc:Scope) (x:Str):Prop:=sc.names.lookup x = some .local \/ sc.names.lookup x = some .cell
def Look (env:Env) (h:Heap) (m:Str -> Option Value) (x:Str) (u:Value):Prop :=
 (env.kindOf x = some .local /\ m x = some u) \/ ((env.kindOf x = some .cell \/ env.kindOf x = some .free) /\ ∃ c,env.cells.lookup x = some c /\ h.IsCell c (some u))
structure Cx.Ok (X:Cx):Prop where
 mod:Mod X.K X.mg X.base
 kind:X.env.scope.kind = .function
 glob:X.env.globals = mainGlobals
 blt:X.env.builtins = builtinsNs
 above:X.s₀.heap.objs.size <= X.env.locals
 inj:∀ x y c,X.env.cells.lookup x = some c -> X.env.cells.lookup y = some c -> x = y
 has:∀ x,(X.env.kindOf x = some .cell \/ X.env.kindOf x = some .free) -> ∃ c,X.env.cells.lookup x = some c
 cab:∀ x c,X.fn x = true -> X.env.cells.lookup x = some c -> X.s₀.heap.objs.size <= c
 hd:X.calm = true -> X.A.handled = none
 frames:X.A.frames = some X.stack
 stk:X.stack = X.outer \/ (X.stack = X.env :: X.outer /\ X.env.frame = some X.env.locals)
 exf:∀ b ∈ X.ex,b ≠ X.env.locals /\ ∀ x c,X.env.cells.lookup x = some c -> c ≠ b
 bs:∀ b o,X.base.get? b = some o -> X.s₀.heap.get? b = some o /\ X.H₀ b = none
 bsz:X.base.objs.size <= X.s₀.heap.objs.size
 noex:∀ b o,X.base.get? b = some o -> b ∉ X.ex
 exfs:∀ b ∈ X.ex,b ∉ X.fs
 funs:X.s₀.heap.FunFrames X.base X.outer
 frf:∀ b ∈ X.fs,X.H₀ b = none
structure Inv (X:Cx) (pins:List (Addr × Obj)) (σ:List (Option V)) (H:Hp) (s:Shared):Prop where
 ok:X.Ok
 os:s.os = X.s₀.os
 bare:AllBare s.gens
 base:Un X.fs X.ex X.H₀ H X.s₀.heap s.heap
 loc:∃ m,s.heap.Ns X.env.locals m /\ ∀ (i:Nat) (x:Str) (v:V),X.N[i]? = some x -> σ[i]? = some (some v) -> Vis X.env.scope x -> ∃ u,RelV v u /\ Look X.env s.heap m x u
 cell:∀ x c,X.env.cells.lookup x = some c -> ∃ v,s.heap.IsCell c v
 free:H X.env.locals = none
 freeC:∀ x c,X.env.cells.lookup x = some c -> H c = none
 pin:∀ p ∈ X.pn ++ pins,s.heap.get? p.1 = some p.2 /\ H p.1 = none /\ p.1 ≠ X.env.locals /\ p.1 ∉ X.fs /\ ∀ v,p.2.data ≠ .cell v
 hok:HOk X.prog X.w H s.heap
 len:σ.length = X.N.length
section
variable {X:Cx} {pins:List (Addr × Obj)} {σ:List (Option V)} {H H':Hp} {s:Shared} {h':Heap}
theorem Cx.Ok.nofr (ok:X.Ok) {b:Addr} {o:Obj} (e:X.base.get? b = some o):b ∉ X.fs:=fun hb=>by
 have:=(ok.funs.mem hb).1
 rw [e] at this; cases this
theorem Inv.bs (I:Inv X pins σ H s):∀ b o,X.base.get? b = some o -> s.heap.get? b = some o /\ H b = none:=fun b o e =>
 ⟨I.base.keep b o (I.ok.bs b o e).1 (I.ok.bs b o e).2 (I.ok.nofr e) (I.ok.noex b o e),I.base.free b o (I.ok.bs b o e).1 (I.ok.bs b o e).2 (I.ok.noex b o e)⟩
theorem Inv.bk (I:Inv X pins σ H s):∀ b o,X.base.get? b = some o -> s.heap.get? b = some o:=fun b o e=>(I.bs b o e).1
theorem Inv.mod (I:Inv X pins σ H s):Mod X.K X.mg X.base:=I.ok.mod
theorem Inv.kIn (I:Inv X pins σ H s):X.K.In s.heap:=I.ok.mod.kin.keeps I.bk
theorem Inv.nolimit (I:Inv X pins σ H s):s.heap.NoLimit:=I.ok.mod.nolimit.keeps I.bk
theorem Inv.fr (I:Inv X pins σ H s):∃ m,Fr X.base X.env.locals s.heap m :=
 let ⟨m,hn,_⟩:=I.loc
 ⟨m,hn,I.bk,Nat.le_trans I.ok.bsz I.ok.above⟩
theorem Inv.lt (I:Inv X pins σ H s):X.env.locals < s.heap.objs.size:=let ⟨_,hn,_⟩:=I.loc; hn.lt
theorem Inv.sz (I:Inv X pins σ H s):X.s₀.heap.objs.size <= s.heap.objs.size:=Nat.le_trans I.ok.above (Nat.le_of_lt I.lt)
theorem Inv.nofs (I:Inv X pins σ H s) {a:Addr} (h:s.heap.objs.size <= a):a ∉ X.fs:=fun hb=>by
 obtain ⟨_,o,ho,_⟩:=I.ok.funs.mem hb
 exact absurd (Nat.lt_of_lt_of_le (Heap.lt_size ho) (Nat.le_trans I.sz h)) (Nat.lt_irrefl _)
theorem Inv.cne (I:Inv X pins σ H s):∀ x c,X.env.cells.lookup x = some c -> c ≠ X.env.locals:=fun x c e z=>by
 obtain ⟨v,o,ho,hd⟩:=I.cell x c e
 obtain ⟨m,⟨o',es,ep,ho',hd',_⟩,_⟩:=I.loc
 rw [z,ho'] at ho; cases ho; rw [hd'] at hd; cases hd
theorem Inv.funs (I:Inv X pins σ H s):s.heap.FunFrames X.base X.outer:=by
 have all:∀ (l:List Env),(∀ b ∈ frs l,b ∈ X.fs) -> X.s₀.heap.FunFrames X.base l -> s.heap.FunFrames X.base l:=by
  intro l
  induction l with
  | nil=>intro _ _; trivial
  | cons env r ih =>
   intro hs hl
   obtain ⟨hk,⟨L,o,hf,hn,ho,hd⟩,hr⟩:=hl
   have hL:L ∈ X.fs:=hs L (by unfold frs; rw [List.filterMap_cons,hf]; exact List.mem_cons_self)
   obtain ⟨sl,e⟩:=I.base.slot L o ho (I.ok.frf L hL) hL fun z=>I.ok.exfs L z hL
   exact ⟨hk,⟨L,_,hf,hn,e,hd⟩,ih (fun b hb=>hs b (by unfold frs; rw [List.filterMap_cons,hf]; exact List.mem_cons_of_mem _ hb)) hr⟩
 exact all X.outer (fun _ hb=>hb) I.ok.funs
theorem Inv.stack (I:Inv X pins σ H s):s.heap.FunFrames X.base X.stack:=by
 rcases I.ok.stk with e | ⟨e,hf⟩
 ·rw [e]; exact I.funs
 ·rw [e]
  obtain ⟨m,hn,_⟩:=I.loc
  refine .cons (by rw [I.ok.kind]; decide) hf hn ?_ I.funs
  exact Heap.get?_none_of_le (Nat.le_trans I.ok.bsz I.ok.above)
theorem Inv.stkSub (I:Inv X pins σ H s):∀ b ∈ frs X.stack,b ∈ X.env.locals :: X.fs:=fun b hb=>by
 rcases I.ok.stk with e | ⟨e,hf⟩
 ·rw [e] at hb; exact List.mem_cons_of_mem _ hb
 ·rw [e] at hb
  unfold frs at hb
  rw [List.filterMap_cons,hf] at hb
  exact hb
theorem Inv.stkFree (I:Inv X pins σ H s):∀ b ∈ frs X.stack,H b = none:=fun b hb=>by
 rcases List.mem_cons.mp (I.stkSub b hb) with e | hb
 ·rw [e]; exact I.free
 ·obtain ⟨_,o,ho,_⟩:=I.ok.funs.mem hb
  exact I.base.free b o ho (I.ok.frf b hb) fun z=>I.ok.exfs b z hb
theorem Inv.step {g':Array GenState} {t':Nat} {d':Drawn} {ch:List Addr} (I:Inv X pins σ H s)
  (hch:∀ b ∈ ch,(b ∈ X.ex \/ X.s₀.heap.objs.size <= b) /\ b ≠ X.env.locals /\ (∀ x c,X.env.cells.lookup x = some c -> c ≠ b) /\ ∀ p ∈ X.pn ++ pins,p.1 ≠ b)
  (keep:∀ b o,b ≠ X.env.locals -> b ∉ X.fs -> b ∉ ch -> s.heap.get? b = some o -> H b = none -> h'.get? b = some o)
  (slot:∀ b o,b ≠ X.env.locals -> b ∈ X.fs -> b ∉ ch -> s.heap.get? b = some o -> H b = none -> ∃ sl,h'.get? b = some { o with slots:=sl }) (free:∀ b o,b ∉ ch -> s.heap.get? b = some o -> H b = none -> H' b = none)
  (there:∀ b o,b ∉ ch -> s.heap.get? b = some o -> ∃ o',h'.get? b = some o')
  (tups:∀ b xs,H b = some (.tup xs) -> H' b = some (.tup xs)) (frzs:∀ b o u,H b = some (.frz o u) -> H' b = some (.frz o u)) (tbls:∀ b ps,H b = some (.tbl ps) -> ∃ more,H' b = some (.tbl (ps ++ more)))
  (ns:∀ m,s.heap.Ns X.env.locals m -> h'.Ns X.env.locals m) (hok:HOk X.prog X.w H' h') (hg:AllBare g') :
  Inv X pins σ H' { s with heap:=h',gens:=g',drawn:=d',toks:=t' }:=by
 have neL:∀ b o,X.s₀.heap.get? b = some o -> b ≠ X.env.locals:=fun b o e=>Nat.ne_of_lt (Nat.lt_of_lt_of_le (Heap.lt_size e) I.ok.above)
 have neC:∀ b o,X.s₀.heap.get? b = some o -> b ∉ X.ex -> b ∉ ch:=fun b o e hx hb=>by
  rcases (hch b hb).1 with z | z
  ·exact hx z
  ·exact absurd (Nat.lt_of_lt_of_le (Heap.lt_size e) z) (Nat.lt_irrefl _)
 have cellK:∀ x c,X.env.cells.lookup x = some c -> ∀ v,s.heap.IsCell c v -> h'.IsCell c v:=fun x c e v ⟨o,ho,hd⟩=>by
  have nch:c ∉ ch:=fun z=>(hch c z).2.2.1 x c e rfl
  by_cases hc:c ∈ X.fs
  ·obtain ⟨sl,q⟩:=slot c o (I.cne x c e) hc nch ho (I.freeC x c e)
   exact ⟨_,q,hd⟩
  ·exact ⟨o,keep c o (I.cne x c e) hc nch ho (I.freeC x c e),hd⟩
 refine ⟨I.ok,I.os,hg,⟨fun b o e n hb hx=>?_,fun b o e n hb hx=>?_,fun b o e n hx=>?_,fun b o e hx=>?_,fun b xs e=>tups b xs (I.base.tups b xs e),fun b o xs e=>frzs b o xs (I.base.frzs b o xs e),fun b ps e=>?_⟩,?_,fun x c e=>?_,?_,fun x c e=>?_,fun p hp=>?_,hok,I.len⟩
 ·exact keep b o (neL b o e) hb (neC b o e hx) (I.base.keep b o e n hb hx) (I.base.free b o e n hx)
 ·obtain ⟨sl,e1⟩:=I.base.slot b o e n hb hx
  obtain ⟨sl',e2⟩:=slot b _ (neL b o e) hb (neC b o e hx) e1 (I.base.free b o e n hx)
  exact ⟨sl',e2⟩
 ·obtain ⟨o',e1⟩:=I.base.there b o e hx
  exact free b o' (neC b o e hx) e1 (I.base.free b o e n hx)
 ·obtain ⟨o',e1⟩:=I.base.there b o e hx
  exact there b o' (neC b o e hx) e1
 ·obtain ⟨m1,e1⟩:=I.base.tbls b ps e
  obtain ⟨m2,e2⟩:=tbls b _ e1
  exact ⟨m1 ++ m2,by rw [e2,Array.append_assoc]⟩
 ·obtain ⟨m,hn,hl⟩:=I.loc
  refine ⟨m,ns m hn,fun i x v e1 e2 e3=>?_⟩
  obtain ⟨u,r,l⟩:=hl i x v e1 e2 e3
  refine ⟨u,r,?_⟩
  rcases l with l | ⟨k,c,e,z⟩
  ·exact .inl l
  ·exact .inr ⟨k,c,e,cellK x c e _ z⟩
 ·obtain ⟨v,z⟩:=I.cell x c e
  exact ⟨v,cellK x c e v z⟩
 ·obtain ⟨m,⟨o,_,_,ho,_⟩,_⟩:=I.loc
  exact free _ o (fun z=>(hch _ z).2.1 rfl) ho I.free
 ·obtain ⟨v,o,ho,hd⟩:=I.cell x c e
  exact free c o (fun z=>(hch c z).2.2.1 x c e rfl) ho (I.freeC x c e)
 ·obtain ⟨e,n,ne,nf,d⟩:=I.pin p hp
  have nch:p.1 ∉ ch:=fun z=>(hch p.1 z).2.2.2 p hp rfl
  exact ⟨keep p.1 p.2 ne nf nch e n,free p.1 p.2 nch e n,ne,nf,d⟩
theorem Inv.un {t':Nat} (I:Inv X pins σ H s) (u:Un X.fs [] H H' s.heap h') (hok:HOk X.prog X.w H' h'):Inv X pins σ H' { s with heap:=h',toks:=t' }:=by
 obtain ⟨m,⟨o,es,ep,ho,r⟩,_⟩:=id I.loc
 obtain ⟨sl,hL⟩:=u.any ho I.free (by simp)
 exact I.step (g':=s.gens) (d':=s.drawn) (ch:=[]) (fun _ z=>nomatch z) (fun b o _ hb _ e n=>u.keep b o e n hb (by simp)) (fun b o _ hb _ e n=>u.slot b o e n hb (by simp)) (fun b o _ e n=>u.free b o e n (by simp)) (fun b o _ e=>u.there b o e (by simp)) u.tups u.frzs u.tbls (fun m' hm=>by
  obtain ⟨o',es',ep',ho',r'⟩:=hm
  rw [ho] at ho'; cases ho'
  exact ⟨_,es',ep',hL,r'⟩) hok I.bare
theorem Inv.call {g':Array GenState} {t':Nat} {d':Drawn} {ch:List Addr} (I:Inv X pins σ H s) (u:Un (frs X.stack) ch H H' s.heap h') (hok:HOk X.prog X.w H' h') (hg:AllBare g')
  (hch:∀ b ∈ ch,(b ∈ X.ex \/ X.s₀.heap.objs.size <= b) /\ b ≠ X.env.locals /\ (∀ x c,X.env.cells.lookup x = some c -> c ≠ b) /\ ∀ p ∈ X.pn ++ pins,p.1 ≠ b) :
  Inv X pins σ H' { s with heap:=h',gens:=g',drawn:=d',toks:=t' }:=by
 obtain ⟨m,⟨o,es,ep,ho,r⟩,_⟩:=id I.loc
 obtain ⟨sl,hL⟩:=u.any ho I.free fun z=>(hch _ z).2.1 rfl
 exact I.step (ch:=ch) hch (fun b o hL hb hc e n=>u.keep b o e n (fun z=>(List.mem_cons.mp (I.stkSub b z)).elim hL hb) hc) (fun b o _ _ hc e n=>u.any e n hc) (fun b o hc e n=>u.free b o e n hc) (fun b o hc e=>u.there b o e hc) u.tups u.frzs u.tbls (fun m' hm=>by
  obtain ⟨o',es',ep',ho',r'⟩:=hm
  rw [ho] at ho'; cases ho'
  exact ⟨_,es',ep',hL,r'⟩) hok hg
theorem Inv.turned {t':Nat} {it:Addr} (I:Inv X pins σ H s) (k:∀ b o,b ≠ it -> s.heap.get? b = some o -> h'.get? b = some o) (hn:H it = none) (hL:it ≠ X.env.locals)
  (h1:it ∈ X.ex \/ X.s₀.heap.objs.size <= it) (h2:∀ x c,X.env.cells.lookup x = some c -> c ≠ it) (h3:∀ p ∈ X.pn ++ pins,p.1 ≠ it):Inv X pins σ H { s with heap:=h',toks:=t' }:=by
 have nit:∀ b u,H b = some u -> b ≠ it:=fun b u e z=>by rw [z,hn] at e; cases e
 refine I.step (g':=s.gens) (d':=s.drawn) (ch:=[it]) (fun b hb=>?_) (fun b o _ _ hc e _=>k b o (fun z=>hc (by simp [z])) e) (fun b o _ _ hc e _=>⟨o.slots,k b o (fun z=>hc (by simp [z])) e⟩) (fun _ _ _ _ n=>n)
  (fun b o hc e=>⟨o,k b o (fun z=>hc (by simp [z])) e⟩) (fun _ _ e=>e) (fun _ _ _ e=>e) (fun b ps e=>⟨#[],by rw [e]; simp⟩) (fun m hm=>?_) (fun b u e=>?_) I.bare
 ·have e:b = it:=by simpa using hb
  subst e
  exact ⟨h1,hL,h2,h3⟩
 ·obtain ⟨o,es,ep,ho,r⟩:=hm
  exact ⟨o,es,ep,k _ o (Ne.symm hL) ho,r⟩
 ·refine (I.hok b u e).stay (fun c v hc q=>k c v ?_ q) (fun _ q=>q) fun _ _ q=>q
  rcases hc with z | z
  ·rw [z]; exact nit b u e
  ·exact nit c _ z
theorem Inv.tok (I:Inv X pins σ H s) (t:Nat):Inv X pins σ H { s with toks:=t }:=I.un (h':=s.heap) (t':=t) Un.refl I.hok
theorem Inv.kept {t':Nat} (I:Inv X pins σ H s) (k:∀ b u,s.heap.get? b = some u -> h'.get? b = some u):Inv X pins σ H { s with heap:=h',toks:=t' }:=I.un (Un.kept k) (I.hok.kept k)
theorem Inv.laid {a:Addr} {o:HO} {t':Nat} (I:Inv X pins σ H s) (k:∀ b u,s.heap.get? b = some u -> h'.get? b = some u) (hp:s.heap.objs.size <= a) (new:yA X.prog X.w (upd H a o) h' a o) :
  Inv X pins σ (upd H a o) { s with heap:=h',toks:=t' }:=I.un (Un.laid k hp (I.hok.fresh hp)) (I.hok.laid k hp new)
theorem Inv.write {x e:Addr} {o:HO} {t':Nat} (I:Inv X pins σ H s) (mu:Mut (H x)) (he:e = x \/ H e = some (.own x)) (k:∀ b u,b ≠ e -> s.heap.get? b = some u -> h'.get? b = some u) (heo:∃ u,h'.get? e = some u)
  (new:yA X.prog X.w (upd H x o) h' x o):Inv X pins σ (upd H x o) { s with heap:=h',toks:=t' }:=I.un (Un.write mu he k heo) (I.hok.write mu he k heo new)
theorem Inv.pins_of {pins':List (Addr × Obj)} (I:Inv X pins σ H s) (h:∀ p ∈ pins',s.heap.get? p.1 = some p.2 /\ H p.1 = none /\ p.1 ≠ X.env.locals /\ p.1 ∉ X.fs /\ ∀ v,p.2.data ≠ .cell v):Inv X pins' σ H s :=
 ⟨I.ok,I.os,I.bare,I.base,I.loc,I.cell,I.free,I.freeC,fun p hp=>(List.mem_append.mp hp).elim (fun z=>I.pin p (List.mem_append_left _ z)) (h p),I.hok,I.len⟩
theorem jW {N:List Str} (hN:N.Nodup) {i j:Nat} {x:Str} (a:N[i]? = some x) (b:N[j]? = some x):i = j:=by
 obtain ⟨h1,e1⟩:=List.getElem?_eq_some_iff.mp a
 obtain ⟨h2,e2⟩:=List.getElem?_eq_some_iff.mp b
 exact (List.getElem_inj hN).mp (e1.trans e2.symm)
theorem Yi {M:Model} {A:Around} {E:VS7} {i:Nat} {x:Str} {v:V} {u:Value} {Q:Unit -> Shared -> Prop} (I:Inv X pins σ H s) (hN:X.N.Nodup) (hi:X.N[i]? = some x) (hx:Loc X.env.scope x) (r:RelV v u)
  (h:∀ s',Inv X pins (σ.set i (some v)) H s' -> (∃ a,Heap.SameBut a s.heap s'.heap /\ (a = X.env.locals \/ X.env.cells.lookup x = some a)) -> Q () s') (hf:X.fn x = true \/ X.env.scope.names.lookup x = some .local :=by first | exact .inl rfl | exact .inr rfl | assumption):wpAny M A (storeName X.env x u) Q E s:=by
 obtain ⟨m,hn,hl⟩:=id I.loc
 have hcls:(X.env.scope.kind == .class || (X.env.scope.kind == .module && X.env.locals != X.env.globals)) = false:=by rw [I.ok.kind]; rfl
 have hiσ:i < σ.length:=by rw [I.len]; exact (List.getElem?_eq_some_iff.mp hi).1
 have cne:=I.cne
 have tracked:∀ {a:Addr} {h':Heap},(∃ o,s.heap.get? a = some o /\ H a = none) -> Heap.SameBut a s.heap h' -> HOk X.prog X.w H h':=fun {a h'} ha hs b ob e=>by
  obtain ⟨_,_,hfree⟩:=ha
  refine (I.hok b ob e).stay (fun c w' hc q=>(hs.2 c ?_).trans q) (fun _ q=>q) fun _ _ q=>q
  rintro rfl
  rcases hc with rfl | hc
  ·rw [hfree] at e; cases e
  ·rw [hfree] at hc; cases hc
 rcases hx with hk | hk
 ·refine wpAny_storeName_local hk hn (fun h' hn' hs=>?_) hcls
  obtain ⟨oL,_,_,hoL,_⟩:=id hn
  refine h _ ⟨I.ok,I.os,I.bare,⟨fun b o e n hb hx=>?_,fun b o e n hb hx=>?_,I.base.free,fun b o e hx=>?_,I.base.tups,I.base.frzs,I.base.tbls⟩,⟨_,hn',fun j y v' e1 e2 e3=>?_⟩,fun y c e=>?_,I.free,I.freeC,fun p hp=>?_,tracked ⟨oL,hoL,I.free⟩ hs,by simpa using I.len⟩ ⟨_,hs,.inl rfl⟩
  ·exact (hs.2 b (Nat.ne_of_lt (Nat.lt_of_lt_of_le (Heap.lt_size e) I.ok.above))).trans (I.base.keep b o e n hb hx)
  ·obtain ⟨sl,e1⟩:=I.base.slot b o e n hb hx
   exact ⟨sl,(hs.2 b (Nat.ne_of_lt (Nat.lt_of_lt_of_le (Heap.lt_size e) I.ok.above))).trans e1⟩
  ·obtain ⟨o',e1⟩:=I.base.there b o e hx
   exact ⟨o',(hs.2 b (Nat.ne_of_lt (Nat.lt_of_lt_of_le (Heap.lt_size e) I.ok.above))).trans e1⟩
  ·by_cases hj:j = i
   ·subst hj
    rw [hi] at e1; cases e1
    rw [List.getElem?_set_self hiσ] at e2
    cases e2
    exact ⟨u,r,.inl ⟨hk,by simp⟩⟩
   ·rw [List.getElem?_set_ne (Ne.symm hj)] at e2
    obtain ⟨u',r',q⟩:=hl j y v' e1 e2 e3
    refine ⟨u',r',?_⟩
    rcases q with ⟨k,e⟩ | ⟨k,c,e,z⟩
    ·refine .inl ⟨k,?_⟩
     have:y ≠ x:=fun e=>hj (jW hN e1 (e ▸ hi))
     simp [this,e]
    ·exact .inr ⟨k,c,e,z.sameBut hs (cne y c e)⟩
  ·obtain ⟨w',z⟩:=I.cell y c e
   exact ⟨w',z.sameBut hs (cne y c e)⟩
  ·obtain ⟨e,n,ne,nf,d⟩:=I.pin p hp
   exact ⟨(hs.2 p.1 ne).trans e,n,ne,nf,d⟩
 ·have hfn:X.fn x = true:=by
   rcases hf with z | z
   ·exact z
   ·rw [z] at hk; cases hk
  obtain ⟨c,hc⟩:=I.ok.has x (.inl hk)
  obtain ⟨w',z⟩:=I.cell x c hc
  refine wpAny_storeName_cell I.ok.kind hk hc z (fun h' hc' hs=>?_)
  obtain ⟨oc,hoc,hocd⟩:=id z
  refine h { s with heap:=h' } ⟨I.ok,I.os,I.bare,⟨fun b o e n hb hx=>?_,fun b o e n hb hx=>?_,I.base.free,fun b o e hx=>?_,I.base.tups,I.base.frzs,I.base.tbls⟩,⟨m,hn.sameBut hs (Ne.symm (cne x c hc)),fun j y v' e1 e2 e3=>?_⟩,fun y c' e=>?_,I.free,I.freeC,fun p hp=>?_,tracked ⟨oc,hoc,I.freeC x c hc⟩ hs,by simpa using I.len⟩ ⟨c,hs,.inr hc⟩
  ·exact (hs.2 b (Nat.ne_of_lt (Nat.lt_of_lt_of_le (Heap.lt_size e) (I.ok.cab x c hfn hc)))).trans (I.base.keep b o e n hb hx)
  ·obtain ⟨sl,e1⟩:=I.base.slot b o e n hb hx
   exact ⟨sl,(hs.2 b (Nat.ne_of_lt (Nat.lt_of_lt_of_le (Heap.lt_size e) (I.ok.cab x c hfn hc)))).trans e1⟩
  ·obtain ⟨o',e1⟩:=I.base.there b o e hx
   exact ⟨o',(hs.2 b (Nat.ne_of_lt (Nat.lt_of_lt_of_le (Heap.lt_size e) (I.ok.cab x c hfn hc)))).trans e1⟩
  ·by_cases hj:j = i
   ·subst hj
    rw [hi] at e1; cases e1
    rw [List.getElem?_set_self hiσ] at e2
    cases e2
    exact ⟨u,r,.inr ⟨.inl hk,c,hc,hc'⟩⟩
   ·rw [List.getElem?_set_ne (Ne.symm hj)] at e2
    obtain ⟨u',r',q⟩:=hl j y v' e1 e2 e3
    refine ⟨u',r',?_⟩
    rcases q with q | ⟨k,c',e,z'⟩
    ·exact .inl q
    ·refine .inr ⟨k,c',e,z'.sameBut hs ?_⟩
     rintro rfl
     exact hj (jW hN e1 (I.ok.inj _ _ _ e hc ▸ hi))
  ·by_cases hcc:c' = c
   ·subst hcc; exact ⟨_,hc'⟩
   ·obtain ⟨w2,z2⟩:=I.cell y c' e
    exact ⟨w2,z2.sameBut hs hcc⟩
  ·obtain ⟨e,n,ne,nf,d⟩:=I.pin p hp
   refine ⟨(hs.2 p.1 ?_).trans e,n,ne,nf,d⟩
   intro q
   rw [q,hoc] at e
   have q':oc = p.2:=Option.some.inj e
   exact d w' (by rw [← q']; exact hocd)
theorem sj {M:Model} {A:Around} {E:VS7} {i:Nat} {x:Str} {v:V} {u:Value} {Q:Unit -> Shared -> Prop} (I:Inv X pins σ H s) (hN:X.N.Nodup) (hi:X.N[i]? = some x) (hx:Loc X.env.scope x) (r:RelV v u)
  (h:∀ s',Inv X pins (σ.set i (some v)) H s' -> Q () s') (hf:X.fn x = true \/ X.env.scope.names.lookup x = some .local :=by first | exact .inl rfl | exact .inr rfl | assumption):wpAny M A (storeName X.env x u) Q E s :=
 Yi I hN hi hx r (fun s' I' _=>h s' I') hf
theorem Inv.call' {s':Shared} {ch:List Addr} (I:Inv X pins σ H s) (ho:s'.os = s.os) (u:Un (frs X.stack) ch H H' s.heap s'.heap) (hok:HOk X.prog X.w H' s'.heap) (hg:AllBare s'.gens)
  (hch:∀ b ∈ ch,(b ∈ X.ex \/ X.s₀.heap.objs.size <= b) /\ b ≠ X.env.locals /\ (∀ x c,X.env.cells.lookup x = some c -> c ≠ b) /\ ∀ p ∈ X.pn ++ pins,p.1 ≠ b):Inv X pins σ H' s':=by
 obtain ⟨h',g',d',t',o'⟩:=s'
 have e:o' = s.os:=ho
 subst e
 exact I.call (g':=g') (t':=t') (d':=d') u hok hg hch
end
abbrev XK:=Value -> Option Addr -> Hp -> Prop
abbrev St:=List (Option V)
abbrev VK:=V -> Hp -> Prop
abbrev TE:=St -> Hp -> VK -> Prop
abbrev TT:=St -> Hp -> (Bool -> Hp -> Prop) -> Prop
abbrev TA:=St -> Hp -> (List V -> Hp -> Prop) -> Prop
structure Ends where
 nx:St -> Hp -> Prop
 rt:VK
 bk:St -> Hp -> Prop:=fun _ _=>False
 ct:St -> Hp -> Prop:=fun _ _=>False
abbrev TS:=Ends -> St -> Hp -> Prop
def EP (X:Cx) (pins:List (Addr × Obj)) (σ:St) (Q:VK) (u:Value) (s':Shared):Prop:=∃ v H',Inv X pins σ H' s' /\ RelV v u /\ Q v H'
def TP (X:Cx) (pins:List (Addr × Obj)) (σ:St) (Q:Bool -> Hp -> Prop) (b:Bool) (s':Shared):Prop:=∃ H',Inv X pins σ H' s' /\ Q b H'
def AP (X:Cx) (pins:List (Addr × Obj)) (σ:St) (Q:List V -> Hp -> Prop) (us:List Value) (s':Shared):Prop:=∃ vs H',Inv X pins σ H' s' /\ Vals vs us /\ Q vs H'
def SP (X:Cx) (pins:List (Addr × Obj)) (D:Ends) (f:Flow) (s':Shared):Prop :=
 match f with
 | .next=>∃ σ' H',Inv X pins σ' H' s' /\ D.nx σ' H'
 | .brk=>∃ σ' H',Inv X pins σ' H' s' /\ D.bk σ' H'
 | .cont=>∃ σ' H',Inv X pins σ' H' s' /\ D.ct σ' H'
 | .ret u=>∃ v σ' H',Inv X pins σ' H' s' /\ RelV v u /\ D.rt v H'
def PE (X:Cx) (e:Expr) (t:TE):Prop :=
 ∀ (pins:List (Addr × Obj)) (s:Shared) (σ:St) (H:Hp) (Q:VK),Inv X pins σ H s -> t σ H Q -> wpAny (model X.prog X.w) X.A (eval e X.env) (EP X pins σ Q) X.xe s
def PT (X:Cx) (e:Expr) (t:TT):Prop :=
 ∀ (pins:List (Addr × Obj)) (s:Shared) (σ:St) (H:Hp) (Q:Bool -> Hp -> Prop),Inv X pins σ H s -> t σ H Q -> wpAny (model X.prog X.w) X.A (isTrue e X.env (eval e X.env)) (TP X pins σ Q) X.xe s
def PW (X:Cx) (e:Expr) (t:TT):Prop :=
 ∀ (whole:Sem Value) (pins:List (Addr × Obj)) (s:Shared) (σ:St) (H:Hp) (Q:Bool -> Hp -> Prop),Inv X pins σ H s -> t σ H Q -> wpAny (model X.prog X.w) X.A (isTrue e X.env whole) (TP X pins σ Q) X.xe s
theorem PW.pt {X:Cx} {e:Expr} {t:TT} (h:PW X e t):PT X e t:=h _
def PA (X:Cx) (es:List Expr) (t:TA):Prop :=
 ∀ (pos:Pos) (pins:List (Addr × Obj)) (s:Shared) (σ:St) (H:Hp) (Q:List V -> Hp -> Prop),Inv X pins σ H s -> t σ H Q -> wpAny (model X.prog X.w) X.A (spliced (backTo pos (starEach es X.env))) (AP X pins σ Q) X.xe s
def PS (X:Cx) (st:Stmt) (t:TS):Prop :=
 ∀ (pins:List (Addr × Obj)) (s:Shared) (σ:St) (H:Hp) (D:Ends),Inv X pins σ H s -> t D σ H -> wpAny (model X.prog X.w) X.A (exec st X.env) (SP X pins D) X.xe s
def PSs (X:Cx) (st:List Stmt) (t:TS):Prop :=
 ∀ (pins:List (Addr × Obj)) (s:Shared) (σ:St) (H:Hp) (D:Ends),Inv X pins σ H s -> t D σ H -> wpAny (model X.prog X.w) X.A (execs st X.env) (SP X pins D) X.xe s
theorem thn {α:Type} {t:Sem α} {Q Q':α -> Shared -> Prop} {M:Model} {A:Around} {E:VS7} {s:Shared} (h:wpAny M A t Q E s) (hQ:∀ a s,Q a s -> Q' a s):wpAny M A t Q' E s:=wpAny_mono h hQ fun _ _ x=>x
end L2
namespace L2
open PySem PySem.Spec PyProof.Rows
section
variable {X:Cx}
def tVar (i:Nat):TE:=fun σ H Q=>∃ v,σ[i]? = some (some v) /\ Q v H
def tC (v:V):TE:=fun _ H Q=>Q v H
theorem Uc {i:Nat} {x:Str} {pos:Pos} (hN:X.N[i]? = some x) (hv:Vis X.env.scope x) (hd:(x == ("__debug__":Str)) = false:=by decide) (hcd:(x == ("__classdict__":Str)) = false:=by decide):PE X (.Name x pos) (tVar i):=by
 intro pins s σ H Q I h
 obtain ⟨v,e,h⟩:=h
 obtain ⟨m,hn,hl⟩:=I.loc
 obtain ⟨u,r,l⟩:=hl i x v hN e hv
 have fin:EP X pins σ Q u s:=⟨v,H,I,r,h⟩
 rcases l with ⟨hk,hm⟩ | ⟨hk,c,hc,hcell⟩
 ·exact wpAny_Name (wpAny_loadName_local I.ok.kind hk hn hm fin) hd
 ·rcases hk with hk | hk
  ·exact wpAny_Name (wpAny_loadName_cell I.ok.kind hk hc hcell fin) hd
  ·exact wpAny_Name (wpAny_loadName_free I.ok.kind hk hc hcell fin hcd) hd
theorem zi {i j pos}:PE X (.Constant (.int i) j pos) (tC (.int i)):=fun _ _ _ H _ I h=>wpAny_Constant_int ⟨.int i,H,I.tok _,⟨_,rfl⟩,h⟩
theorem xO {b j pos}:PE X (.Constant (.bool b) j pos) (tC (.bl b)):=fun _ _ _ H _ I h=>Constant_bool ⟨.bl b,H,I,rfl,h⟩
theorem wf {j pos}:PE X (.Constant .none j pos) (tC .non):=fun _ _ _ H _ I h=>Constant_none ⟨.non,H,I,rfl,h⟩
def Gl (X:Cx) (x:Str):Prop:=X.env.kindOf x = some .globalImplicit
theorem Yj {E:VS7} {pins:List (Addr × Obj)} {s:Shared} {σ:St} {H:Hp} {x:Str} {u:Value} {pos:Pos} {Q:VS7} (I:Inv X pins σ H s) (hg:Gl X x) (hm:X.mg x = some u) (h:Q u s)
  (hd:(x == ("__debug__":Str)) = false:=by decide):wpAny (model X.prog X.w) X.A (eval (.Name x pos) X.env) Q E s :=
 Calls.Name_function_global I.ok.kind hg (Calls.loadGlobal_global (by rw [I.ok.glob]; exact I.mod.glob.keeps I.bk) hm h) hd
theorem wP {E:VS7} {pins:List (Addr × Obj)} {s:Shared} {σ:St} {H:Hp} {x:Str} {u:Value} {pos:Pos} {Q:VS7} (I:Inv X pins σ H s) (hg:Gl X x) (hm:X.mg x = none) (hv:bootBuiltins x = some u) (h:Q u s)
  (hn:x ≠ "__name__":=by decide) (hd:(x == ("__debug__":Str)) = false:=by decide):wpAny (model X.prog X.w) X.A (eval (.Name x pos) X.env) Q E s:=by
 obtain ⟨mb,h1,h2⟩:=I.mod.blt
 exact Calls.Name_function_global I.ok.kind hg (Calls.loadGlobal_builtin (by rw [I.ok.glob]; exact I.mod.glob.keeps I.bk) hm (by rw [I.ok.blt]; exact h1.keeps I.bk) ((h2 x hn).trans hv) h) hd
theorem xk {x:Str} {v:V} {u:Value} {pos:Pos} (hg:Gl X x) (hm:X.mg x = some u) (r:RelV v u) (hd:(x == ("__debug__":Str)) = false:=by decide):PE X (.Name x pos) (tC v) :=
 fun _ _ _ H _ I h=>Yj I hg hm ⟨v,H,I,r,h⟩ hd
theorem Vj {x:Str} {v:V} {u:Value} {pos:Pos} (hg:Gl X x) (hm:X.mg x = none) (hv:bootBuiltins x = some u) (r:RelV v u) (hn:x ≠ "__name__":=by decide) (hd:(x == ("__debug__":Str)) = false:=by decide):PE X (.Name x pos) (tC v) :=
 fun _ _ _ H _ I h=>wP I hg hm hv ⟨v,H,I,r,h⟩ hn hd
variable {a b:Expr} {ta tb:TE} {pos:Pos}
def PC (X:Cx) (op:CmpOp) (a b:Expr) (t:TE):Prop :=
 ∀ (pins:List (Addr × Obj)) (s:Shared) (σ:St) (H:Hp) (Q:VK),Inv X pins σ H s -> t σ H Q →
  wpAny (model X.prog X.w) X.A (eval a X.env) (fun v s₁=>wpAny (model X.prog X.w) X.A (eval b X.env) (fun u s₂=>wpAny (model X.prog X.w) X.A (compareOp op v u) (EP X pins σ Q) X.xe s₂) X.xe s₁) X.xe s
theorem jX (b:Expr) {op:CmpOp} (h:op ≠ .In) (h2:op ≠ .NotIn):behindInMarks op b = false:=by
 have e1:(op == CmpOp.In) = false:=by cases op <;> first | rfl | exact absurd rfl h
 have e2:(op == CmpOp.NotIn) = false:=by cases op <;> first | rfl | exact absurd rfl h2
 cases b <;> simp [behindInMarks,e1,e2]
def tIsN (ta:TE):TE:=fun σ H Q=>ta σ H fun x H1=>Q (.bl (decide (x = .non))) H1
def U1 (ta:TE):TE:=fun σ H Q=>ta σ H fun x H1=>Q (.bl (!decide (x = .non))) H1
theorem RelV.none_iff {x:V} {v:Value} (r:RelV x v):(v == Value.none) = decide (x = .non):=by
 cases x with
 | non=>cases r; rfl
 | bl _=>cases r; rfl
 | int _=>obtain ⟨t,rfl⟩:=r; rfl
 | str _=>obtain ⟨t,rfl⟩:=r; rfl
 | byt _=>obtain ⟨t,rfl⟩:=r; rfl
 | flt _=>obtain ⟨t,rfl⟩:=r; rfl
 | ref _=>cases r; rfl
 | ty _=>cases r; rfl
theorem wg {j pos'} (ha:PE X a ta):PC X .Is a (.Constant .none j pos') (tIsN ta):=by
 intro pins s σ H Q I h
 refine thn (ha pins s σ H _ I h) fun v s1 ⟨x,H1,I1,r1,q1⟩=>?_
 exact Constant_none (is_none_gen ⟨.bl _,H1,I1,by rw [r1.none_iff]; rfl,q1⟩)
theorem uD {j pos'} (ha:PE X a ta):PC X .IsNot a (.Constant .none j pos') (U1 ta):=by
 intro pins s σ H Q I h
 refine thn (ha pins s σ H _ I h) fun v s1 ⟨x,H1,I1,r1,q1⟩=>?_
 exact Constant_none (isnot_none_gen ⟨.bl _,H1,I1,by rw [r1.none_iff]; rfl,q1⟩)
def tB (t:TE):TT:=fun σ H Q=>t σ H fun x H1=>∃ c,x = .bl c /\ Q c H1
theorem Yk {op:CmpOp} {t:TE} (h:PC X op a b t) (h1:behindInMarks op b = false:=by first | exact jX _ (by decide) (by decide) | rfl):PE X (.Compare a [op] [b] pos) t:=fun pins s σ H Q I hw=>wpAny_Compare1 (h pins s σ H Q I hw) h1
theorem xz {op:CmpOp} {t:TE} (h:PC X op a b t) (h1:behindInMarks op b = false:=by first | exact jX _ (by decide) (by decide) | rfl):PT X (.Compare a [op] [b] pos) (tB t):=by
 intro pins s σ H Q I hw
 refine wpAny_isTrue_Compare1 (thn (h pins s σ H _ I hw) fun v s1 h1=>thn h1 fun u s2 h2=>thn h2 fun c s3 ⟨x,H1,I1,r1,q1⟩=>?_) h1
 obtain ⟨d,rfl,q⟩:=q1
 cases r1
 exact wpAny_truthy_bool ⟨H1,I1,q⟩
theorem zR {e:Expr} {t:TE} (h:PE X e t) (he:∀ whole,isTrue e X.env whole = (do let v ← whole; standAt e.pos; holding [v] (truthy v)):=by intro _; rfl):PT X e (tB t):=by
 intro pins s σ H Q I hw
 refine isTrue_plain (thn (h pins s σ H _ I hw) fun v s1 ⟨x,H1,I1,r1,q1⟩=>?_) (he _)
 obtain ⟨d,rfl,q⟩:=q1
 cases r1
 exact wpAny_truthy_bool ⟨H1,I1,q⟩
variable {tA tB':TT} {rest:List Expr}
def tAnd (t u:TT):TT:=fun σ H Q=>t σ H fun c H1=>if c = true then u σ H1 Q else Q false H1
def tOr (t u:TT):TT:=fun σ H Q=>t σ H fun c H1=>if c = true then Q true H1 else u σ H1 Q
def tNot (t:TT):TT:=fun σ H Q=>t σ H fun c H1=>Q (!c) H1
theorem xP (ha:PT X a tA):PW X (.BoolOp .And [a] pos) tA:=by
 intro wh pins s σ H Q I h
 refine isTrue_and (thn (ha pins s σ H Q I h) fun c s1 e=>?_)
 cases c with
 | true=>exact isTrue_and_nil e
 | false=>exact e
theorem wj (ha:PT X a tA):PW X (.BoolOp .Or [a] pos) tA:=by
 intro wh pins s σ H Q I h
 refine isTrue_or (thn (ha pins s σ H Q I h) fun c s1 e=>?_)
 cases c with
 | false=>exact isTrue_or_nil e
 | true=>exact e
theorem wQ (ha:PT X a tA) (hb:PW X (.BoolOp .And (b :: rest) pos) tB'):PW X (.BoolOp .And (a :: b :: rest) pos) (tAnd tA tB'):=by
 intro wh pins s σ H Q I h
 refine isTrue_and (thn (ha pins s σ H _ I h) fun c s1 ⟨H1,I1,q1⟩=>?_)
 cases c with
 | true=>exact hb wh pins s1 σ H1 Q I1 q1
 | false=>exact ⟨H1,I1,q1⟩
theorem uE (ha:PT X a tA) (hb:PW X (.BoolOp .Or (b :: rest) pos) tB'):PW X (.BoolOp .Or (a :: b :: rest) pos) (tOr tA tB'):=by
 intro wh pins s σ H Q I h
 refine isTrue_or (thn (ha pins s σ H _ I h) fun c s1 ⟨H1,I1,q1⟩=>?_)
 cases c with
 | true=>exact ⟨H1,I1,q1⟩
 | false=>exact hb wh pins s1 σ H1 Q I1 q1
theorem zU (ha:PT X a tA):PT X (.UnaryOp .Not a pos) (tNot tA):=by
 intro pins s σ H Q I h
 exact isTrue_not (ha pins s σ H (fun c H1=>Q (!c) H1) I h)
def U2 (ta tb:TE):TE:=fun σ H Q=>ta σ H fun x H1=>∃ c,x = .bl c /\ if c = true then tb σ H1 Q else Q (.bl false) H1
def tOrV (ta tb:TE):TE:=fun σ H Q=>ta σ H fun x H1=>∃ c,x = .bl c /\ if c = true then Q (.bl true) H1 else tb σ H1 Q
def U3 (ta:TE):TE:=fun σ H Q=>ta σ H fun x H1=>∃ c,x = .bl c /\ Q (.bl (!c)) H1
theorem xH {op} {t:TE} (h:PE X a t):PE X (.BoolOp op [a] pos) t:=fun pins s σ H Q I hw=>BoolOp_one (h pins s σ H Q I hw)
theorem wR (ha:PE X a ta) (hb:PE X (.BoolOp .And (b :: rest) pos) tb):PE X (.BoolOp .And (a :: b :: rest) pos) (U2 ta tb):=by
 intro pins s σ H Q I h
 refine BoolOp_and (thn (ha pins s σ H _ I h) fun v s1 ⟨x,H1,I1,r1,q1⟩=>?_)
 obtain ⟨c,rfl,q1⟩:=q1
 cases r1
 refine wpAny_truthy_bool ?_
 cases c with
 | true=>exact hb pins s1 σ H1 Q I1 q1
 | false=>exact ⟨.bl false,H1,I1,rfl,q1⟩
theorem XX (ha:PE X a ta) (hb:PE X (.BoolOp .Or (b :: rest) pos) tb):PE X (.BoolOp .Or (a :: b :: rest) pos) (tOrV ta tb):=by
 intro pins s σ H Q I h
 refine BoolOp_or (thn (ha pins s σ H _ I h) fun v s1 ⟨x,H1,I1,r1,q1⟩=>?_)
 obtain ⟨c,rfl,q1⟩:=q1
 cases r1
 refine wpAny_truthy_bool ?_
 cases c with
 | false=>exact hb pins s1 σ H1 Q I1 q1
 | true=>exact ⟨.bl true,H1,I1,rfl,q1⟩
theorem Ud (ha:PE X a ta):PE X (.UnaryOp .Not a pos) (U3 ta):=by
 intro pins s σ H Q I h
 refine UnaryOp_ (thn (ha pins s σ H _ I h) fun v s1 ⟨x,H1,I1,r1,q1⟩=>?_)
 obtain ⟨c,rfl,q1⟩:=q1
 cases r1
 exact not_of (wpAny_truthy_bool ⟨.bl (!c),H1,I1,rfl,q1⟩)
def tIf (t:TT) (ta tb:TE):TE:=fun σ H Q=>t σ H fun c H1=>if c = true then ta σ H1 Q else tb σ H1 Q
theorem xA {c:Expr} (hc:PT X c tA) (ha:PE X a ta) (hb:PE X b tb):PE X (.IfExp c a b pos) (tIf tA ta tb):=by
 intro pins s σ H Q I h
 refine wpAny_IfExp (thn (hc pins s σ H _ I h) fun d s1 ⟨H1,I1,q1⟩=>?_)
 cases d with
 | true=>exact ha pins s1 σ H1 Q I1 q1
 | false=>exact hb pins s1 σ H1 Q I1 q1
end
end L2
namespace L2
open PySem PySem.Spec PyProof.Rows
def SqL (K:FG7) (H:Hp) (a:Addr) (xs:List V):Prop :=
 Rd H a (.lst xs) ∨
  ∃ (o:Obj) (its:Array Value) (n:Nat),K.lookup a = some o /\ o.cls = .type "list" /\ o.dict = none /\ o.data = .seq its n /\ its.size <= sizeLine /\ Vals xs its.toList
def SqT (K:FG7) (H:Hp) (a:Addr) (xs:List V):Prop :=
 Rd H a (.tup xs) ∨
  ∃ (o:Obj) (its:Array Value) (n:Nat),K.lookup a = some o /\ o.cls = .type "tuple" /\ o.data = .seq its n /\ its.size <= sizeLine /\ Vals xs its.toList
def absV:Value -> Option V
 | .none=>some .non
 | .bool b=>some (.bl b)
 | .int i _=>some (.int i)
 | .str x _=>some (.str x)
 | .bytes b _=>some (.byt b)
 | .float b _=>some (.flt b)
 | .ref a=>some (.ref a)
 | .type n=>some (.ty n)
 | _=>none
theorem RelV.abs {x:V} {u:Value} (r:RelV x u):absV u = some x:=by
 cases x with
 | non=>cases r; rfl
 | bl _=>cases r; rfl
 | int _=>obtain ⟨t,rfl⟩:=r; rfl
 | str _=>obtain ⟨t,rfl⟩:=r; rfl
 | byt _=>obtain ⟨t,rfl⟩:=r; rfl
 | flt _=>obtain ⟨t,rfl⟩:=r; rfl
 | ref _=>cases r; rfl
 | ty _=>cases r; rfl
theorem RelV.inj {x y:V} {u:Value} (r:RelV x u) (q:RelV y u):x = y:=Option.some.inj (r.abs.symm.trans q.abs)
theorem Vals.inj:∀ {xs ys:List V} {us:List Value},Vals xs us -> Vals ys us -> xs = ys
 | _,_,_,.nil,.nil=>rfl
 | _,_,_,.cons r t,.cons r' t'=>by rw [r.inj r',Vals.inj t t']
section
variable {X:Cx} {pins:List (Addr × Obj)} {σ:St} {H:Hp} {s:Shared} {a:Addr} {xs ys:List V}
theorem SqL.of {K:FG7} (h:H a = some (.lst xs)):SqL K H a xs:=.inl (.inl h)
theorem SqT.of {K:FG7} (h:H a = some (.tup xs)):SqT K H a xs:=.inl (.inl h)
theorem Inv.list (I:Inv X pins σ H s) (h:SqL X.K H a xs):∃ its:List Value,Vals xs its /\ PlainL s.heap a its.toArray /\ xs.length <= sizeLine:=by
 rcases h with h | ⟨o,its,n,hk,hc,hd,hs,hz,r⟩
 ·obtain ⟨z,its,n,r,e⟩:=h.ok I.hok
  exact ⟨its,r,⟨_,n,e,rfl,rfl,rfl⟩,z⟩
 ·refine ⟨its.toList,r,⟨o,n,I.kIn a o hk,hc,hd,by simpa using hs⟩,?_⟩
  have e:=r.length
  simp only [Array.length_toList] at e
  omega
theorem Inv.tuple (I:Inv X pins σ H s) (h:SqT X.K H a xs):∃ its:List Value,Vals xs its /\ IsTup s.heap a its.toArray /\ xs.length <= sizeLine:=by
 rcases h with h | ⟨o,its,n,hk,hc,hs,hz,r⟩
 ·obtain ⟨z,its,r,p⟩:=h.ok I.hok
  exact ⟨its,r,p,z⟩
 ·refine ⟨its.toList,r,⟨o,I.kIn a o hk,hc,n,by simpa using hs⟩,?_⟩
  have e:=r.length
  simp only [Array.length_toList] at e
  omega
theorem Inv.list_inj (I:Inv X pins σ H s) (h:SqL X.K H a xs) (h':SqL X.K H a ys):xs = ys:=by
 obtain ⟨its,r,⟨o,n,e,_,_,d⟩,_⟩:=I.list h
 obtain ⟨its',r',⟨o',n',e',_,_,d'⟩,_⟩:=I.list h'
 rw [e] at e'; cases e'
 rw [d] at d'
 injection d' with d1 _
 have:its = its':=by simpa using congrArg Array.toList d1
 subst this
 exact r.inj r'
theorem Inv.tuple_inj (I:Inv X pins σ H s) (h:SqT X.K H a xs) (h':SqT X.K H a ys):xs = ys:=by
 obtain ⟨its,r,⟨o,e,_,n,d⟩,_⟩:=I.tuple h
 obtain ⟨its',r',⟨o',e',_,n',d'⟩,_⟩:=I.tuple h'
 rw [e] at e'; cases e'
 rw [d] at d'
 injection d' with d1 _
 have:its = its':=by simpa using congrArg Array.toList d1
 subst this
 exact r.inj r'
end
abbrev Cx.wish (X:Cx) (E:VS7):Cx:={ X with xe:=E }
abbrev Cx.nox (X:Cx):Cx:=X.wish fun _ _=>False
theorem Cx.Ok.wish {X:Cx} (ok:X.Ok) (E:VS7):(X.wish E).Ok :=
 ⟨ok.mod,ok.kind,ok.glob,ok.blt,ok.above,ok.inj,ok.has,ok.cab,ok.hd,ok.frames,ok.stk,ok.exf,ok.bs,ok.bsz,ok.noex,ok.exfs,ok.funs,ok.frf⟩
theorem Cx.Ok.unwish {X:Cx} {E:VS7} (ok:(X.wish E).Ok):X.Ok :=
 ⟨ok.mod,ok.kind,ok.glob,ok.blt,ok.above,ok.inj,ok.has,ok.cab,ok.hd,ok.frames,ok.stk,ok.exf,ok.bs,ok.bsz,ok.noex,ok.exfs,ok.funs,ok.frf⟩
section
variable {X:Cx} {pins:List (Addr × Obj)} {σ:St} {H:Hp} {s:Shared} {E:VS7}
theorem Inv.wish (I:Inv X pins σ H s) (E:VS7):Inv (X.wish E) pins σ H s:=⟨I.ok.wish E,I.os,I.bare,I.base,I.loc,I.cell,I.free,I.freeC,I.pin,I.hok,I.len⟩
theorem Inv.unwish (I:Inv (X.wish E) pins σ H s):Inv X pins σ H s:=⟨I.ok.unwish,I.os,I.bare,I.base,I.loc,I.cell,I.free,I.freeC,I.pin,I.hok,I.len⟩
theorem SP.unwish {D:Ends} {f:Flow} {s':Shared} (h:SP (X.wish E) pins D f s'):SP X pins D f s':=by
 cases f with
 | next=>obtain ⟨σ',H',I,q⟩:=h; exact ⟨σ',H',I.unwish,q⟩
 | brk=>obtain ⟨σ',H',I,q⟩:=h; exact ⟨σ',H',I.unwish,q⟩
 | cont=>obtain ⟨σ',H',I,q⟩:=h; exact ⟨σ',H',I.unwish,q⟩
 | ret u=>obtain ⟨v,σ',H',I,r,q⟩:=h; exact ⟨v,σ',H',I.unwish,r,q⟩
theorem PE.nox {e:Expr} {t:TE} (h:PE X.nox e t):PE X e t:=fun pins s σ H Q I hw =>
 wpAny_mono (h pins s σ H Q (I.wish _) hw) (fun _ _ ⟨v,H',I',r,q⟩=>⟨v,H',I'.unwish,r,q⟩) fun _ _ z=>False.elim z
theorem PT.nox {e:Expr} {t:TT} (h:PT X.nox e t):PT X e t:=fun pins s σ H Q I hw =>
 wpAny_mono (h pins s σ H Q (I.wish _) hw) (fun _ _ ⟨H',I',q⟩=>⟨H',I'.unwish,q⟩) fun _ _ z=>False.elim z
theorem PSs.nox {st:List Stmt} {t:TS} (h:PSs X.nox st t):PSs X st t:=fun pins s σ H D I hw =>
 wpAny_mono (h pins s σ H D (I.wish _) hw) (fun _ _ q=>q.unwish) fun _ _ z=>False.elim z
end
section
variable {X:Cx} {st:Stmt} {rest:List Stmt} {t u:TS} {e:Expr} {te:TE} {pos:Pos}
def Ue:TS:=fun D σ H=>D.nx σ H
def tSeq (t u:TS):TS:=fun D σ H=>t { D with nx:=u D } σ H
theorem zp:PSs X [] Ue:=fun _ _ σ H _ I h=>wpAny_execs_nil ⟨σ,H,I,h⟩
theorem zc (h1:PS X st t) (h2:PSs X rest u):PSs X (st :: rest) (tSeq t u):=by
 intro pins s σ H D I h
 refine wpAny_execs_cons (thn (h1 pins s σ H { D with nx:=u D } I h) fun f s1 q=>?_)
 cases f with
 | next =>
  obtain ⟨σ',H',I',q⟩:=q
  exact h2 pins s1 σ' H' D I' q
 | ret v=>exact q
 | brk=>exact q
 | cont=>exact q
theorem zg (h1:PS X st t):PSs X [st] t:=by
 intro pins s σ H D I h
 refine wpAny_execs_cons (thn (h1 pins s σ H D I h) fun f s1 q=>?_)
 cases f with
 | next=>exact wpAny_execs_nil q
 | ret v=>exact q
 | brk=>exact q
 | cont=>exact q
theorem Inv.quiet {pins:List (Addr × Obj)} {σ:St} {H:Hp} {s:Shared} (I:Inv X pins σ H s):interactive X.env = false:=by simp [interactive,I.ok.kind]
def U4 (te:TE):TS:=fun D σ H=>te σ H fun _ H1=>D.nx σ H1
theorem zy (he:PE X e te) (hs:swapsWith e none pos.line X.env = pure false:=by rfl):PS X (.Expr e pos) (U4 te):=by
 intro pins s σ H D I h
 exact wpAny_Expr_any (thn (he pins s σ H _ I h) fun v s1 ⟨x,H1,I1,r1,q1⟩=>⟨σ,H1,I1,q1⟩) I.quiet hs
def tRet (te:TE):TS:=fun D σ H=>te σ H D.rt
theorem zn (he:PE X e te):PS X (.Return (some e) pos) (tRet te):=by
 intro pins s σ H D I h
 exact wpAny_Return_some (thn (he pins s σ H _ I h) fun v s1 ⟨x,H1,I1,r1,q1⟩=>⟨x,σ,H1,I1,r1,q1⟩)
def tIfS (c:TT) (t u:TS):TS:=fun D σ H=>c σ H fun b H1=>if b = true then t D σ H1 else u D σ H1
theorem zO {c:Expr} {a b:List Stmt} {tc:TT} (hc:PT X c tc) (ha:PSs X a t) (hb:PSs X b u):PS X (.If c a b pos) (tIfS tc t u):=by
 intro pins s σ H D I h
 refine wpAny_If (thn (hc pins s σ H _ I h) fun d s1 ⟨H1,I1,q1⟩=>?_)
 cases d with
 | true=>exact ha pins s1 σ H1 D I1 q1
 | false=>exact hb pins s1 σ H1 D I1 q1
def Uf:TS:=fun _ _ _=>False
theorem zZ:PS X st Uf:=fun _ _ _ _ _ _ h=>h.elim
end
abbrev TG:=V -> St -> Hp -> (St -> Hp -> Prop) -> Prop
abbrev TGs:=List V -> St -> Hp -> (St -> Hp -> Prop) -> Prop
def PG (X:Cx) (target:Expr) (t:TG):Prop :=
 ∀ (pins:List (Addr × Obj)) (s:Shared) (σ:St) (H:Hp) (v:V) (u:Value) (Q:St -> Hp -> Prop),Inv X pins σ H s -> RelV v u -> t v σ H Q →
  wpAny (model X.prog X.w) X.A (assign target X.env u) (fun _ s'=>∃ σ' H',Inv X pins σ' H' s' /\ Q σ' H') X.xe s
def PGs (X:Cx) (ts:List Expr) (t:TGs):Prop :=
 ∀ (pins:List (Addr × Obj)) (s:Shared) (σ:St) (H:Hp) (vs:List V) (us:List Value) (Q:St -> Hp -> Prop),Inv X pins σ H s -> Vals vs us -> t vs σ H Q →
  wpAny (model X.prog X.w) X.A (assignInOrder ((assignEach ts X.env).map (·.2)) us) (fun _ s'=>∃ σ' H',Inv X pins σ' H' s' /\ Q σ' H') X.xe s
abbrev TSet:=V -> V -> V -> Hp -> (Hp -> Prop) -> Prop
def PSet (X:Cx) (t:TSet):Prop :=
 ∀ (pins:List (Addr × Obj)) (s:Shared) (σ:St) (H:Hp) (o i v:V) (ov iv u:Value) (Q:Hp -> Prop),Inv X pins σ H s -> RelV o ov -> RelV i iv -> RelV v u -> t o i v H Q →
  wpAny (model X.prog X.w) X.A (setItem ov iv u) (fun _ s'=>∃ H',Inv X pins σ H' s' /\ Q H') X.xe s
abbrev TIp:=V -> V -> Hp -> VK -> Prop
def PIp (X:Cx) (op:Operator) (t:TIp):Prop :=
 ∀ (pins:List (Addr × Obj)) (s:Shared) (σ:St) (H:Hp) (x y:V) (v u:Value) (Q:VK),Inv X pins σ H s -> RelV x v -> RelV y u -> t x y H Q →
  wpAny (model X.prog X.w) X.A (inplaceOp op v u) (EP X pins σ Q) X.xe s
section
variable {X:Cx} {pos:Pos}
def uc (i:Nat):TG:=fun v σ H Q=>Q (σ.set i (some v)) H
theorem zm {i:Nat} {x:Str} (hN:X.N.Nodup) (hi:X.N[i]? = some x) (hx:Loc X.env.scope x) (hf:X.fn x = true \/ X.env.scope.names.lookup x = some .local :=by first | exact .inl rfl | exact .inr rfl | assumption):PG X (.Name x pos) (uc i):=by
 intro pins s σ H v u Q I r h
 exact wpAny_assign_Name (sj I hN hi hx r (fun s' I'=>⟨_,H,I',h⟩) hf)
def gNil:TGs:=fun vs σ H Q=>vs = [] /\ Q σ H
def U5 (t:TG) (u:TGs):TGs:=fun vs σ H Q=>∃ v r,vs = v :: r /\ t v σ H fun σ' H'=>u r σ' H' Q
theorem yM:PGs X [] gNil:=by
 intro pins s σ H vs us Q I r h
 obtain ⟨e,h⟩:=h
 subst e
 cases r
 exact assignInOrder_nil ⟨σ,H,I,h⟩
theorem zw {e:Expr} {es:List Expr} {t:TG} {u:TGs} (h1:PG X e t) (h2:PGs X es u)
  (hs:(assignEach (e :: es) X.env).map (·.2) = assign e X.env :: (assignEach es X.env).map (·.2):=by rfl):PGs X (e :: es) (U5 t u):=by
 intro pins s σ H vs us Q I r h
 obtain ⟨v,vr,e1,h⟩:=h
 subst e1
 cases r with
 | cons r rr =>
  rw [hs]
  refine assignInOrder_cons (thn (h1 pins s σ H _ _ _ I r h) fun _ s1 ⟨σ1,H1,I1,q1⟩=>?_)
  exact h2 pins s1 σ1 H1 _ _ Q I1 rr q1
def gTup (K:FG7) (n:Nat) (t:TGs):TG:=fun v σ H Q=>∃ a xs,v = .ref a /\ SqT K H a xs /\ xs.length = n /\ t xs σ H Q
theorem x6 {es:List Expr} {k:Nat} {t:TGs} {n:Nat} (hc:X.calm = true) (h:PGs X es t)
  (hn:(assignEach es X.env).length = n:=by rfl) (hst:(assignEach es X.env).findIdx? (·.1) = none:=by rfl):PG X (.Tuple es k pos) (gTup X.K n t):=by
 intro pins s σ H v u Q I r hw
 obtain ⟨a,xs,e1,hq,hl,hw⟩:=hw
 subst e1
 cases r
 obtain ⟨its,rv,ht,hz⟩:=I.tuple hq
 refine assign_Tuple_tuple (I.ok.hd hc) ht (by simp [hn,← hl,rv.length]) hst fun h' hx=>?_
 have I1:Inv X pins σ H { s with heap:=h' }:=I.kept (t':=s.toks) fun b o e=>hx b o (Nat.ne_of_lt (Heap.lt_size e)) e
 exact h pins _ σ H xs _ Q I1 (by simpa using rv) hw
def gSub (to ti:TE) (t:TSet):TG:=fun v σ H Q=>to σ H fun o H1=>ti σ H1 fun i H2=>t o i v H2 fun H3=>Q σ H3
theorem jY {o i:Expr} {to ti:TE} {t:TSet} (ho:PE X o to) (hi:PE X i ti) (hs:PSet X t)
  (ha:∀ v,assign (.Subscript o i pos) X.env v = (do
   let ov ← holding [v] (eval o X.env)
   let iv ← holding [v,ov] (eval i X.env)
   standAt pos
   holding [v,ov,iv] (setItem ov iv v)
   release [v,ov,iv] []):=by intro _; rfl):PG X (.Subscript o i pos) (gSub to ti t):=by
 intro pins s σ H v u Q I r h
 rw [ha]
 refine wpAny_bind (wpAny_holding (thn (ho pins s σ H _ I h) fun ov s1 ⟨x,H1,I1,r1,q1⟩=>?_))
 refine wpAny_bind (wpAny_holding (thn (hi pins s1 σ H1 _ I1 q1) fun iv s2 ⟨y,H2,I2,r2,q2⟩=>?_))
 refine wpAny_bind (wpAny_standAt (wpAny_bind (wpAny_holding (thn (hs pins s2 σ H2 x y v ov iv u _ I2 r1 r2 r q2) fun _ s3 ⟨H3,I3,q3⟩=>?_))))
 exact wpAny_release ⟨σ,H3,I3,q3⟩
def tAsg (te:TE) (g:TG):TS:=fun D σ H=>te σ H fun x H1=>g x σ H1 D.nx
theorem wS {tg e:Expr} {te:TE} {g:TG} (he:PE X e te) (hg:PG X tg g) (hs:swapsWithSole [tg] e pos.line X.env = pure false:=by rfl) (hw:swappedStores [tg] e X.env = pure none:=by rfl)
  (h1:(assignEach [tg] X.env).map (·.2) = [assign tg X.env]:=by rfl):PS X (.Assign [tg] e pos) (tAsg te g):=by
 intro pins s σ H D I h
 refine wpAny_Assign_stores (thn (he pins s σ H _ I h) fun v s1 ⟨x,H1,I1,r1,q1⟩=>?_) hs hw
 rw [h1]
 exact thn (hg pins s1 σ H1 x v _ I1 r1 q1) fun _ s2 q=>q
theorem zr {i:Nat} {x:Str} {e:Expr} {te:TE} {pos':Pos} (hN:X.N.Nodup) (hi:X.N[i]? = some x) (hx:Loc X.env.scope x) (he:PE X e te) (hs:swapsWith e (some (.Name x pos')) pos.line X.env = pure false:=by rfl) (hf:X.fn x = true \/ X.env.scope.names.lookup x = some .local :=by first | exact .inl rfl | exact .inr rfl | assumption) :
  PS X (.Assign [.Name x pos'] e pos) (tAsg te (uc i)):=by
 intro pins s σ H D I h
 refine wpAny_Assign_Name (thn (he pins s σ H _ I h) fun v s1 ⟨y,H1,I1,r1,q1⟩=>?_) hs
 exact sj I1 hN hi hx r1 (fun s2 I2=>⟨_,H1,I2,q1⟩) hf
def tAug (i:Nat) (te:TE) (ti:TIp):TS:=fun D σ H=>∃ x,σ[i]? = some (some x) /\ te σ H fun y H1=>ti x y H1 fun z H2=>D.nx (σ.set i (some z)) H2
theorem Ug {i:Nat} {x:Str} {e:Expr} {te:TE} {op:Operator} {ti:TIp} {pos':Pos} (hN:X.N.Nodup) (hi:X.N[i]? = some x) (hx:Loc X.env.scope x) (he:PE X e te) (ho:PIp X op ti) (hf:X.fn x = true \/ X.env.scope.names.lookup x = some .local :=by first | exact .inl rfl | exact .inr rfl | assumption) :
  PS X (.AugAssign (.Name x pos') op e pos) (tAug i te ti):=by
 intro pins s σ H D I h
 obtain ⟨v,e1,h⟩:=h
 obtain ⟨m,hn,hl⟩:=I.loc
 have vis:Vis X.env.scope x:=by rcases hx with k | k; exact .inl k; exact .inr (.inl k)
 obtain ⟨u,r,l⟩:=hl i x v hi e1 vis
 refine wpAny_AugAssign_Name ?_
 have go:wpAny (model X.prog X.w) X.A (eval e X.env) (fun w s₂=>wpAny (model X.prog X.w) X.A (inplaceOp op u w) (fun r s₃=>wpAny (model X.prog X.w) X.A (storeName X.env x r) (fun _=>SP X pins D .next) X.xe s₃) X.xe s₂) X.xe s:=by
  refine thn (he pins s σ H _ I h) fun w s1 ⟨y,H1,I1,r1,q1⟩=>?_
  refine thn (ho pins s1 σ H1 v y u w _ I1 r r1 q1) fun z s2 ⟨zv,H2,I2,r2,q2⟩=>?_
  exact sj I2 hN hi hx r2 (fun s3 I3=>⟨_,H2,I3,q2⟩) hf
 rcases l with ⟨hk,hm⟩ | ⟨hk,c,hc,hcell⟩
 ·exact wpAny_loadName_local I.ok.kind hk hn hm go
 ·rcases hk with hk | hk
  ·exact wpAny_loadName_cell I.ok.kind hk hc hcell go
  ·rcases hx with k | k
   ·have:X.env.scope.names.lookup x = some .free:=hk
    rw [k] at this; cases this
   ·have:X.env.scope.names.lookup x = some .free:=hk
    rw [k] at this; cases this
def ipI (f:Int -> Int -> Int):TIp:=fun x y H Q=>∃ i j,x = .int i /\ y = .int j /\ Q (.int (f i j)) H
theorem Uh:PIp X .Add (ipI fun i j=>i + j):=by
 intro pins s σ H x y v u Q I r1 r2 h
 obtain ⟨i,j,e1,e2,q⟩:=h
 subst e1; subst e2
 obtain ⟨t,rfl⟩:=r1
 obtain ⟨t',rfl⟩:=r2
 exact iadd_int ⟨.int _,H,I.tok _,⟨_,rfl⟩,q⟩
end
section
variable {X:Cx} {pos:Pos}
def Ui (c:TT) (tb:TS):TS:=fun D σ H=>∃ W:Nat -> St -> Hp -> Prop,(∃ m,W m σ H) /\ ∀ m σ H,W m σ H →
 c σ H fun b H1=>if b = true then ∃ N:St -> Hp -> Prop,(∀ σ' H',N σ' H' -> ∃ m',m' < m /\ W m' σ' H') /\ tb { D with nx:=N,ct:=N,bk:=D.nx } σ H1 else D.nx σ H1
theorem jZ {c:Expr} {body:List Stmt} {tc:TT} {tb:TS} (hp:PassesOwn (model X.prog X.w) X.A X.env X.xe) (hc:PT X c tc) (hb:PSs X body tb):PS X (.While c body [] pos) (Ui tc tb):=by
 intro pins s σ H D I h
 obtain ⟨W,⟨m0,w0⟩,turn⟩:=h
 refine wpAny_While (codeAny_whileLoop (fun n s'=>∃ σ' H',Inv X pins σ' H' s' /\ W n σ' H') ?_ m0 ⟨σ,H,I,w0⟩)
 rintro n s1 ⟨σ1,H1,I1,w1⟩
 refine wpAny_passesOwn hp (thn (hc pins s1 σ1 H1 _ I1 (turn n σ1 H1 w1)) fun b s2 ⟨H2,I2,q2⟩=>?_)
 cases b with
 | true =>
  obtain ⟨N,hN,q2⟩:=q2
  rw [if_pos rfl]
  refine wpAny_passesOwn hp (thn (hb pins s2 σ1 H2 _ I2 q2) fun f s3 q3=>?_)
  cases f with
  | next =>
   obtain ⟨σ3,H3,I3,n3⟩:=q3
   obtain ⟨m',hm,w3⟩:=hN σ3 H3 n3
   exact ⟨m',hm,σ3,H3,I3,w3⟩
  | cont =>
   obtain ⟨σ3,H3,I3,n3⟩:=q3
   obtain ⟨m',hm,w3⟩:=hN σ3 H3 n3
   exact ⟨m',hm,σ3,H3,I3,w3⟩
  | brk=>exact q3
  | ret v=>exact q3
 | false =>
  rw [if_neg Bool.false_ne_true]
  exact wpAny_execs_nil ⟨σ1,H2,I2,q2⟩
end
structure It where
 go:Nat -> Hp -> Prop
 yld:Nat -> Hp -> V -> Hp -> Prop
 stop:Nat -> Hp -> Prop
def FpOk (X:Cx) (pins:List (Addr × Obj)) (H:Hp) (b:Addr):Prop :=
 H b = none /\ b ≠ X.env.locals /\ b ∉ X.fs /\ (b ∈ X.ex \/ X.s₀.heap.objs.size <= b) /\ (∀ x c,X.env.cells.lookup x = some c -> c ≠ b) /\ ∀ p ∈ X.pn ++ pins,p.1 ≠ b
theorem Inv.fpOk {X:Cx} {pins:List (Addr × Obj)} {σ:St} {H H':Hp} {s:Shared} {b:Addr} (I:Inv X pins σ H s) (hb:s.heap.objs.size <= b) (hn:H' b = none):FpOk X pins H' b:=by
 refine ⟨hn,Nat.ne_of_gt (Nat.lt_of_lt_of_le I.lt hb),I.nofs hb,.inr (Nat.le_trans I.sz hb),fun x c e z=>?_,fun p hp z=>?_⟩
 ·obtain ⟨v,q⟩:=I.cell x c e
  exact absurd (Nat.lt_of_lt_of_le q.lt (by rw [z]; exact hb)) (Nat.lt_irrefl _)
 ·exact absurd (Nat.lt_of_lt_of_le (Heap.lt_size (I.pin p hp).1) (by rw [z]; exact hb)) (Nat.lt_irrefl _)
structure Turn (P:Program) (w:World) (K:FG7) (tg:Expr) (J:It) (fp:List Addr) (it:Addr) (tn:Nat -> Heap -> Prop):Prop where
 mem:it ∈ fp
 obj:∀ i h,tn i h -> ∀ b ∈ fp,∃ o,h.get? b = some o /\ ∀ v,o.data ≠ .cell v
 keep:∀ i h h',tn i h -> (∀ b ∈ fp,∀ o,h.get? b = some o -> h'.get? b = some o) -> tn i h'
 item:∀ (X:Cx),X.prog = P -> X.w = w -> X.K = K -> X.calm = true -> ∀ (i:Nat) (pins:List (Addr × Obj)) (s:Shared) (σ:St) (H:Hp) (E:VS7),Inv X pins σ H s -> (∀ b ∈ fp,FpOk X pins H b) -> tn i s.heap -> J.go i H →
  wpAny (model P w) X.A (pyNext (.ref it)) (fun r s1=>∃ u,r = some u ∧
   wpAny (model P w) X.A (letOwnedTupleGo tg (.ref it) u) (fun _ s2=>∃ x H',Inv X pins σ H' s2 /\ RelV x u /\ J.yld i H x H' /\ tn (i + 1) s2.heap /\ ∀ b ∈ fp,H' b = none) E s1) E s
 done:∀ (X:Cx),X.prog = P -> X.w = w -> X.K = K -> X.calm = true -> ∀ (i:Nat) (pins:List (Addr × Obj)) (s:Shared) (σ:St) (H:Hp) (E:VS7),Inv X pins σ H s -> (∀ b ∈ fp,FpOk X pins H b) -> tn i s.heap -> J.stop i H →
  wpAny (model P w) X.A (pyNext (.ref it)) (fun r s1=>r = none /\ Inv X pins σ H s1) E s
 self:∀ (A:Around) (i:Nat) (s:Shared) (Q:VS7) (E:VS7),tn i s.heap -> Q (.ref it) s -> wpAny (model P w) A (pyIter (.ref it)) Q E s
abbrev TI:=St -> Hp -> (It -> Hp -> Prop) -> Prop
def PIE (X:Cx) (pins:List (Addr × Obj)) (σ:St) (tg:Expr) (R:It -> Hp -> Prop) (itv:Value) (s2:Shared):Prop :=
 ∃ (it:Addr) (fp:List Addr) (tn:Nat -> Heap -> Prop) (J:It) (H':Hp),itv = .ref it /\ Inv X pins σ H' s2 /\ Turn X.prog X.w X.K tg J fp it tn /\ tn 0 s2.heap /\ (∀ b ∈ fp,FpOk X pins H' b) /\ R J H'
def PI (X:Cx) (tg iter:Expr) (wi:TI):Prop :=
 ∀ (pins:List (Addr × Obj)) (s:Shared) (σ:St) (H:Hp) (R:It -> Hp -> Prop),Inv X pins σ H s -> wi σ H R →
  wpAny (model X.prog X.w) X.A (eval iter X.env) (fun v s1=>wpAny (model X.prog X.w) X.A (pyIter v) (PIE X pins σ tg R) X.xe s1) X.xe s
theorem Vk {M:Model} {A:Around} {E:VS7} {s:Shared} {tg:Expr} {it:Addr} {u:Value} {o:Obj} {n:String} {vs:Array Value} {Q:Unit -> Shared -> Prop} (ho:s.heap.get? it = some o) (hc:o.cls = .type n) (hd:o.data = .fields vs)
    (hn:["enumerate","zip","dict_itemiterator","dict_reverseitemiterator","odict_iterator","itertools.zip_longest","itertools.pairwise"].contains n = false) (hQ:Q () s):wpAny M A (letOwnedTupleGo tg (.ref it) u) Q E s:=by
  unfold letOwnedTupleGo
  cases tg <;> first
    | exact wpAny_pure hQ
    | (cases u <;> first
        | exact wpAny_pure hQ
        | (refine wpAny_bind (wpAny_load ho ?_)
           rw [hc,hd]
           show wpAny M A (if (["enumerate","zip","dict_itemiterator","dict_reverseitemiterator","odict_iterator","itertools.zip_longest","itertools.pairwise"].contains n && vs[0]? == some (rawInt _)) = true then _ else _) Q E s
           rw [if_neg (by intro h; rw [hn,Bool.false_and] at h; cases h)]
           exact wpAny_pure hQ))
def Itl (K:FG7) (a:Addr):It :=
 ⟨fun i H=>∃ xs x,SqL K H a xs /\ xs[i]? = some x,fun i H x H'=>H' = H /\ ∀ xs,SqL K H a xs -> xs[i]? = some x,fun i H=>∃ xs,SqL K H a xs /\ xs.length <= i⟩
def Itt (K:FG7) (a:Addr):It :=
 ⟨fun i H=>∃ xs x,SqT K H a xs /\ xs[i]? = some x,fun i H x H'=>H' = H /\ ∀ xs,SqT K H a xs -> xs[i]? = some x,fun i H=>∃ xs,SqT K H a xs /\ xs.length <= i⟩
def Itr (lo:Int) (n:Nat):It:=⟨fun i _=>i < n,fun i H x H'=>H' = H /\ x = .int (lo + i),fun i _=>n <= i⟩
theorem Yl {P:Program} {w:World} {K:FG7} {tg:Expr} (a it:Addr):Turn P w K tg (Itl K a) [it] it (fun i h=>h.IsListIter it a i) where
 mem:=by simp
 obj:=fun i h st b hb=>by
  have e:b = it:=by simpa using hb
  subst e
  obtain ⟨o,e,c,d⟩:=st
  exact ⟨o,e,fun v z=>by rw [d] at z; cases z⟩
 keep:=fun i h h' st k=>st.at fun o e=>k it (by simp) o e
 item:=by
  intro X hP hw hK hc i pins s σ H E I hf st hg
  subst hP hw hK
  obtain ⟨xs,x,hq,hx⟩:=hg
  obtain ⟨its,rv,p,hz⟩:=I.list hq
  obtain ⟨u,hu,ru⟩:=rv.get hx
  obtain ⟨f0,f1,f2,f3,f4,f5⟩:=hf it (by simp)
  refine wpAny_pyNext_list_item st p.isList (x:=u) (by simpa using hu) fun h' st' sb=>?_
  have I1:Inv X pins σ H { s with heap:=h' }:=I.turned (t':=s.toks) (fun b o hb e=>(sb.2 b hb).trans e) f0 f1 f3 f4 f5
  obtain ⟨o,e,c,d⟩:=id st'
  exact ⟨u,rfl,Vk (s:={ s with heap:=h' }) e c d (by decide) ⟨x,H,I1,ru,⟨rfl,fun ys hy=>by rw [I.list_inj hy hq]; exact hx⟩,st',fun b hb=>(hf b hb).1⟩⟩
 done:=by
  intro X hP hw hK hc i pins s σ H E I hf st hg
  subst hP hw hK
  obtain ⟨xs,hq,hx⟩:=hg
  obtain ⟨its,rv,p,hz⟩:=I.list hq
  obtain ⟨f0,f1,f2,f3,f4,f5⟩:=hf it (by simp)
  have hl:=rv.length
  exact wpAny_pyNext_list_end (I.ok.hd hc) st p.isList (by simp; omega) fun h' eb=>⟨rfl,I.turned (t':=s.toks) (fun b o hb e=>eb b o hb e) f0 f1 f3 f4 f5⟩
 self:=fun _ _ _ _ _ st h=>wpAny_pyIter_listiter st h
theorem ZF {P:Program} {w:World} {K:FG7} {tg:Expr} (a it:Addr):Turn P w K tg (Itt K a) [it] it (fun i h=>h.IsTupleIter it a i) where
 mem:=by simp
 obj:=fun i h st b hb=>by
  have e:b = it:=by simpa using hb
  subst e
  obtain ⟨o,e,c,d⟩:=st
  exact ⟨o,e,fun v z=>by rw [d] at z; cases z⟩
 keep:=fun i h h' st k=>st.at fun o e=>k it (by simp) o e
 item:=by
  intro X hP hw hK hc i pins s σ H E I hf st hg
  subst hP hw hK
  obtain ⟨xs,x,hq,hx⟩:=hg
  obtain ⟨its,rv,p,hz⟩:=I.tuple hq
  obtain ⟨u,hu,ru⟩:=rv.get hx
  obtain ⟨f0,f1,f2,f3,f4,f5⟩:=hf it (by simp)
  refine wpAny_pyNext_tuple_item st (show s.heap.IsTuple a its.toArray from p) (x:=u) (by simpa using hu) fun h' st' sb=>?_
  have I1:Inv X pins σ H { s with heap:=h' }:=I.turned (t':=s.toks) (fun b o hb e=>(sb.2 b hb).trans e) f0 f1 f3 f4 f5
  obtain ⟨o,e,c,d⟩:=id st'
  exact ⟨u,rfl,Vk (s:={ s with heap:=h' }) e c d (by decide) ⟨x,H,I1,ru,⟨rfl,fun ys hy=>by rw [I.tuple_inj hy hq]; exact hx⟩,st',fun b hb=>(hf b hb).1⟩⟩
 done:=by
  intro X hP hw hK hc i pins s σ H E I hf st hg
  subst hP hw hK
  obtain ⟨xs,hq,hx⟩:=hg
  obtain ⟨its,rv,p,hz⟩:=I.tuple hq
  obtain ⟨f0,f1,f2,f3,f4,f5⟩:=hf it (by simp)
  have hl:=rv.length
  exact wpAny_pyNext_tuple_end (I.ok.hd hc) st (show s.heap.IsTuple a its.toArray from p) (by simp; omega) fun h' eb=>⟨rfl,I.turned (t':=s.toks) (fun b o hb e=>eb b o hb e) f0 f1 f3 f4 f5⟩
 self:=fun _ _ _ _ _ st h=>wpAny_pyIter_tupleiter st h
theorem ZG {P:Program} {w:World} {K:FG7} {tg:Expr} (it:Addr) (lo:Int) (n:Nat):Turn P w K tg (Itr lo n) [it] it (fun i h=>IsRangeIter h it (lo + (i:Nat) * 1) ((n:Int) - (i:Nat)) 1) where
 mem:=by simp
 obj:=fun i h st b hb=>by
  have e:b = it:=by simpa using hb
  subst e
  exact ⟨_,st,fun v z=>by
   have z':Data.fields _ = Data.cell v:=z
   cases z'⟩
 keep:=fun i h h' st k=>k it (by simp) _ st
 item:=by
  intro X hP hw hK hc i pins s σ H E I hf st hg
  subst hP hw hK
  obtain ⟨f0,f1,f2,f3,f4,f5⟩:=hf it (by simp)
  have W:=Walks.range (prog:=X.prog) (w:=X.w) (I.ok.hd hc) it lo 1 n
  refine W.item i s _ _ hg st fun v h' tk hv st' kk=>?_
  obtain ⟨t,rfl⟩:=hv
  have I1:Inv X pins σ H { s with heap:=h',toks:=tk }:=I.turned (fun b o hb e=>kk b o (by simpa using hb) e) f0 f1 f3 f4 f5
  refine ⟨_,rfl,Vk (s:={ s with heap:=h',toks:=tk }) (n:="range_iterator") st' rfl rfl (by decide) ⟨.int (lo + i),H,I1,⟨t,?_⟩,⟨rfl,rfl⟩,st',fun b hb=>(hf b hb).1⟩⟩
  rw [Int.mul_one]
 done:=by
  intro X hP hw hK hc i pins s σ H E I hf st hg
  subst hP hw hK
  obtain ⟨f0,f1,f2,f3,f4,f5⟩:=hf it (by simp)
  exact wpAny_pyNext_range_end (I.ok.hd hc) st (by have:n <= i:=hg; omega) fun h' eb=>⟨rfl,I.turned (t':=s.toks) (fun b o hb e=>eb b o hb e) f0 f1 f3 f4 f5⟩
 self:=fun _ _ _ _ _ st h=>wpAny_pyIter_rangeiter st h
end L2
namespace L2
open PySem PySem.Spec PyProof.Rows
section
variable {X:Cx} {tg:Expr}
def U6 (K:FG7) (tl:TE):TI:=fun σ H R=>tl σ H fun x H1=>∃ a,x = .ref a /\ (∃ xs,SqL K H1 a xs) /\ R (Itl K a) H1
def iTup (K:FG7) (tl:TE):TI:=fun σ H R=>tl σ H fun x H1=>∃ a,x = .ref a /\ (∃ xs,SqT K H1 a xs) /\ R (Itt K a) H1
theorem qU {l:Expr} {tl:TE} (hl:PE X l tl):PI X tg l (U6 X.K tl):=by
 intro pins s σ H R I h
 refine thn (hl pins s σ H _ I h) fun v s1 ⟨x,H1,I1,r1,q1⟩=>?_
 obtain ⟨a,e,⟨xs,hq⟩,q⟩:=q1
 subst e
 cases r1
 obtain ⟨its,rv,p,hz⟩:=I1.list hq
 refine wpAny_pyIter_list p.isList ?_
 refine ⟨s1.heap.objs.size,[s1.heap.objs.size],_,_,H1,rfl,I1.kept (t':=s1.toks) fun b o e=>Heap.get?_push_of_some _ e,Yl a _,⟨_,Heap.get?_push_size _ rfl,rfl,rfl⟩,fun b hb=>?_,q⟩
 have e:b = s1.heap.objs.size:=by simpa using hb
 subst e
 exact I1.fpOk (Nat.le_refl _) (I1.hok.fresh (Nat.le_refl _))
theorem yL {l:Expr} {tl:TE} (hl:PE X l tl):PI X tg l (iTup X.K tl):=by
 intro pins s σ H R I h
 refine thn (hl pins s σ H _ I h) fun v s1 ⟨x,H1,I1,r1,q1⟩=>?_
 obtain ⟨a,e,⟨xs,hq⟩,q⟩:=q1
 subst e
 cases r1
 obtain ⟨its,rv,p,hz⟩:=I1.tuple hq
 refine wpAny_pyIter_tuple (show s1.heap.IsTuple a its.toArray from p) ?_
 refine ⟨s1.heap.objs.size,[s1.heap.objs.size],_,_,H1,rfl,I1.kept (t':=s1.toks) fun b o e=>Heap.get?_push_of_some _ e,ZF a _,⟨_,Heap.get?_push_size _ rfl,rfl,rfl⟩,fun b hb=>?_,q⟩
 have e:b = s1.heap.objs.size:=by simpa using hb
 subst e
 exact I1.fpOk (Nat.le_refl _) (I1.hok.fresh (Nat.le_refl _))
theorem j2 {pins:List (Addr × Obj)} {σ:St} {H:Hp} {s:Shared} {R:It -> Hp -> Prop} {E:VS7} {lo hi:Int} {t u v:Tok} {tk:Nat} (I:Inv X pins σ H s) (h1:-(2 ^ 62) <= lo) (h2:lo < 2 ^ 62) (h3:-(2 ^ 62) <= hi) (h4:hi < 2 ^ 62)
  (q:R (Itr lo (hi - lo).toNat) H):wpAny (model X.prog X.w) X.A (pyIter (.ref s.heap.objs.size)) (PIE X pins σ tg R) E { s with heap:=s.heap.push { cls:=.type "range",data:=.fields #[.int lo t,.int hi u,.int 1 v] },toks:=tk }:=by
 refine wpAny_pyIter_range (IsRange.new ..) (small_one h1 h2 h3 h4) ?_
 have I1:Inv X pins σ H { s with heap:=s.heap.push { cls:=.type "range",data:=.fields #[.int lo t,.int hi u,.int 1 v] },toks:=tk }:=I.kept fun b o e=>Heap.get?_push_of_some _ e
 refine ⟨(s.heap.push { cls:=.type "range",data:=.fields #[.int lo t,.int hi u,.int 1 v] }).objs.size,[(s.heap.push { cls:=.type "range",data:=.fields #[.int lo t,.int hi u,.int 1 v] }).objs.size],_,_,H,rfl,
  I1.kept (t':=tk) fun b o e=>Heap.get?_push_of_some _ e,ZG _ lo (hi - lo).toNat,?_,fun b hb=>?_,q⟩
 ·have e1:lo + ((0:Nat):Int) * 1 = lo:=by simp
  have e2:(((hi - lo).toNat:Nat):Int) - ((0:Nat):Int) = Builtin.Range.rangeSize lo hi 1:=by rw [rangeSize_one]; split <;> omega
  show IsRangeIter _ _ (lo + ((0:Nat):Int) * 1) ((((hi - lo).toNat:Nat):Int) - ((0:Nat):Int)) 1
  rw [e1,e2]
  exact Heap.get?_push_size _ rfl
 ·have e:b = (s.heap.push { cls:=.type "range",data:=.fields #[.int lo t,.int hi u,.int 1 v] }).objs.size:=by simpa using hb
  subst e
  exact I1.fpOk (Nat.le_refl _) (I1.hok.fresh (Nat.le_refl _))
def U7 (ta:TA):TI:=fun σ H R=>ta σ H fun vs H1=>∃ j:Int,vs = [.int j] /\ -(2 ^ 62) <= j /\ j < 2 ^ 62 /\ R (Itr 0 j.toNat) H1
def U8 (ta:TA):TI:=fun σ H R=>ta σ H fun vs H1=>∃ i j:Int,vs = [.int i,.int j] /\ (-(2 ^ 62) <= i /\ i < 2 ^ 62 /\ -(2 ^ 62) <= j /\ j < 2 ^ 62) /\ R (Itr i (j - i).toNat) H1
theorem xn {a:Expr} {ta:TA} {p pos:Pos} (hg:Gl X "range") (hm:X.mg "range" = none) (ha:PA X [a] ta) (hs:starEach [a] X.env = [(false,eval a X.env)]:=by rfl):PI X tg (.Call (.Name "range" p) [a] [] pos) (U7 ta):=by
 intro pins s σ H R I h
 refine Call_ (wP I hg hm boot_range (PyProof.Rows.callWith_type1 (thn (ha pos pins s σ H _ I h) fun us s1 ⟨vs,H1,I1,r1,q1⟩=>?_) hs rfl))
 obtain ⟨j,e,q1,q2,q⟩:=q1
 subst e
 cases r1 with
 | cons r rr =>
  cases rr
  obtain ⟨t,rfl⟩:=r
  exact call_range_1 (j2 I1 (by omega) (by omega) q1 q2 (by simpa using q))
theorem Ym {a b:Expr} {ta:TA} {p pos:Pos} (hg:Gl X "range") (hm:X.mg "range" = none) (ha:PA X [a,b] ta) (hs:starEach [a,b] X.env = [(false,eval a X.env),(false,eval b X.env)]:=by rfl) (hs2:starEach [b] X.env = [(false,eval b X.env)]:=by rfl) :
  PI X tg (.Call (.Name "range" p) [a,b] [] pos) (U8 ta):=by
 intro pins s σ H R I h
 refine Call_ (wP I hg hm boot_range (PyProof.Rows.callWith_type1 (thn (ha pos pins s σ H _ I h) fun us s1 ⟨vs,H1,I1,r1,q1⟩=>?_) (by rw [hs,hs2]) (by rw [hs2]; rfl)))
 obtain ⟨i,j,e,⟨q1,q2,q3,q4⟩,q⟩:=q1
 subst e
 cases r1 with
 | cons r rr =>
  cases rr with
  | cons r' rr =>
   cases rr
   obtain ⟨t,rfl⟩:=r
   obtain ⟨t',rfl⟩:=r'
   exact call_range_2 (j2 I1 q1 q2 q3 q4 q)
def tFor (wi:TI) (g:TG) (tb:TS):TS:=fun D σ H=>wi σ H fun J H1=>∃ W:Nat -> Nat -> St -> Hp -> Prop,(∃ m,W 0 m σ H1) /\ ∀ i m σ H,W i m σ H →
 (J.stop i H /\ D.nx σ H) \/ (J.go i H /\ ∃ N:St -> Hp -> Prop,(∀ σ' H',N σ' H' -> ∃ m',m' < m /\ W (i + 1) m' σ' H') /\ ∀ x H',J.yld i H x H' -> g x σ H' fun σ2 H2=>tb { D with nx:=N,ct:=N,bk:=D.nx } σ2 H2)
def uF (fp:List Addr) (h:Heap):List (Addr × Obj):=fp.filterMap fun b=>(h.get? b).map fun o=>(b,o)
theorem yE {fp:List Addr} {h:Heap} {b:Addr} {o:Obj} (hb:b ∈ fp) (e:h.get? b = some o):(b,o) ∈ uF fp h:=List.mem_filterMap.mpr ⟨b,hb,by rw [e]; rfl⟩
theorem Yn {fp:List Addr} {h:Heap} {p:Addr × Obj} (hp:p ∈ uF fp h):p.1 ∈ fp /\ h.get? p.1 = some p.2:=by
 obtain ⟨b,hb,e⟩:=List.mem_filterMap.mp hp
 cases q:h.get? b with
 | none=>rw [q] at e; cases e
 | some o =>
  rw [q] at e
  have e':(b,o) = p:=Option.some.inj e
  subst e'
  exact ⟨hb,q⟩
theorem Inv.pinned {pins:List (Addr × Obj)} {σ:St} {H:Hp} {s:Shared} {fp:List Addr} (I:Inv X pins σ H s) (hf:∀ b ∈ fp,FpOk X pins H b) (ho:∀ b ∈ fp,∃ o,s.heap.get? b = some o /\ ∀ v,o.data ≠ .cell v):Inv X (pins ++ uF fp s.heap) σ H s :=
 I.pins_of fun p hp=>(List.mem_append.mp hp).elim (fun z=>I.pin p (List.mem_append_right _ z)) fun z=>by
  obtain ⟨hb,e⟩:=Yn z
  obtain ⟨f0,f1,f2,_⟩:=hf p.1 hb
  obtain ⟨o,e',d⟩:=ho p.1 hb
  rw [e] at e'; cases e'
  exact ⟨e,f0,f1,f2,d⟩
theorem Inv.unpinned {pins pl:List (Addr × Obj)} {σ:St} {H:Hp} {s:Shared} (I:Inv X (pins ++ pl) σ H s):Inv X pins σ H s:=I.pins_of fun p hp=>I.pin p (List.mem_append_right _ (List.mem_append_left _ hp))
theorem vg {iter:Expr} {body:List Stmt} {wi:TI} {g:TG} {tb:TS} {pos:Pos} (hp:PassesOwn (model X.prog X.w) X.A X.env X.xe) (hc:X.calm = true) (hi:PI X tg iter wi) (hg:PG X tg g) (hb:PSs X body tb)
  (hs:∀ x,foldedSetIterable iter X.env x = pure x:=by intro _; rfl):PS X (.For tg iter body [] pos) (tFor wi g tb):=by
 intro pins s σ H D I h
 refine wpAny_For (thn (hi pins s σ H _ I h) fun v s1 h1=>thn h1 fun itv s2 h2=>?_) hs
 obtain ⟨it,fp,tn,J,H2,e,I2,T,st2,f2,W,⟨m0,w0⟩,turn⟩:=h2
 subst e
 -- what stays true of the iterator's objects through the loop
 have stat:∀ {H':Hp},(∀ b ∈ fp,H' b = none) -> ∀ b ∈ fp,FpOk X pins H' b:=fun hn b hb=>⟨hn b hb,(f2 b hb).2⟩
 refine codeAny_forLoop_any (fun n s'=>∃ i σ' H',Inv X pins σ' H' s' /\ tn i s'.heap /\ (∀ b ∈ fp,H' b = none) /\ W i n σ' H') ?_ m0 ⟨0,σ,H2,I2,st2,fun b hb=>(f2 b hb).1,w0⟩
 rintro n s3 ⟨i,σ3,H3,I3,st3,fr3,w3⟩
 rcases turn i n σ3 H3 w3 with ⟨stop,qn⟩ | ⟨go,N,hN,step⟩
 ·refine wpAny_passesOwn hp (thn (T.done X rfl rfl rfl hc i pins s3 σ3 H3 X.xe I3 (stat fr3) st3 stop) fun r s4 ⟨hr,I4⟩=>?_)
  subst hr
  exact wpAny_execs_nil ⟨σ3,H3,I4,qn⟩
 ·refine wpAny_passesOwn hp (thn (T.item X rfl rfl rfl hc i pins s3 σ3 H3 X.xe I3 (stat fr3) st3 go) fun r s4 ⟨u,hr,h4⟩=>?_)
  subst hr
  refine wpAny_passesOwn hp (thn h4 fun _ s5 ⟨x,H5,I5,r5,y5,st5,fr5⟩=>?_)
  have I5':=I5.pinned (stat fr5) (T.obj _ _ st5)
  refine wpAny_passesOwn hp (thn (hg _ s5 σ3 H5 x u _ I5' r5 (step x H5 y5)) fun _ s6 ⟨σ6,H6,I6,q6⟩=>?_)
  refine wpAny_passesOwn hp (thn (hb _ s6 σ6 H6 _ I6 q6) fun f s7 q7=>?_)
  have again:∀ {σ7:St} {H7:Hp},Inv X (pins ++ uF fp s5.heap) σ7 H7 s7 -> N σ7 H7 -> ∃ m,m < n /\ ∃ i σ' H',Inv X pins σ' H' s7 /\ tn i s7.heap /\ (∀ b ∈ fp,H' b = none) /\ W i m σ' H':=fun {σ7 H7} I7 n7=>by
   obtain ⟨m',hm,w7⟩:=hN σ7 H7 n7
   refine ⟨m',hm,i + 1,σ7,H7,I7.unpinned,T.keep _ _ _ st5 fun b hb o e=>(I7.pin (b,o) (List.mem_append_right _ (List.mem_append_right _ (yE hb e)))).1,fun b hb=>?_,w7⟩
   obtain ⟨o,e,d⟩:=T.obj _ _ st5 b hb
   exact (I7.pin (b,o) (List.mem_append_right _ (List.mem_append_right _ (yE hb e)))).2.1
  cases f with
  | next=>obtain ⟨σ7,H7,I7,n7⟩:=q7; exact again I7 n7
  | cont=>obtain ⟨σ7,H7,I7,n7⟩:=q7; exact again I7 n7
  | brk=>obtain ⟨σ7,H7,I7,q7⟩:=q7; exact ⟨σ7,H7,I7.unpinned,q7⟩
  | ret v=>obtain ⟨x7,σ7,H7,I7,r7,q7⟩:=q7; exact ⟨x7,σ7,H7,I7.unpinned,r7,q7⟩
end
theorem XY {K:FG7} {a:Addr} {xs:List V} {g:TG} {tb:TS} {D:Ends} {σ:St} {H:Hp} (Pv:Nat -> St -> Hp -> Prop) (h0:Pv 0 σ H) (hl:∀ i σ H,i <= xs.length -> Pv i σ H -> SqL K H a xs)
  (hs:∀ i x σ H,xs[i]? = some x -> Pv i σ H -> g x σ H fun σ2 H2=>tb { D with nx:=Pv (i + 1),ct:=Pv (i + 1),bk:=D.nx } σ2 H2) (hd:∀ σ H,Pv xs.length σ H -> D.nx σ H) :
  ∃ W:Nat -> Nat -> St -> Hp -> Prop,(∃ m,W 0 m σ H) /\ ∀ i m σ H,W i m σ H →
   ((Itl K a).stop i H /\ D.nx σ H) \/ ((Itl K a).go i H /\ ∃ N:St -> Hp -> Prop,(∀ σ' H',N σ' H' -> ∃ m',m' < m /\ W (i + 1) m' σ' H') /\ ∀ x H',(Itl K a).yld i H x H' -> g x σ H' fun σ2 H2=>tb { D with nx:=N,ct:=N,bk:=D.nx } σ2 H2):=by
 refine ⟨fun i m σ H=>m = xs.length - i /\ i <= xs.length /\ Pv i σ H,⟨xs.length,by simp,Nat.zero_le _,h0⟩,?_⟩
 rintro i m σ H ⟨rfl,hi,p⟩
 have q:=hl i σ H hi p
 by_cases hlt:i < xs.length
 ·refine .inr ⟨⟨xs,xs[i],q,by simp [hlt]⟩,Pv (i + 1),fun σ' H' p'=>⟨xs.length - (i + 1),by omega,rfl,hlt,p'⟩,fun x H' y=>?_⟩
  obtain ⟨e,y⟩:=y
  subst e
  exact hs i x σ _ (y xs q) p
 ·have e:i = xs.length:=by omega
  subst e
  exact .inl ⟨⟨xs,q,Nat.le_refl _⟩,hd σ H p⟩
theorem Yo {K:FG7} {a:Addr} {xs:List V} {g:TG} {tb:TS} {D:Ends} {σ:St} {H:Hp} (Pv:Nat -> St -> Hp -> Prop) (h0:Pv 0 σ H) (hl:∀ i σ H,i <= xs.length -> Pv i σ H -> SqT K H a xs)
  (hs:∀ i x σ H,xs[i]? = some x -> Pv i σ H -> g x σ H fun σ2 H2=>tb { D with nx:=Pv (i + 1),ct:=Pv (i + 1),bk:=D.nx } σ2 H2) (hd:∀ σ H,Pv xs.length σ H -> D.nx σ H) :
  ∃ W:Nat -> Nat -> St -> Hp -> Prop,(∃ m,W 0 m σ H) /\ ∀ i m σ H,W i m σ H →
   ((Itt K a).stop i H /\ D.nx σ H) \/ ((Itt K a).go i H /\ ∃ N:St -> Hp -> Prop,(∀ σ' H',N σ' H' -> ∃ m',m' < m /\ W (i + 1) m' σ' H') /\ ∀ x H',(Itt K a).yld i H x H' -> g x σ H' fun σ2 H2=>tb { D with nx:=N,ct:=N,bk:=D.nx } σ2 H2):=by
 refine ⟨fun i m σ H=>m = xs.length - i /\ i <= xs.length /\ Pv i σ H,⟨xs.length,by simp,Nat.zero_le _,h0⟩,?_⟩
 rintro i m σ H ⟨rfl,hi,p⟩
 have q:=hl i σ H hi p
 by_cases hlt:i < xs.length
 ·refine .inr ⟨⟨xs,xs[i],q,by simp [hlt]⟩,Pv (i + 1),fun σ' H' p'=>⟨xs.length - (i + 1),by omega,rfl,hlt,p'⟩,fun x H' y=>?_⟩
  obtain ⟨e,y⟩:=y
  subst e
  exact hs i x σ _ (y xs q) p
 ·have e:i = xs.length:=by omega
  subst e
  exact .inl ⟨⟨xs,q,Nat.le_refl _⟩,hd σ H p⟩
theorem uG {lo:Int} {n:Nat} {g:TG} {tb:TS} {D:Ends} {σ:St} {H:Hp} (Pv:Nat -> St -> Hp -> Prop) (h0:Pv 0 σ H)
  (hs:∀ i σ H,i < n -> Pv i σ H -> g (.int (lo + i)) σ H fun σ2 H2=>tb { D with nx:=Pv (i + 1),ct:=Pv (i + 1),bk:=D.nx } σ2 H2) (hd:∀ σ H,Pv n σ H -> D.nx σ H) :
  ∃ W:Nat -> Nat -> St -> Hp -> Prop,(∃ m,W 0 m σ H) /\ ∀ i m σ H,W i m σ H →
   ((Itr lo n).stop i H /\ D.nx σ H) \/ ((Itr lo n).go i H /\ ∃ N:St -> Hp -> Prop,(∀ σ' H',N σ' H' -> ∃ m',m' < m /\ W (i + 1) m' σ' H') /\ ∀ x H',(Itr lo n).yld i H x H' -> g x σ H' fun σ2 H2=>tb { D with nx:=N,ct:=N,bk:=D.nx } σ2 H2):=by
 refine ⟨fun i m σ H=>m = n - i /\ i <= n /\ Pv i σ H,⟨n,by simp,Nat.zero_le _,h0⟩,?_⟩
 rintro i m σ H ⟨rfl,hi,p⟩
 by_cases hlt:i < n
 ·refine .inr ⟨hlt,Pv (i + 1),fun σ' H' p'=>⟨n - (i + 1),by omega,rfl,hlt,p'⟩,fun x H' y=>?_⟩
  obtain ⟨e,y⟩:=y
  subst e y
  exact hs i σ _ hlt p
 ·have e:i = n:=by omega
  subst e
  exact .inl ⟨Nat.le_refl _,hd σ H p⟩
end L2
namespace L2
open PySem PySem.Spec PyProof.Rows
abbrev R2:=V -> V -> Hp -> VK -> Prop
def OpR (X:Cx) (f:Value -> Value -> Sem Value) (r:R2):Prop :=
 ∀ (pins:List (Addr × Obj)) (s:Shared) (σ:St) (H:Hp) (x y:V) (v u:Value) (Q:VK),Inv X pins σ H s -> RelV x v -> RelV y u -> r x y H Q →
  wpAny (model X.prog X.w) X.A (f v u) (EP X pins σ Q) X.xe s
def UnR (X:Cx) (f:Value -> Sem Value) (r:V -> Hp -> VK -> Prop):Prop :=
 ∀ (pins:List (Addr × Obj)) (s:Shared) (σ:St) (H:Hp) (x:V) (v:Value) (Q:VK),Inv X pins σ H s -> RelV x v -> r x H Q →
  wpAny (model X.prog X.w) X.A (f v) (EP X pins σ Q) X.xe s
def vh (X:Cx) (f:Value) (r:List V -> Hp -> VK -> Prop):Prop :=
 ∀ (pins:List (Addr × Obj)) (s:Shared) (σ:St) (H:Hp) (xs:List V) (us:List Value) (Q:VK),Inv X pins σ H s -> Vals xs us -> r xs H Q →
  wpAny (model X.prog X.w) X.A (call f us) (EP X pins σ Q) X.xe s
def TruR (X:Cx) (r:V -> Hp -> (Bool -> Hp -> Prop) -> Prop):Prop :=
 ∀ (pins:List (Addr × Obj)) (s:Shared) (σ:St) (H:Hp) (x:V) (v:Value) (Q:Bool -> Hp -> Prop),Inv X pins σ H s -> RelV x v -> r x H Q →
  wpAny (model X.prog X.w) X.A (truthy v) (TP X pins σ Q) X.xe s
def tOp (r:R2) (ta tb:TE):TE:=fun σ H Q=>ta σ H fun x H1=>tb σ H1 fun y H2=>r x y H2 Q
def tUn (r:V -> Hp -> VK -> Prop) (ta:TE):TE:=fun σ H Q=>ta σ H fun x H1=>r x H1 Q
def rI (C:Int -> Int -> Prop) (g:Int -> Int -> V):R2:=fun x y H Q=>∃ i j,x = .int i /\ y = .int j /\ C i j /\ Q (g i j) H
def rI0 (g:Int -> Int -> V):R2:=fun x y H Q=>∃ i j,x = .int i /\ y = .int j /\ Q (g i j) H
def rU (g:Int -> V):V -> Hp -> VK -> Prop:=fun x H Q=>∃ i,x = .int i /\ Q (g i) H
section
variable {X:Cx} {a b c:Expr} {ta tb tc:TE} {pos:Pos}
theorem binT (ha:PE X a ta) (hb:PE X b tb) {pins:List (Addr × Obj)} {s:Shared} {σ:St} {H:Hp} {R:V -> V -> Hp -> Prop} (I:Inv X pins σ H s)
  (h:ta σ H fun x H1=>tb σ H1 fun y H2=>R x y H2) {Q:VS7} {f:Value -> Value -> Sem Value}
  (hf:∀ v u s2 x y H2,Inv X pins σ H2 s2 -> RelV x v -> RelV y u -> R x y H2 -> wpAny (model X.prog X.w) X.A (f v u) Q X.xe s2) :
  wpAny (model X.prog X.w) X.A (eval a X.env) (fun v s₁=>wpAny (model X.prog X.w) X.A (eval b X.env) (fun u s₂=>wpAny (model X.prog X.w) X.A (f v u) Q X.xe s₂) X.xe s₁) X.xe s:=by
 refine thn (ha pins s σ H _ I h) fun v s1 ⟨x,H1,I1,r1,q1⟩=>?_
 refine thn (hb pins s1 σ H1 _ I1 q1) fun u s2 ⟨y,H2,I2,r2,q2⟩=>?_
 exact hf v u s2 x y H2 I2 r1 r2 q2
theorem zS {op:Operator} {r:R2} (ho:OpR X (binaryOp op) r) (ha:PE X a ta) (hb:PE X b tb):PE X (.BinOp a op b pos) (tOp r ta tb):=by
 intro pins s σ H Q I h
 exact wpAny_BinOp (binT ha hb I h fun v u s2 x y H2 I2 rx ry q=>ho pins s2 σ H2 x y v u Q I2 rx ry q)
theorem Uj {op:UnaryOp} {r:V -> Hp -> VK -> Prop} (ho:UnR X (unaryOp op) r) (ha:PE X a ta):PE X (.UnaryOp op a pos) (tUn r ta):=by
 intro pins s σ H Q I h
 exact UnaryOp_ (thn (ha pins s σ H _ I h) fun v s1 ⟨x,H1,I1,r1,q1⟩=>ho pins s1 σ H1 x v Q I1 r1 q1)
theorem opI {f:Value -> Value -> Sem Value} {C:Int -> Int -> Prop} {g:Int -> Int -> Int}
  (rule:∀ (i j:Int) (t u:Tok) (s:Shared) (Q:VS7) (E:VS7),C i j -> Q (.int (g i j) s.toks) { s with toks:=s.toks + 1 } -> wpAny (model X.prog X.w) X.A (f (.int i t) (.int j u)) Q E s) :
  OpR X f (rI C fun i j=>.int (g i j)):=by
 intro pins s σ H x y v u Q I rx ry h
 obtain ⟨i,j,rfl,rfl,hc,q⟩:=h
 obtain ⟨t,rfl⟩:=rx
 obtain ⟨t',rfl⟩:=ry
 exact rule i j t t' s _ _ hc ⟨.int (g i j),H,I.tok _,⟨_,rfl⟩,q⟩
theorem opI0 {f:Value -> Value -> Sem Value} {g:Int -> Int -> Int}
  (rule:∀ (i j:Int) (t u:Tok) (s:Shared) (Q:VS7) (E:VS7),Q (.int (g i j) s.toks) { s with toks:=s.toks + 1 } -> wpAny (model X.prog X.w) X.A (f (.int i t) (.int j u)) Q E s) :
  OpR X f (rI0 fun i j=>.int (g i j)):=by
 intro pins s σ H x y v u Q I rx ry h
 obtain ⟨i,j,rfl,rfl,q⟩:=h
 obtain ⟨t,rfl⟩:=rx
 obtain ⟨t',rfl⟩:=ry
 exact rule i j t t' s _ _ ⟨.int (g i j),H,I.tok _,⟨_,rfl⟩,q⟩
theorem opB0 {f:Value -> Value -> Sem Value} {g:Int -> Int -> Bool}
  (rule:∀ (i j:Int) (t u:Tok) (s:Shared) (Q:VS7) (E:VS7),Q (.bool (g i j)) s -> wpAny (model X.prog X.w) X.A (f (.int i t) (.int j u)) Q E s) :
  OpR X f (rI0 fun i j=>.bl (g i j)):=by
 intro pins s σ H x y v u Q I rx ry h
 obtain ⟨i,j,rfl,rfl,q⟩:=h
 obtain ⟨t,rfl⟩:=rx
 obtain ⟨t',rfl⟩:=ry
 exact rule i j t t' s _ _ ⟨.bl (g i j),H,I,rfl,q⟩
def CPow (i j:Int):Prop:=0 <= j /\ j <= 1000000 /\ i.natAbs < 2 ^ 64
def CMul (i j:Int):Prop:=(-(2 ^ 64) < i /\ i < 2 ^ 64) \/ (-(2 ^ 64) < j /\ j < 2 ^ 64)
theorem CMul.ok {i j:Int} (h:CMul i j):IntMulOk i j:=by
 rcases h with ⟨h1,h2⟩ | ⟨h1,h2⟩
 ·exact .of_left (intBits_le_64 h1 h2)
 ·exact .of_right (intBits_le_64 h1 h2)
theorem xB:OpR X (binaryOp .Add) (rI0 fun i j=>.int (i + j)):=opI0 fun _ _ _ _ _ _ _ q=>add_int q
theorem xo:OpR X (binaryOp .Sub) (rI0 fun i j=>.int (i - j)):=opI0 fun _ _ _ _ _ _ _ q=>sub_int q
theorem vZ:OpR X (binaryOp .Mod) (rI (fun _ j=>0 < j) fun i j=>.int (i % j)):=opI fun i j _ _ _ _ _ hc q=>by
 have h1:(0:Int) < j:=hc
 exact mod_int' (by omega) (by rw [Int.fmod_eq_emod_of_nonneg i (by omega)]; exact q)
theorem j3:OpR X (binaryOp .Pow) (rI CPow fun i j=>.int (i ^ j.toNat)):=opI fun _ _ _ _ _ _ _ hc q=>pow_int_small hc.1 hc.2.1 hc.2.2 q
theorem unI {f:Value -> Sem Value} {g:Int -> Int}
  (rule:∀ (i:Int) (t:Tok) (s:Shared) (Q:VS7) (E:VS7),Q (.int (g i) s.toks) { s with toks:=s.toks + 1 } -> wpAny (model X.prog X.w) X.A (f (.int i t)) Q E s) :
  UnR X f (rU fun i=>.int (g i)):=by
 intro pins s σ H x v Q I rx h
 obtain ⟨i,rfl,q⟩:=h
 obtain ⟨t,rfl⟩:=rx
 exact rule i t s _ _ ⟨.int (g i),H,I.tok _,⟨_,rfl⟩,q⟩
theorem WS:UnR X (unaryOp .USub) (rU fun i=>.int (-i)):=unI fun _ _ _ _ _ q=>neg_int q
end
def scal:V -> V -> Bool
 | .non,.non=>true | .non,.int _=>true | .int _,.non=>true | .non,.bl _=>true | .bl _,.non=>true | .non,.str _=>true | .str _,.non=>true
 | .int _,.int _=>true | .bl _,.bl _=>true | .str _,.str _=>true | .byt _,.byt _=>true
 | .int _,.str _=>true | .str _,.int _=>true | .bl _,.str _=>true | .str _,.bl _=>true
 | _,_=>false
def rEq:R2:=fun x y H Q=>scal x y = true /\ Q (.bl (decide (x = y))) H
def rNe:R2:=fun x y H Q=>scal x y = true /\ Q (.bl (!decide (x = y))) H
theorem Yp {i j:Int}:decide (V.int i = V.int j) = (i == j):=by
 rw [Bool.eq_iff_iff]
 simp
theorem WT {i j:Bool}:decide (V.bl i = V.bl j) = (i == j):=by
 rw [Bool.eq_iff_iff]
 simp
theorem Yq {i j:Str}:decide (V.str i = V.str j) = (i == j):=by
 rw [Bool.eq_iff_iff]
 simp
theorem Yr {i j:Array UInt8}:decide (V.byt i = V.byt j) = (i.toList == j.toList):=by
 rw [Bool.eq_iff_iff]
 cases i
 cases j
 simp
section
variable {X:Cx} {a b c:Expr} {ta tb tc:TE} {pos:Pos}
theorem zT {pins:List (Addr × Obj)} {σ:St} {H:Hp} {s:Shared} {Q:VK} {k k':Bool} (I:Inv X pins σ H s) (q:Q (.bl k) H) (e:k = k'):EP X pins σ Q (.bool k') s:=by
 subst e
 exact ⟨.bl k,H,I,rfl,q⟩
theorem xF:OpR X (compareOp .Eq) rEq:=by
 intro pins s σ H x y v u Q I rx ry h
 obtain ⟨hs,q⟩:=h
 cases x with
 | non =>
  cases rx
  cases y with
  | non=>cases ry; exact PySem.EqNone.eq_none_none (zT I q (by simp))
  | bl j=>cases ry; exact PySem.EqNone.eq_none_bool (zT I q (by simp))
  | int j=>obtain ⟨t',rfl⟩:=ry; exact PySem.EqNone.eq_none_int (zT I q (by simp))
  | str j=>obtain ⟨t',rfl⟩:=ry; exact PySem.EqNone.eq_none_str (zT I q (by simp))
  | _=>exact absurd (show false = true from hs) Bool.false_ne_true
 | bl i =>
  cases rx
  cases y with
  | non=>cases ry; exact PySem.EqNone.eq_bool_none (zT I q (by simp))
  | bl j=>cases ry; exact eq_bool (zT I q WT)
  | str j=>obtain ⟨t',rfl⟩:=ry; exact PySem.EqMixed.eq_bool_str (zT I q (by simp))
  | _=>exact absurd (show false = true from hs) Bool.false_ne_true
 | int i =>
  obtain ⟨t,rfl⟩:=rx
  cases y with
  | non=>cases ry; exact PySem.EqNone.eq_int_none (zT I q (by simp))
  | int j=>obtain ⟨t',rfl⟩:=ry; exact eq_int (zT I q Yp)
  | str j=>obtain ⟨t',rfl⟩:=ry; exact PySem.EqMixed.eq_int_str (zT I q (by simp))
  | _=>exact absurd (show false = true from hs) Bool.false_ne_true
 | str i =>
  obtain ⟨t,rfl⟩:=rx
  cases y with
  | non=>cases ry; exact PySem.EqNone.eq_str_none (zT I q (by simp))
  | bl j=>cases ry; exact PySem.EqMixed.eq_str_bool (zT I q (by simp))
  | int j=>obtain ⟨t',rfl⟩:=ry; exact PySem.EqMixed.eq_str_int (zT I q (by simp))
  | str j=>obtain ⟨t',rfl⟩:=ry; exact eq_str (zT I q Yq)
  | _=>exact absurd (show false = true from hs) Bool.false_ne_true
 | byt i =>
  obtain ⟨t,rfl⟩:=rx
  cases y with
  | byt j=>obtain ⟨t',rfl⟩:=ry; exact PySem.W.eq_bytes (zT I q Yr)
  | _=>exact absurd (show false = true from hs) Bool.false_ne_true
 | _=>cases y <;> exact absurd (show false = true from hs) Bool.false_ne_true
theorem Vl:OpR X (compareOp .NotEq) rNe:=by
 intro pins s σ H x y v u Q I rx ry h
 obtain ⟨hs,q⟩:=h
 cases x with
 | non =>
  cases rx
  cases y with
  | non=>cases ry; exact PySem.EqNone.ne_none_none (zT I q (by simp))
  | bl j=>cases ry; exact PySem.EqNone.ne_none_bool (zT I q (by simp))
  | int j=>obtain ⟨t',rfl⟩:=ry; exact PySem.EqNone.ne_none_int (zT I q (by simp))
  | str j=>obtain ⟨t',rfl⟩:=ry; exact PySem.EqNone.ne_none_str (zT I q (by simp))
  | _=>exact absurd (show false = true from hs) Bool.false_ne_true
 | bl i =>
  cases rx
  cases y with
  | non=>cases ry; exact PySem.EqNone.ne_bool_none (zT I q (by simp))
  | bl j=>cases ry; exact ne_bool (zT I q (congrArg not WT))
  | str j=>obtain ⟨t',rfl⟩:=ry; exact PySem.EqMixed.ne_bool_str (zT I q (by simp))
  | _=>exact absurd (show false = true from hs) Bool.false_ne_true
 | int i =>
  obtain ⟨t,rfl⟩:=rx
  cases y with
  | non=>cases ry; exact PySem.EqNone.ne_int_none (zT I q (by simp))
  | int j=>obtain ⟨t',rfl⟩:=ry; exact ne_int (zT I q (congrArg not Yp))
  | str j=>obtain ⟨t',rfl⟩:=ry; exact PySem.EqMixed.ne_int_str (zT I q (by simp))
  | _=>exact absurd (show false = true from hs) Bool.false_ne_true
 | str i =>
  obtain ⟨t,rfl⟩:=rx
  cases y with
  | non=>cases ry; exact PySem.EqNone.ne_str_none (zT I q (by simp))
  | bl j=>cases ry; exact PySem.EqMixed.ne_str_bool (zT I q (by simp))
  | int j=>obtain ⟨t',rfl⟩:=ry; exact PySem.EqMixed.ne_str_int (zT I q (by simp))
  | str j=>obtain ⟨t',rfl⟩:=ry; exact ne_str (zT I q (congrArg not Yq))
  | _=>exact absurd (show false = true from hs) Bool.false_ne_true
 | byt i =>
  obtain ⟨t,rfl⟩:=rx
  cases y with
  | byt j=>obtain ⟨t',rfl⟩:=ry; exact PySem.W.ne_bytes (zT I q (congrArg not Yr))
  | _=>exact absurd (show false = true from hs) Bool.false_ne_true
 | _=>cases y <;> exact absurd (show false = true from hs) Bool.false_ne_true
theorem ZH:OpR X (compareOp .Lt) (rI0 fun i j=>.bl (decide (i < j))):=opB0 fun _ _ _ _ _ _ _ q=>lt_int q
theorem wM:OpR X (compareOp .LtE) (rI0 fun i j=>.bl (decide (i <= j))):=opB0 fun _ _ _ _ _ _ _ q=>le_int q
theorem Ys:OpR X (compareOp .Gt) (rI0 fun i j=>.bl (decide (j < i))):=opB0 fun _ _ _ _ _ _ _ q=>gt_int q
theorem zA (b:Expr) {op:CmpOp} (h:op ≠ .In:=by decide) (h2:op ≠ .NotIn:=by decide):behindInMarks op b = false:=by
 have e1:(op == CmpOp.In) = false:=by cases op <;> first | rfl | exact absurd rfl h
 have e2:(op == CmpOp.NotIn) = false:=by cases op <;> first | rfl | exact absurd rfl h2
 cases b <;> simp [behindInMarks,e1,e2]
theorem xa {op:CmpOp} {r:R2} (ho:OpR X (compareOp op) r) (ha:PE X a ta) (hb:PE X b tb) (hm:behindInMarks op b = false):PE X (.Compare a [op] [b] pos) (tOp r ta tb):=by
 intro pins s σ H Q I h
 exact wpAny_Compare1 (binT ha hb I h fun v u s2 x y H2 I2 rx ry q=>ho pins s2 σ H2 x y v u Q I2 rx ry q) hm
def Uk (t:TE):TT:=fun σ H Q=>t σ H fun x H'=>∃ k,x = .bl k /\ Q k H'
theorem zB {op:CmpOp} {r:R2} (ho:OpR X (compareOp op) r) (ha:PE X a ta) (hb:PE X b tb) (hm:behindInMarks op b = false):PT X (.Compare a [op] [b] pos) (Uk (tOp r ta tb)):=by
 intro pins s σ H Q I h
 refine wpAny_isTrue_Compare1 (thn (ha pins s σ H _ I h) fun v s1 ⟨x,H1,I1,r1,q1⟩=>thn (hb pins s1 σ H1 _ I1 q1) fun u s2 ⟨y,H2,I2,r2,q2⟩ =>
  thn (ho pins s2 σ H2 x y v u _ I2 r1 r2 q2) fun c s3 ⟨z,H3,I3,r3,k,e,q3⟩=>?_) hm
 subst e
 cases r3
 exact wpAny_truthy_bool ⟨H3,I3,q3⟩
def WU (r r':R2) (ta tb tc:TE):TE:=fun σ H Q=>ta σ H fun x H1=>tb σ H1 fun y H2=>r x y H2 fun z H3=>∃ k,z = .bl k ∧
 (if k = true then tc σ H3 fun w' H4=>r' y w' H4 Q else Q (.bl false) H3)
theorem j4 {op op':CmpOp} {r r':R2} (ho:OpR X (compareOp op) r) (ho':OpR X (compareOp op') r') (ha:PE X a ta) (hb:PE X b tb) (hc:PE X c tc)
  (hm:lastMarks [op,op'] [b,c] = false:=by with_unfolding_all rfl):PE X (.Compare a [op,op'] [b,c] pos) (WU r r' ta tb tc):=by
 intro pins s σ H Q I h
 refine Compare_chain (thn (ha pins s σ H _ I h) fun v s1 ⟨x,H1,I1,r1,q1⟩=>chain_link (thn (hb pins s1 σ H1 _ I1 q1) fun u s2 ⟨y,H2,I2,r2,q2⟩ =>
  thn (ho pins s2 σ H2 x y v u _ I2 r1 r2 q2) fun d s3 ⟨z,H3,I3,r3,k,e,q3⟩=>?_)) hm
 subst e
 cases r3
 refine wpAny_truthy_bool ?_
 cases k with
 | false=>exact ite_ff ⟨.bl false,H3,I3,rfl,q3⟩
 | true=>exact ite_tt (chain_last (thn (hc pins s3 σ H3 _ I3 q3) fun w' s4 ⟨z',H4,I4,r4,q4⟩=>ho' pins s4 σ H4 y z' u w' Q I4 r2 r4 q4))
theorem vj {op op':CmpOp} {r r':R2} (ho:OpR X (compareOp op) r) (ho':OpR X (compareOp op') r') (ha:PE X a ta) (hb:PE X b tb) (hc:PE X c tc)
  (hm:lastMarks [op,op'] [b,c] = false:=by with_unfolding_all rfl):PT X (.Compare a [op,op'] [b,c] pos) (Uk (WU r r' ta tb tc)):=by
 intro pins s σ H Q I h
 refine isTrue_chain (thn (ha pins s σ H _ I h) fun v s1 ⟨x,H1,I1,r1,q1⟩=>test_link (thn (hb pins s1 σ H1 _ I1 q1) fun u s2 ⟨y,H2,I2,r2,q2⟩ =>
  thn (ho pins s2 σ H2 x y v u _ I2 r1 r2 q2) fun d s3 ⟨z,H3,I3,r3,k,e,q3⟩=>?_)) hm
 subst e
 cases r3
 refine wpAny_truthy_bool ?_
 cases k with
 | false =>
  obtain ⟨k',e',q'⟩:=q3
  cases e'
  exact ite_ff ⟨H3,I3,q'⟩
 | true =>
  refine ite_tt (test_last (thn (hc pins s3 σ H3 _ I3 q3) fun w' s4 ⟨z',H4,I4,r4,q4⟩=>thn (ho' pins s4 σ H4 y z' u w' _ I4 r2 r4 q4) fun d' s5 ⟨z2,H5,I5,r5,k2,e2,q5⟩=>?_))
  subst e2
  cases r5
  exact wpAny_truthy_bool ⟨H5,I5,q5⟩
def TruV (K:FG7) (x:V) (H:Hp) (k:Bool):Prop :=
 match x with
 | .non=>k = false
 | .bl b=>k = b
 | .int i=>k = (i != 0)
 | .str y=>y.length <= sizeLine /\ k = ((y.length:Int) != 0)
 | .byt y=>y.size <= sizeLine /\ k = ((y.size:Int) != 0)
 | .ref p=>(∃ xs,SqL K H p xs /\ k = !xs.isEmpty) \/ (∃ xs,SqT K H p xs /\ k = !xs.isEmpty) \/ ∃ kvs,H p = some (.dK kvs) /\ k = !kvs.isEmpty
 | _=>False
theorem ZI {κ:Type} {kvs:List (κ × V)} {vs:List (κ × Value)} (r:KV kvs vs):(!vs.isEmpty) = !kvs.isEmpty:=by
 cases r <;> rfl
theorem tK {xs:List V} {its:List Value} (r:Vals xs its):(!its.toArray.isEmpty) = !xs.isEmpty:=by
 cases r <;> simp
theorem rB:(sizeLine:Nat) < 2 ^ 63:=by rw [sizeLine_eq]; decide
theorem Ul:TruR X (fun x H Q=>∃ k,TruV X.K x H k /\ Q k H):=by
 intro pins s σ H x v Q I rx h
 obtain ⟨k,e,q⟩:=h
 have hl:=rB
 have hs:sizeLine = 16777216:=sizeLine_eq
 cases x with
 | non =>
  cases rx
  have e':k = false:=e
  subst e'
  exact truthy_none ⟨H,I,q⟩
 | bl b =>
  cases rx
  have e':k = b:=e
  subst e'
  exact wpAny_truthy_bool ⟨H,I,q⟩
 | int i =>
  obtain ⟨t,rfl⟩:=rx
  have e':k = (i != 0):=e
  subst e'
  exact PySem.P.truthy_int ⟨H,I,q⟩
 | str y =>
  obtain ⟨t,rfl⟩:=rx
  obtain ⟨hy,e'⟩:y.length <= sizeLine /\ k = ((y.length:Int) != 0):=e
  subst e'
  exact PySem.P.truthy_str (by omega) ⟨H,I.tok _,q⟩
 | byt y =>
  obtain ⟨t,rfl⟩:=rx
  obtain ⟨hy,e'⟩:y.size <= sizeLine /\ k = ((y.size:Int) != 0):=e
  subst e'
  exact PySem.W.truthy_bytes (by omega) ⟨H,I.tok _,q⟩
 | ref p =>
  cases rx
  have e':(∃ xs,SqL X.K H p xs /\ k = !xs.isEmpty) \/ (∃ xs,SqT X.K H p xs /\ k = !xs.isEmpty) \/ ∃ kvs,H p = some (.dK kvs) /\ k = !kvs.isEmpty:=e
  rcases e' with ⟨xs,hx,e'⟩ | ⟨xs,hx,e'⟩ | ⟨kvs,hx,e'⟩
  ·subst e'
   obtain ⟨its,r,pl,hz⟩:=I.list hx
   have hlen:=r.length
   exact wpAny_truthy_list pl.isList (by simp only [List.size_toArray]; omega) ⟨H,I.tok _,by rw [tK r]; exact q⟩
  ·subst e'
   obtain ⟨its,r,pl,hz⟩:=I.tuple hx
   have hlen:=r.length
   exact truthy_tuple pl (by simp only [List.size_toArray]; omega) ⟨H,I.tok _,by rw [tK r]; exact q⟩
  ·subst e'
   obtain ⟨hz,hS,vs,r,m⟩:kvs.length <= sizeLine /\ (p == sysModules) = false /\ ∃ vs,KV kvs vs /\ s.heap.DictOf (z7 X.prog X.w) p vs:=I.hok p _ hx
   have hlen:kvs.length = vs.length:=Paired.length r
   exact wpAny_truthy_dict hS m (by omega) ⟨H,I.tok _,by rw [ZI r]; exact q⟩
 | _=>exact (show False from e).elim
theorem j5 (ha:PE X a ta) (he:∀ whole,isTrue a X.env whole = (do let v ← whole; standAt a.pos; holding [v] (truthy v))) :
  PT X a (fun σ H Q=>ta σ H fun x H'=>∃ k,TruV X.K x H' k /\ Q k H'):=by
 intro pins s σ H Q I h
 exact isTrue_plain (thn (ha pins s σ H _ I h) fun v s1 ⟨x,H1,I1,r1,q1⟩=>Ul pins s1 σ H1 x v Q I1 r1 q1) (he _)
theorem sk {x:V} {us:List Value} (r:Vals [x] us):∃ u,us = [u] /\ RelV x u:=by
 cases r with
 | cons r1 r2=>cases r2; exact ⟨_,rfl,r1⟩
theorem XZ {x y:V} {us:List Value} (r:Vals [x,y] us):∃ u w',us = [u,w'] /\ RelV x u /\ RelV y w':=by
 cases r with
 | cons r1 r2 =>
  cases r2 with
  | cons r3 r4=>cases r4; exact ⟨_,_,rfl,r1,r3⟩
theorem X1:vh X (.builtin "abs") (fun xs H Q=>∃ i,xs = [.int i] /\ Q (.int (if i < 0 then -i else i)) H):=by
 intro pins s σ H xs us Q I r h
 obtain ⟨i,rfl,q⟩:=h
 obtain ⟨u,rfl,t,rfl⟩:=sk r
 exact call_abs_int fun u tk=>⟨.int (if i < 0 then -i else i),H,I.tok _,⟨_,rfl⟩,q⟩
theorem rC (hc:X.calm = true):vh X (.builtin "max") (fun xs H Q=>∃ i j,xs = [.int i,.int j] /\ Q (.int (if j > i then j else i)) H):=by
 intro pins s σ H xs us Q I r h
 obtain ⟨i,j,rfl,q⟩:=h
 obtain ⟨u,w',rfl,⟨t,rfl⟩,⟨t',rfl⟩⟩:=XZ r
 refine max_two_ints (I.ok.hd hc) fun h' tk k=>⟨_,H,I.kept k,?_,q⟩
 by_cases hj:j > i
 ·rw [if_pos hj,if_pos hj]; exact ⟨_,rfl⟩
 ·rw [if_neg hj,if_neg hj]; exact ⟨_,rfl⟩
theorem Yt (hc:X.calm = true):vh X (.builtin "min") (fun xs H Q=>∃ i j,xs = [.int i,.int j] /\ Q (.int (if j < i then j else i)) H):=by
 intro pins s σ H xs us Q I r h
 obtain ⟨i,j,rfl,q⟩:=h
 obtain ⟨u,w',rfl,⟨t,rfl⟩,⟨t',rfl⟩⟩:=XZ r
 refine min_two_ints (I.ok.hd hc) fun h' tk k=>⟨_,H,I.kept k,?_,q⟩
 by_cases hj:j < i
 ·rw [if_pos hj,if_pos hj]; exact ⟨_,rfl⟩
 ·rw [if_neg hj,if_neg hj]; exact ⟨_,rfl⟩
end
end L2
namespace L2
open PySem PySem.Spec PyProof.Rows
structure ObjM (h:Heap) (x dx C:Addr) (mA:Str -> Option Value):Prop where
 obj:h.get? x = some (PySem.W.instObj C dx)
 ns:h.Ns1 dx mA
 ne:dx ≠ x
theorem Yu {h:Heap} {dx:Addr} {mA:Str -> Option Value} (n:h.Ns1 dx mA):∃ od,h.get? dx = some od /\ ∀ name,PySem.W.lookIn name od = some (mA name):=by
 obtain ⟨o,es,ep,ho,hd,hk,_,hm⟩:=n
 refine ⟨o,ho,fun name=>?_⟩
 have e:=hm name
 unfold nsFind findBy at e
 rw [← Array.find?_toList] at e
 unfold PySem.W.lookIn
 rw [hd]
 dsimp only
 split
 ·rename_i y q
  rw [q] at e
  exact congrArg some e
 ·rename_i q
  rw [q] at e
  have a:es.toList.any (·.refKey) = false:=by
   rw [List.any_eq_false]
   intro y hy
   obtain ⟨z,t,hkey⟩:=hk y (Array.mem_toList_iff.mp hy)
   simp [DictEntry.refKey,hkey]
  have a':¬ es.toList.any (·.refKey) = true:=by rw [a]; exact Bool.false_ne_true
  rw [if_neg a']
  exact congrArg some e
theorem ObjM.look {h:Heap} {x dx C:Addr} {mA:Str -> Option Value} (I:ObjM h x dx C mA):∃ od,PySem.W.InstAt h x (PySem.W.instObj C dx) C (some od) /\ ∀ name,PySem.W.lookIn name od = some (mA name) :=
 let ⟨od,ho,hl⟩:=Yu I.ns
 ⟨od,⟨I.obj,rfl,rfl,ho⟩,hl⟩
theorem RelO.some_of {v:V} {o:Option Value} (r:RelO (some v) o):∃ u,o = some u /\ RelV v u:=by
 cases o with
 | none=>exact (show False from r).elim
 | some u=>exact ⟨u,rfl,r⟩
section
variable {P:Program} {w:World} {H H':Hp} {h h':Heap} {a C dx:Addr} {fs fs':List (Str × V)}
theorem Vm (hok:HOk P w H h) (e:H a = some (.ins C dx fs)):∃ mA,ObjM h a dx C mA /\ (∀ f,RelO (fs.lookup f) (mA f)) /\ PySem.Within mA (fs.map (·.1)) /\ fs.length <= 1000 /\ H dx = some (.own a):=by
 obtain ⟨d,z,ne,ob,mA,n,r,q⟩:=(show yA P w H h a (.ins C dx fs) from hok a _ e)
 exact ⟨mA,⟨ob,n,ne⟩,r,q,z,d⟩
end
structure Cls (K:FG7) (C:Addr):Prop where
 pg:PySem.W.plainGet K C Str.empty = true
 hd:PySem.W.hasDictIn K C = true
 po:PySem.W.plainOver K C = true
 sa:PySem.W.findIn K (.ref C) "__setattr__" = some (some (.builtin "object.__setattr__"))
theorem Cls.get {K:FG7} {C:Addr} (c:Cls K C) (f:Str):PySem.W.plainGet K C f = true:=c.pg
def uH (K:FG7) (C:Addr) (f:Str):Prop:=PySem.W.findIn K (.ref C) f = some none
structure Con (K:FG7) (C:Addr) (f:Str) (v:V) (u:Value):Prop where
 at_:PySem.W.findIn K (.ref C) f = some (some u)
 rel:RelV v u
 get:PySem.W.specialIn K u "__get__" = some none
 cp:PySem.W.copiedNames.contains f = false
structure Meth (K:FG7) (C:Addr) (m:Str) (f:Addr):Prop where
 at_:PySem.W.findIn K (.ref C) m = some (some (.ref f))
 fn:PySem.W.isFn K (.ref f) = true
 kp:PySem.W.keepIn K (.ref f) = true
section
variable {X:Cx} {pins:List (Addr × Obj)} {σ:St} {H:Hp} {s:Shared} {a C dx:Addr} {fs:List (Str × V)} {f:Str} {v:V} {A:Around} {E:VS7}
theorem Inv.made (I:Inv X pins σ H s):Inv X pins σ (upd (upd H s.heap.objs.size (.own (s.heap.objs.size + 1))) (s.heap.objs.size + 1) (.ins C s.heap.objs.size []))
  { s with heap:=(s.heap.push PySem.W.emptyDict).push (PySem.W.instObj C s.heap.objs.size) }:=by
 have e1:(s.heap.push PySem.W.emptyDict).get? s.heap.objs.size = some PySem.W.emptyDict:=Heap.get?_push_size s.heap rfl
 have e2:((s.heap.push PySem.W.emptyDict).push (PySem.W.instObj C s.heap.objs.size)).get? (s.heap.objs.size + 1) = some (PySem.W.instObj C s.heap.objs.size):=by
  have:=Heap.get?_push_size (s.heap.push PySem.W.emptyDict) (o:=PySem.W.instObj C s.heap.objs.size) rfl
  rwa [Heap.size_push] at this
 have e3:(s.heap.push PySem.W.emptyDict).Ns s.heap.objs.size (fun _=>none):=⟨PySem.W.emptyDict,#[],_,e1,rfl,(fun e he=>absurd he (by simp)),fun _=>rfl⟩
 have I1:=I.laid (a:=s.heap.objs.size) (o:=.own (s.heap.objs.size + 1)) (h':=s.heap.push PySem.W.emptyDict) (t':=s.toks) (fun b u q=>Heap.get?_push_of_some _ q) (Nat.le_refl _) ⟨_,e1⟩
 refine I1.laid (a:=s.heap.objs.size + 1) (o:=.ins C s.heap.objs.size []) (t':=s.toks) (fun b u q=>Heap.get?_push_of_some _ q) (Nat.le_of_eq (Heap.size_push _ _)) ?_
 have ne:s.heap.objs.size ≠ s.heap.objs.size + 1:=Nat.ne_of_lt (Nat.lt_succ_self _)
 refine ⟨by rw [zq ne,ze],Nat.zero_le _,ne,e2,fun _=>none,(Heap.Ns1.of_empty e3).at fun o q=>Heap.get?_push_of_some _ q,fun _=>True.intro,fun y hy=>absurd rfl hy⟩
end
section
variable {X:Cx} {pins:List (Addr × Obj)} {σ:St} {H:Hp} {s:Shared} {A:Around} {E:VS7} {Q:VS7} {c:Value} {b:Bool}
inductive TyOf (K:FG7) (H:Hp):V -> Value -> Prop where
 | non:TyOf K H .non (.type "NoneType")
 | bl (x:Bool):TyOf K H (.bl x) (.type "bool")
 | int (i:Int):TyOf K H (.int i) (.type "int")
 | str (x:Str):TyOf K H (.str x) (.type "str")
 | flt (x:UInt64):TyOf K H (.flt x) (.type "float")
 | lst {a:Addr} {xs:List V} (e:H a = some (.lst xs)):TyOf K H (.ref a) (.type "list")
 | frz {a:Addr} {o:Obj} {xs:List V} (e:H a = some (.frz o (.lst xs))):TyOf K H (.ref a) (.type "list")
 | tup {a:Addr} {xs:List V} (e:H a = some (.tup xs)):TyOf K H (.ref a) (.type "tuple")
 | dK {a:Addr} {kvs:List (Key × V)} (e:H a = some (.dK kvs)):TyOf K H (.ref a) (.type "dict")
 | dT {a:Addr} {kvs:List (List Key × V)} (e:H a = some (.dT kvs)):TyOf K H (.ref a) (.type "dict")
 | ins {a C dx:Addr} {fs:List (Str × V)} (e:H a = some (.ins C dx fs)) (cl:Cls K C) (ha:PySem.W.findIn K (.ref C) "__class__" = some (some (.builtin "object.__class__")))
   (hn:PySem.W.specialIn K (.builtin "object.__class__") "__get__" = some (some (.builtin "getset_descriptor.__get__"))) (htk:PySem.W.takesIn K (.builtin "object.__class__") = some true)
   (hm:PySem.W.mroIn K C (.type "object") = some true):TyOf K H (.ref a) (.ref C)
theorem wn {x:V} {u t:Value} (I:Inv X pins σ H s) (rx:RelV x u) (ty:TyOf X.K H x t) (e:PySem.W.kitOne X.K t c = some b) (h:∀ tk,Q (.bool b) { s with toks:=tk }) :
  wpAny (model X.prog X.w) A (call (.builtin "isinstance") [u,c]) Q E s:=by
 cases ty with
 | non=>cases (show u = Value.none from rx); exact PySem.W.kia_one PySem.W.kitx_none I.kIn True.intro e (fun z=>nomatch z) h
 | bl y=>cases (show u = Value.bool y from rx); exact PySem.W.kia_one PySem.W.kitx_bool I.kIn True.intro e (fun z=>nomatch z) h
 | int i=>obtain ⟨t,q⟩:=(show ∃ t,u = Value.int i t from rx); cases q; exact PySem.W.kia_one PySem.W.kitx_int I.kIn True.intro e (fun z=>nomatch z) h
 | str y=>obtain ⟨t,q⟩:=(show ∃ t,u = Value.str y t from rx); cases q; exact PySem.W.kia_one PySem.W.kitx_str I.kIn True.intro e (fun z=>nomatch z) h
 | flt y=>obtain ⟨t,q⟩:=(show ∃ t,u = Value.float y t from rx); cases q; exact PySem.W.kia_one PySem.W.kitx_float I.kIn True.intro e (fun z=>nomatch z) h
 | @lst a xs ea =>
  cases (show u = Value.ref a from rx)
  obtain ⟨_,_,n,_,h1⟩:=(show yA X.prog X.w H s.heap a (.lst xs) from I.hok a _ ea)
  exact PySem.W.kia_one PySem.W.kitx_list I.kIn ⟨_,h1,rfl⟩ e (fun z=>nomatch z) h
 | @frz a ob xs ea =>
  cases (show u = Value.ref a from rx)
  obtain ⟨_,_,_,n,_,h1⟩:=(show yA X.prog X.w H s.heap a (.frz ob (.lst xs)) from I.hok a _ ea)
  exact PySem.W.kia_one PySem.W.kitx_list I.kIn ⟨_,h1,rfl⟩ e (fun z=>nomatch z) h
 | @tup a xs ea =>
  cases (show u = Value.ref a from rx)
  obtain ⟨_,_,_,p⟩:=(show yA X.prog X.w H s.heap a (.tup xs) from I.hok a _ ea)
  obtain ⟨o,h1,h2,_⟩:=p
  exact PySem.W.kia_one PySem.W.kitx_tuple I.kIn ⟨o,h1,h2⟩ e (fun z=>nomatch z) h
 | @dK a kvs ea =>
  cases (show u = Value.ref a from rx)
  obtain ⟨_,_,vs,_,p⟩:=(show yA X.prog X.w H s.heap a (.dK kvs) from I.hok a _ ea)
  obtain ⟨o,es,ep,h1,h2,_⟩:=p
  exact PySem.W.kia_one PySem.W.kitx_dict I.kIn ⟨o,h1,h2.1⟩ e (fun z=>nomatch z) h
 | @dT a kvs ea =>
  cases (show u = Value.ref a from rx)
  obtain ⟨_,_,xs,_,o,es,ep,h1,h2,_⟩:=(show yA X.prog X.w H s.heap a (.dT kvs) from I.hok a _ ea)
  exact PySem.W.kia_one PySem.W.kitx_dict I.kIn ⟨o,h1,h2.1⟩ e (fun z=>nomatch z) h
 | @ins a C dx fs ea cl ha hn htk hm =>
  cases (show u = Value.ref a from rx)
  obtain ⟨mA,O,_⟩:=Vm I.hok ea
  obtain ⟨od,J,_⟩:=O.look
  exact PySem.W.kia_one (PySem.W.kitx_own (cl.get _) cl.hd ha hn htk hm) I.kIn J e (fun z=>nomatch z) h
end
end L2
namespace L2
open PySem PySem.Spec PyProof.Rows
structure Room (k:Nat) (A:Around):Prop where
 hd:A.handled = none
 dp:A.depth + 3 * k + 5 < recursionLimit
 un:A.units + 16 * k + 200 < cLine
 gd:A.guards = some []
theorem Room.mono {j k:Nat} {A:Around} (r:Room k A) (h:j <= k):Room j A:=⟨r.hd,by have:=r.dp; omega,by have:=r.un; omega,r.gd⟩
theorem Room.deeper {k:Nat} {A:Around} (r:Room (k + 1) A) (env:Env):Room k (A.deeper env) :=
 ⟨r.hd,by have:=r.dp; show A.depth + 1 + 3 * k + 5 < _; omega,by have:=r.un; show A.units + 3 + 16 * k + 200 < _; omega,r.gd⟩
theorem Room.in1 {k:Nat} {A:Around} (r:Room (k + 1) A):Room k A.in1 :=
 ⟨r.hd,by have:=r.dp; show A.depth + 3 * k + 5 < _; omega,by have:=r.un; show A.units + 1 + 16 * k + 200 < _; omega,r.gd⟩
theorem Room.depth {k:Nat} {A:Around} (r:Room k A):A.depth < recursionLimit:=by have:=r.dp; omega
theorem Room.units {k:Nat} {A:Around} (r:Room k A):A.units + 64 < cLine:=by have:=r.un; omega
theorem Room.units0 {k:Nat} {A:Around} (r:Room k A):A.units < cLine:=by have:=r.un; omega
def tNil:TA:=fun _ H Q=>Q [] H
def U9 (ta:TE) (tr:TA):TA:=fun σ H Q=>ta σ H fun x H1=>tr σ H1 fun xs H2=>Q (x :: xs) H2
section
variable {X:Cx} {e:Expr} {es:List Expr} {te:TE} {t:TA} {pos:Pos}
theorem zb:PA X [] tNil:=fun _ _ _ _ H Q I h=>Calls.spliced_nil ⟨[],H,I,.nil,h⟩
theorem za (ha:PE X e te) (hr:PA X es t) (hs:starEach (e :: es) X.env = (false,eval e X.env) :: starEach es X.env:=by rfl):PA X (e :: es) (U9 te t):=by
 intro pos pins s σ H Q I h
 rw [hs]
 show wpAny _ _ (spliced ((false,eval e X.env) :: backTo pos (starEach es X.env))) _ _ s
 refine Calls.spliced_cons (thn (ha pins s σ H _ I h) fun u s1 ⟨x,H1,I1,r1,q1⟩=>?_)
 exact thn (hr pos pins s1 σ H1 _ I1 q1) fun us s2 ⟨xs,H2,I2,r2,q2⟩=>⟨x :: xs,H2,I2,.cons r1 r2,q2⟩
def tTup (t:TA):TE:=fun σ H Q=>t σ H fun xs H1=>xs.length <= sizeLine /\ ∀ p,H1 p = none -> Q (.ref p) (upd H1 p (.tup xs))
def tLst (t:TA):TE:=fun σ H Q=>t σ H fun xs H1=>xs.length <= sizeLine /\ ∀ p,H1 p = none -> Q (.ref p) (upd H1 p (.lst xs))
theorem yg {x1} (h:PA X es t):PE X (.Tuple es x1 pos) (tTup t):=by
 intro pins s σ H Q I hq
 refine wpAny_Tuple_spliced (thn (h pos pins s σ H _ I hq) fun us s1 ⟨xs,H1,I1,r,z,q⟩=>⟨by rw [← r.length]; exact z,?_⟩)
 have hf:H1 s1.heap.objs.size = none:=I1.hok.fresh (Nat.le_refl _)
 refine ⟨.ref s1.heap.objs.size,upd H1 s1.heap.objs.size (.tup xs),I1.laid (t':=s1.toks) (fun b u e=>Heap.get?_push_of_some _ e) (Nat.le_refl _) ?_,rfl,q _ hf⟩
 exact ⟨z,us,r,⟨_,Heap.get?_push_size _ rfl,rfl,_,rfl⟩⟩
theorem wT (h:PA X es t):PE X (.List es pos) (tLst t):=by
 intro pins s σ H Q I hq
 refine wpAny_List_spliced (thn (h pos pins s σ H _ I hq) fun us s1 ⟨xs,H1,I1,r,z,q⟩=>⟨by rw [← r.length]; exact z,?_⟩)
 have hf:H1 s1.heap.objs.size = none:=I1.hok.fresh (Nat.le_refl _)
 refine ⟨.ref s1.heap.objs.size,upd H1 s1.heap.objs.size (.lst xs),I1.laid (t':=s1.toks) (fun b u e=>Heap.get?_push_of_some _ e) (Nat.le_refl _) ?_,rfl,q _ hf⟩
 exact ⟨z,us,0,r,Heap.get?_push_size _ rfl⟩
end
abbrev Sp:=List V -> Hp -> VK -> XK -> Prop
abbrev CXT:=List Env -> Hp -> Shared -> XK -> Value -> Shared -> Prop
structure Env0 (P:Program) (w:World) (K:FG7) (mg:Str -> Option Value) (base:Heap) (A:Around) (outer:List Env) (s:Shared) (H:Hp):Prop where
 frames:A.frames = some outer
 mod:Mod K mg base
 bs:∀ b o,base.get? b = some o -> s.heap.get? b = some o /\ H b = none
 bsz:base.objs.size <= s.heap.objs.size
 funs:s.heap.FunFrames base outer
 frf:∀ b ∈ frs outer,H b = none
 hok:HOk P w H s.heap
 bare:AllBare s.gens
def CE (outer:List Env) (P:Program) (w:World) (H:Hp) (s:Shared) (Q:VK) (u:Value) (s':Shared):Prop :=
 ∃ v H',s'.os = s.os /\ AllBare s'.gens /\ Un (frs outer) [] H H' s.heap s'.heap /\ HOk P w H' s'.heap /\ RelV v u /\ Q v H'
def CR (CX:CXT) (outer:List Env) (P:Program) (w:World) (H:Hp) (s:Shared) (Q:VK) (E:XK) (r:Result) (s':Shared):Prop :=
 match r with
 | .ok (.ret u)=>CE outer P w H s Q u s'
 | .ok _=>False
 | .error e=>CX outer H s E e s'
structure FnOk (P:Program) (w:World) (K:FG7) (mg:Str -> Option Value) (base:Heap) (CX:CXT) (k:Nat) (f:Addr) (fd:FuncData) (ps:List Str) (sp:Sp):Prop where
 len:∀ vs H Q E,sp vs H Q E -> vs.length = ps.length
 run:∀ (A:Around) (outer:List Env) (s:Shared) (H:Hp) (args:Args) (us:List Value) (vs:List V) (Q:VK) (E:XK),Room k A -> Env0 P w K mg base A outer s H -> BindsTo s fd args (ps.zip us) -> Vals vs us -> sp vs H Q E →
  codeAny (model P w) A (.call (.ref f) args) (CR CX outer P w H s Q E) s
theorem FnOk.mono {P:Program} {w:World} {K:FG7} {mg:Str -> Option Value} {base:Heap} {CX:CXT} {j k:Nat} {f:Addr} {fd:FuncData} {ps:List Str} {sp:Sp} (F:FnOk P w K mg base CX j f fd ps sp) (h:j <= k) :
  FnOk P w K mg base CX k f fd ps sp:=⟨F.len,fun A outer s H args us vs Q E hr=>F.run A outer s H args us vs Q E (hr.mono h)⟩
theorem FnOk.imp {P:Program} {w:World} {K:FG7} {mg:Str -> Option Value} {base:Heap} {CX:CXT} {k:Nat} {f:Addr} {fd:FuncData} {ps:List Str} {sp sp':Sp} (F:FnOk P w K mg base CX k f fd ps sp)
  (h:∀ vs H Q E,sp' vs H Q E -> sp vs H Q E):FnOk P w K mg base CX k f fd ps sp' :=
 ⟨fun vs H Q E q=>F.len vs H Q E (h _ _ _ _ q),fun A outer s H args us vs Q E hr he hb hv hs=>F.run A outer s H args us vs Q E hr he hb hv (h _ _ _ _ hs)⟩
theorem Env0.in1 {P:Program} {w:World} {K:FG7} {mg:Str -> Option Value} {base:Heap} {A:Around} {outer:List Env} {s:Shared} {H:Hp} (e:Env0 P w K mg base A outer s H) :
  Env0 P w K mg base A.in1 outer s H:=⟨e.frames,e.mod,e.bs,e.bsz,e.funs,e.frf,e.hok,e.bare⟩
section
variable {X:Cx} {pins:List (Addr × Obj)} {σ:St} {H:Hp} {s s':Shared}
theorem Inv.env0 (I:Inv X pins σ H s):Env0 X.prog X.w X.K X.mg X.base X.A X.stack s H :=
 ⟨I.ok.frames,I.ok.mod,I.bs,Nat.le_trans I.ok.bsz I.sz,I.stack,I.stkFree,I.hok,I.bare⟩
theorem Inv.after {Q:VK} {u:Value} (I:Inv X pins σ H s) (h:CE X.stack X.prog X.w H s Q u s'):EP X pins σ Q u s':=by
 obtain ⟨v,H',os,bare,un,hok,r,q⟩:=h
 obtain ⟨hh,g,d,t,os'⟩:=s'
 obtain rfl:os' = s.os:=os
 exact ⟨v,H',I.call (h':=hh) (g':=g) (d':=d) (t':=t) (ch:=[]) un hok bare (fun b z=>absurd z (by simp)),r,q⟩
end
def Um (sp:Sp) (dvs:List V) (E:XK) (t:TA):TE:=fun σ H Q=>t σ H fun vs H1=>sp (vs ++ dvs) H1 Q E
def uI (K:FG7) (fd:FuncData) (ps:List Str) (ds:List Value):Prop :=
 ∀ (s:Shared) (us:List Value),K.In s.heap -> (us ++ ds).length = ps.length -> BindsTo s fd ⟨us,[]⟩ (ps.zip (us ++ ds))
theorem uI.all {K:FG7} {fd:FuncData} {ps:List Str} (h:∀ us:List Value,us.length = ps.length -> bindArgs fd ⟨us,[]⟩ = pure (ps.zip us)):uI K fd ps []:=fun s us _ hl=>by
 rw [List.append_nil] at hl ⊢
 exact .of_eq (h us hl)
def Yv (CX:CXT) (X:Cx) (E:XK):Prop:=∀ (pins:List (Addr × Obj)) (σ:St) (H:Hp) (s:Shared) (e:Value) (s':Shared),Inv X pins σ H s -> CX X.stack H s E e s' -> X.xe e s'
section
variable {X:Cx} {CX:CXT} {k:Nat} {f C:Addr} {fd:FuncData} {ps:List Str} {sp:Sp} {dvs:List V} {ds:List Value} {E:XK} {x m:Str} {p pos apos:Pos} {e o:Expr} {es:List Expr} {ta:TE} {t:TA}
theorem Uo {pins:List (Addr × Obj)} {σ:St} {H:Hp} {s:Shared} {Q:VK} {us:List Value} {vs:List V} (F:FnOk X.prog X.w X.K X.mg X.base CX k f fd ps sp) (hr:Room k X.A) (hb:uI X.K fd ps ds) (hd:Vals dvs ds) (hx:Yv CX X E)
  (I:Inv X pins σ H s) (r:Vals vs us) (h:sp (vs ++ dvs) H Q E):wpAny (model X.prog X.w) X.A (call (.ref f) us) (EP X pins σ Q) X.xe s:=by
 have r2:Vals (vs ++ dvs) (us ++ ds):=r.append hd
 have hl:(us ++ ds).length = ps.length:=by rw [← r2.length]; exact F.len _ _ _ _ h
 refine wpAny_call (codeAny_mono (F.run X.A X.stack s H ⟨us,[]⟩ (us ++ ds) (vs ++ dvs) Q E hr I.env0 (hb s us I.kIn hl) r2 h) fun r s' hq=>?_)
 cases r with
 | error e=>exact hx pins σ H s e s' I hq
 | ok fl =>
  cases fl with
  | ret u=>exact I.after hq
  | next=>exact False.elim hq
  | brk=>exact False.elim hq
  | cont=>exact False.elim hq
theorem Vn (F:FnOk X.prog X.w X.K X.mg X.base CX k f fd ps sp) (hr:Room k X.A) (hg:Gl X x) (hm:X.mg x = some (.ref f)) (hk:PySem.W.keepIn X.K (.ref f) = true) (hb:uI X.K fd ps ds) (hd:Vals dvs ds) (hx:Yv CX X E)
  (ha:PA X (e :: es) t) (hdb:(x == ("__debug__":Str)) = false:=by decide) (he:starEach (e :: es) X.env = (false,eval e X.env) :: starEach es X.env:=by rfl) (hpl:(backTo pos (starEach es X.env)).any (·.1) = false:=by rfl) :
  PE X (.Call (.Name x p) (e :: es) [] pos) (Um sp dvs E t):=by
 intro pins s σ H Q I h
 refine wpAny_Call_Name_kw (Yj I hg hm ?_ hdb)
 refine PySem.W.callWith_K (h₀:=X.base) I.ok.mod.kin hk (thn (ha pos pins s σ H _ I h) fun us s1 ⟨vs,H1,I1,r,q⟩=>⟨I1.kIn,?_⟩) he hpl
 exact Uo F hr hb hd hx I1 r q
structure Mk (K:FG7) (C f:Addr):Prop where
 makes:PySem.W.makesIn K C = true
 init:PySem.W.findIn K (.ref C) "__init__" = some (some (.ref f))
 fn:PySem.W.isFn K (.ref f) = true
 kp:PySem.W.keepIn K (.ref C) = true
end
section
variable {X:Cx} {CX:CXT} {k:Nat} {f C:Addr} {fd:FuncData} {ps ks:List Str} {sp:Sp} {E:XK} {x m:Str} {p pos apos kpos:Pos} {e o:Expr} {es:List Expr} {kws:List Keyword} {te ta:TE} {t tk:TA} {nm:Option Str}
structure KBinds (K:FG7) (fd:FuncData) (ps ks:List Str) (g:List Value -> List Value -> List Value) (gV:List V -> List V -> List V):Prop where
 to:∀ (s:Shared) (us ws:List Value),K.In s.heap -> (g us ws).length = ps.length -> BindsTo s fd ⟨us,ks.zip ws⟩ (ps.zip (g us ws))
 rel:∀ {vs:List V} {us:List Value} {zs:List V} {ws:List Value},Vals vs us -> Vals zs ws -> Vals (gV vs zs) (g us ws)
variable {g:List Value -> List Value -> List Value} {gV:List V -> List V -> List V}
end
structure FnScope (N P:List Str) (sc:Scope):Prop where
 kind:sc.kind = .function
 co:sc.isCoroutine = false
 gen:sc.isGenerator = false
 nd:N.Nodup
 pre:N.take P.length = P
 par:∀ x ∈ P,sc.names.lookup x = some .local \/ sc.names.lookup x = some .cell
 nofree:∀ y ∈ sc.names,y.2 ≠ .free
theorem rD {kindOf:Str -> Option NameKind} {x:Str}:∀ {binds:List (Str × Value)} {m:Str -> Option Value},(∀ v,(x,v) ∉ binds) -> bindL kindOf binds m x = m x
 | [],_,_=>rfl
 | (n,v) :: r,m,h=>by
  unfold bindL
  rw [rD fun w hw=>h w (List.mem_cons_of_mem _ hw)]
  split
  ·have:x ≠ n:=by rintro rfl; exact h v List.mem_cons_self
   simp [this]
  ·rfl
theorem rE {kindOf:Str -> Option NameKind} {x:Str}:∀ {binds:List (Str × Value)} {m:Str -> Option Value},(∀ v,(x,v) ∉ binds) -> bindC kindOf binds m x = m x
 | [],_,_=>rfl
 | (n,v) :: r,m,h=>by
  unfold bindC
  rw [rE fun w hw=>h w (List.mem_cons_of_mem _ hw)]
  split
  ·rfl
  ·have:x ≠ n:=by rintro rfl; exact h v List.mem_cons_self
   simp [this]
theorem rF {kindOf:Str -> Option NameKind} {x:Str} {v:Value}:∀ {P:List Str} {vs:List Value} {i:Nat} {m:Str -> Option Value},P.Nodup -> P[i]? = some x -> vs[i]? = some v -> kindOf x = some .local →
  bindL kindOf (P.zip vs) m x = some v
 | [],_,_,_,_,h,_,_=>by simp at h
 | _ :: _,[],_,_,_,_,h,_=>by simp at h
 | p :: P,w :: vs,0,m,nd,h1,h2,hk=>by
  simp at h1 h2; subst h1; subst h2
  show bindL kindOf ((p,w) :: P.zip vs) m p = _
  unfold bindL
  rw [rD fun v hv=>(List.nodup_cons.mp nd).1 (List.of_mem_zip hv).1,if_pos hk]
  simp
 | p :: P,w :: vs,i + 1,m,nd,h1,h2,hk=>by
  show bindL kindOf ((p,w) :: P.zip vs) m x = _
  unfold bindL
  exact rF (i:=i) (List.nodup_cons.mp nd).2 (by simpa using h1) (by simpa using h2) hk
theorem rG {kindOf:Str -> Option NameKind} {x:Str} {v:Value}:∀ {P:List Str} {vs:List Value} {i:Nat} {m:Str -> Option Value},P.Nodup -> P[i]? = some x -> vs[i]? = some v -> kindOf x ≠ some .local →
  bindC kindOf (P.zip vs) m x = some v
 | [],_,_,_,_,h,_,_=>by simp at h
 | _ :: _,[],_,_,_,_,h,_=>by simp at h
 | p :: P,w :: vs,0,m,nd,h1,h2,hk=>by
  simp at h1 h2; subst h1; subst h2
  show bindC kindOf ((p,w) :: P.zip vs) m p = _
  unfold bindC
  rw [rE fun v hv=>(List.nodup_cons.mp nd).1 (List.of_mem_zip hv).1,if_neg hk]
  simp
 | p :: P,w :: vs,i + 1,m,nd,h1,h2,hk=>by
  show bindC kindOf ((p,w) :: P.zip vs) m x = _
  unfold bindC
  exact rG (i:=i) (List.nodup_cons.mp nd).2 (by simpa using h1) (by simpa using h2) hk
def rH (N:List Str) (vs:List V):St:=vs.map some ++ List.replicate (N.length - vs.length) none
def cxOf (CX:CXT) (P:Program) (w:World) (K:FG7) (mg:Str -> Option Value) (base:Heap) (N:List Str) (qual:Str) (scope:Scope) (f:Addr) (cd:Value) (A:Around) (outer:List Env) (s:Shared) (H:Hp) (E:XK):Cx where
 prog:=P
 w:=w
 K:=K
 mg:=mg
 base:=base
 A:=A.deeper (envOfC qual scope s.heap.objs.size f cd)
 N:=N
 s₀:=s
 H₀:=H
 env:=envOfC qual scope s.heap.objs.size f cd
 outer:=outer
 stack:=envOfC qual scope s.heap.objs.size f cd :: outer
 ex:=[]
 calm:=true
 fn:=fun _=>true
 pn:=[]
 xe:=fun e s'=>wpAny (model P w) (A.deeper (envOfC qual scope s.heap.objs.size f cd)) (leaving (envOfC qual scope s.heap.objs.size f cd) e) (fun _ s''=>CX outer H s E e s'') (fun e' s''=>CX outer H s E e' s'') s'
theorem j6 {sc:Scope} {n:Nat} {x:Str} (h:sc.names.lookup x = some .cell):∃ c,(cellsFrom n sc.names []).lookup x = some c:=by
 have q:=PySem.W.cellsFrom_some sc.names n [] (.inl h)
 exact Option.isSome_iff_exists.mp q
theorem Yw {CX:CXT} {P:Program} {w:World} {K:FG7} {mg:Str -> Option Value} {base:Heap} {N ps:List Str} {qual:Str} {scope:Scope} {f:Addr} {cd:Value} {A:Around} {outer:List Env} {s s1:Shared} {H:Hp} {E:XK} {us:List Value} {vs:List V}
  (S:FnScope N ps scope) (hd:A.handled = none) (e0:Env0 P w K mg base A outer s H) (hl:vs.length = ps.length) (r:Vals vs us)
  (x:InCallC s s.heap.objs.size (bindL (envOfC qual scope s.heap.objs.size f cd).kindOf (ps.zip us) fun _=>none) (cellsFrom (s.heap.objs.size + 1) scope.names []) (bindC (envOfC qual scope s.heap.objs.size f cd).kindOf (ps.zip us) fun _=>none) s1) :
  Inv (cxOf CX P w K mg base N qual scope f cd A outer s H E) [] (rH N vs) H s1:=by
 have hpl:ps.length <= N.length:=by have:=congrArg List.length S.pre; rw [List.length_take] at this; omega
 obtain ⟨h1,tk,rfl,hk⟩:=x.done
 have noA:∀ b:Addr,b ∉ (cxOf CX P w K mg base N qual scope f cd A outer s H E).ex:=fun b z=>absurd (show b ∈ ([]:List Addr) from z) (by simp)
 refine ⟨⟨e0.mod,S.kind,rfl,rfl,Nat.le_refl _,fun y z c h1 h2=>?_,fun y hy=>?_,fun y c _ h=>?_,fun _=>hd,Around.frames_deeper e0.frames,.inr ⟨rfl,rfl⟩,fun b z=>absurd z (noA b),e0.bs,e0.bsz,fun b _ _=>noA b,fun b z=>absurd z (noA b),e0.funs,e0.frf⟩,
  rfl,e0.bare,Un.kept hk,⟨_,x.toInCall.ns,fun i y v h1 h2 h3=>?_⟩,fun y c h=>⟨_,x.cell y c h⟩,e0.hok.fresh (Nat.le_refl _),fun y c h=>?_,fun p hp=>absurd (show p ∈ ([]:List (Addr × Obj)) from hp) (by simp),e0.hok.kept hk,?_⟩
 ·exact name_of_addr x.apart (PySem.mem_of_lookup h1) (PySem.mem_of_lookup h2)
 ·have hy:scope.names.lookup y = some .cell \/ scope.names.lookup y = some .free:=hy
  rcases hy with hy | hy
  ·exact j6 hy
  ·exact absurd rfl (S.nofree _ (PySem.mem_of_lookup hy))
 ·exact Nat.le_of_lt (x.above y c (PySem.mem_of_lookup h))
 ·have hi:i < vs.length:=by
   unfold rH at h2
   by_cases hi:i < vs.length
   ·exact hi
   ·rw [List.getElem?_append_right (by simpa using hi)] at h2
    rw [List.getElem?_replicate] at h2
    split at h2 <;> cases h2
  have ha:vs[i]? = some v:=by
   unfold rH at h2
   rw [List.getElem?_append_left (by simpa using hi),List.getElem?_map] at h2
   cases e:vs[i]? with
   | none=>rw [e] at h2; cases h2
   | some a=>rw [e] at h2; cases h2; rfl
  obtain ⟨u,hu,rv⟩:=r.get ha
  have hp:ps[i]? = some y:=by
   rw [← S.pre,List.getElem?_take_of_lt (by omega)]; exact h1
  have ndP:ps.Nodup:=by rw [← S.pre]; exact S.nd.sublist (List.take_sublist _ _)
  refine ⟨u,rv,?_⟩
  rcases S.par y (List.mem_of_getElem? hp) with k | k
  ·exact .inl ⟨k,rF ndP hp hu k⟩
  ·obtain ⟨c,e⟩:=j6 (n:=s.heap.objs.size + 1) k
   refine .inr ⟨.inl k,c,e,?_⟩
   have q:=x.cell y c e
   rw [rG ndP hp hu (by show scope.names.lookup y ≠ _; rw [k]; decide)] at q
   exact q
 ·exact e0.hok.fresh (Nat.le_of_lt (x.above y c (PySem.mem_of_lookup h)))
 ·unfold rH
  show _ = N.length
  rw [List.length_append,List.length_map,List.length_replicate]
  omega
theorem Ta {CX:CXT} {P:Program} {w:World} {K:FG7} {mg:Str -> Option Value} {base:Heap} {k:Nat} {f:Addr} {name qual:Str} {params:Arguments} {body:List Stmt} {scope:Scope} {dV kV doc pm cdv ct oc:Value} {an od:Option Addr}
  {osl:Array (Option Value)} {N ps:List Str} {sp:Sp} (lk:K.lookup f = some ⟨oc,od,.func (PySem.W.fnOf name qual params body scope dV kV doc pm an cdv ct),osl⟩) (hcd:PySem.W.codeIn K cdv qual = true) (S:FnScope N ps scope)
  (len:∀ vs H Q E,sp vs H Q E -> vs.length = ps.length)
  (hbody:∀ (A:Around) (outer:List Env) (s:Shared) (H:Hp) (vs:List V) (Q:VK) (E:XK),Room k (A.deeper (envOfC qual scope s.heap.objs.size f cdv)) -> sp vs H Q E →
   ∃ t,PSs (cxOf CX P w K mg base N qual scope f cdv A outer s H E) body t /\ t { nx:=fun _ H'=>Q .non H',rt:=Q } (rH N vs) H) :
  FnOk P w K mg base CX (k + 1) f (PySem.W.fnOf name qual params body scope dV kV doc pm an cdv ct) ps sp:=by
 refine ⟨len,fun A outer s H args us vs Q E hr e0 hb r hsp=>?_⟩
 have hl:=len _ _ _ _ hsp
 have KX:K.In s.heap:=e0.mod.kin.keeps fun b o e=>(e0.bs b o e).1
 have lim:s.heap.NoLimit:=e0.mod.nolimit.keeps fun b o e=>(e0.bs b o e).1
 have hkind:∀ y ∈ ps.zip us,scope.names.lookup y.1 = some .local \/ (scope.names.lookup y.1 = some .cell /\ ((cellsFrom (s.heap.objs.size + 1) scope.names []).lookup y.1).isSome = true):=fun ⟨n,v⟩ hy=>by
  rcases S.par n (List.of_mem_zip hy).1 with q | q
  ·exact .inl q
  ·exact .inr ⟨q,PySem.W.cellsFrom_some _ _ _ (.inl q)⟩
 refine codeAny_call_function hr.depth (KX _ _ lk) rfl S.co S.gen rfl (PySem.W.codeRec_of KX hcd) (hb _ _ _ _ ?_)
 refine wpAny_newFunctionEnv_cells S.kind hkind fun env he s1 x=>?_
 subst he
 refine ⟨lim.keeps x.toInCall.keep,codeAny_func ?_⟩
 obtain ⟨t,ht,hq⟩:=hbody A outer s H vs Q E (hr.deeper _) hsp
 have I:Inv (cxOf CX P w K mg base N qual scope f cdv A outer s H E) [] (rH N vs) H s1:=Yw S hr.hd e0 hl r x
 refine wpAny_mono (ht [] s1 (rH N vs) H _ I hq) (fun fl s' hs=>?_) fun e s' hs=>hs
 have fin:∀ {σ':St} {H':Hp} {v:V} {u:Value},Inv (cxOf CX P w K mg base N qual scope f cdv A outer s H E) [] σ' H' s' -> RelV v u -> Q v H' -> CE outer P w H s Q u s' :=
  fun {σ' H' v u} J rv q=>⟨v,H',J.os,J.bare,J.base,J.hok,rv,q⟩
 cases fl with
 | ret u =>
  obtain ⟨v,σ',H',J,rv,q⟩:=hs
  exact fin J rv q
 | next =>
  obtain ⟨σ',H',J,q⟩:=hs
  exact fin (v:=V.non) (u:=Value.none) J rfl q
 | brk =>
  obtain ⟨_,_,_,q⟩:=hs
  exact False.elim q
 | cont =>
  obtain ⟨_,_,_,q⟩:=hs
  exact False.elim q
end L2
namespace L2
open PySem PySem.Spec PyProof.Rows
section
variable {X:Cx} {x:Str} {p pos:Pos} {e:Expr} {es:List Expr} {t:TA} {id T:String} {r:List V -> Hp -> VK -> Prop}
def tCB (r:List V -> Hp -> VK -> Prop) (t:TA):TE:=fun σ H Q=>t σ H fun vs H1=>r vs H1 Q
theorem zj (hc:vh X (.builtin id) r) (hg:Gl X x) (hm:X.mg x = none) (hv:bootBuiltins x = some (.builtin id)) (ha:PA X (e :: es) t) (hn:x ≠ "__name__":=by decide) (hdb:(x == ("__debug__":Str)) = false:=by decide)
  (he:starEach (e :: es) X.env = (false,eval e X.env) :: starEach es X.env:=by rfl) (hpl:(backTo pos (starEach es X.env)).any (·.1) = false:=by rfl):PE X (.Call (.Name x p) (e :: es) [] pos) (tCB r t):=by
 intro pins s σ H Q I h
 refine wpAny_Call_Name_kw (wP I hg hm hv ?_ hn hdb)
 exact PyProof.Rows.callWith_builtin1 (thn (ha pos pins s σ H _ I h) fun us s1 ⟨vs,H1,I1,r1,q1⟩=>hc pins s1 σ H1 vs us Q I1 r1 q1) he hpl
theorem zF (hc:vh X (.type T) r) (hg:Gl X x) (hm:X.mg x = none) (hv:bootBuiltins x = some (.type T)) (ha:PA X (e :: es) t) (hn:x ≠ "__name__":=by decide) (hdb:(x == ("__debug__":Str)) = false:=by decide)
  (he:starEach (e :: es) X.env = (false,eval e X.env) :: starEach es X.env:=by rfl) (hpl:(backTo pos (starEach es X.env)).any (·.1) = false:=by rfl):PE X (.Call (.Name x p) (e :: es) [] pos) (tCB r t):=by
 intro pins s σ H Q I h
 refine wpAny_Call_Name_kw (wP I hg hm hv ?_ hn hdb)
 exact PyProof.Rows.callWith_type1 (thn (ha pos pins s σ H _ I h) fun us s1 ⟨vs,H1,I1,r1,q1⟩=>hc pins s1 σ H1 vs us Q I1 r1 q1) he hpl
end
end L2
namespace HT
open PySem PyProof.Rows
section
variable {prog:Program} {w:World} {A:Around} {E:VS7} {s:Shared}
theorem cat_tup {t b:Addr} {vs ws:List Value} {Q:VS7} (ht:IsTup s.heap t vs.toArray) (hb:IsTup s.heap b ws.toArray) (hv:vs ≠ [])
  (h1:ws = [] -> Q (.ref t) s) (h2:ws ≠ [] -> Q (.ref s.heap.objs.size) { s with heap:=s.heap.push { cls:=.type "tuple",data:=.seq (vs ++ ws).toArray } })
  (hsz:vs.length + ws.length <= sizeLine):wpAny (model prog w) A (binaryOp .Add (.ref t) (.ref b)) Q E s:=by
 obtain ⟨⟨cls,dd,data,sl⟩,ho,hc,n,hd⟩:=id ht
 obtain ⟨⟨cls2,dd2,data2,sl2⟩,ho2,hc2,n2,hd2⟩:=id hb
 simp only at hc hd hc2 hd2
 subst hc hd hc2 hd2
 have e:vs.toArray ++ ws.toArray = (vs ++ ws).toArray:=by simp
 by_cases hw:ws = []
 ·exact concat_meets ⟨_,ho,rfl⟩ ⟨_,ho2,rfl⟩ noFill_tuple_add seq_tuple_add PySem.F.slot_tuple_add PySem.F.entry_tuple_add (PySem.F.args_tuple_add_2 _ _)
   (tuple_addW1 t b vs.toArray ws.toArray n n2 dd dd2 sl sl2 (by simpa using hv) (by simp [hw])) ⟨ho,ho2,h1 hw⟩
 ·refine concat_meets ⟨_,ho,rfl⟩ ⟨_,ho2,rfl⟩ noFill_tuple_add seq_tuple_add PySem.F.slot_tuple_add PySem.F.entry_tuple_add (PySem.F.args_tuple_add_2 _ _)
   (tuple_addW2 t b vs.toArray ws.toArray n n2 dd dd2 sl sl2 (by simpa using hv) (by simpa using hw) (by rw [List.size_toArray,List.size_toArray]; exact hsz)) ⟨ho,ho2,?_⟩
  rw [e]
  exact h2 hw
end
end HT
namespace L2
open PySem PySem.Spec PyProof.Rows
abbrev TO:=St -> Hp -> (Option Int -> Hp -> Prop) -> Prop
section
variable {X:Cx} {e:Expr} {te:TE} {lo hi:Option Expr} {tl th:TO} {pos p2:Pos}
def Tb (K:FG7):R2:=fun x y H Q=>∃ a b xs ys,x = .ref a /\ y = .ref b /\ SqT K H a xs /\ SqT K H b ys /\ xs ≠ [] /\ xs.length + ys.length <= sizeLine ∧
 (ys = [] -> Q (.ref a) H) /\ (ys ≠ [] -> ∀ p,H p = none -> Q (.ref p) (upd H p (.tup (xs ++ ys))))
theorem Vals.nil_iff {xs:List V} {us:List Value} (r:Vals xs us):us = [] ↔ xs = []:=by
 cases r with
 | nil=>simp
 | cons _ _=>simp
theorem Vo:OpR X (binaryOp .Add) (Tb X.K):=by
 intro pins s σ H x y v u Q I rx ry h
 obtain ⟨a,b,xs,ys,rfl,rfl,ha,hb,hx,hz,q1,q2⟩:=h
 cases rx
 cases ry
 obtain ⟨its,r1,p1,_⟩:=I.tuple ha
 obtain ⟨its2,r2,p2,_⟩:=I.tuple hb
 refine HT.cat_tup p1 p2 (fun z=>hx (r1.nil_iff.mp z)) (fun z=>⟨.ref a,H,I,rfl,q1 (r2.nil_iff.mp z)⟩) (fun z=>?_) (by rw [← r1.length,← r2.length]; exact hz)
 refine ⟨.ref s.heap.objs.size,_,I.laid (t':=s.toks) (o:=.tup (xs ++ ys)) (fun b ob q=>Heap.get?_push_of_some _ q) (Nat.le_refl _) ?_,rfl,q2 (fun w=>z (r2.nil_iff.mpr w)) _ (I.hok.fresh (Nat.le_refl _))⟩
 exact ⟨by rw [List.length_append]; exact hz,_,r1.append r2,IsTup.new _ _⟩
end
end L2
namespace L2
open PySem PySem.Spec PyProof.Rows
def ixN (n:Nat) (i:Int):Option Nat:=if 0 <= i then (if i < n then some i.toNat else none) else if -(n:Int) <= i then some (i + n).toNat else none
def atI {α:Type} (xs:List α) (i:Int):Option α:=(ixN xs.length i).bind fun j=>xs[j]?
theorem Yx {n:Nat} {i:Int} {j:Nat} (h:ixN n i = some j):seqIndex? i n = some j /\ j < n /\ -(n:Int) <= i /\ i < n:=by
 unfold ixN at h
 by_cases h0:0 <= i
 ·rw [if_pos h0] at h
  by_cases h1:i < n
  ·rw [if_pos h1] at h
   have e:i.toNat = j:=Option.some.inj h
   exact ⟨by rw [seqIndex_of h0 h1,e],by omega,by omega,h1⟩
  ·rw [if_neg h1] at h; cases h
 ·rw [if_neg h0] at h
  by_cases h1:-(n:Int) <= i
  ·rw [if_pos h1] at h
   have e:(i + n).toNat = j:=Option.some.inj h
   exact ⟨by rw [seqIndex_neg (by omega) h1,e],by omega,h1,by omega⟩
  ·rw [if_neg h1] at h; cases h
theorem Yy {α:Type} {xs:List α} {i:Int} {v:α} (h:atI xs i = some v):∃ j,seqIndex? i xs.length = some j /\ xs[j]? = some v /\ j < xs.length /\ -(xs.length:Int) <= i /\ i < xs.length:=by
 unfold atI at h
 cases e:ixN xs.length i with
 | none=>rw [e] at h; cases h
 | some j =>
  rw [e] at h
  obtain ⟨h1,h2,h3,h4⟩:=Yx e
  exact ⟨j,h1,h,h2,h3,h4⟩
def Vp (b:Expr):Prop:=∀ o i,subscripted b false o i = operate [o,i] (getItem o i)
def IxR (X:Cx) (r:R2):Prop :=
 ∀ (value slice:Expr) (pins:List (Addr × Obj)) (s:Shared) (σ:St) (H:Hp) (x y:V) (v u:Value) (Q:VK),Inv X pins σ H s -> RelV x v -> RelV y u -> r x y H Q →
  subscripted slice false v u = operate [v,u] (getItem v u) -> wpAny (model X.prog X.w) X.A (subscriptTail value slice v u) (EP X pins σ Q) X.xe s
def MtR (X:Cx) (id:String) (r:V -> List V -> Hp -> VK -> Prop):Prop :=
 ∀ (pins:List (Addr × Obj)) (s:Shared) (σ:St) (H:Hp) (x:V) (xs:List V) (v:Value) (us:List Value) (Q:VK),Inv X pins σ H s -> RelV x v -> Vals xs us -> r x xs H Q →
  wpAny (model X.prog X.w) X.A (call (.builtin id) (v :: us)) (EP X pins σ Q) X.xe s
section
variable {X:Cx} {a b:Expr} {ta tb:TE} {pos:Pos}
theorem zG {r:R2} (hr:IxR X r) (ha:PE X a ta) (hb:PE X b tb) (hs:Vp b):PE X (.Subscript a b pos) (tOp r ta tb):=by
 intro pins s σ H Q I h
 exact Subscript_ (binT ha hb I h fun v u s2 x y H2 I2 rx ry q=>hr a b pins s2 σ H2 x y v u Q I2 rx ry q (hs _ _))
def rIxL (K:FG7):R2:=fun x y H Q=>∃ p xs i v,x = .ref p /\ y = .int i /\ SqL K H p xs /\ atI xs i = some v /\ Q v H
def rIxT (K:FG7):R2:=fun x y H Q=>∃ p xs i v,x = .ref p /\ y = .int i /\ SqT K H p xs /\ atI xs i = some v /\ Q v H
theorem yy:IxR X (rIxL X.K):=by
 intro value slice pins s σ H x y v u Q I rx ry h hs
 obtain ⟨p,xs,i,z,rfl,rfl,hq,he,q⟩:=h
 cases rx
 obtain ⟨t,rfl⟩:=ry
 obtain ⟨its,r,pl,hz⟩:=I.list hq
 obtain ⟨j,h1,h2,h3,h4,h5⟩:=Yy he
 obtain ⟨w,ew,rw'⟩:=r.get h2
 have hl:=r.length
 have hn:=rB
 have fin:EP X pins σ Q w s:=⟨z,H,I,rw',q⟩
 by_cases h0:0 <= i
 ·have hj:i.toNat = j:=by
   rw [seqIndex_of h0 h5] at h1
   exact Option.some.inj h1
  exact item_listR pl.isList h0 (by omega) (by rw [hj]; simpa using ew) fin hs
 ·have hj:(i + (its.toArray.size:Int)).toNat = j:=by
   rw [seqIndex_neg (by omega) h4] at h1
   rw [List.size_toArray,← hl]
   exact Option.some.inj h1
  exact subscriptTail_builtinR (x:=w) pl.isList.typeIs slot_list_getitem.lookup
   (wpAny_getItem_list_neg (Q:=fun r s'=>r = w /\ EP X pins σ Q r s') pl.isList (by omega) (by rw [List.size_toArray] <;> omega) (by omega) (by rw [hj]; simpa using ew) ⟨rfl,fin⟩) hs
theorem zJ:IxR X (rIxT X.K):=by
 intro value slice pins s σ H x y v u Q I rx ry h hs
 obtain ⟨p,xs,i,z,rfl,rfl,hq,he,q⟩:=h
 cases rx
 obtain ⟨t,rfl⟩:=ry
 obtain ⟨its,r,pl,hz⟩:=I.tuple hq
 obtain ⟨j,h1,h2,h3,h4,h5⟩:=Yy he
 obtain ⟨w,ew,rw'⟩:=r.get h2
 have hl:=r.length
 have hn:=rB
 have fin:EP X pins σ Q w s:=⟨z,H,I,rw',q⟩
 exact subscriptTail_builtinR (x:=w) pl.typeIs slot_tuple_getitem.lookup
  (getItem_tuple (j:=j) (Q:=fun r s'=>r = w /\ EP X pins σ Q r s') pl (by omega) (by omega) (by rw [List.size_toArray,← hl]; exact h1) (by simpa using ew) ⟨rfl,fin⟩) hs
theorem ZJ (its:List Value) (n j:Nat) (u:Value):Obj.mapSeq (·.setIfInBounds j u) { cls:=.type "list",data:=.seq its.toArray n } = { cls:=.type "list",data:=.seq (its.set j u).toArray n }:=by
 simp [Obj.mapSeq]
theorem Inv.lst {pins:List (Addr × Obj)} {σ:St} {H:Hp} {s:Shared} {p:Addr} {xs:List V} (I:Inv X pins σ H s) (h:H p = some (.lst xs)) :
  ∃ (its:List Value) (n:Nat),Vals xs its /\ s.heap.get? p = some { cls:=.type "list",data:=.seq its.toArray n } /\ xs.length <= sizeLine:=by
 obtain ⟨z,its,n,r,e⟩:=I.hok p _ h
 exact ⟨its,n,r,e,z⟩
theorem Inv.lstUpd {pins:List (Addr × Obj)} {σ:St} {H:Hp} {s:Shared} {p:Addr} {xs ys:List V} {its its':List Value} {n n':Nat} {f:Obj -> Obj} (I:Inv X pins σ H s) (h:H p = some (.lst xs))
  (ho:s.heap.get? p = some { cls:=.type "list",data:=.seq its.toArray n }) (hf:f { cls:=.type "list",data:=.seq its.toArray n } = { cls:=.type "list",data:=.seq its'.toArray n' }) (r:Vals ys its') (hz:ys.length <= sizeLine) (t:Nat) :
  Inv X pins σ (upd H p (.lst ys)) { s with heap:=s.heap.update p f,toks:=t }:=by
 have e:(s.heap.update p f).get? p = some { cls:=.type "list",data:=.seq its'.toArray n' }:=by
  rw [Heap.get?_update_self f ho (by rw [hf] <;> rfl),hf]
 refine I.write (x:=p) (e:=p) (by rw [h]; trivial) (.inl rfl) (fun b u hb q=>(Heap.get?_update_other _ _ (Ne.symm hb)).trans q) ⟨_,e⟩ ?_
 exact ⟨hz,its',n',r,e⟩
def Tc:V -> V -> V -> Hp -> (Hp -> Prop) -> Prop:=fun o i v H Q=>∃ p xs k j,o = .ref p /\ i = .int k /\ H p = some (.lst xs) /\ ixN xs.length k = some j /\ Q (upd H p (.lst (xs.set j v)))
theorem uq:PSet X Tc:=by
 intro pins s σ H o i v ov iv u Q I ro ri rv h
 obtain ⟨p,xs,k,j,rfl,rfl,hp,hj,q⟩:=h
 cases ro
 obtain ⟨t,rfl⟩:=ri
 obtain ⟨its,n,r,ho,hz⟩:=I.lst hp
 obtain ⟨h1,h2,h3,h4⟩:=Yx hj
 have hl:=r.length
 have hn:=rB
 have I':Inv X pins σ (upd H p (.lst (xs.set j v))) { s with heap:=s.heap.update p (Obj.mapSeq (·.setIfInBounds j u)) } :=
  I.lstUpd hp ho (ZJ its n j u) (r.set rv j) (by rw [List.length_set]; exact hz) s.toks
 by_cases h0:0 <= k
 ·have hk:k.toNat = j:=by
   rw [seqIndex_of h0 h4] at h1
   exact Option.some.inj h1
  exact PySem.W.ki_setAt ho h0 (by omega) (by rw [List.size_toArray,← hl]; exact h4) (by rw [hk]; exact ⟨_,I',q⟩)
 ·have hk:(k + (its.toArray.size:Int)).toNat = j:=by
   rw [seqIndex_neg (by omega) h3] at h1
   rw [List.size_toArray,← hl]
   exact Option.some.inj h1
  exact PySem.W.ki_setBack ho (by omega) (by rw [List.size_toArray,← hl]; exact h3) (by omega) (by rw [hk]; exact ⟨_,I',q⟩)
def sm:V -> Bool
 | .non=>true
 | .bl _=>true
 | .int _=>true
 | .str _=>true
 | _=>false
def eqV:V -> V -> Bool
 | .non,.non=>true
 | .bl a,.bl b=>a == b
 | .bl a,.int b=>(if a then 1 else 0) == b
 | .int a,.bl b=>a == (if b then 1 else 0)
 | .int a,.int b=>a == b
 | .str a,.str b=>a == b
 | _,_=>false
theorem Up {A:Around} {s:Shared} {y x:V} {u v:Value} (ry:RelV y u) (rx:RelV x v) (fy:sm y = true) (fx:sm x = true):SeqAt.EqAt A s u v (eqV y x):=by
 cases y with
 | non =>
  cases ry
  cases x with
  | non=>cases rx; exact SeqAt.EqAt.same _
  | bl b=>cases rx; exact SeqAt.EqAt.none_bool b
  | int b=>obtain ⟨t,rfl⟩:=rx; exact SeqAt.EqAt.none_int b t
  | str b=>obtain ⟨t,rfl⟩:=rx; exact SeqAt.EqAt.none_str b t
  | _=>exact absurd (show false = true from fx) Bool.false_ne_true
 | bl a =>
  cases ry
  cases x with
  | non=>cases rx; exact SeqAt.EqAt.bool_none a
  | bl b=>cases rx; exact SeqAt.EqAt.bool_bool a b
  | int b=>obtain ⟨t,rfl⟩:=rx; exact SeqAt.EqAt.bool_int a b t
  | str b=>obtain ⟨t,rfl⟩:=rx; exact SeqAt.EqAt.bool_str a b t
  | _=>exact absurd (show false = true from fx) Bool.false_ne_true
 | int a =>
  obtain ⟨t',rfl⟩:=ry
  cases x with
  | non=>cases rx; exact SeqAt.EqAt.int_none a t'
  | bl b=>cases rx; exact SeqAt.EqAt.int_bool a t' b
  | int b=>obtain ⟨t,rfl⟩:=rx; exact SeqAt.EqAt.int_int a t' b t
  | str b=>obtain ⟨t,rfl⟩:=rx; exact SeqAt.EqAt.int_str a t' b t
  | _=>exact absurd (show false = true from fx) Bool.false_ne_true
 | str a =>
  obtain ⟨t',rfl⟩:=ry
  cases x with
  | non=>cases rx; exact SeqAt.EqAt.str_none a t'
  | bl b=>cases rx; exact SeqAt.EqAt.str_bool a t' b
  | int b=>obtain ⟨t,rfl⟩:=rx; exact SeqAt.EqAt.str_int a t' b t
  | str b=>obtain ⟨t,rfl⟩:=rx; exact SeqAt.EqAt.str_str a t' b t
  | _=>exact absurd (show false = true from fx) Bool.false_ne_true
 | _=>exact absurd (show false = true from fy) Bool.false_ne_true
theorem zk:vh X (.builtin "len") (fun xs H Q=>∃ p ys,xs = [.ref p] /\ (SqL X.K H p ys \/ SqT X.K H p ys) /\ Q (.int ys.length) H):=by
 intro pins s σ H xs us Q I r h
 obtain ⟨p,ys,rfl,hq,q⟩:=h
 obtain ⟨u,rfl,rx⟩:=sk r
 cases rx
 have hn:=rB
 rcases hq with hq | hq
 ·obtain ⟨its,r',pl,hz⟩:=I.list hq
  have hlen:=r'.length
  exact Calls.call_len_list pl.isList (by simp only [List.size_toArray] <;> omega) ⟨.int ys.length,H,I.tok _,⟨s.toks + 1,by rw [List.size_toArray,hlen]⟩,q⟩
 ·obtain ⟨its,r',pl,hz⟩:=I.tuple hq
  have hlen:=r'.length
  exact len_tuple pl (by simp only [List.size_toArray] <;> omega) ⟨.int ys.length,H,I.tok _,⟨s.toks + 1,by rw [List.size_toArray,hlen]⟩,q⟩
theorem v3:vh X (.type "list") (fun xs H Q=>∃ p ys,xs = [.ref p] /\ (SqL X.K H p ys \/ SqT X.K H p ys) /\ ∀ l,H l = none -> Q (.ref l) (upd H l (.lst ys))):=by
 intro pins s σ H xs us Q I r h
 obtain ⟨p,ys,rfl,hq,q⟩:=h
 obtain ⟨u,rfl,rx⟩:=sk r
 cases rx
 have fin:∀ (its:List Value),Vals ys its -> ys.length <= sizeLine -> ∀ (h':Heap) (c':Nat),(∀ b o',s.heap.get? b = some o' -> h'.get? b = some o') →
   h'.get? s.heap.objs.size = some { cls:=.type "list",dict:=none,data:=.seq its.toArray c',slots:=#[] } -> EP X pins σ Q (.ref s.heap.objs.size) { s with heap:=h' }:=fun its r' hz h' c' kp e =>
  ⟨.ref s.heap.objs.size,_,I.laid (t':=s.toks) kp (Nat.le_refl _) (show yA X.prog X.w _ h' _ (.lst ys) from ⟨hz,its,c',r',e⟩),rfl,q _ (I.hok.fresh (Nat.le_refl _))⟩
 rcases hq with hq | hq
 ·obtain ⟨its,r',pl,hz⟩:=I.list hq
  have hlen:=r'.length
  obtain ⟨o,ho,hc,n,hd⟩:=pl.isList
  exact call_list_seq p (.inl rfl) ho hc hd (fun h' c' kp e=>fin its r' hz h' c' kp e) (by simp only [List.size_toArray] <;> omega)
 ·obtain ⟨its,r',pl,hz⟩:=I.tuple hq
  have hlen:=r'.length
  obtain ⟨o,ho,hc,n,hd⟩:=pl
  exact call_list_seq p (.inr rfl) ho hc hd (fun h' c' kp e=>fin its r' hz h' c' kp e) (by simp only [List.size_toArray] <;> omega)
theorem zx:vh X (.type "tuple") (fun xs H Q=>∃ p ys,xs = [.ref p] /\ ((SqL X.K H p ys /\ ∀ l,H l = none -> Q (.ref l) (upd H l (.tup ys))) \/ (SqT X.K H p ys /\ Q (.ref p) H))):=by
 intro pins s σ H xs us Q I r h
 obtain ⟨p,ys,rfl,h⟩:=h
 obtain ⟨u,rfl,rx⟩:=sk r
 cases rx
 rcases h with ⟨hq,q⟩ | ⟨hq,q⟩
 ·obtain ⟨its,r',pl,hz⟩:=I.list hq
  have hlen:=r'.length
  refine call_tuple_list pl.isList (fun h' kp=>?_) (by simp only [List.size_toArray] <;> omega)
  have I1:Inv X pins σ H { s with heap:=h' }:=I.kept (t':=s.toks) kp
  have I2:Inv X pins σ (upd H h'.objs.size (.tup ys)) { s with heap:=h'.push { cls:=.type "tuple",data:=.seq its.toArray } } :=
   I1.laid (t':=s.toks) (fun b o e=>Heap.get?_push_of_some _ e) (Nat.le_refl _) (show yA X.prog X.w _ _ _ (.tup ys) from ⟨hz,its,r',IsTup.new _ _⟩)
  exact ⟨.ref h'.objs.size,_,I2,rfl,q _ (I1.hok.fresh (Nat.le_refl _))⟩
 ·obtain ⟨its,r',pl,hz⟩:=I.tuple hq
  exact call_tuple_same pl ⟨.ref p,H,I,rfl,q⟩
def tyV (K:FG7) (T:String) (x:V) (H:Hp):Prop:=match x with
 | .str _=>T = "str"
 | .int _=>T = "int"
 | .ref p=>(T = "list" /\ ∃ xs,SqL K H p xs) \/ (T = "tuple" /\ ∃ o,K.lookup p = some o /\ o.cls = .type "tuple" /\ o.dict = none) ∨
   (T = "dict" /\ ((∃ kvs,H p = some (.dK kvs)) \/ ∃ kvs,H p = some (.dT kvs))) \/ (T = "set" /\ ∃ S n,H p = some (.set S n))
 | _=>False
theorem WV {pins:List (Addr × Obj)} {σ:St} {H:Hp} {s:Shared} {T:String} {x:V} {v:Value} (I:Inv X pins σ H s) (r:RelV x v) (ty:tyV X.K T x H) :
  s.TypeIs v T /\ ∀ a,v = .ref a -> ∃ ob,s.heap.get? a = some ob /\ ob.dict = none:=by
 cases x with
 | str z =>
  obtain ⟨t,rfl⟩:=r
  cases (show T = "str" from ty)
  exact ⟨typeIs_str s z t,fun _ e=>nomatch e⟩
 | int i =>
  obtain ⟨t,rfl⟩:=r
  cases (show T = "int" from ty)
  exact ⟨typeIs_int s i t,fun _ e=>nomatch e⟩
 | ref p =>
  cases r
  rcases ty with ⟨rfl,xs,hq⟩ | ⟨rfl,o,hk,hc,hd⟩ | ⟨rfl,hk⟩ | ⟨rfl,S,n,hk⟩
  ·obtain ⟨its,_,pl,_⟩:=I.list hq
   refine ⟨pl.isList.typeIs,fun a e=>?_⟩
   cases e
   obtain ⟨o,n,e,c,hd,_⟩:=pl
   exact ⟨o,e,hd⟩
  ·refine ⟨⟨o,I.kIn p o hk,hc⟩,fun a e=>?_⟩
   cases e
   exact ⟨o,I.kIn _ o hk,hd⟩
  ·have z:∃ o,s.heap.get? p = some o /\ o.ExactDict:=by
    rcases hk with ⟨kvs,hk⟩ | ⟨kvs,hk⟩
    ·obtain ⟨_,_,_,_,o,_,_,e,ex,_⟩:=I.hok p _ hk
     exact ⟨o,e,ex⟩
    ·obtain ⟨_,_,_,_,o,_,_,e,ex,_⟩:=I.hok p _ hk
     exact ⟨o,e,ex⟩
   obtain ⟨o,e,ex⟩:=z
   refine ⟨⟨o,e,ex.1⟩,fun a e2=>?_⟩
   cases e2
   exact ⟨o,e,ex.2.1⟩
  ·obtain ⟨o,_,_,_,e,ex,_⟩:=I.hok p _ hk
   refine ⟨⟨o,e,ex.1⟩,fun a e2=>?_⟩
   cases e2
   exact ⟨o,e,ex.2.1⟩
 | _=>exact False.elim ty
def tBM0 (K:FG7) (T:String) (r:V -> List V -> Hp -> VK -> Prop) (to:TE):TE:=fun σ H Q=>to σ H fun x H1=>tyV K T x H1 /\ r x [] H1 Q
def tBM (K:FG7) (T:String) (r:V -> List V -> Hp -> VK -> Prop) (to:TE) (t:TA):TE:=fun σ H Q=>to σ H fun x H1=>tyV K T x H1 /\ t σ H1 fun xs H2=>r x xs H2 Q
variable {o e:Expr} {es:List Expr} {to:TE} {t:TA} {name:Str} {apos cpos:Pos} {T id:String} {r:V -> List V -> Hp -> VK -> Prop}
theorem Uq (pa:PlainAttrs T) (slot:Slot T name id) (hty:typeOf (.builtin id) = pure (.type "method_descriptor")) (hm:MtR X id r) (ho:PE X o to)
  (hbase:attributeBase o name X.env (eval o X.env) = eval o X.env:=by rfl) (hline:(apos.endLine == cpos.line) = true:=by rfl):PE X (.Call (.Attribute o name apos) [] [] cpos) (tBM0 X.K T r to):=by
 intro pins s σ H Q I h
 refine wpAny_Call_method0_late hbase hline (thn (ho pins s σ H _ I h) fun v s1 ⟨x,H1,I1,r1,ty,q1⟩=>?_)
 obtain ⟨h1,h2⟩:=WV I1 r1 ty
 exact ⟨T,id,pa,slot,hty,h1,h2,Calls.callWith_builtin rfl (PySem.evalArgs_none (hm pins s1 σ H1 x [] v [] Q I1 r1 .nil q1))⟩
theorem rJ (pa:PlainAttrs T) (slot:Slot T name id) (hty:typeOf (.builtin id) = pure (.type "method_descriptor")) (hm:MtR X id r) (ho:PE X o to) (ha:PA X (e :: es) t)
  (hbase:attributeBase o name X.env (eval o X.env) = eval o X.env:=by rfl)
  (hfew:((backTo cpos (starEach (e :: es) X.env)).all (fun x=>!x.1) && (backToKw cpos (keywordEach [] X.env)).all (fun x=>x.1.isSome)
   && decide ((e :: es).length + ([]:List Keyword).length + (if ([]:List Keyword).isEmpty then 0 else 1) < 30)) = true:=by rfl)
  (hline:(apos.endLine == cpos.line) = true:=by rfl) (hs:starEach (e :: es) X.env = (false,eval e X.env) :: starEach es X.env:=by rfl) (hplain:(backTo cpos (starEach es X.env)).any (·.1) = false:=by rfl) :
  PE X (.Call (.Attribute o name apos) (e :: es) [] cpos) (tBM X.K T r to t):=by
 intro pins s σ H Q I h
 refine wpAny_Call_method_late hbase hfew hline rfl (thn (ho pins s σ H _ I h) fun v s1 ⟨x,H1,I1,r1,ty,q1⟩=>?_)
 obtain ⟨h1,h2⟩:=WV I1 r1 ty
 refine ⟨T,id,pa,slot,hty,h1,h2,?_⟩
 have hA:=ha cpos pins s1 σ H1 _ I1 q1
 rw [hs] at hA ⊢
 refine Calls.callWith_builtin (by show (false || (backTo cpos (starEach es X.env)).any (·.1)) = false; rw [hplain] <;> rfl) (Calls.evalArgs_plain ?_)
 exact thn hA fun us s2 ⟨vs,H2,I2,r2,q2⟩=>hm pins s2 σ H2 x vs v us Q I2 r1 r2 q2
end
end L2
namespace L2
open PySem PySem.Spec PyProof.Rows
def MtM (X:Cx) (id:String) (r:V -> List V -> Hp -> VK -> Prop):Prop :=
 ∀ (pins:List (Addr × Obj)) (s:Shared) (σ:St) (H:Hp) (x:V) (xs:List V) (v:Value) (us:List Value) (Q:VK),Inv X pins σ H s -> RelV x v -> Vals xs us -> r x xs H Q →
  wpAny (model X.prog X.w) X.A (call (.builtin id) (v :: us)) (EP X pins σ Q) X.xe s
theorem Vals.one:∀ {x:V} {us:List Value},Vals [x] us -> ∃ u,us = [u] /\ RelV x u
 | _,_,.cons r .nil=>⟨_,rfl,r⟩
theorem Vals.zero:∀ {us:List Value},Vals [] us -> us = []
 | _,.nil=>rfl
theorem Vals.dropLast {xs:List V} {us:List Value} (h:Vals xs us):Vals xs.dropLast us.dropLast:=by
 induction h with
 | nil=>exact .nil
 | cons r t ih =>
  cases t with
  | nil=>exact .nil
  | cons q t'=>exact .cons r ih
theorem Vals.eraseIdx:∀ {xs:List V} {us:List Value} (i:Nat),Vals xs us -> Vals (xs.eraseIdx i) (us.eraseIdx i)
 | _,_,_,.nil=>.nil
 | _,_,0,.cons _ t=>t
 | _,_,i + 1,.cons r t=>.cons r (Vals.eraseIdx i t)
theorem Vals.reverse {xs:List V} {us:List Value} (h:Vals xs us):Vals xs.reverse us.reverse:=by
 induction h with
 | nil=>exact .nil
 | cons r t ih=>rw [List.reverse_cons,List.reverse_cons]; exact Vals.append ih (.cons r .nil)
theorem ZK {α:Type} (l:List α):l.eraseIdx (l.length - 1) = l.dropLast:=by
 induction l with
 | nil=>rfl
 | cons a r ih =>
  cases r with
  | nil=>rfl
  | cons b r =>
   have e:(a :: b :: r).length - 1 = ((b :: r).length - 1) + 1:=by
    have h1:(a :: b :: r).length = r.length + 2:=rfl
    have h2:(b :: r).length = r.length + 1:=rfl
    omega
   rw [e,List.eraseIdx_cons_succ,ih]
   all_goals rfl
section
variable {X:Cx} {pins:List (Addr × Obj)} {σ:St} {H:Hp} {s:Shared} {l b:Addr} {xs ys zs:List V}
theorem Inv.lset {its its':List Value} {n:Nat} {f:Array Value -> Array Value} {t':Nat} (I:Inv X pins σ H s) (hH:H l = some (.lst xs))
  (e:s.heap.get? l = some { cls:=.type "list",data:=.seq its.toArray n }) (hf:f its.toArray = its'.toArray) (hv:Vals ys its') (hz:ys.length <= sizeLine) :
  Inv X pins σ (upd H l (.lst ys)) { s with heap:=s.heap.update l (Obj.mapSeq f),toks:=t' }:=by
 have q:=PySem.IsL.update e f
 rw [hf] at q
 refine I.write (x:=l) (e:=l) (by rw [hH]; exact trivial) (.inl rfl) (fun b' u hb hu=>(Heap.get?_update_other s.heap (Obj.mapSeq f) (Ne.symm hb)).trans hu) ⟨_,q⟩ ?_
 exact ⟨hz,its',_,hv,q⟩
theorem Inv.fresh (I:Inv X pins σ H s):H s.heap.objs.size = none:=I.hok.fresh (Nat.le_refl _)
theorem Inv.lstM (I:Inv X pins σ H s) (hH:H l = some (.lst xs)):xs.length <= sizeLine /\ ∃ (its:List Value) (n:Nat),Vals xs its /\ xs.length = its.length /\ s.heap.get? l = some { cls:=.type "list",data:=.seq its.toArray n }:=by
 obtain ⟨z,its,n,r,e⟩:=I.hok l _ hH
 exact ⟨z,its,n,r,r.length,e⟩
end
section
variable {X:Cx}
def Vq:V -> List V -> Hp -> VK -> Prop:=fun x vs H Q=>∃ l xs y,x = .ref l /\ vs = [y] /\ H l = some (.lst xs) /\ xs.length < sizeLine /\ Q .non (upd H l (.lst (xs ++ [y])))
theorem yY:MtM X "list.append" Vq:=by
 intro pins s σ H x vs v us Q I rx rv h
 obtain ⟨l,xs,y,rfl,rfl,hH,hz,q⟩:=h
 cases rx
 obtain ⟨u,rfl,ru⟩:=rv.one
 obtain ⟨z,its,n,r,hl,e⟩:=I.lstM hH
 refine call_meets F.slot_list_append ⟨_,e,rfl⟩ F.entry_list_append (F.args_list_append_2 _ _) (PySem.list_append l its.toArray n u (by rw [List.size_toArray]; omega)) ⟨e,?_⟩
 refine ⟨.non,_,I.lset (its':=its ++ [u]) hH e (by simp) (r.append (.cons ru .nil)) ?_,rfl,q⟩
 rw [List.length_append,List.length_singleton]
 omega
def rPop:V -> List V -> Hp -> VK -> Prop:=fun x vs H Q=>∃ l xs y,x = .ref l /\ vs = [] /\ H l = some (.lst xs) /\ xs[xs.length - 1]? = some y /\ Q y (upd H l (.lst xs.dropLast))
theorem Ur:MtM X "list.pop" rPop:=by
 intro pins s σ H x vs v us Q I rx rv h
 obtain ⟨l,xs,y,rfl,rfl,hH,hy,q⟩:=h
 cases rx
 have hus:=rv.zero
 subst hus
 obtain ⟨z,its,n,r,hl,e⟩:=I.lstM hH
 obtain ⟨u,hu,ru⟩:=r.get hy
 have hy':its.toArray[its.toArray.size - 1]? = some u:=by
  show its.toArray[its.length - 1]? = some u
  rw [← Array.getElem?_toList,← hl]
  exact hu
 refine call_meets F.slot_list_pop ⟨_,e,rfl⟩ F.entry_list_pop (F.args_list_pop_1 _) (MeetsSeq.list_pop_last l its.toArray n u hy' (by rw [List.size_toArray]; omega)) ⟨e,?_⟩
 refine ⟨y,_,I.lset (its':=its.dropLast) hH e ?_ r.dropLast ?_,ru,q⟩
 ·show its.toArray.eraseIdxIfInBounds (its.toArray.size - 1) = its.dropLast.toArray
  rw [List.size_toArray,List.eraseIdxIfInBounds_toArray,ZK]
 ·rw [List.length_dropLast]
  omega
end
end L2
namespace Att
open PySem PySem.W PySem.Calls PyProof.Rows
theorem uJ {P:Params} {h:Heap}:∀ (ns:List Int) (vs:List Value),WellAll P h vs (ns.map WData.int) -> IntsAre vs ns:=by
 intro ns
 induction ns with
 | nil =>
  intro vs w
  rw [List.map_nil] at w
  cases w
  exact .nil
 | cons n ns ih =>
  intro vs w
  rw [List.map_cons] at w
  cases w with
  | cons a b =>
   cases a
   exact .cons _ _ (ih _ b)
theorem Yz {l:OpenLaw} {n:Nat} (hn:l.most = some n) {P:Params} {h:Heap} {args:List WData} {vals:List Value}
  (hpre:l.row.toRowW.claim.pre args = true) (hwl:WellAll P h vals args) :
  ∃ a vs ns,vals = [Value.ref a] /\ args = [WData.list (ns.map WData.int)] /\ h.get? a = some { cls:=.type "list",data:=.seq vs.toArray } /\ IntsAre vs ns /\ ns.length <= n:=by
 have hsh:WShape.hasAll [] args [.list .int] = true:=(pre_splitW hpre).1
 have hc:l.pre.holds [] { args:=args } = true:=(pre_splitW hpre).2
 obtain ⟨d,r,rfl,h1,h2⟩:=hasAllW_cons hsh
 obtain rfl:=hasAllW_nil h2
 obtain ⟨xs,rfl,h3⟩:=hasW_list h1
 obtain ⟨ns,rfl⟩:=items_int h3
 have hlen:ns.length <= n:=by
  unfold OpenLaw.pre at hc
  have h4:(WTm.not (.lt (.lit (.int (n:Int))) (.len (.arg 0)))).holds [] { args:=[.list (ns.map .int)] } = true:=by
   have h4:=(holds_andW hc).1
   rw [hn] at h4
   exact h4
  have h5:=condW_of h4 (w_not (w_lt w_lit (w_len_list (w_arg rfl))))
  rw [List.length_map] at h5
  refine Nat.le_of_not_lt fun q=>?_
  have q':(n:Int) < ((ns.length:Nat):Int):=by omega
  first
   | (rw [decide_eq_true q'] at h5; exact absurd h5 (by decide))
   | (simp at h5; omega)
 cases hwl with
 | cons w1 w2 =>
  cases w2
  cases w1 with
  | list ho hall=>exact ⟨_,_,ns,rfl,rfl,ho,uJ ns _ hall,hlen⟩
theorem YA (l:OpenLaw) (args:List WData):l.row.toRowW.claim.post args (.bool true) args = true :=
 postW_of (r:=l.row.toRowW) (X:=(true == true))
  (show WShape.has [] (.bool true) .bool = true by first | rfl | decide | simp [WShape.has,WShape.arms,WShape.armsAll])
  (show (WTm.eq .res (.lit (.bool true))).value [] { args:=args,res:=some (.bool true),after:=args } = some (.bool (true == true)) from w_eq_bool (w_res rfl) w_lit) rfl
theorem attach_call {l:OpenLaw} {n:Nat} {q:Program} {loose:List Str} {XP:(Str -> Option Value) -> Heap -> Prop} {YP:World -> Heap -> Prop} {d:DefRec}
  (hn:l.most = some n) (hdf:d.params.defaults = [])
  (call:∀ (w:World) (s₀ s₁:Shared) (mg mb:Str -> Option Value) (fa:Addr) (o:Obj) (pm cd doc:Value) (a:Addr) (vs:List Value) (ns:List Int),
   Ground q loose [] XP w s₀ mg mb s₁.heap -> YP w s₁.heap →
   s₁.heap.get? fa = some o -> o.data = .func (docDef d.name d.params d.body d.scope pm cd doc) -> s₁.heap.CodeRec cd d.name -> mg d.name = some (.ref fa) →
   s₁.heap.get? a = some { cls:=.type "list",data:=.seq vs.toArray } -> IntsAre vs ns -> ns.length <= n -> s₁.gens = #[] →
   codeAny (model l.prog w) callerA (.call (.ref fa) ⟨[.ref a],[]⟩) (fun r s'=>r = .ok (.ret (.bool true)) /\ OldK s₁.heap s'.heap /\ s'.os = s₁.os /\ AllBare s'.gens) s₁) :
  WalkO q loose XP YP l.row.toRowW d [] (fun f vs=>PySem.call f vs):=by
 intro w s₀ s₁ mg mb G Y fa o pm cd doc dV kV ho hd hcd hD hmg hg args vals as hpre hlay hrd hwl hlo
 obtain rfl:dV = .none:=Dflts.none hD hdf
 obtain rfl:kV = .none:=Dflts.noKw hD
 obtain ⟨a,vs,ns,rfl,rfl,hobj,hints,hlen⟩:=Yz hn hpre hwl
 refine enter_call (codeAny_mono (call w s₀ s₁ mg mb fa o pm cd doc a vs ns G Y ho (fd_plain hd) hcd hmg hobj hints hlen hg) fun r s' hq=>?_)
 obtain ⟨rfl,h2,h3,h4⟩:=hq
 exact ⟨.inl ⟨.bool true,.bool true,[],rfl,fun _=>rfl,.bool true,YA l _,fun _=>⟨List.Pairwise.nil,fun _ hm=>(nomatch hm)⟩⟩,h2,h3,h4⟩
end Att
namespace L2
open PySem PySem.Spec PyProof.Rows
theorem uK:∀ {vs:List Value} {ns:List Int},IntsAre vs ns -> Vals (ns.map V.int) vs
 | _,_,.nil=>.nil
 | _,_,.cons n t h=>.cons ⟨t,rfl⟩ (uK h)
def Only (H:Hp):Prop:=∀ b,H b = none \/ ∃ o xs,H b = some (.frz o (.lst xs))
theorem X2 {P:Program} {w:World} {K:FG7} {mg mb:Str -> Option Value} {CX:CXT} {k:Nat} {fa a:Addr} {fd:FuncData} {x:Str} {sp:Sp} {s₁:Shared} {vs:List Value} {ns:List Int}
  (KX:K.In s₁.heap) (hns:s₁.heap.Ns mainGlobals mg) (hb:s₁.heap.Ns builtinsNs mb) (hbb:∀ x:Str,x ≠ "__name__" -> mb x = bootBuiltins x) (hlim:s₁.heap.NoLimit) (hg:s₁.gens = #[])
  (ha:s₁.heap.get? a = some { cls:=.type "list",data:=.seq vs.toArray }) (hi:IntsAre vs ns) (hl:ns.length <= sizeLine) (hr:Room k callerA)
  (F:∀ base:Heap,K.In base -> base.Ns mainGlobals mg -> FnOk P w K mg base CX k fa fd [x] sp) (hbind:∀ (s:Shared) (u:Value),BindsTo s fd ⟨[u],[]⟩ [(x,u)])
  (hsp:∀ H:Hp,Only H -> SqL K H a (ns.map V.int) -> sp [.ref a] H (fun v _=>v = .bl true) fun _ _ _=>False)
  (hCX:∀ H e s',CX [] H s₁ (fun _ _ _=>False) e s' -> False) :
  codeAny (model P w) callerA (.call (.ref fa) ⟨[.ref a],[]⟩) (fun r s'=>r = .ok (.ret (.bool true)) /\ OldK s₁.heap s'.heap /\ s'.os = s₁.os /\ AllBare s'.gens) s₁:=by
 have rv:=uK hi
 have lenV:=hi.length
 -- from an abstract heap in which nothing but the script may be tracked
 have core:∀ H:Hp,Only H -> SqL K H a (ns.map V.int) -> HOk P w H s₁.heap -> (∀ b,H b ≠ none -> b = a) -> (H a ≠ none -> K.lookup a = none) →
   codeAny (model P w) callerA (.call (.ref fa) ⟨[.ref a],[]⟩) (fun r s'=>r = .ok (.ret (.bool true)) /\ OldK s₁.heap s'.heap /\ s'.os = s₁.os /\ AllBare s'.gens) s₁:=by
  intro H hO hS hok hA hK
  have base_of:∀ {b:Addr} {o:Obj},s₁.heap.get? b = some o -> H b = none -> (hidT s₁.heap H).get? b = some o:=fun e n=>XW e n
  have noA:∀ {b:Addr} {o:Obj} {es:Array DictEntry} {ep:Nat},s₁.heap.get? b = some o -> o.data = .dict es ep -> H b = none:=fun {b o es ep} e d=>by
   cases q:H b with
   | none=>rfl
   | some u =>
    have e':b = a:=hA b (by rw [q]; simp)
    subst e'
    rw [ha] at e; cases e
    have d':Data.seq vs.toArray _ = Data.dict es ep:=d
    cases d'
  have nsK:∀ {b:Addr} {m:Str -> Option Value},s₁.heap.Ns b m -> (hidT s₁.heap H).Ns b m:=fun {b m} ⟨o,es,ep,e,d,r⟩=>⟨o,es,ep,base_of e (noA e d),d,r⟩
  have hKb:K.In (hidT s₁.heap H):=fun b o e=>base_of (KX b o e) (by
   cases q:H b with
   | none=>rfl
   | some u =>
    have e':b = a:=hA b (by rw [q]; simp)
    subst e'
    rw [hK (by rw [q]; simp)] at e; cases e)
  have hM:Mod K mg (hidT s₁.heap H):=⟨hKb,nsK hns,⟨mb,nsK hb,hbb⟩,let ⟨mc,h1,h2⟩:=hlim; ⟨mc,nsK h1,h2⟩⟩
  have e0:Env0 P w K mg (hidT s₁.heap H) callerA [] s₁ H:=⟨rfl,hM,fun b o e=>Vh e,Nat.le_of_eq (Yh _ _),trivial,fun b hb=>absurd (show b ∈ ([]:List Addr) from hb) (by simp),hok,.of_eq hg⟩
  refine codeAny_mono ((F _ hKb (nsK hns)).run callerA [] s₁ H ⟨[.ref a],[]⟩ [.ref a] [.ref a] _ _ hr e0 (hbind s₁ (.ref a)) (.cons rfl .nil) (hsp H hO hS)) fun r s' h=>?_
  cases r with
  | error e=>exact (hCX H e s' h).elim
  | ok fl =>
   cases fl with
   | next=>exact False.elim h
   | brk=>exact False.elim h
   | cont=>exact False.elim h
   | ret u =>
    obtain ⟨v,H',os,bare,un,hok',r',q⟩:=h
    have q':v = .bl true:=q
    subst q'
    obtain rfl:u = Value.bool true:=r'
    refine ⟨rfl,OldK.of_keep fun b o e=>?_,os,bare⟩
    cases q:H b with
    | none=>exact un.keep b o e q (by intro z; exact absurd (show b ∈ ([]:List Addr) from z) (by simp)) (by simp)
    | some u =>
     rcases hO b with z | ⟨ob,xs,z⟩
     ·rw [q] at z; cases z
     ·have z2:=un.frzs b ob _ z
      obtain ⟨e1,_⟩:=hok b _ z
      obtain ⟨e2,_⟩:=hok' b _ z2
      rw [e] at e1; cases e1
      exact e2
 cases hk:K.lookup a with
 | some o =>
  -- the script is one of the module's own objects
  have e:=KX a o hk
  rw [ha] at e
  cases e
  refine core (fun _=>none) (fun _=>.inl rfl) (.inr ⟨_,vs.toArray,_,hk,rfl,rfl,rfl,by rw [List.size_toArray,lenV]; exact hl,by simpa using rv⟩) (fun b u z=>by have z':(none:Option HO) = some u:=z; cases z') (fun b z=>absurd rfl z) fun z=>absurd rfl z
 | none =>
  refine core (fun b=>if b = a then some (.frz { cls:=.type "list",data:=.seq vs.toArray } (.lst (ns.map V.int))) else none) (fun b=>?_) (.inl (.inr ⟨{ cls:=.type "list",data:=.seq vs.toArray },if_pos rfl⟩)) (fun b u z=>?_) (fun b z=>?_) fun _=>hk
  ·by_cases hb:b = a
   ·exact .inr ⟨_,_,if_pos hb⟩
   ·exact .inl (if_neg hb)
  ·by_cases hb:b = a
   ·have z':=(if_pos hb).symm.trans z
    cases z'
    subst hb
    exact ⟨ha,by rw [List.length_map]; exact hl,vs,_,rv,ha⟩
   ·have z':=(if_neg hb).symm.trans z
    cases z'
  ·by_cases hb:b = a
   ·exact hb
   ·exact absurd (if_neg hb) z
end L2
namespace L2
open PySem PySem.Spec PyProof.Rows
theorem walk_of {l:PySem.W.OpenLaw} {n k:Nat} {q:Program} {loose:List Str} {XP:(Str -> Option Value) -> Heap -> Prop} {YP:World -> Heap -> Prop} {d:DefRec} {K:Params -> FG7} {CX:World -> CXT} {sp:World -> Sp} {x:Str}
  (hn:l.most = some n) (hn2:n <= sizeLine) (hdf:d.params.defaults = []) (hr:Room k callerA)
  (hY:∀ (w:World) (h:Heap),YP w h -> (K w.params).In h)
  (F:∀ (w:World) (mg:Str -> Option Value) (fa:Addr) (h:Heap),(K w.params).In h -> h.Ns mainGlobals mg -> mg d.name = some (.ref fa) →
   ∃ fd:FuncData,(∀ (s:Shared) (u:Value),BindsTo s fd ⟨[u],[]⟩ [(x,u)]) ∧
    ∀ base:Heap,(K w.params).In base -> base.Ns mainGlobals mg -> FnOk l.prog w (K w.params) mg base (CX w) k fa fd [x] (sp w))
  (hsp:∀ (w:World) (H:Hp) (a:Addr) (ns:List Int),ns.length <= n -> Only H -> SqL (K w.params) H a (ns.map V.int) -> sp w [.ref a] H (fun v _=>v = .bl true) fun _ _ _=>False)
  (hCX:∀ (w:World) (H:Hp) (s:Shared) (e:Value) (s':Shared),CX w [] H s (fun _ _ _=>False) e s' -> False) :
  PySem.W.WalkO q loose XP YP l.row.toRowW d [] (fun f vs=>PySem.call f vs):=by
 refine Att.attach_call hn hdf fun w s₀ s₁ mg mb fa o pm cd doc a vs ns G Y ho hd hcd hmg hobj hints hlen hg=>?_
 have KX:=hY w _ Y
 obtain ⟨fd,hb,hF⟩:=F w mg fa _ KX G.T.g hmg
 exact X2 KX G.T.g G.T.b G.T.builtins G.T.nolimit hg hobj hints (Nat.le_trans hlen hn2) hr hF hb (fun H hO hS=>hsp w H a ns hlen hO hS) fun H e s'=>hCX w H s₁ e s'
end L2
namespace L2
open PySem PySem.Spec PyProof.Rows
def uL (s:Stmt):Arguments:=match s with
 | .FunctionDef _ a _ _ _ _ _ _ _ _=>a
 | _=>{ posonlyargs:=[],args:=[],vararg:=none,kwonlyargs:=[],kw_defaults:=[],kwarg:=none,defaults:=[] }
def vG (s:Stmt):List Stmt:=match s with
 | .FunctionDef _ _ b _ _ _ _ _ _ _=>b
 | _=>[]
def zh (s:Stmt):Scope:=match s with
 | .FunctionDef _ _ _ _ _ _ sc _ _ _=>sc
 | _=>{ kind:=.function,names:=[],isGenerator:=false,isCoroutine:=false }
abbrev CX0:CXT:=fun _ _ _ _ _ _=>False
abbrev E0:XK:=fun _ _ _=>False
theorem Td {X:Cx}:Yv CX0 X E0:=fun _ _ _ _ _ _ _ h=>h.elim
structure Fun (K:FG7) (x qual:Str) (st:Stmt) (f:Addr) (fd:FuncData):Prop where
 ex:∃ (oc:Value) (od:Option Addr) (kV doc pm:Value) (an:Option Addr) (cdv ct:Value) (osl:Array (Option Value)),
  fd = PySem.W.fnOf x qual (uL st) (vG st) (zh st) .none kV doc pm an cdv ct /\ K.lookup f = some ⟨oc,od,.func fd,osl⟩ /\ PySem.W.codeIn K cdv qual = true
 kp:PySem.W.keepIn K (.ref f) = true
section
variable {P:Program} {w:World} {K:FG7} {mg:Str -> Option Value} {base:Heap}
theorem Fun.ok {x qual:Str} {st:Stmt} {f:Addr} {fd:FuncData} {N ps:List Str} {k:Nat} {sp:Sp} (F:Fun K x qual st f fd) (S:FnScope N ps (zh st)) (len:∀ vs H Q E,sp vs H Q E -> vs.length = ps.length)
  (hbody:∀ (cdv:Value) (A:Around) (outer:List Env) (s:Shared) (H:Hp) (vs:List V) (Q:VK) (E:XK),Room k (A.deeper (envOfC qual (zh st) s.heap.objs.size f cdv)) -> sp vs H Q E →
   ∃ t,PSs (cxOf CX0 P w K mg base N qual (zh st) f cdv A outer s H E).nox (vG st) t /\ t { nx:=fun _ H'=>Q .non H',rt:=Q } (rH N vs) H):FnOk P w K mg base CX0 (k + 1) f fd ps sp:=by
 obtain ⟨oc,od,kV,doc,pm,an,cdv,ct,osl,rfl,lk,hcd⟩:=F.ex
 refine Ta lk hcd S len fun A outer s H vs Q E hr hsp=>?_
 obtain ⟨t,h,q⟩:=hbody cdv A outer s H vs Q E hr hsp
 exact ⟨t,h.nox,q⟩
theorem Fun.binds {x qual:Str} {st:Stmt} {f:Addr} {fd:FuncData} {ps:List Str} (F:Fun K x qual st f fd)
  (h:∀ (kV doc pm:Value) (an:Option Addr) (cdv ct:Value) (us:List Value),us.length = ps.length -> bindArgs (PySem.W.fnOf x qual (uL st) (vG st) (zh st) .none kV doc pm an cdv ct) ⟨us,[]⟩ = pure (ps.zip us)):uI K fd ps []:=by
 obtain ⟨oc,od,kV,doc,pm,an,cdv,ct,osl,rfl,lk,hcd⟩:=F.ex
 exact .all (h kV doc pm an cdv ct)
theorem fun_mk {x qual:Str} {st:Stmt} {f:Addr} {oc:Value} {od an:Option Addr} {osl:Array (Option Value)} {kV doc pm cdv ct:Value} (l:K.lookup f = some ⟨oc,od,.func (PySem.W.fnOf x qual (uL st) (vG st) (zh st) .none kV doc pm an cdv ct),osl⟩)
  (c:PySem.W.codeIn K cdv qual = true) (k:PySem.W.keepIn K (.ref f) = true):Fun K x qual st f (PySem.W.fnOf x qual (uL st) (vG st) (zh st) .none kV doc pm an cdv ct):=⟨⟨oc,od,kV,doc,pm,an,cdv,ct,osl,rfl,l,c⟩,k⟩
end
theorem zQ {n:Nat} (h:n <= 1000):n < sizeLine:=Nat.lt_of_le_of_lt h (by decide)
section
variable {X:Cx}
theorem pv (i:Nat) {x:Str} {pos:Pos} (hN:X.N[i]? = some x:=by rfl) (hv:Vis X.env.scope x:=by first | exact Or.inl rfl | exact Or.inr (Or.inl rfl) | exact Or.inr (Or.inr rfl)) (hd:(x == ("__debug__":Str)) = false:=by decide)
  (hcd:(x == ("__classdict__":Str)) = false:=by decide):PE X (.Name x pos) (tVar i):=Uc hN hv hd hcd
end
theorem iteF {A B:Prop} (h:B):if false = true then A else B:=by
 rw [if_neg Bool.false_ne_true]
 exact h
theorem iteT {A B:Prop} (h:A):if true = true then A else B:=by
 rw [if_pos rfl]
 exact h
theorem ite2 {c A B:Prop} [Decidable c] (h1:c -> A) (h2:¬ c -> B):if c then A else B:=by
 by_cases h:c
 ·rw [if_pos h]
  exact h1 h
 ·rw [if_neg h]
  exact h2 h
def Same (H H':Hp):Prop:=∀ b o,H b = some o -> H' b = some o
theorem Same.refl (H:Hp):Same H H:=fun _ _ h=>h
theorem Same.trans {H H1 H2:Hp} (a:Same H H1) (b:Same H1 H2):Same H H2:=fun c o h=>b c o (a c o h)
theorem Same.free {H H':Hp} (e:Same H H') {l:Addr} (h:H' l = Option.none):H l = Option.none:=by
 cases q:H l with
 | none=>rfl
 | some o =>
  rw [e l o q] at h
  cases h
theorem Same.seq {K:FG7} {H H':Hp} {a:Addr} {xs:List V} (e:Same H H') (h:SqL K H a xs):SqL K H' a xs:=by
 rcases h with (h | ⟨o,h⟩) | h
 ·exact .inl (.inl (e _ _ h))
 ·exact .inl (.inr ⟨o,e _ _ h⟩)
 ·exact .inr h
end L2
namespace L3
open PySem PySem.Spec PyProof.Rows L2
theorem Te:bootBuiltins "abs" = some (.builtin "abs"):=by decide +kernel
theorem yz:bootBuiltins "len" = some (.builtin "len"):=by decide +kernel
theorem Us:bootBuiltins "max" = some (.builtin "max"):=by decide +kernel
theorem Tf:bootBuiltins "min" = some (.builtin "min"):=by decide +kernel
theorem zK:bootBuiltins "isinstance" = some (.builtin "isinstance"):=by decide +kernel
theorem ss:bootBuiltins "all" = some (.builtin "all"):=by decide +kernel
theorem Tg:bootBuiltins "int" = some (.type "int"):=by decide +kernel
theorem Ut:bootBuiltins "bool" = some (.type "bool"):=by decide +kernel
theorem zH:bootBuiltins "tuple" = some (.type "tuple"):=by decide +kernel
theorem WW:bootBuiltins "list" = some (.type "list"):=by decide +kernel
def TyV (K:FG7) (H:Hp) (x:V) (T:String):Prop:=match x with
 | .non=>T = "NoneType"
 | .bl _=>T = "bool"
 | .int _=>T = "int"
 | .str _=>T = "str"
 | .ref a=>(T = "tuple" /\ ∃ xs,SqT K H a xs) \/ (T = "list" /\ ∃ xs,SqL K H a xs) \/ (T = "dict" /\ ∃ kvs,H a = some (.dK kvs))
 | _=>False
section
variable {X:Cx} {a b c:Expr} {ta tb tc:TE} {pos:Pos}
def rIsi (K:FG7):List V -> Hp -> VK -> Prop:=fun xs H Q=>∃ x T t k,xs = [x,.ty T] /\ TyV K H x t /\ PySem.W.kitOne K (.type t) (.type T) = some k /\ Q (.bl k) H
theorem yC:vh X (.builtin "isinstance") (rIsi X.K):=by
 intro pins s σ H xs us Q I r h
 obtain ⟨x,T,t,k,rfl,ty,e,q⟩:=h
 obtain ⟨u,w',rfl,rx,rt⟩:=XZ r
 cases (show w' = Value.type T from rt)
 have fin:∀ tk,EP X pins σ Q (.bool k) { s with toks:=tk }:=fun tk=>⟨.bl k,H,I.tok _,rfl,q⟩
 cases x with
 | non=>cases (show t = "NoneType" from ty); exact wn I rx .non e fin
 | bl y=>cases (show t = "bool" from ty); exact wn I rx (.bl y) e fin
 | int i=>cases (show t = "int" from ty); exact wn I rx (.int i) e fin
 | str y=>cases (show t = "str" from ty); exact wn I rx (.str y) e fin
 | byt y=>exact ty.elim
 | flt y=>exact ty.elim
 | ty y=>exact ty.elim
 | ref a =>
  cases (show u = Value.ref a from rx)
  rcases ty with ⟨rfl,xs,hq⟩ | ⟨rfl,xs,hq⟩ | ⟨rfl,kvs,hq⟩
  ·obtain ⟨its,_,⟨o,h1,h2,_⟩,_⟩:=I.tuple hq
   exact PySem.W.kia_one PySem.W.kitx_tuple I.kIn ⟨o,h1,h2⟩ e (fun z=>nomatch z) fin
  ·obtain ⟨its,_,pl,_⟩:=I.list hq
   obtain ⟨o,h1,h2,_⟩:=pl.isList
   exact PySem.W.kia_one PySem.W.kitx_list I.kIn ⟨o,h1,h2⟩ e (fun z=>nomatch z) fin
  ·exact wn (x:=V.ref a) I (show RelV (.ref a) (.ref a) from rfl) (.dK hq) e fin
theorem x8 {x:Str} {T:String} {pos:Pos} (hg:Gl X x) (hm:X.mg x = none) (hv:bootBuiltins x = some (.type T)) (hn:x ≠ "__name__":=by decide) (hd:(x == ("__debug__":Str)) = false:=by decide):PE X (.Name x pos) (tC (.ty T)) :=
 Vj hg hm hv (show RelV (.ty T) (Value.type T) from rfl) hn hd
theorem su:OpR X (binaryOp .Mult) (rI IntMulOk fun i j=>.int (i * j)):=opI fun _ _ _ _ _ _ _ hc q=>mul_int q hc
def Vr (i j:Int):Prop:=0 < j /\ j < 2 ^ 200
theorem Vr.py {i j:Int} (h:Vr i j):Builtin.divisionGoesByPylong i j = false:=by
 refine PyProof.noPylong_of_log2 ?_
 obtain ⟨h1,h2⟩:=h
 have h0:j.natAbs ≠ 0:=by omega
 have h3:j.natAbs < 2 ^ 200:=by
  have:(j.natAbs:Int) = j:=by omega
  have h4:((j.natAbs:Nat):Int) < ((2 ^ 200:Nat):Int):=by rw [this]; exact h2
  exact Int.ofNat_lt.mp h4
 exact Nat.lt_of_lt_of_le ((Nat.log2_lt h0).mpr h3) (by decide)
theorem j7:OpR X (binaryOp .FloorDiv) (rI Vr fun i j=>.int (i / j)):=opI fun i j _ _ _ _ _ hc q=>by
 have:=hc.1
 refine floordiv_int (by omega) ?_ (.inl hc.py)
 rw [Int.fdiv_eq_ediv_of_nonneg i (by omega)]
 exact q
def RepI (i:Int):Prop:=i.natAbs.log2 < 1920
end
def zf (P:Program) (w:World) (K:FG7) (mg:Str -> Option Value) (base:Heap) (k:Nat) (x:Str) (ps:List Str) (sp:Sp):Prop :=
 ∃ (f:Addr) (fd:FuncData),FnOk P w K mg base CX0 k f fd ps sp /\ uI K fd ps [] /\ PySem.W.keepIn K (.ref f) = true /\ mg x = some (.ref f)
theorem zf.mono {P:Program} {w:World} {K:FG7} {mg:Str -> Option Value} {base:Heap} {j k:Nat} {x:Str} {ps:List Str} {sp:Sp} (C:zf P w K mg base j x ps sp) (h:j <= k):zf P w K mg base k x ps sp:=by
 obtain ⟨f,fd,F,b,kp,m⟩:=C
 exact ⟨f,fd,F.mono h,b,kp,m⟩
section
variable {X:Cx} {k:Nat} {ps:List Str} {sp:Sp} {x:Str} {p pos:Pos} {e:Expr} {es:List Expr} {t:TA}
theorem zd (C:zf X.prog X.w X.K X.mg X.base k x ps sp) (hr:Room k X.A) (hg:Gl X x)
  (ha:PA X (e :: es) t) (hdb:(x == ("__debug__":Str)) = false:=by decide) (he:starEach (e :: es) X.env = (false,eval e X.env) :: starEach es X.env:=by rfl) (hpl:(backTo pos (starEach es X.env)).any (·.1) = false:=by rfl) :
  PE X (.Call (.Name x p) (e :: es) [] pos) (Um sp [] E0 t):=by
 obtain ⟨f,fd,F,b,kp,m⟩:=C
 exact Vn F hr hg m kp b .nil Td ha hdb he hpl
end
structure Grow (m:List Addr) (H H':Hp):Prop where
 keep:∀ b o,b ∉ m -> H b = some o -> H' b = some o
 tup:∀ b xs,H b = some (.tup xs) -> H' b = some (.tup xs)
 frz:∀ b o u,H b = some (.frz o u) -> H' b = some (.frz o u)
theorem Grow.refl (m:List Addr) (H:Hp):Grow m H H:=⟨fun _ _ _ h=>h,fun _ _ h=>h,fun _ _ _ h=>h⟩
theorem Grow.trans {m:List Addr} {H H1 H2:Hp} (a:Grow m H H1) (b:Grow m H1 H2):Grow m H H2 :=
 ⟨fun c o n h=>b.keep c o n (a.keep c o n h),fun c xs h=>b.tup c xs (a.tup c xs h),fun c o u h=>b.frz c o u (a.frz c o u h)⟩
theorem Grow.new {m:List Addr} {H:Hp} {p:Addr} (h:H p = none) (o:HO):Grow m H (upd H p o) :=
 ⟨fun b u _ q=>by rw [zq (zt q h)]; exact q,fun b xs q=>by rw [zq (zt q h)]; exact q,fun b u v q=>by rw [zq (zt q h)]; exact q⟩
theorem Grow.set {m:List Addr} {H:Hp} {p:Addr} {xs:List V} (h:H p = some (.lst xs)) (hm:p ∈ m) (ys:List V):Grow m H (upd H p (.lst ys)) :=
 ⟨fun b u hb q=>by rw [zq (show b ≠ p from fun z=>hb (by rw [z]; exact hm))]; exact q,fun b zs q=>by rw [zq (fun z=>by subst z; rw [h] at q; cases q)]; exact q,fun b u v q=>by rw [zq (fun z=>by subst z; rw [h] at q; cases q)]; exact q⟩
theorem Grow.mono {m m':List Addr} {H H':Hp} (a:Grow m H H') (h:∀ b ∈ m,b ∈ m'):Grow m' H H':=⟨fun b o n q=>a.keep b o (fun z=>n (h b z)) q,a.tup,a.frz⟩
theorem Grow.same {H H':Hp} (a:Grow [] H H'):Same H H':=fun b o h=>a.keep b o (by simp) h
theorem Grow.sqT {m:List Addr} {H H':Hp} (g:Grow m H H') {K:FG7} {a:Addr} {xs:List V} (h:SqT K H a xs):SqT K H' a xs:=by
 rcases h with (h | ⟨o,h⟩) | h
 ·exact .inl (.inl (g.tup _ _ h))
 ·exact .inl (.inr ⟨o,g.frz _ _ _ h⟩)
 ·exact .inr h
theorem Grow.free {H H':Hp} {m:List Addr} (g:Grow m H H') {l:Addr} (hm:l ∉ m) (h:H' l = none):H l = none:=by
 cases q:H l with
 | none=>rfl
 | some o=>rw [g.keep l o hm q] at h; cases h
def Scr (K:FG7) (H:Hp) (a:Addr) (ns:List Int):Prop :=
 (∃ o,H a = some (.frz o (.lst (ns.map V.int)))) ∨
  ∃ (o:Obj) (its:Array Value) (n:Nat),K.lookup a = some o /\ o.cls = .type "list" /\ o.dict = none /\ o.data = .seq its n /\ its.size <= sizeLine /\ Vals (ns.map V.int) its.toList
theorem Scr.sq {K:FG7} {H:Hp} {a:Addr} {ns:List Int} (h:Scr K H a ns):SqL K H a (ns.map V.int):=by
 rcases h with ⟨o,h⟩ | h
 ·exact .inl (.inr ⟨o,h⟩)
 ·exact .inr h
theorem Scr.of {K:FG7} {H:Hp} {a:Addr} {ns:List Int} (hO:Only H) (h:SqL K H a (ns.map V.int)):Scr K H a ns:=by
 rcases h with (h | ⟨o,h⟩) | h
 ·rcases hO a with z | ⟨o,xs,z⟩
  ·rw [h] at z; cases z
  ·rw [h] at z; cases z
 ·exact .inl ⟨o,h⟩
 ·exact .inr h
theorem Grow.scr {m:List Addr} {H H':Hp} (g:Grow m H H') {K:FG7} {a:Addr} {ns:List Int} (h:Scr K H a ns):Scr K H' a ns:=by
 rcases h with ⟨o,h⟩ | h
 ·exact .inl ⟨o,g.frz _ _ _ h⟩
 ·exact .inr h
structure Blt (mg:Str -> Option Value):Prop where
 abs:mg "abs" = none
 len:mg "len" = none
 max:mg "max" = none
 min:mg "min" = none
 divmod:mg "divmod" = none
 repr:mg "repr" = none
 isinstance:mg "isinstance" = none
 all:mg "all" = none
 range:mg "range" = none
 int:mg "int" = none
 bool:mg "bool" = none
 str:mg "str" = none
 tuple:mg "tuple" = none
 list:mg "list" = none
 dict:mg "dict" = none
def sp1 (b:V -> Hp -> VK -> Prop):Sp:=fun vs H Q _=>∃ x,vs = [x] /\ b x H Q
def sp2 (b:V -> V -> Hp -> VK -> Prop):Sp:=fun vs H Q _=>∃ x y,vs = [x,y] /\ b x y H Q
def sp3 (b:V -> V -> V -> Hp -> VK -> Prop):Sp:=fun vs H Q _=>∃ x y z,vs = [x,y,z] /\ b x y z H Q
theorem z8 {b:V -> Hp -> VK -> Prop} {p:Str}:∀ vs H Q E,sp1 b vs H Q E -> vs.length = [p].length:=fun vs H Q E h=>by
 obtain ⟨x,rfl,_⟩:=h; rfl
theorem zM {b:V -> V -> Hp -> VK -> Prop} {p q:Str}:∀ vs H Q E,sp2 b vs H Q E -> vs.length = [p,q].length:=fun vs H Q E h=>by
 obtain ⟨x,y,rfl,_⟩:=h; rfl
theorem wY {b:V -> V -> V -> Hp -> VK -> Prop} {p q r:Str}:∀ vs H Q E,sp3 b vs H Q E -> vs.length = [p,q,r].length:=fun vs H Q E h=>by
 obtain ⟨x,y,z,rfl,_⟩:=h; rfl
def rK:V -> Bool
 | .int _=>true
 | _=>false
def endV:V -> Bool
 | .non=>true
 | .int _=>true
 | _=>false
def Kn (K:FG7) (H:Hp) (x:V):Prop:=∃ T,TyV K H x T
structure Deed where
 add:Int
 lo:Option Int
 hi:Option Int
 deriving DecidableEq
def ov:Option Int -> V
 | none=>.non
 | some i=>.int i
def Deed.vs (d:Deed):List V:=[.int d.add,ov d.lo,ov d.hi]
def Deed.Ok (d:Deed):Prop:=∀ l h,d.lo = some l -> d.hi = some h -> l < h \/ (l = h /\ d.add = 0)
def zW (lo:Option Int) (r:Int):Int:=match lo with
 | none=>r
 | some l=>if l > r then l else r
def zX (hi:Option Int) (r:Int):Int:=match hi with
 | none=>r
 | some h=>if h < r then h else r
def Deed.mk' (d:Deed) (v:Int):Int:=zX d.hi (zW d.lo (v + d.add))
def ordV:V -> V -> V -> Bool
 | .int a,.int l,.int h=>decide (l < h) || (decide (l = h) && decide (a = 0))
 | _,_,_=>true
def vH:List V -> Bool
 | [x,y,z]=>rK x && (endV y && (endV z && ordV x y z))
 | _=>false
theorem vI {d:Deed} (h:d.Ok):vH d.vs = true:=by
 obtain ⟨a,lo,hi⟩:=d
 cases lo with
 | none=>cases hi <;> rfl
 | some l =>
  cases hi with
  | none=>rfl
  | some u =>
   have:=h l u rfl rfl
   show (decide (l < u) || (decide (l = u) && decide (a = 0))) = true
   rcases this with q | ⟨q,q2⟩
   ·simp [q]
   ·have q2':a = 0:=q2
    simp [q,q2']
theorem YB {x:V} (h:rK x = true):∃ i,x = .int i:=by
 cases x <;> first | exact ⟨_,rfl⟩ | cases h
theorem WX {x:V} (h:endV x = true):∃ o,x = ov o:=by
 cases x <;> first | exact ⟨none,rfl⟩ | exact ⟨some _,rfl⟩ | cases h
theorem len3 {xs:List V} (h:xs.length = 3):∃ x y z,xs = [x,y,z]:=by
 match xs,h with
 | [x,y,z],_=>exact ⟨x,y,z,rfl⟩
theorem qV {xs:List V} (h:xs.length ≠ 3):vH xs = false:=by
 match xs,h with
 | [],_=>rfl
 | [_],_=>rfl
 | [_,_],_=>rfl
 | [_,_,_],h=>exact absurd rfl h
 | _ :: _ :: _ :: _ :: _,_=>rfl
def zE (K:FG7) (H:Hp) (x:V) (d:Deed):Prop:=∃ a,x = .ref a /\ SqT K H a d.vs
theorem Grow.deed {m:List Addr} {H H':Hp} (g:Grow m H H') {K:FG7} {x:V} {d:Deed} (h:zE K H x d):zE K H' x d:=by
 obtain ⟨a,e,h⟩:=h
 exact ⟨a,e,g.sqT h⟩
theorem xC {K:FG7} {H:Hp} {i:Int}:Kn K H (.int i):=⟨"int",rfl⟩
theorem Uu {K:FG7} {H:Hp}:Kn K H .non:=⟨"NoneType",rfl⟩
theorem ZL {K:FG7} {H:Hp} (o:Option Int):Kn K H (ov o):=by cases o; exact Uu; exact xC
def zP (K:FG7):Sp:=sp1 fun x H Q=>Kn K H x /\ Q (.bl (rK x)) H
def rL (K:FG7):Sp:=sp1 fun x H Q=>Kn K H x /\ Q (.bl (endV x)) H
def wB (K:FG7):Sp:=sp1 fun x H Q=>(∃ T,T ≠ "tuple" /\ TyV K H x T /\ Q (.bl false) H) \/ ∃ a xs,x = .ref a /\ SqT K H a xs /\ (∀ y ∈ xs,Kn K H y) /\ Q (.bl (vH xs)) H
def xc (_:FG7):Sp:=sp1 fun x H Q=>∃ i,x = .int i /\ Q .non H
def yZ (K:FG7):Sp:=sp1 fun x H Q=>∃ d,zE K H x d /\ d.Ok /\ Q .non H
def vJ (K:FG7):Sp:=sp2 fun x y H Q=>∃ d v,zE K H x d /\ y = .int v /\ Q (.int (d.mk' v)) H
def qW (K:FG7):Sp:=sp2 fun x y H Q=>∃ d v,zE K H x d /\ d.Ok /\ y = .int v /\ Q (.int (d.mk' v)) H
def Pot (H:Hp) (a:Addr):Prop:=∃ p0 p1:Int,H a = some (.lst [.int p0,.int p1]) /\ 0 <= p0
def Sm (n:Int):Prop:=-(10 ^ 30) < n /\ n < 10 ^ 30
def Deed.Sm (d:Deed):Prop:=L3.Sm d.add /\ (∀ l,d.lo = some l -> L3.Sm l) /\ ∀ h,d.hi = some h -> L3.Sm h
def WY (K:FG7):Sp:=sp2 fun x y H Q=>∃ a ns k,x = .ref a /\ y = .int k /\ Scr K H a ns /\ 0 <= k /\ k < 1000 /\ ∀ p H',H p = none -> Grow [] H H' -> Pot H' p -> Q (.ref p) H'
theorem Sm.of {n:Int} (h1:-(10 ^ 30) < n) (h2:n < 10 ^ 30):Sm n:=⟨h1,h2⟩
def j8 (K:FG7):Sp:=sp1 fun x H Q=>∃ a ns,x = .ref a /\ Scr K H a ns /\ ns.length <= 63 /\ ∀ H',Q (.bl true) H'
theorem xQ:Deed.Ok ⟨0,none,none⟩:=fun l h z=>by cases z
theorem szl {n:Nat} (h:Nat.ble n 1000 = true):n <= sizeLine:=Nat.le_of_lt (zQ (Nat.le_of_ble_eq_true h))
theorem Grow.shrink {H H':Hp} {l:Addr} (h:H l = none) (g:Grow [l] H H'):Grow [] H H' :=
 ⟨fun b o _ q=>g.keep b o (fun z=>by rw [List.mem_singleton.mp z] at q; rw [h] at q; cases q) q,g.tup,g.frz⟩
theorem Grow.wk {m:List Addr} {H H':Hp} (g:Grow [] H H'):Grow m H H':=g.mono (by simp)
theorem Pot.grow {H H':Hp} {a:Addr} (p:Pot H a) (g:Grow [] H H'):Pot H' a:=by
 obtain ⟨u0,u1,hu,hn⟩:=p
 exact ⟨u0,u1,g.keep _ _ (by simp) hu,hn⟩
theorem Pot.new {H:Hp} {a l:Addr} (p:Pot H a) (hl:H l = none) (o:HO):Pot (upd H l o) a:=p.grow (Grow.new hl o)
theorem YC {k:Int} (h:-(2 ^ 200) < k /\ k < 2 ^ 200):Builtin.Int.intBits k <= 200:=PySem.intBits_le_iff.mpr (by
 have h1:((k.natAbs:Nat):Int) < ((2 ^ 200:Nat):Int):=by
  have e:((2 ^ 200:Nat):Int) = 2 ^ 200:=rfl
  rw [e]; obtain ⟨a,b⟩:=h; omega
 exact Int.ofNat_lt.mp h1)
theorem qX {i j:Int} (h1:-(2 ^ 200) < i /\ i < 2 ^ 200) (h2:-(2 ^ 200) < j /\ j < 2 ^ 200):IntMulOk i j:=PySem.IntMulOk.of_le (YC h1) (YC h2) (by decide)
theorem Uv {i j:Int} (h2:-(2 ^ 60) < j /\ j < 2 ^ 60):IntMulOk i j:=PySem.IntMulOk.of_right (Nat.le_trans ((PySem.intBits_le_iff (m:=60)).mpr (by obtain ⟨a,b⟩:=h2; omega)) (by decide))
section
variable {prog:Program} {w:World} {A:Around} {R:Result -> Shared -> Prop} {s:Shared}
theorem rM {elt target iter:Expr} {ifs:List Expr} {scope:Scope} {pos:Pos} {it acc:Value} {env:Env} (I:Nat -> Shared -> Prop)
  (turn:∀ n s,I n s -> wpAny (model prog w) A (pyNext it) (fun r s₁=>match r with
   | none=>R (.ok .next) s₁
   | some v=>wpAny (model prog w) A (letOwnedTupleGo target it v) (fun _ s₂=>wpAny (model prog w) A (assign target env v) (fun _ s₃ =>
     wpAny (model prog w) A (forIn ifs true fun c r=>if r = true then do let ok ← isTrue c env (eval c env); pure (ForInStep.yield ok) else pure (ForInStep.yield r)) (fun ok s₄ =>
      if ok = true then wpAny (model prog w) A (eval elt env) (fun x s₅ =>
       wpAny (model prog w) A (call (.builtin "list.append") [acc,x]) (fun _ s₆=>∃ m,m < n /\ I m s₆) (fun _ _=>False) s₅) (fun _ _=>False) s₄
      else ∃ m,m < n /\ I m s₄) (fun _ _=>False) s₃) (fun _ _=>False) s₂) (fun _ _=>False) s₁) (fun _ _=>False) s)
  (n:Nat) (h:I n s) :
  codeAny (model prog w) A (.compLoop (.ListComp elt [⟨target,iter,ifs,0⟩] scope pos) 0 it acc env) R s:=by
 refine codeAny_loop rfl I (fun n s hI=>?_) n h
 show wpAny _ A ((compTurn (.ListComp elt [⟨target,iter,ifs,0⟩] scope pos) 0 it acc env).onRaise (fun x=>do noteFrame x env; theTreesLotGoes x)) _ _ s
 refine wpAny_noted ?_
 rw [compTurn_list]
 have no:∀ (E:VS7) (e:Value) (s:Shared),(fun (_:Value) (_:Shared)=>False) e s -> E e s:=fun _ _ _ f=>f.elim
 refine wpAny_bind (wpAny_standAt (wpAny_bind (wpAny_mono (turn n s hI) (fun r s₁ h₁=>?_) (no _))))
 cases r with
 | none=>exact wpAny_pure h₁
 | some v =>
  refine wpAny_bind (wpAny_mono h₁ (fun _ s₂ h₂=>?_) (no _))
  refine wpAny_bind (wpAny_mono h₂ (fun _ s₃ h₃=>wpAny_bind (wpAny_mono h₃ (fun ok s₄ h₄=>?_) (no _))) (no _))
  cases ok with
  | true =>
   simp only [if_true] at h₄ ⊢
   exact wpAny_bind (wpAny_bind (wpAny_mono h₄ (fun x s₅ h₅=>wpAny_bind (wpAny_mono h₅ (fun _ s₆ h₆=>wpAny_pure (wpAny_pure ⟨rfl,h₆⟩)) (no _))) (no _)))
  | false =>
   simp only [Bool.false_eq_true,if_false] at h₄ ⊢
   first
    | exact wpAny_bind (wpAny_pure (wpAny_pure ⟨rfl,h₄⟩))
    | exact wpAny_pure ⟨rfl,h₄⟩
end
theorem tL {scope:Scope} {env:Env} (hfree:∀ y ∈ scope.names,y.2 = .free -> ∃ c,env.cells.lookup y.1 = some c) :
  ∃ cl,closureFor scope env = pure cl /\ (∀ x c,cl.lookup x = some c -> env.cells.lookup x = some c) /\ ∀ y ∈ scope.names,y.2 = .free -> ∃ c,cl.lookup y.1 = some c:=by
 have key:∀ (l:List (Str × NameKind)) (cs:List (Str × Addr)),(∀ y ∈ l,y.2 = .free -> ∃ c,env.cells.lookup y.1 = some c) -> (∀ x c,cs.lookup x = some c -> env.cells.lookup x = some c) →
   ∃ cl,(forIn l cs (fun (x:Str × NameKind) r=>do if x.2 == .free then do let c ← cellOf env x.1; pure (ForInStep.yield ((x.1,c) :: r)) else pure (ForInStep.yield r)):Sem (List (Str × Addr))) = pure cl ∧
    (∀ x c,cl.lookup x = some c -> env.cells.lookup x = some c) /\ (∀ y ∈ l,y.2 = .free -> ∃ c,cl.lookup y.1 = some c) /\ ∀ x c,cs.lookup x = some c -> ∃ c',cl.lookup x = some c':=by
  intro l
  induction l with
  | nil=>intro cs _ h2; exact ⟨cs,rfl,h2,fun y hy=>absurd hy (by simp),fun x c h=>⟨c,h⟩⟩
  | cons y r ih =>
   intro cs h1 h2
   obtain ⟨n,k⟩:=y
   by_cases hk:k = .free
   ·subst hk
    obtain ⟨c,hc⟩:=h1 (n,.free) (by simp) rfl
    have hc':env.cells.lookup n = some c:=hc
    have e0:cellOf env n = pure c:=by unfold cellOf; rw [hc']
    obtain ⟨cl,e,p1,p2,p3⟩:=ih ((n,c) :: cs) (fun z hz=>h1 z (List.mem_cons_of_mem _ hz)) (fun x d h=>by
     by_cases hx:x = n
     ·subst hx
      rw [List.lookup_cons_self] at h
      cases h; exact hc'
     ·rw [List.lookup_cons,beq_eq_false_iff_ne.mpr hx] at h
      exact h2 x d h)
    refine ⟨cl,?_,p1,fun z hz=>?_,fun x d h=>?_⟩
    ·rw [List.forIn_cons]
     simp only [beq_self_eq_true,if_true,e0,pure_bind]
     exact e
    ·rcases List.mem_cons.mp hz with rfl | hz
     ·intro _
      exact p3 n c List.lookup_cons_self
     ·exact p2 z hz
    ·by_cases hx:x = n
     ·subst hx; exact p3 x c List.lookup_cons_self
     ·exact p3 x d (by rw [List.lookup_cons,beq_eq_false_iff_ne.mpr hx]; exact h)
   ·have hb:(k == NameKind.free) = false:=beq_eq_false_iff_ne.mpr hk
    obtain ⟨cl,e,p1,p2,p3⟩:=ih cs (fun z hz=>h1 z (List.mem_cons_of_mem _ hz)) h2
    refine ⟨cl,?_,p1,fun z hz=>?_,p3⟩
    ·rw [List.forIn_cons]
     simp only [hb,Bool.false_eq_true,if_false,pure_bind]
     exact e
    ·rcases List.mem_cons.mp hz with rfl | hz
     ·intro h; exact absurd h hk
     ·exact p2 z hz
 obtain ⟨cl,e,p1,p2,_⟩:=key scope.names [] hfree (fun x c h=>by cases h)
 refine ⟨cl,?_,p1,p2⟩
 unfold closureFor
 first
  | (rw [show (forIn scope.names [] _:Sem (List (Str × Addr))) = pure cl from e]; rfl)
  | (simp only [bind_pure]; exact e)
  | exact e
def PIfs (X:Cx) (ifs:List Expr) (t:TT):Prop :=
 ∀ (pins:List (Addr × Obj)) (s:Shared) (σ:L2.St) (H:Hp) (Q:Bool -> Hp -> Prop),Inv X pins σ H s -> t σ H Q →
  wpAny (model X.prog X.w) X.A (forIn ifs true fun c r=>if r = true then do let ok ← isTrue c X.env (eval c X.env); pure (ForInStep.yield ok) else pure (ForInStep.yield r)) (TP X pins σ Q) X.xe s
def qY:TT:=fun _ H Q=>Q true H
theorem zD {X:Cx}:PIfs X [] qY:=fun pins s σ H Q I h=>wpAny_pure ⟨H,I,h⟩
theorem X3 {X:Cx} {c:Expr} {t:TT} (hc:PT X c t):PIfs X [c] t:=fun pins s σ H Q I h=>wpAny_tests_one (hc pins s σ H Q I h)
abbrev cxC (X:Cx) (N':List Str) (scope:Scope) (cl:List (Str × Addr)) (C D:Addr) (fp:List Addr) (s:Shared) (H:Hp):Cx :=
 { X with N:=N',s₀:=s,H₀:=H,env:=compEnvC scope cl C X.env,outer:=X.stack,ex:=D :: fp,fn:=fun _=>false,xe:=fun _ _=>False }
def capt (sub:List (Option Nat)) (σ:L2.St):L2.St:=sub.map fun o=>match o with
 | none=>none
 | some i=>(match σ[i]? with | some v=>v | none=>none)
def vk (J:It) (σ0:L2.St) (H1:Hp) (g:TG) (tt:TT) (te:TE) (Q:VK):Prop :=
 ∃ W:Nat -> Nat -> List V -> L2.St -> Hp -> Prop,(∃ m,W 0 m [] σ0 H1) /\ ∀ i m ys σ' H',W i m ys σ' H' →
  (J.stop i H' /\ ∀ l,H' l = none -> Q (.ref l) (upd H' l (.lst ys))) ∨
  (J.go i H' /\ ∃ Nn:List V -> L2.St -> Hp -> Prop,(∀ zs σ2 H2,Nn zs σ2 H2 -> ∃ m',m' < m /\ W (i + 1) m' zs σ2 H2) ∧
   ∀ x H2,J.yld i H' x H2 -> g x σ' H2 fun σ2 H3=>tt σ2 H3 fun b H4=>if b = true then te σ2 H4 fun y H5=>ys.length < sizeLine /\ Nn (ys ++ [y]) σ2 H5 else Nn ys σ2 H4)
def Vs (wi:TI) (sub:List (Option Nat)) (g:TG) (tt:TT) (te:TE):TE:=fun σ H Q=>wi σ H fun J H1=>vk J (capt sub σ) H1 g tt te Q
structure CSc (X:Cx) (scope:Scope) (N':List Str) (sub:List (Option Nat)):Prop where
 free:∀ y ∈ scope.names,y.2 = .free -> X.env.kindOf y.1 = some .cell
 nocell:∀ y ∈ scope.names,y.2 ≠ .cell
 kind:scope.kind = .function
 names:∀ y ∈ scope.names,y.2 = .local -> scope.names.lookup y.1 = some .local
 len:sub.length = N'.length
 cap:∀ (j:Nat) (y:Str) (i:Nat),N'[j]? = some y -> sub[j]? = some (some i) -> X.N[i]? = some y /\ X.env.scope.names.lookup y = some .cell /\ scope.names.lookup y = some .free
theorem HOk.track {P:Program} {w:World} {H:Hp} {h:Heap} {a:Addr} {o:HO} (x:HOk P w H h) (hn:H a = none) (new:yA P w (upd H a o) h a o):HOk P w (upd H a o) h:=fun b u e=>by
 by_cases hb:b = a
 ·subst hb; rw [ze] at e; cases e; exact new
 ·rw [zq hb] at e
  exact (x b u e).stay (fun c v _ q=>q) (fun c q=>by rw [zq (zt q hn)]; exact q) fun c xs q=>by rw [zq (zt q hn)]; exact q
theorem yU {scope:Scope} {env:Env} {y:Str} {k:NameKind} (h:(relabel scope env).names.lookup y = some k) :
  ∃ k',scope.names.lookup y = some k' /\ (k = k' \/ (k = .cell /\ k' = .free)):=by
 have key:∀ l:List (Str × NameKind),(l.map fun (n,k)=>if (k == NameKind.free && env.scope.kind == .function && env.kindOf n == some .cell) then (n,NameKind.cell) else (n,k)).lookup y = some k →
   ∃ k',l.lookup y = some k' /\ (k = k' \/ (k = .cell /\ k' = .free)):=by
  intro l
  induction l with
  | nil=>intro h; cases h
  | cons p r ih =>
   obtain ⟨n,k0⟩:=p
   intro h
   rw [List.map_cons] at h
   by_cases hc:(k0 == NameKind.free && env.scope.kind == .function && env.kindOf n == some .cell) = true
   ·have hf:k0 = .free:=by
     simp only [Bool.and_eq_true,beq_iff_eq] at hc
     exact hc.1.1
    dsimp only at h
    rw [if_pos hc,List.lookup_cons] at h
    rw [List.lookup_cons]
    cases hx:y == n with
    | true=>rw [hx] at h; cases h; exact ⟨k0,rfl,.inr ⟨rfl,hf⟩⟩
    | false=>rw [hx] at h; exact ih h
   ·dsimp only at h
    rw [if_neg hc,List.lookup_cons] at h
    rw [List.lookup_cons]
    cases hx:y == n with
    | true=>rw [hx] at h; cases h; exact ⟨_,rfl,.inl rfl⟩
    | false=>rw [hx] at h; exact ih h
 exact key scope.names h
theorem wo {scope:Scope} {env:Env} {y:Str} (hk:env.scope.kind = .function) (hc:env.kindOf y = some .cell) (h:scope.names.lookup y = some .free):(relabel scope env).names.lookup y = some .cell:=by
 have key:∀ l:List (Str × NameKind),l.lookup y = some .free -> (l.map fun (n,k)=>if (k == NameKind.free && env.scope.kind == .function && env.kindOf n == some .cell) then (n,NameKind.cell) else (n,k)).lookup y = some .cell:=by
  intro l
  induction l with
  | nil=>intro h; cases h
  | cons p r ih =>
   obtain ⟨n,k0⟩:=p
   intro h
   rw [List.map_cons]
   rw [List.lookup_cons] at h
   dsimp only
   cases hx:y == n with
   | true =>
    rw [hx] at h
    cases h
    have e:y = n:=by simpa using hx
    subst e
    rw [if_pos (by simp [hk,hc]),List.lookup_cons,hx]
   | false =>
    rw [hx] at h
    by_cases hc2:(k0 == NameKind.free && env.scope.kind == .function && env.kindOf n == some .cell) = true
    ·rw [if_pos hc2,List.lookup_cons,hx]; exact ih h
    ·rw [if_neg hc2,List.lookup_cons,hx]; exact ih h
 exact key scope.names h
section
variable {X:Cx} {pins:List (Addr × Obj)} {σ:L2.St} {H2:Hp} {s₂:Shared} {it:Addr} {fp:List Addr} {tn:Nat -> Heap -> Prop} {J:It} {scope:Scope} {cl:List (Str × Addr)} {N':List Str} {sub:List (Option Nat)}
theorem tM {h₁:Heap} {tk:Nat} (I:Inv X pins σ H2 s₂) (S:CSc X scope N' sub) (hcl1:∀ x c,cl.lookup x = some c -> X.env.cells.lookup x = some c) (hcl2:∀ y ∈ scope.names,y.2 = .free -> ∃ c,cl.lookup y.1 = some c)
    (f2:∀ b ∈ fp,FpOk X pins H2 b) (hfp:∀ b ∈ fp,b < s₂.heap.objs.size) {m:Str -> Option Value} {ob:Obj}
    (hns:h₁.Ns (s₂.heap.objs.size + 1) m) (hk:∀ b o,(s₂.heap.push ob).get? b = some o -> h₁.get? b = some o) :
    Inv (cxC X N' scope cl (s₂.heap.objs.size + 1) s₂.heap.objs.size fp { s₂ with heap:=s₂.heap.push ob } H2) pins (capt sub σ) H2 { s₂ with heap:=h₁,toks:=tk }:=by
  have old:∀ b o,s₂.heap.get? b = some o -> (s₂.heap.push ob).get? b = some o:=fun b o e=>Heap.get?_push_of_some _ e
  have old2:∀ b o,s₂.heap.get? b = some o -> h₁.get? b = some o:=fun b o e=>hk b o (old b o e)
  have sz:(s₂.heap.push ob).objs.size = s₂.heap.objs.size + 1:=Heap.size_push ..
  have cells:∀ x c,cl.lookup x = some c -> c < s₂.heap.objs.size:=fun x c e=>let ⟨v,q⟩:=I.cell x c (hcl1 x c e); q.lt
  have has:∀ x,((relabel scope X.env).names.lookup x = some .cell \/ (relabel scope X.env).names.lookup x = some .free) -> ∃ c,cl.lookup x = some c:=fun x hx=>by
    rcases hx with hx | hx
    · obtain ⟨k',e,z⟩:=yU hx
      rcases z with z | ⟨_,z⟩
      · subst z; exact absurd rfl (S.nocell _ (PySem.mem_of_lookup e))
      · subst z; exact hcl2 _ (PySem.mem_of_lookup e) rfl
    · obtain ⟨k',e,z⟩:=yU hx
      rcases z with z | ⟨z,_⟩
      · subst z; exact hcl2 _ (PySem.mem_of_lookup e) rfl
      · cases z
  have frsz:∀ b ∈ frs X.stack,b < s₂.heap.objs.size:=fun b hb=>by
    rcases List.mem_cons.mp (I.stkSub b hb) with z | z
    · rw [z]; exact I.lt
    · exact Nat.lt_of_not_le fun q=>I.nofs q z
  refine
    { ok :=
      { mod:=I.ok.mod,kind:=S.kind,glob:=I.ok.glob,blt:=I.ok.blt
        above:=by show (s₂.heap.push ob).objs.size <= s₂.heap.objs.size + 1; rw [sz]; exact Nat.le_refl _
        inj:=fun x y c h1 h2=>I.ok.inj x y c (hcl1 x c h1) (hcl1 y c h2)
        has:=has
        cab:=fun x c z=>by cases z
        hd:=I.ok.hd,frames:=I.ok.frames,stk:=.inl rfl
        exf:=fun b hb=>?exf
        bs:=fun b o e=>⟨old b o (I.bk b o e),(I.bs b o e).2⟩
        bsz:=by show X.base.objs.size <= (s₂.heap.push ob).objs.size; rw [sz]; exact Nat.le_succ_of_le (Nat.le_trans I.ok.bsz I.sz)
        noex:=fun b o e hb=>?noex
        exfs:=fun b hb=>?exfs
        funs:=?funs
        frf:=I.stkFree }
      os:=rfl,bare:=I.bare,base:=Un.kept fun b u e=>hk b u e
      loc:=⟨m,hns,?loc⟩
      cell:=fun x c e=>?cell
      free:=I.hok.fresh (Nat.le_succ _)
      freeC:=fun x c e=>I.freeC x c (hcl1 x c e)
      pin:=fun p hp=>?pin
      hok:=I.hok.kept old2
      len:=?len }
  case exf =>
    rcases List.mem_cons.mp hb with rfl | hb
    · exact ⟨Nat.ne_of_lt (Nat.lt_succ_self _),fun x c e=>Nat.ne_of_lt (cells x c e)⟩
    · exact ⟨Nat.ne_of_lt (Nat.lt_succ_of_lt (hfp b hb)),fun x c e=>(f2 b hb).2.2.2.2.1 x c (hcl1 x c e)⟩
  case noex =>
    have hl:b < X.s₀.heap.objs.size:=Nat.lt_of_lt_of_le (Heap.lt_size e) I.ok.bsz
    rcases List.mem_cons.mp hb with rfl | hb
    · exact absurd (Nat.lt_of_lt_of_le hl I.sz) (Nat.lt_irrefl _)
    · rcases (f2 b hb).2.2.2.1 with z | z
      · exact I.ok.noex b o e z
      · exact absurd (Nat.lt_of_lt_of_le hl z) (Nat.lt_irrefl _)
  case exfs =>
    intro hs
    rcases List.mem_cons.mp hb with rfl | hb
    · exact absurd (frsz _ hs) (Nat.lt_irrefl _)
    · rcases List.mem_cons.mp (I.stkSub b hs) with z | z
      · exact (f2 b hb).2.1 z
      · exact (f2 b hb).2.2.1 z
  case funs=>exact Heap.FunFrames.of_keeps (fun b o e _=>⟨o,old b o e,rfl⟩) I.stack
  case loc =>
    intro j y v hj hv hvis
    obtain ⟨mX,_,lX⟩:=I.loc
    unfold capt at hv
    rw [List.getElem?_map] at hv
    cases hs:sub[j]? with
    | none=>rw [hs] at hv; cases hv
    | some o =>
      rw [hs] at hv
      cases o with
      | none=>cases hv
      | some i =>
        obtain ⟨hN,hc,hf⟩:=S.cap j y i hj hs
        have hv':σ[i]? = some (some v):=by
          have z:(match σ[i]? with | some v=>v | none=>none) = some v:=Option.some.inj hv
          cases q:σ[i]? with
          | none=>rw [q] at z; cases z
          | some w=>rw [q] at z; rw [show w = some v from z]
        obtain ⟨u,ru,hl⟩:=lX i y v hN hv' (.inr (.inl hc))
        refine ⟨u,ru,?_⟩
        have kc:(relabel scope X.env).names.lookup y = some .cell:=wo I.ok.kind hc hf
        rcases hl with ⟨z,_⟩ | ⟨_,c,e,ic⟩
        · have z':X.env.scope.names.lookup y = some .local :=z
          rw [hc] at z'; cases z'
        · obtain ⟨c',e'⟩:=hcl2 _ (PySem.mem_of_lookup hf) rfl
          have:=hcl1 _ _ e'
          rw [e] at this; cases this
          refine .inr ⟨.inl kc,c,e',?_⟩
          obtain ⟨oc,h1,h2⟩:=ic
          exact ⟨oc,old2 _ _ h1,h2⟩
  case cell =>
    obtain ⟨v,oc,h1,h2⟩:=I.cell x c (hcl1 x c e)
    exact ⟨v,oc,old2 _ _ h1,h2⟩
  case pin =>
    obtain ⟨p1,p2,p3,p4,p5⟩:=I.pin p hp
    refine ⟨old2 _ _ p1,p2,Nat.ne_of_lt (Nat.lt_succ_of_lt (Heap.lt_size p1)),fun hs=>?_,p5⟩
    rcases List.mem_cons.mp (I.stkSub _ hs) with z | z
    · exact p3 z
    · exact p4 z
  case len =>
    show (capt sub σ).length = N'.length
    unfold capt
    rw [List.length_map]; exact S.len
theorem X4 {C D:Addr} {s₀:Shared} {s':Shared} {σ':L2.St} {H':Hp} {ys:List V} {us:List Value} {k:Nat} {oC:Obj} (I:Inv X pins σ H2 s₂)
    (hs₀:∀ b o,s₂.heap.get? b = some o -> s₀.heap.get? b = some o) (hos:s₀.os = s₂.os) (hD:s₂.heap.objs.size <= D) (hC:s₂.heap.objs.size <= C) (hDC:D ≠ C) (f2:∀ b ∈ fp,FpOk X pins H2 b)
    (I':Inv (cxC X N' scope cl C D fp s₀ H2) pins σ' H' s') (hn:H' D = none) (hy:s'.heap.get? D = some { cls:=.type "list",data:=.seq us.toArray k }) (rv:Vals ys us) (hz:ys.length <= sizeLine)
    (ho:s'.heap.get? C = some oC) (hd:∀ v,oC.data ≠ .cell v):Inv X (pins ++ [(C,oC)]) σ (upd H' D (.lst ys)) s' /\ FpOk X pins (upd H' D (.lst ys)) C:=by
  have neD:∀ b o,s₂.heap.get? b = some o -> b ≠ D:=fun b o e=>Nat.ne_of_lt (Nat.lt_of_lt_of_le (Heap.lt_size e) hD)
  have nm:∀ b o,s₂.heap.get? b = some o -> b ∉ fp -> b ∉ D :: fp:=fun b o e h z=>(List.mem_cons.mp z).elim (neD b o e) h
  have U:=I'.base
  have HC:upd H' D (.lst ys) C = none:=by rw [zq (Ne.symm hDC)]; exact I'.free
  have fpc:FpOk X pins (upd H' D (.lst ys)) C:=I.fpOk hC HC
  have un:Un (frs X.stack) fp H2 (upd H' D (.lst ys)) s₂.heap s'.heap :=
    { keep:=fun b o e n h1 h2=>U.keep b o (hs₀ b o e) n h1 (nm b o e h2)
      slot:=fun b o e n h1 h2=>U.slot b o (hs₀ b o e) n h1 (nm b o e h2)
      free:=fun b o e n h2=>by rw [zq (neD b o e)]; exact U.free b o (hs₀ b o e) n (nm b o e h2)
      there:=fun b o e h2=>U.there b o (hs₀ b o e) (nm b o e h2)
      tups:=fun b xs e=>by have z:=U.tups b xs e; rw [zq (zt z hn)]; exact z
      frzs:=fun b o u e=>by have z:=U.frzs b o u e; rw [zq (zt z hn)]; exact z
      tbls:=fun b ps e=>by obtain ⟨more,z⟩:=U.tbls b ps e; exact ⟨more,by rw [zq (zt z hn)]; exact z⟩ }
  have hok:HOk X.prog X.w (upd H' D (.lst ys)) s'.heap:=HOk.track I'.hok hn ⟨hz,us,k,rv,hy⟩
  have IX:Inv X pins σ (upd H' D (.lst ys)) s':=I.call' (I'.os.trans hos) un hok I'.bare fun b hb=>⟨(f2 b hb).2.2.2.1,(f2 b hb).2.1,(f2 b hb).2.2.2.2.1,(f2 b hb).2.2.2.2.2⟩
  refine ⟨IX.pins_of fun p hp=>?_,fpc⟩
  rcases List.mem_append.mp hp with hp | hp
  · exact IX.pin p (List.mem_append_right _ hp)
  · rw [List.mem_singleton.mp hp]
    exact ⟨ho,HC,fpc.2.1,fpc.2.2.1,hd⟩
end
section
variable {X:Cx} {scope:Scope} {N':List Str} {sub:List (Option Nat)} {x:Str} {px pos:Pos} {elt iter:Expr} {ifs:List Expr} {wi:TI} {g:TG} {tt:TT} {te:TE}
theorem CSc.clos {pins:List (Addr × Obj)} {σ:L2.St} {H:Hp} {s:Shared} (S:CSc X scope N' sub) (I:Inv X pins σ H s):∃ cl,closureFor scope X.env = pure cl /\ (∀ x c,cl.lookup x = some c -> X.env.cells.lookup x = some c) /\ ∀ y ∈ scope.names,y.2 = .free -> ∃ c,cl.lookup y.1 = some c :=
 tL fun y hy hf=>I.ok.has y.1 (.inl (S.free y hy hf))
end
def eqVs:List V -> List V -> Bool
 | [],[]=>true
 | x :: xs,y :: ys=>eqV x y && eqVs xs ys
 | _,_=>false
theorem j9:∀ {xs ys:List V},eqVs xs ys = true ↔ xs.length = ys.length /\ ∀ (j:Nat) (x y:V),xs[j]? = some x -> ys[j]? = some y -> eqV x y = true
 | [],[]=>by simp [eqVs]
 | x :: xs,y :: ys=>by
  show (eqV x y && eqVs xs ys) = true ↔ _
  rw [Bool.and_eq_true,j9]
  constructor
  ·rintro ⟨h1,h2,h3⟩
   refine ⟨by simp [h2],fun j a b ha hb=>?_⟩
   cases j with
   | zero=>simp at ha hb; subst ha hb; exact h1
   | succ j=>exact h3 j a b (by simpa using ha) (by simpa using hb)
  ·rintro ⟨h1,h2⟩
   exact ⟨h2 0 x y rfl rfl,by simpa using h1,fun j a b ha hb=>h2 (j + 1) a b (by simpa using ha) (by simpa using hb)⟩
 | [],_ :: _=>by simp [eqVs]
 | _ :: _,[]=>by simp [eqVs]
theorem tN {xs ys:List V}:((List.range (min xs.length ys.length)).all (fun j=>match xs[j]?,ys[j]? with | some x,some y=>eqV x y | _,_=>true) && xs.length == ys.length) = eqVs xs ys:=by
 rw [Bool.eq_iff_iff,Bool.and_eq_true,List.all_eq_true,beq_iff_eq,j9]
 constructor
 ·rintro ⟨h1,h2⟩
  refine ⟨h2,fun j x y hx hy=>?_⟩
  have hj:j < xs.length:=(List.getElem?_eq_some_iff.mp hx).1
  have:=h1 j (List.mem_range.mpr (by rw [← h2]; simpa using hj))
  rw [hx,hy] at this
  exact this
 ·rintro ⟨h1,h2⟩
  refine ⟨fun j hj=>?_,h1⟩
  have hj':=List.mem_range.mp hj
  have a:j < xs.length:=by omega
  have b:j < ys.length:=by omega
  rw [List.getElem?_eq_getElem a,List.getElem?_eq_getElem b]
  exact h2 j _ _ (List.getElem?_eq_getElem a) (List.getElem?_eq_getElem b)
theorem YD {xs:List V} {us:List Value} (r:Vals xs us) (j:Nat) (h:j < us.length):∃ x,xs[j]? = some x /\ RelV x us[j]:=by
 have hl:=r.length
 have hx:xs[j]? = some xs[j]:=List.getElem?_eq_getElem (by omega)
 obtain ⟨u,e,q⟩:=r.get hx
 rw [List.getElem?_eq_getElem h] at e
 cases e
 exact ⟨_,hx,q⟩
theorem WZ {A:Around} {s:Shared} {xs ys:List V} {us ws:List Value} (r1:Vals xs us) (r2:Vals ys ws) (f1:xs.all sm = true) (f2:ys.all sm = true) :
  ∀ j (h1:j < us.toArray.size) (h2:j < ws.toArray.size),SeqAt.EqAt A s us.toArray[j] ws.toArray[j] ((fun j=>match xs[j]?,ys[j]? with | some x,some y=>eqV x y | _,_=>true) j):=by
 intro j h1 h2
 obtain ⟨x,ex,qx⟩:=YD r1 j (by simpa using h1)
 obtain ⟨y,ey,qy⟩:=YD r2 j (by simpa using h2)
 have fx:sm x = true:=List.all_eq_true.mp f1 x (List.mem_of_getElem? ex)
 have fy:sm y = true:=List.all_eq_true.mp f2 y (List.mem_of_getElem? ey)
 show SeqAt.EqAt A s _ _ (match xs[j]?,ys[j]? with | some x,some y=>eqV x y | _,_=>true)
 rw [ex,ey]
 simpa using Up qx qy fx fy
section
variable {X:Cx}
def rEqT (K:FG7) (neg:Bool):R2:=fun x y H Q=>∃ a b xs ys,x = .ref a /\ y = .ref b /\ SqT K H a xs /\ SqT K H b ys /\ xs.all sm = true /\ ys.all sm = true /\ Q (.bl (if neg then !eqVs xs ys else eqVs xs ys)) H
theorem yi {h:Heap} {a:Addr} {its:Array Value} (t:IsTup h a its):h.IsTuple a its:=t
theorem W0 {k:Nat} (hr:Room k X.A):OpR X (compareOp .Eq) (rEqT X.K false):=by
 intro pins s σ H x y v u Q I rx ry h
 obtain ⟨a,b,xs,ys,rfl,rfl,ha,hb,f1,f2,q⟩:=h
 cases rx; cases ry
 obtain ⟨us,r1,t1,_⟩:=I.tuple ha
 obtain ⟨ws,r2,t2,_⟩:=I.tuple hb
 refine SeqAt.eq_tupleAt (yi t1) (yi t2) hr.units0 (WZ r1 r2 f1 f2) ?_
 rw [List.size_toArray,List.size_toArray,← r1.length,← r2.length,tN]
 exact ⟨.bl _,H,I,rfl,q⟩
theorem YE {k:Nat} (hr:Room k X.A):OpR X (compareOp .NotEq) (rEqT X.K true):=by
 intro pins s σ H x y v u Q I rx ry h
 obtain ⟨a,b,xs,ys,rfl,rfl,ha,hb,f1,f2,q⟩:=h
 cases rx; cases ry
 obtain ⟨us,r1,t1,_⟩:=I.tuple ha
 obtain ⟨ws,r2,t2,_⟩:=I.tuple hb
 refine SeqAt.RcNeAt.tuples (yi t1) (yi t2) hr.units0 (WZ r1 r2 f1 f2) _ _ _ _ ?_
 rw [List.size_toArray,List.size_toArray,← r1.length,← r2.length,tN]
 exact ⟨.bl _,H,I,rfl,q⟩
end
section
variable {X:Cx} {pos:Pos}
theorem rN:∀ {bs:List Bool} {us:List Value},Vals (bs.map V.bl) us -> LSm.BoolsAre us bs
 | [],_,.nil=>.nil
 | b :: bs,_,.cons r t=>by
  cases r
  exact .cons b (rN t)
theorem yH (hcalm:X.calm = true):vh X (.builtin "all") (fun xs H Q=>∃ (l:Addr) (bs:List Bool),xs = [.ref l] /\ SqL X.K H l (bs.map V.bl) /\ Q (.bl (bs.all id)) H):=by
 intro pins s σ H xs us Q I r h
 obtain ⟨l,bs,rfl,hl,q⟩:=h
 obtain ⟨u,rfl,rx⟩:=sk r
 cases (show u = Value.ref l from rx)
 obtain ⟨vs,rv,pl,_⟩:=I.list hl
 have hl':s.heap.IsList l vs.toArray:=pl.isList
 have hb:LSm.BoolsAre vs bs:=rN rv
 have hlt:l < s.heap.objs.size:=by obtain ⟨_,e,_⟩:=hl'; exact Heap.lt_size e
 refine call_all_walk (wpAny_pyIter_list hl' ?_)
 refine ⟨s.heap.objs.size,[s.heap.objs.size,l],[s.heap.objs.size],vs.toArray.size,_,_,fun i=>(bs[i]?).getD true,rfl,Walks.list (A:=X.A.in1) (I.ok.hd hcalm) _ l (Nat.ne_of_lt hlt) vs.toArray,
  ⟨⟨_,Heap.get?_push_size _ rfl,rfl,rfl⟩,hl'.push _⟩,fun i v s' Q' E' hP hQ=>?_,fun h' tk hk=>?_⟩
 ·obtain ⟨b,e,rfl⟩:=hb.get i v (by simpa using hP)
  simp only [e,Option.getD_some] at hQ
  exact wpAny_truthy_bool hQ
 ·have e:((List.range vs.toArray.size).all fun i=>(bs[i]?).getD true) = bs.all id:=by
   have hlen:bs.length = vs.length:=by rw [← rv.length,List.length_map]
   rw [List.size_toArray,← hlen,Bool.eq_iff_iff,List.all_eq_true,List.all_eq_true]
   constructor
   ·intro z b hb'
    obtain ⟨i,hi,rfl⟩:=List.getElem_of_mem hb'
    have:=z i (List.mem_range.mpr hi)
    simpa [List.getElem?_eq_getElem hi] using this
   ·intro z i hi
    have hi':=List.mem_range.mp hi
    simpa [List.getElem?_eq_getElem hi'] using z _ (List.getElem_mem hi')
  rw [e]
  exact ⟨.bl (bs.all id),H,I.kept (t':=tk) (h':=h') (LSm.kept_iter hk),rfl,q⟩
end
theorem CSc.of {X:Cx} {scope:Scope} {N':List Str} {sub:List (Option Nat)} (sc:Scope) (NN:List Str) (e:X.env.scope = sc) (en:X.N = NN)
  (h:((scope.names.all fun y=>(y.2 != .free || sc.names.lookup y.1 == some .cell) && (y.2 != .cell) && (y.2 != .local || scope.names.lookup y.1 == some .local)) && (sub.length == N'.length) &&
   ((N'.zip sub).all fun p=>match p.2 with | none=>true | some i=>NN[i]? == some p.1 && sc.names.lookup p.1 == some .cell && scope.names.lookup p.1 == some .free)) = true)
  (hk:scope.kind = .function):CSc X scope N' sub:=by
 rw [Bool.and_eq_true,Bool.and_eq_true] at h
 obtain ⟨⟨h1,h2⟩,h3⟩:=h
 have k1:=fun y hy=>List.all_eq_true.mp h1 y hy
 refine ⟨fun y hy hf=>?_,fun y hy hc=>?_,hk,fun y hy hl=>?_,by simpa using h2,fun j y i hj hs=>?_⟩
 ·have:=k1 y hy
  simp only [hf,Bool.and_eq_true] at this
  have z:=this.1.1
  show X.env.scope.names.lookup y.1 = _
  rw [e]; simpa using z
 ·have:=k1 y hy
  simp only [hc,Bool.and_eq_true] at this
  simp at this
 ·have:=k1 y hy
  simp only [hl,Bool.and_eq_true] at this
  simpa using this.2
 ·have hm:(y,some i) ∈ N'.zip sub:=by
   have:(N'.zip sub)[j]? = some (y,some i):=by
    rw [List.getElem?_zip_eq_some]; exact ⟨hj,hs⟩
   exact List.mem_of_getElem? this
  have:=List.all_eq_true.mp h3 _ hm
  simp only [Bool.and_eq_true,beq_iff_eq] at this
  rw [e,en]
  exact ⟨this.1.1,this.1.2,this.2⟩
def wZ (a:Int) (lo hi:Option Int):Deed:=if lo ≠ none /\ lo = hi then ⟨0,lo,hi⟩ else ⟨a,lo,hi⟩
def thrO (e:Deed) (o:Option Int) (d:Option Int):Option Int:=match o with
 | none=>d
 | some l=>some (e.mk' l)
def zV (d e:Deed):Deed:=wZ (d.add + e.add) (thrO e d.lo e.lo) (thrO e d.hi e.hi)
def Deed.Bd (B:Int) (d:Deed):Prop:=(-B <= d.add /\ d.add <= B) /\ (∀ l,d.lo = some l -> -B <= l /\ l <= B) /\ ∀ h,d.hi = some h -> -B <= h /\ h <= B
theorem Th (a v:Int):(Deed.mk a none none).mk' v = v + a:=rfl
theorem Vt (a l v:Int):(Deed.mk a (some l) none).mk' v = if l > v + a then l else v + a:=rfl
theorem Vu (a h v:Int):(Deed.mk a none (some h)).mk' v = if h < v + a then h else v + a:=rfl
theorem rO (a l h v:Int):(Deed.mk a (some l) (some h)).mk' v = if h < (if l > v + a then l else v + a) then h else (if l > v + a then l else v + a):=rfl
theorem wc {a l h:Int} (o:Deed.Ok ⟨a,some l,some h⟩):l < h \/ (l = h /\ a = 0):=o l h rfl rfl
theorem Za {B:Int} {d:Deed} (o:d.Ok) (b:d.Bd B) {v:Int} (hv:v <= -(4 * B)) (hB:0 < B):d.mk' v = (match d.lo with | some l=>l | none=>v + d.add):=by
 obtain ⟨a,lo,hi⟩:=d
 obtain ⟨⟨b1,b2⟩,b3,b4⟩:=b
 have b1':-B <= a:=b1
 have b2':a <= B:=b2
 cases lo with
 | none =>
  cases hi with
  | none=>rfl
  | some h =>
   have:=b4 h rfl
   rw [Vu]; show _ = v + a; rw [if_neg (by omega)]
 | some l =>
  have:=b3 l rfl
  cases hi with
  | none=>rw [Vt]; show _ = l; rw [if_pos (by omega)]
  | some h =>
   have q:=wc o
   rw [rO]; show _ = l; rw [if_pos (show l > v + a by omega),if_neg (by omega)]
theorem X5 {B:Int} {d:Deed} (o:d.Ok) (b:d.Bd B) {v:Int} (hv:4 * B <= v) (hB:0 < B):d.mk' v = (match d.hi with | some h=>h | none=>v + d.add):=by
 obtain ⟨a,lo,hi⟩:=d
 obtain ⟨⟨b1,b2⟩,b3,b4⟩:=b
 have b1':-B <= a:=b1
 have b2':a <= B:=b2
 cases hi with
 | none =>
  cases lo with
  | none=>rfl
  | some l =>
   have:=b3 l rfl
   rw [Vt]; show _ = v + a; rw [if_neg (by omega)]
 | some h =>
  have:=b4 h rfl
  cases lo with
  | none=>rw [Vu]; show _ = h; rw [if_pos (by omega)]
  | some l =>
   have q:=wc o
   have:=b3 l rfl
   rw [rO]; show _ = h; rw [if_neg (show ¬ l > v + a by omega),if_pos (by omega)]
def optA (o:Option Int):Int:=match o with | none=>0 | some i=>(i.natAbs:Int)
def Deed.big (d:Deed):Int:=(d.add.natAbs:Int) + optA d.lo + optA d.hi + 1
theorem vK (o:Option Int):0 <= optA o:=by cases o with
 | none=>exact Int.le_refl _
 | some i=>show 0 <= (i.natAbs:Int); omega
theorem W1 {d:Deed} {B:Int} (h:d.big <= B):d.Bd B /\ 0 < B:=by
 obtain ⟨a,lo,hi⟩:=d
 have h':(a.natAbs:Int) + optA lo + optA hi + 1 <= B:=h
 have n1:=vK lo
 have n2:=vK hi
 refine ⟨⟨⟨?_,?_⟩,fun l e=>?_,fun u e=>?_⟩,by omega⟩
 ·show -B <= a; omega
 ·show a <= B; omega
 ·have e':lo = some l:=e
  subst e'
  have:optA (some l) = (l.natAbs:Int):=rfl
  omega
 ·have e':hi = some u:=e
  subst e'
  have:optA (some u) = (u.natAbs:Int):=rfl
  omega
theorem W2 (l r:Int):(if l > r then l else r) = max l r:=by
 split <;> omega
theorem W3 (h r:Int):(if h < r then h else r) = min h r:=by
 split <;> omega
theorem ur {a a' l u:Int} (c:l < u) (h:∀ v,(Deed.mk a (some l) (some u)).mk' v = (Deed.mk a' (some l) (some u)).mk' v):a' <= a:=by
 have m:=h (l - a)
 rw [rO,rO,W2,W3,W2,W3,show l - a + a = l by omega,Int.max_self,Int.min_eq_right (Int.le_of_lt c)] at m
 rcases Int.lt_or_le a a' with d | d
 ·exfalso
  rw [Int.max_eq_right (show l <= l - a + a' by omega)] at m
  rcases Int.le_total u (l - a + a') with z | z
  ·rw [Int.min_eq_left z] at m; omega
  ·rw [Int.min_eq_right z] at m; omega
 ·exact d
theorem Uw {a a' l u:Int} (od:Deed.Ok ⟨a,some l,some u⟩) (oe:Deed.Ok ⟨a',some l,some u⟩) (h:∀ v,(Deed.mk a (some l) (some u)).mk' v = (Deed.mk a' (some l) (some u)).mk' v):a = a':=by
 rcases wc od with c | c
 ·exact Int.le_antisymm (ur c fun v=>(h v).symm) (ur c h)
 ·rcases wc oe with d | d
  ·exact Int.le_antisymm (ur d fun v=>(h v).symm) (ur d h)
  ·rw [c.2,d.2]
theorem vl {d e:Deed} (od:d.Ok) (oe:e.Ok) (h:∀ v,d.mk' v = e.mk' v):d = e:=by
  have n1:=vK d.lo
  have n2:=vK d.hi
  have n3:=vK e.lo
  have n4:=vK e.hi
  have k1:1 <= d.big:=by unfold Deed.big; omega
  have k2:1 <= e.big:=by unfold Deed.big; omega
  obtain ⟨bd,hB⟩:=W1 (d:=d) (B:=d.big + e.big) (by omega)
  obtain ⟨be,hB2⟩:=W1 (d:=e) (B:=d.big + e.big) (by omega)
  generalize d.big + e.big = B at bd be hB
  have l1:=(Za od bd (v:=-(4 * B)) (Int.le_refl _) hB).symm.trans ((h _).trans (Za oe be (Int.le_refl _) hB))
  have l2:=(Za od bd (v:=-(4 * B) - 1) (by omega) hB).symm.trans ((h _).trans (Za oe be (by omega) hB))
  have h1:=(X5 od bd (v:=4 * B) (Int.le_refl _) hB).symm.trans ((h _).trans (X5 oe be (Int.le_refl _) hB))
  have h2:=(X5 od bd (v:=4 * B + 1) (by omega) hB).symm.trans ((h _).trans (X5 oe be (by omega) hB))
  obtain ⟨a,lo,hi⟩:=d
  obtain ⟨a',lo',hi'⟩:=e
  cases lo <;> cases lo' <;> cases hi <;> cases hi' <;> simp only at l1 l2 h1 h2 <;> first
    | (exfalso; omega)
    | (have:a = a':=by omega
       subst this
       first | rfl | (have z:=h1; subst z; rfl) | (have z:=l1; subst z; rfl))
    | skip
  cases l1
  cases h1
  rw [Uw od oe h]
theorem qZ {a:Int} {lo hi:Option Int} (h:∀ l u,lo = some l -> hi = some u -> l <= u):(wZ a lo hi).Ok:=by
 unfold wZ
 split
 ·rename_i c
  intro l u e1 e2
  have e1':lo = some l:=e1
  have e2':hi = some u:=e2
  right
  refine ⟨?_,rfl⟩
  have:=c.2
  rw [e1',e2'] at this
  exact Option.some.inj this
 ·rename_i c
  intro l u e1 e2
  have e1':lo = some l:=e1
  have e2':hi = some u:=e2
  left
  have:=h l u e1' e2'
  have ne:l ≠ u:=fun z=>c ⟨by rw [e1']; simp,by rw [e1',e2',z]⟩
  omega
theorem sx {a:Int} {lo hi:Option Int} (v:Int):(wZ a lo hi).mk' v = (Deed.mk a lo hi).mk' v:=by
 unfold wZ
 split
 ·rename_i c
  obtain ⟨c1,c2⟩:=c
  subst c2
  cases lo with
  | none=>exact absurd rfl c1
  | some l =>
   rw [rO,rO]
   split <;> split <;> split <;> (try split) <;> omega
 ·rfl
theorem xf (l r:Int):zW (some l) r = max l r:=by
 show (if l > r then l else r) = _
 split <;> omega
theorem yN (h r:Int):zX (some h) r = min h r:=by
 show (if h < r then h else r) = _
 split <;> omega
theorem xI (r:Int):zW none r = r:=rfl
theorem xJ (r:Int):zX none r = r:=rfl
theorem Zb {l x y:Int} (h:x <= y):max l x <= max l y:=by omega
theorem Zc {l x y:Int} (h:x <= y):min l x <= min l y:=by omega
theorem wp {d:Deed} {v w:Int} (h:v <= w):d.mk' v <= d.mk' w:=by
 obtain ⟨a,lo,hi⟩:=d
 have h':v + a <= w + a:=Int.add_le_add_right h a
 cases lo with
 | none =>
  cases hi with
  | none=>exact h'
  | some u=>simp only [Deed.mk',yN,xI]; exact Zc h'
 | some l =>
  cases hi with
  | none=>simp only [Deed.mk',xf,xJ]; exact Zb h'
  | some u=>simp only [Deed.mk',xf,yN]; exact Zc (Zb h')
theorem yu {d e:Deed} (od:d.Ok) (oe:e.Ok):(zV d e).Ok:=by
 refine qZ fun l u e1 e2=>?_
 obtain ⟨a,lo,hi⟩:=d
 obtain ⟨a',lo',hi'⟩:=e
 cases lo with
 | none =>
  have e1':lo' = some l:=e1
  subst e1'
  cases hi with
  | none =>
   have e2':hi' = some u:=e2
   subst e2'
   have:=wc oe; omega
  | some h =>
   have e2':(Deed.mk a' (some l) hi').mk' h = u:=Option.some.inj e2
   subst e2'
   cases hi' with
   | none=>rw [Vt]; split <;> omega
   | some h' =>
    have:=wc oe
    rw [rO]; (repeat' split) <;> omega
 | some l0 =>
  have e1':(Deed.mk a' lo' hi').mk' l0 = l:=Option.some.inj e1
  subst e1'
  cases hi with
  | none =>
   have e2':hi' = some u:=e2
   subst e2'
   cases lo' with
   | none=>rw [Vu]; split <;> omega
   | some l' =>
    have:=wc oe
    rw [rO]; (repeat' split) <;> omega
  | some h =>
   have e2':(Deed.mk a' lo' hi').mk' h = u:=Option.some.inj e2
   subst e2'
   have:=wc od
   exact wp (by omega)
theorem W4 {d:Deed} (x y:Int):d.mk' (max x y) = max (d.mk' x) (d.mk' y):=by
 rcases Int.le_total x y with h | h
 ·rw [Int.max_eq_right h,Int.max_eq_right (wp h)]
 ·rw [Int.max_eq_left h,Int.max_eq_left (wp h)]
theorem W5 {d:Deed} (x y:Int):d.mk' (min x y) = min (d.mk' x) (d.mk' y):=by
 rcases Int.le_total x y with h | h
 ·rw [Int.min_eq_left h,Int.min_eq_left (wp h)]
 ·rw [Int.min_eq_right h,Int.min_eq_right (wp h)]
theorem Ti {F m W:Int} (h:m <= F):max F W = max F (max m W):=by omega
theorem Tj {F u L:Int} (h:F <= u):min F L = min F (min u L):=by omega
theorem mm_x {F u W:Int} (h:F <= u):min u (max F W) = max F (min u W):=by omega
theorem Tk {F G C W:Int} (h:C = W \/ (W < C /\ C <= F) \/ (C < W /\ F <= C /\ G <= C)):min G (max F W) = min G (max F C):=by
 rcases h with rfl | ⟨h1,h2⟩ | ⟨h1,h2,h3⟩
 ·rfl
 ·rw [Int.max_eq_left h2,Int.max_eq_left (Int.le_trans (Int.le_of_lt h1) h2)]
 ·rw [Int.max_eq_right h2,Int.max_eq_right (Int.le_trans h2 (Int.le_of_lt h1)),Int.min_eq_left h3,Int.min_eq_left (Int.le_trans h3 (Int.le_of_lt h1))]
theorem Ux {a:Int} {lo hi:Option Int} (o:∀ l h,lo = some l -> hi = some h -> l <= h) (W:Int) :
  zX hi (zW lo W) = W \/ (W < zX hi (zW lo W) /\ ∀ x,zX hi (zW lo W) <= (Deed.mk a lo hi).mk' x) \/ (zX hi (zW lo W) < W /\ ∀ x,(Deed.mk a lo hi).mk' x <= zX hi (zW lo W)):=by
 cases lo with
 | none =>
  cases hi with
  | none=>exact .inl rfl
  | some h =>
   simp only [Deed.mk',yN,xI]
   rcases Int.le_total W h with c | c
   ·exact .inl (Int.min_eq_right c)
   ·rw [Int.min_eq_left c]
    rcases Int.lt_or_eq_of_le c with d | d
    ·exact .inr (.inr ⟨d,fun x=>Int.min_le_left _ _⟩)
    ·exact .inl d
 | some l =>
  cases hi with
  | none =>
   simp only [Deed.mk',xf,xJ]
   rcases Int.le_total l W with c | c
   ·exact .inl (Int.max_eq_right c)
   ·rw [Int.max_eq_left c]
    rcases Int.lt_or_eq_of_le c with d | d
    ·exact .inr (.inl ⟨d,fun x=>Int.le_max_left _ _⟩)
    ·exact .inl d.symm
  | some h =>
   have lh:=o l h rfl rfl
   simp only [Deed.mk',xf,yN]
   rcases Int.lt_or_le W l with c | c
   ·rw [Int.max_eq_left (Int.le_of_lt c),Int.min_eq_right lh]
    exact .inr (.inl ⟨c,fun x=>Int.le_min.mpr ⟨lh,Int.le_max_left _ _⟩⟩)
   ·rw [Int.max_eq_right c]
    rcases Int.lt_or_le h W with d | d
    ·rw [Int.min_eq_left (Int.le_of_lt d)]
     exact .inr (.inr ⟨d,fun x=>Int.min_le_left _ _⟩)
    ·exact .inl (Int.min_eq_right d)
theorem yV {d e:Deed} (od:d.Ok) (oe:e.Ok) (v:Int):(zV d e).mk' v = e.mk' (d.mk' v):=by
 unfold zV
 rw [sx]
 obtain ⟨a,lo,hi⟩:=d
 obtain ⟨a',lo',hi'⟩:=e
 have q2:∀ l h,lo' = some l -> hi' = some h -> l <= h:=fun l h e1 e2=>by
  subst e1 e2
  rcases wc oe with z | z
  ·exact Int.le_of_lt z
  ·exact Int.le_of_eq z.1
 have ew:v + (a + a') = v + a + a':=(Int.add_assoc v a a').symm
 have ef:∀ w,(Deed.mk a' lo' hi').mk' w = zX hi' (zW lo' (w + a')):=fun _=>rfl
 have fu:∀ u,hi' = some u -> ∀ w,(Deed.mk a' lo' hi').mk' w <= u:=fun u e w=>by
  rw [ef,e,yN]; exact Int.min_le_left _ _
 have fm:∀ m,lo' = some m -> ∀ w,m <= (Deed.mk a' lo' hi').mk' w:=fun m e w=>by
  rw [ef,e,xf]
  cases hi' with
  | none=>exact Int.le_max_left _ _
  | some h=>rw [yN]; exact Int.le_min.mpr ⟨q2 m h e rfl,Int.le_max_left _ _⟩
 cases lo with
 | none =>
  cases hi with
  | none =>
   show zX hi' (zW lo' (v + (a + a'))) = zX hi' (zW lo' (v + a + a'))
   rw [ew]
  | some h =>
   show zX (some ((Deed.mk a' lo' hi').mk' h)) (zW lo' (v + (a + a'))) = (Deed.mk a' lo' hi').mk' (zX (some h) (v + a))
   rw [yN,yN,W5,ew,ef (v + a)]
   cases hi' with
   | none=>rfl
   | some u=>rw [yN u]; exact Tj (fu u rfl h)
 | some l =>
  cases hi with
  | none =>
   show zX hi' (zW (some ((Deed.mk a' lo' hi').mk' l)) (v + (a + a'))) = (Deed.mk a' lo' hi').mk' (zW (some l) (v + a))
   rw [xf,xf,W4,ew,ef (v + a)]
   have g:max ((Deed.mk a' lo' hi').mk' l) (v + a + a') = max ((Deed.mk a' lo' hi').mk' l) (zW lo' (v + a + a')):=by
    cases lo' with
    | none=>rfl
    | some m=>rw [xf]; exact Ti (fm m rfl l)
   rw [g]
   cases hi' with
   | none=>rfl
   | some u=>rw [yN,yN]; exact mm_x (fu u rfl l)
  | some h =>
   show zX (some ((Deed.mk a' lo' hi').mk' h)) (zW (some ((Deed.mk a' lo' hi').mk' l)) (v + (a + a'))) = (Deed.mk a' lo' hi').mk' (zX (some h) (zW (some l) (v + a)))
   rw [yN,xf,yN,xf,W5,W4,ew,ef (v + a)]
   refine Tk ?_
   rcases Ux (a:=a') q2 (v + a + a') with z | z | z
   ·exact .inl z
   ·exact .inr (.inl ⟨z.1,z.2 l⟩)
   ·exact .inr (.inr ⟨z.1,z.2 l,z.2 h⟩)
theorem q9 {a b c:Deed} (oa:a.Ok) (ob:b.Ok) (oc:c.Ok):zV (zV a b) c = zV a (zV b c) :=
 vl (yu (yu oa ob) oc) (yu oa (yu ob oc)) fun v=>by
  rw [yV (yu oa ob) oc,yV oa ob,yV oa (yu ob oc),yV ob oc]
theorem w4 (v:Int):(Deed.mk 0 none none).mk' v = v:=by rw [Th]; omega
theorem tP {a:Deed} (oa:a.Ok):zV a ⟨0,none,none⟩ = a :=
 vl (yu oa xQ) oa fun v=>by rw [yV oa xQ,w4]
theorem vL {a:Deed} (oa:a.Ok):zV ⟨0,none,none⟩ a = a :=
 vl (yu xQ oa) oa fun v=>by rw [yV xQ oa,w4]
theorem Deed.Sm.bd {d:Deed} (h:d.Sm):d.Bd (10 ^ 30):=by
 obtain ⟨⟨a1,a2⟩,h1,h2⟩:=h
 exact ⟨⟨by omega,by omega⟩,fun l e=>by have:=h1 l e; exact ⟨by have:=this.1; omega,by have:=this.2; omega⟩,fun l e=>by have:=h2 l e; exact ⟨by have:=this.1; omega,by have:=this.2; omega⟩⟩
theorem Vv {σ:L2.St} {H:Hp} {A B:Hp -> Prop} (h:A H):qY σ H (fun b H4=>if b = true then A H4 else B H4):=by
 show if true = true then A H else B H
 rw [if_pos rfl]; exact h
theorem z9 {c:Bool} {A B:Prop} (e:c = false) (h:B):if c = true then A else B:=by rw [e]; exact iteF h
theorem yq {c:Bool} {A B:Prop} (e:c = true) (h:A):if c = true then A else B:=by rw [e]; exact iteT h
theorem sy {K:FG7} {a:Addr} {xs:List V} {g:TG} {tt:TT} {te:TE} {Q:VK} {σ:L2.St} {H:Hp} (Pv:Nat -> List V -> L2.St -> Hp -> Prop) (h0:Pv 0 [] σ H) (hl:∀ i ys σ H,i <= xs.length -> Pv i ys σ H -> SqT K H a xs)
  (hs:∀ i x ys σ H,xs[i]? = some x -> Pv i ys σ H -> g x σ H fun σ2 H3=>tt σ2 H3 fun b H4=>if b = true then te σ2 H4 fun y H5=>ys.length < sizeLine /\ Pv (i + 1) (ys ++ [y]) σ2 H5 else Pv (i + 1) ys σ2 H4)
  (hd:∀ ys σ H,Pv xs.length ys σ H -> ∀ l,H l = none -> Q (.ref l) (upd H l (.lst ys))) :
  vk (Itt K a) σ H g tt te Q:=by
 refine ⟨fun i m ys σ H=>m = xs.length - i /\ i <= xs.length /\ Pv i ys σ H,⟨xs.length,by simp,Nat.zero_le _,h0⟩,?_⟩
 rintro i m ys σ H ⟨rfl,hi,p⟩
 have q:=hl i ys σ H hi p
 by_cases hlt:i < xs.length
 ·refine .inr ⟨⟨xs,xs[i],q,by simp [hlt]⟩,Pv (i + 1),fun zs σ' H' p'=>⟨xs.length - (i + 1),by omega,rfl,hlt,p'⟩,fun x H' y=>?_⟩
  obtain ⟨e,y⟩:=y
  subst e
  exact hs i x ys σ _ (y xs q) p
 ·have e:i = xs.length:=by omega
  subst e
  exact .inl ⟨⟨xs,q,Nat.le_refl _⟩,hd ys σ H p⟩
theorem YF {K:FG7} {a:Addr} {xs:List V} {g:TG} {tt:TT} {te:TE} {Q:VK} {σ:L2.St} {H:Hp} (Pv:Nat -> List V -> L2.St -> Hp -> Prop) (h0:Pv 0 [] σ H) (hl:∀ i ys σ H,i <= xs.length -> Pv i ys σ H -> SqL K H a xs)
  (hs:∀ i x ys σ H,xs[i]? = some x -> Pv i ys σ H -> g x σ H fun σ2 H3=>tt σ2 H3 fun b H4=>if b = true then te σ2 H4 fun y H5=>ys.length < sizeLine /\ Pv (i + 1) (ys ++ [y]) σ2 H5 else Pv (i + 1) ys σ2 H4)
  (hd:∀ ys σ H,Pv xs.length ys σ H -> ∀ l,H l = none -> Q (.ref l) (upd H l (.lst ys))) :
  vk (Itl K a) σ H g tt te Q:=by
 refine ⟨fun i m ys σ H=>m = xs.length - i /\ i <= xs.length /\ Pv i ys σ H,⟨xs.length,by simp,Nat.zero_le _,h0⟩,?_⟩
 rintro i m ys σ H ⟨rfl,hi,p⟩
 have q:=hl i ys σ H hi p
 by_cases hlt:i < xs.length
 ·refine .inr ⟨⟨xs,xs[i],q,by simp [hlt]⟩,Pv (i + 1),fun zs σ' H' p'=>⟨xs.length - (i + 1),by omega,rfl,hlt,p'⟩,fun x H' y=>?_⟩
  obtain ⟨e,y⟩:=y
  subst e
  exact hs i x ys σ _ (y xs q) p
 ·have e:i = xs.length:=by omega
  subst e
  exact .inl ⟨⟨xs,q,Nat.le_refl _⟩,hd ys σ H p⟩
theorem ja {X:Cx} {K:FG7} (h:X.K = K):IxR X (rIxT K):=by subst h; exact zJ
theorem ut {X:Cx} {K:FG7} (h:X.K = K):IxR X (rIxL K):=by subst h; exact yy
theorem Uy {a:Int} {hi:Option Int}:wZ a none hi = ⟨a,none,hi⟩:=by simp [wZ]
theorem Uz {a l:Int}:wZ a (some l) (some l) = ⟨0,some l,some l⟩:=by simp [wZ]
theorem W6 {a l:Int} {hi:Option Int} (h:some l ≠ hi):wZ a (some l) hi = ⟨a,some l,hi⟩:=by simp [wZ,h]
def jb (_:FG7):Sp:=sp3 fun x y z H Q=>∃ a lo hi,x = .int a /\ y = ov lo /\ z = ov hi /\ ∀ t,H t = none -> Q (.ref t) (upd H t (.tup (wZ a lo hi).vs))
def vm (K:FG7):Sp:=sp2 fun x y H Q=>∃ d e,zE K H x d /\ zE K H y e /\ ∀ t,H t = none -> Q (.ref t) (upd H t (.tup (zV d e).vs))
theorem Deed.Bd.mono {d:Deed} {B C:Int} (b:d.Bd B) (h:B <= C):d.Bd C:=by
 obtain ⟨⟨b1,b2⟩,b3,b4⟩:=b
 exact ⟨⟨by omega,by omega⟩,fun l e=>by have:=b3 l e; omega,fun l e=>by have:=b4 l e; omega⟩
def powD (d:Deed):Nat -> Deed
 | 0=>⟨0,none,none⟩
 | n + 1=>zV (powD d n) d
theorem jc {d:Deed} (o:d.Ok):∀ n,(powD d n).Ok
 | 0=>xQ
 | n + 1=>yu (jc o n) o
theorem X6 {d:Deed} (o:d.Ok):powD d 1 = d:=vL o
theorem sA {d:Deed} (o:d.Ok) (n:Nat) (v:Int):(powD d (n + 1)).mk' v = d.mk' ((powD d n).mk' v):=yV (jc o n) o v
def v4 (d:Deed) (P:Int) (o:Option Int):Option Int:=match o with
 | none=>none
 | some l=>some ((Deed.mk 0 d.lo d.hi).mk' (l + P))
def xp (d:Deed) (m:Int):Deed:=if m = 0 then ⟨0,none,none⟩ else wZ (d.add * m) (v4 d (d.add * (m - 1)) d.lo) (v4 d (d.add * (m - 1)) d.hi)
theorem Vw {a:Int} {lo hi:Option Int} (h:∀ l u,lo = some l -> hi = some u -> l <= u):(wZ a lo hi).Ok:=by
 unfold wZ
 split
 ·rename_i c
  intro l u e1 e2
  have e1':lo = some l:=e1
  have e2':hi = some u:=e2
  right
  rw [e1',e2'] at c
  exact ⟨Option.some.inj c.2,rfl⟩
 ·rename_i c
  intro l u e1 e2
  have e1':lo = some l:=e1
  have e2':hi = some u:=e2
  left
  have:=h l u e1' e2'
  by_cases z:l = u
  ·exact absurd ⟨by rw [e1']; simp,by rw [e1',e2',z]⟩ c
  ·omega
theorem uM {d:Deed} (o:d.Ok) (m:Int):(xp d m).Ok:=by
 unfold xp
 split
 ·exact xQ
 ·refine Vw fun l u e1 e2=>?_
  generalize d.add * (m - 1) = P at e1 e2
  obtain ⟨a,lo,hi⟩:=d
  cases lo with
  | none=>cases e1
  | some l0 =>
   cases hi with
   | none=>cases e2
   | some u0 =>
    have q:=wc o
    have e1':=Option.some.inj e1
    have e2':=Option.some.inj e2
    subst e1' e2'
    simp only [Deed.mk',xf,yN]
    omega
theorem YG {l x y:Int}:min (max l x) (max l y) = max l (min x y):=by
 rcases Int.le_total x y with h | h
 ·rw [Int.min_eq_left h,Int.min_eq_left (by omega)]
 ·rw [Int.min_eq_right h,Int.min_eq_right (by omega)]
theorem mm_1 {h x y:Int}:min h (max (min h x) y) = min h (max x y):=by
 rcases Int.le_total x h with c | c
 ·rw [Int.min_eq_right c]
 ·rw [Int.min_eq_left c,Int.min_eq_left (Int.le_max_left _ _),Int.min_eq_left (Int.le_trans c (Int.le_max_left _ _))]
theorem mm_2 {h a z:Int} (p:0 <= a):min h (min h z + a) = min h (z + a):=by
 rcases Int.le_total z h with c | c
 ·rw [Int.min_eq_right c]
 ·rw [Int.min_eq_left c,Int.min_eq_left (by omega),Int.min_eq_left (by omega)]
theorem mm_3 {x y a:Int}:max (x + a) (y + a) = max x y + a:=by
 rcases Int.le_total x y with c | c
 ·rw [Int.max_eq_right c,Int.max_eq_right (by omega)]
 ·rw [Int.max_eq_left c,Int.max_eq_left (by omega)]
theorem mm_4 {x y a:Int}:min (x + a) (y + a) = min x y + a:=by
 rcases Int.le_total x y with c | c
 ·rw [Int.min_eq_left c,Int.min_eq_left (by omega)]
 ·rw [Int.min_eq_right c,Int.min_eq_right (by omega)]
theorem mm_5 {l a z:Int} (p:a <= 0):max l (max l z + a) = max l (z + a):=by
 rcases Int.le_total l z with c | c
 ·rw [Int.max_eq_right c]
 ·rw [Int.max_eq_left c,Int.max_eq_left (by omega),Int.max_eq_left (by omega)]
theorem Vx {a l h P v:Int} (q:l <= h) (s:(0 <= a /\ 0 <= P) \/ (a <= 0 /\ P <= 0)):min (min h (max l (h + (P + a) + 0))) (max (min h (max l (l + (P + a) + 0))) (v + (P + a + a))) = min h (max l (min (min h (max l (h + P + 0))) (max (min h (max l (l + P + 0))) (v + (P + a))) + a)):=by
 rcases s with ⟨s1,s2⟩ | ⟨s1,s2⟩
 ·have e1:min h (max l (h + (P + a) + 0)) = h:=Int.min_eq_left (Int.le_trans (show h <= h + (P + a) + 0 by omega) (Int.le_max_right _ _))
  have e2:min h (max l (h + P + 0)) = h:=Int.min_eq_left (Int.le_trans (show h <= h + P + 0 by omega) (Int.le_max_right _ _))
  have e3:max l (l + (P + a) + 0) = l + P + a:=by rw [Int.max_eq_right (by omega)]; omega
  have e4:max l (l + P + 0) = l + P:=by rw [Int.max_eq_right (by omega)]; omega
  rw [e1,e2,e3,e4]
  clear e1 e2 e3 e4
  rw [show v + (P + a + a) = v + (P + a) + a by omega,mm_1,mm_3,mm_1]
  have g1:l <= min h (max (l + P) (v + (P + a))) + a:=by
   have:l <= min h (max (l + P) (v + (P + a))):=Int.le_min.mpr ⟨q,Int.le_trans (by omega) (Int.le_max_left _ _)⟩
   omega
  rw [Int.max_eq_right g1,mm_2 s1]
 ·have e1:min h (max l (h + (P + a) + 0)) = max l (h + P + a):=by
   rw [show h + (P + a) + 0 = h + P + a by omega]
   exact Int.min_eq_right (Int.max_le.mpr ⟨q,by omega⟩)
  have e2:min h (max l (h + P + 0)) = max l (h + P):=by
   rw [show h + P + 0 = h + P by omega]
   exact Int.min_eq_right (Int.max_le.mpr ⟨q,by omega⟩)
  have e3:min h (max l (l + (P + a) + 0)) = l:=by
   rw [Int.max_eq_left (by omega)]; exact Int.min_eq_right q
  have e4:min h (max l (l + P + 0)) = l:=by
   rw [Int.max_eq_left (by omega)]; exact Int.min_eq_right q
  rw [e1,e2,e3,e4]
  clear e1 e2 e3 e4
  rw [YG,YG,show v + (P + a + a) = v + (P + a) + a by omega,mm_4,mm_5 s1]
  have f3:min (h + P) (v + (P + a)) <= h + P:=Int.min_le_left _ _
  exact (Int.min_eq_right (Int.max_le.mpr ⟨q,by omega⟩)).symm
theorem Vy {a h P v:Int} (s:(0 <= a /\ 0 <= P) \/ (a <= 0 /\ P <= 0)):min (min h (h + (P + a) + 0)) (v + (P + a + a)) = min h (min (min h (h + P + 0)) (v + (P + a)) + a):=by
 rcases s with ⟨s1,s2⟩ | ⟨s1,s2⟩
 ·rw [Int.min_eq_left (show h <= h + (P + a) + 0 by omega),Int.min_eq_left (show h <= h + P + 0 by omega),mm_2 s1,show v + (P + a + a) = v + (P + a) + a by omega]
 ·rw [Int.min_eq_right (show h + (P + a) + 0 <= h by omega),Int.min_eq_right (show h + P + 0 <= h by omega),show v + (P + a + a) = v + (P + a) + a by omega,show h + (P + a) + 0 = h + P + 0 + a by omega,mm_4]
  have:min (h + P + 0) (v + (P + a)) <= h + P + 0:=Int.min_le_left _ _
  exact (Int.min_eq_right (by omega)).symm
theorem Vz {a l P v:Int} (s:(0 <= a /\ 0 <= P) \/ (a <= 0 /\ P <= 0)):max (max l (l + (P + a) + 0)) (v + (P + a + a)) = max l (max (max l (l + P + 0)) (v + (P + a)) + a):=by
 rcases s with ⟨s1,s2⟩ | ⟨s1,s2⟩
 ·rw [Int.max_eq_right (show l <= l + (P + a) + 0 by omega),Int.max_eq_right (show l <= l + P + 0 by omega),show v + (P + a + a) = v + (P + a) + a by omega,show l + (P + a) + 0 = l + P + 0 + a by omega,mm_3]
  have:l + P + 0 <= max (l + P + 0) (v + (P + a)):=Int.le_max_left _ _
  exact (Int.max_eq_right (by omega)).symm
 ·rw [Int.max_eq_left (show l + (P + a) + 0 <= l by omega),Int.max_eq_left (show l + P + 0 <= l by omega),mm_5 s1,show v + (P + a + a) = v + (P + a) + a by omega]
theorem tD {d:Deed} (o:d.Ok) {m:Int} (hm:1 <= m) (v:Int):(xp d (m + 1)).mk' v = d.mk' ((xp d m).mk' v):=by
 unfold xp
 rw [if_neg (by omega),if_neg (by omega),sx,sx]
 have e1:m + 1 - 1 = m:=by omega
 have e2:d.add * m = d.add * (m - 1) + d.add:=by
  have:d.add * m = d.add * ((m - 1) + 1):=by congr 1; omega
  rw [this,Int.mul_add,Int.mul_one]
 have e3:d.add * (m + 1) = d.add * (m - 1) + d.add + d.add:=by rw [Int.mul_add,Int.mul_one,e2]
 have s1:0 <= d.add -> 0 <= d.add * (m - 1):=fun h=>Int.mul_nonneg h (by omega)
 have s2:d.add <= 0 -> d.add * (m - 1) <= 0:=fun h=>Int.mul_nonpos_of_nonpos_of_nonneg h (by omega)
 rw [e1,e3,e2]
 generalize d.add * (m - 1) = P at s1 s2
 obtain ⟨a,lo,hi⟩:=d
 have s1':0 <= a -> 0 <= P:=s1
 have s2':a <= 0 -> P <= 0:=s2
 clear s1 s2 e1 e2 e3
 have sg:(0 <= a /\ 0 <= P) \/ (a <= 0 /\ P <= 0):=by
  rcases Int.le_total 0 a with z | z
  ·exact .inl ⟨z,s1' z⟩
  ·exact .inr ⟨z,s2' z⟩
 cases lo with
 | none =>
  cases hi with
  | none=>show v + (P + a + a) = v + (P + a) + a; omega
  | some h =>
   simp only [v4,Deed.mk',xf,yN,xI,xJ]
   exact Vy sg
 | some l =>
  cases hi with
  | none =>
   simp only [v4,Deed.mk',xf,yN,xI,xJ]
   exact Vz sg
  | some h =>
   have r1:=wc o
   simp only [v4,Deed.mk',xf,yN]
   exact Vx (by omega) sg
theorem ZM {d:Deed} (o:d.Ok):xp d 1 = d:=by
 refine vl (uM o 1) o fun v=>?_
 unfold xp
 rw [if_neg (by decide),sx]
 rw [Int.mul_one,show (1:Int) - 1 = 0 from rfl,Int.mul_zero]
 obtain ⟨a,lo,hi⟩:=d
 cases lo with
 | none =>
  cases hi with
  | none=>rfl
  | some h=>simp only [v4,Deed.mk',xf,yN,xI,xJ,Int.add_zero,Int.min_self]
 | some l =>
  cases hi with
  | none=>simp only [v4,Deed.mk',xf,yN,xI,xJ,Int.add_zero,Int.max_self]
  | some h =>
   have r:l <= h:=by
    rcases wc o with z | z
    ·exact Int.le_of_lt z
    ·exact Int.le_of_eq z.1
   simp only [v4,Deed.mk',xf,yN,Int.add_zero,Int.max_self,Int.max_eq_right r,Int.min_self,Int.min_eq_right r]
theorem tQ {d:Deed} (o:d.Ok):∀ n:Nat,xp d n = powD d n
 | 0=>rfl
 | 1=>(ZM o).trans (X6 o).symm
 | n + 2=>vl (uM o _) (jc o _) fun v=>by
  have e:((n + 2:Nat):Int) = ((n + 1:Nat):Int) + 1:=by omega
  rw [e,tD o (by omega),tQ o (n + 1),sA o (n + 1)]
theorem VA {i j:Int}:eqV (.int i) (.int j) = decide (i = j):=by rw [Bool.eq_iff_iff]; simp [eqV]
theorem xK:∀ {xs ys:List Int},eqVs (xs.map V.int) (ys.map V.int) = decide (xs = ys)
 | [],[]=>rfl
 | x :: xs,y :: ys=>by
  show (eqV (.int x) (.int y) && eqVs (xs.map V.int) (ys.map V.int)) = _
  rw [VA,xK,Bool.eq_iff_iff]
  simp
 | [],_ :: _=>by simp [eqVs]
 | _ :: _,[]=>by simp [eqVs]
theorem yI {xs:List Int}:(xs.map V.int).all sm = true:=by
 rw [List.all_eq_true]; intro x hx; obtain ⟨i,_,rfl⟩:=List.mem_map.mp hx; rfl
theorem Grow.sqL {H H':Hp} (g:Grow [] H H') {K:FG7} {a:Addr} {xs:List V} (h:SqL K H a xs):SqL K H' a xs:=by
 rcases h with (h | ⟨o,h⟩) | h
 ·exact .inl (.inl (g.keep _ _ (by simp) h))
 ·exact .inl (.inr ⟨o,g.frz _ _ _ h⟩)
 ·exact .inr h
section
variable {K:FG7} {a:Addr} {xs:List V} {n:Nat} {tt:TT} {te:TE} {Q:VK} {σ:L2.St} {H:Hp}
theorem rP {p:V -> Bool} {f:V -> V} {i:Nat} {x:V} (hx:xs[i]? = some x):((xs.take (i + 1)).filter p).map f = ((xs.take i).filter p).map f ++ (if p x = true then [f x] else []):=by
 rw [List.take_add_one,hx,List.filter_append,List.map_append]
 congr 1
 show ((([x]:List V)).filter p).map f = _
 by_cases c:p x = true
 ·rw [if_pos c,List.filter_cons_of_pos c]; rfl
 ·rw [if_neg c,List.filter_cons_of_neg c]; rfl
theorem X7 {p:V -> Bool} {f:V -> V} {i:Nat} (h:xs.length <= 1000):(((xs.take i).filter p).map f).length < sizeLine:=by
 rw [List.length_map]
 refine zQ ?_
 have:=List.length_filter_le p (xs.take i)
 have:=List.length_take_le i xs
 have:(xs.take i).length <= xs.length:=by rw [List.length_take]; omega
 omega
theorem X8 {p:V -> Bool} {f:V -> V}:((xs.take xs.length).filter p).map f = (xs.filter p).map f:=by rw [List.take_length]
theorem ZN (p:V -> Bool) (f:V -> V) (hl:SqT K H a xs) (hlen:xs.length <= 1000)
  (ht:∀ x H' (R:Bool -> Hp -> Prop),x ∈ xs -> Grow [] H H' -> (∀ H2,Grow [] H' H2 -> R (p x) H2) -> tt (σ.set n (some x)) H' R)
  (hs:∀ x H' (R:VK),x ∈ xs -> p x = true -> Grow [] H H' -> (∀ H2,Grow [] H' H2 -> R (f x) H2) -> te (σ.set n (some x)) H' R)
  (hd:∀ H' l,Grow [] H H' -> H' l = none -> Q (.ref l) (upd H' l (.lst ((xs.filter p).map f)))):vk (Itt K a) σ H (uc n) tt te Q:=by
 refine sy (xs:=xs) (fun i ys σ' H'=>Grow [] H H' /\ (σ' = σ \/ ∃ e,σ' = σ.set n e) /\ ys = ((xs.take i).filter p).map f) ⟨Grow.refl _ _,.inl rfl,rfl⟩ ?_ ?_ ?_
 ·rintro i ys σ' H' _ ⟨g,_⟩
  exact g.sqT hl
 ·rintro i x ys σ' H' hx ⟨g,hσ,rfl⟩
  have e:σ'.set n (some x) = σ.set n (some x):=by
   rcases hσ with rfl | ⟨e,rfl⟩
   ·rfl
   ·rw [List.set_set]
  show tt (σ'.set n (some x)) H' _
  rw [e]
  refine ht x H' _ (List.mem_of_getElem? hx) g fun H2 g2=>?_
  by_cases c:p x = true
  ·rw [if_pos c]
   refine hs x H2 _ (List.mem_of_getElem? hx) c (g.trans g2) fun H3 g3=>⟨X7 hlen,(g.trans g2).trans g3,.inr ⟨_,rfl⟩,?_⟩
   rw [rP hx,if_pos c]
  ·rw [if_neg c]
   refine ⟨g.trans g2,.inr ⟨_,rfl⟩,?_⟩
   rw [rP hx,if_neg c,List.append_nil]
 ·rintro ys σ' H' ⟨g,_,rfl⟩ l hl
  rw [X8]
  exact hd H' l g hl
theorem X9 {p:V -> Bool} (h:∀ x,p x = true):xs.filter p = xs:=List.filter_eq_self.mpr fun x _=>h x
theorem yB (f:V -> V) (hl:SqT K H a xs) (hlen:xs.length <= 1000)
  (hs:∀ x H' (R:VK),x ∈ xs -> Grow [] H H' -> (∀ H2,Grow [] H' H2 -> R (f x) H2) -> te (σ.set n (some x)) H' R)
  (hd:∀ H' l,Grow [] H H' -> H' l = none -> Q (.ref l) (upd H' l (.lst (xs.map f)))):vk (Itt K a) σ H (uc n) qY te Q :=
 ZN (fun _=>true) f hl hlen (fun x H' R _ _ k=>k H' (Grow.refl _ _)) (fun x H' R hx _ g k=>hs x H' R hx g k) (fun H' l g hl=>by rw [X9 fun _=>rfl]; exact hd H' l g hl)
def vi (f:Int -> Int):V -> V
 | .int i=>.int (f i)
 | v=>v
end
theorem nd {d e:Deed} (h:d = e):(!decide (d = e)) = false:=by rw [decide_eq_true h]; rfl
def Zd (K:FG7):Sp:=sp2 fun x y H Q=>∃ d m,zE K H x d /\ d.Ok /\ y = .int m /\ 0 <= m /\ m < 2 ^ 200 /\ (-(2 ^ 200) < d.add /\ d.add < 2 ^ 200) /\ ∀ y H',Grow [] H H' -> zE K H' y (xp d m) -> Q y H'
mutual
inductive Dat (K:FG7) (H:Hp):V -> PyData -> Prop
 | non:Dat K H .non .none
 | bl (b:Bool):Dat K H (.bl b) (.bool b)
 | int (i:Int):Dat K H (.int i) (.int i)
 | tup {a:Addr} {xs:List V} {ds:List PyData}:SqT K H a xs -> DatAll K H xs ds -> Dat K H (.ref a) (.tuple ds)
 | lst {a:Addr} {xs:List V} {ds:List PyData}:SqL K H a xs -> DatAll K H xs ds -> Dat K H (.ref a) (.list ds)
inductive DatAll (K:FG7) (H:Hp):List V -> List PyData -> Prop
 | nil:DatAll K H [] []
 | cons {x:V} {xs:List V} {d:PyData} {ds:List PyData}:Dat K H x d -> DatAll K H xs ds -> DatAll K H (x :: xs) (d :: ds)
end
section
variable {X:Cx} {pins:List (Addr × Obj)} {σ:L2.St} {H:Hp} {s:Shared}
mutual
theorem Dat.reads (I:Inv X pins σ H s):∀ {x:V} {d:PyData} {u:Value},Dat X.K H x d -> RelV x u -> ∃ as,Reads s.heap u d as
 | _,_,u,.non,r=>by
  cases (show u = Value.none from r)
  exact ⟨_,.none⟩
 | _,_,u,.bl b,r=>by
  cases (show u = Value.bool b from r)
  exact ⟨_,.bool b⟩
 | _,_,u,.int i,r=>by
  obtain ⟨t,rfl⟩:=r
  exact ⟨_,.int i t⟩
 | _,_,u,.tup (a:=a) hs hd,r=>by
  cases (show u = Value.ref a from r)
  obtain ⟨its,r1,⟨o,e1,e2,n,e3⟩,_⟩:=I.tuple hs
  obtain ⟨as,q⟩:=DatAll.reads I hd r1
  exact ⟨_,.tuple e1 e2 e3 q⟩
 | _,_,u,.lst (a:=a) hs hd,r=>by
  cases (show u = Value.ref a from r)
  obtain ⟨its,r1,⟨o,n,e1,e2,_,e3⟩,_⟩:=I.list hs
  obtain ⟨as,q⟩:=DatAll.reads I hd r1
  exact ⟨_,.list e1 e2 e3 q⟩
theorem DatAll.reads (I:Inv X pins σ H s):∀ {xs:List V} {ds:List PyData} {us:List Value},DatAll X.K H xs ds -> Vals xs us -> ∃ as,ReadsAll s.heap us ds as
 | _,_,_,.nil,.nil=>⟨_,.nil⟩
 | _,_,_,.cons h t,.cons r rs=>by
  obtain ⟨as,q⟩:=Dat.reads I h r
  obtain ⟨bs,q2⟩:=DatAll.reads I t rs
  exact ⟨_,.cons q q2⟩
end
end
mutual
/-- a bound of the text's length -/
def wtD:PyData -> Nat
 | .list xs | .tuple xs=>wtAll xs + 3
 | .int _=>1921
 | .none | .bool _=>5
 | _=>20000000
def wtAll:List PyData -> Nat
 | []=>0
 | x :: xs=>wtD x + 2 + wtAll xs
end
mutual
theorem shown_wt:∀ {d:PyData},d.showable = true -> d.hasDict = false -> wtD d <= 16777216 -> d.shown.length <= wtD d
 | .none,_,_,_=>by decide
 | .bool b,_,_,_=>by cases b <;> decide
 | .int i,h,_,_=>int_text_len_1921 (of_decide_eq_true h)
 | .str _,_,_,z=>absurd (show 20000000 <= 16777216 from z) (by decide)
 | .list xs,h,h2,z=>by
  have z':wtAll xs + 3 <= 16777216:=z
  have q:=shown_wtAll (xs:=xs) h h2 (by omega)
  have l:=listText_len_le (PyData.shownAll xs)
  show (listText (PyData.shownAll xs)).length <= wtAll xs + 3
  omega
 | .tuple xs,h,h2,z=>by
  have z':wtAll xs + 3 <= 16777216:=z
  have q:=shown_wtAll (xs:=xs) h h2 (by omega)
  have l:=tupleText_len_le (PyData.shownAll xs)
  show (tupleText (PyData.shownAll xs)).length <= wtAll xs + 3
  omega
 | .dict _,_,h,_=>by cases h
theorem shown_wtAll:∀ {xs:List PyData},PyData.showableAll xs = true -> PyData.hasDictAll xs = false -> wtAll xs <= 16777216 -> ((PyData.shownAll xs).map (·.length)).sum + 2 * (PyData.shownAll xs).length <= wtAll xs
 | [],_,_,_=>by decide
 | x :: xs,h,h2,z=>by
  have h':(x.showable && PyData.showableAll xs) = true:=h
  have h2':(x.hasDict || PyData.hasDictAll xs) = false:=h2
  rw [Bool.and_eq_true] at h'
  rw [Bool.or_eq_false_iff] at h2'
  have z':wtD x + 2 + wtAll xs <= 16777216:=z
  have q1:=shown_wt (d:=x) h'.1 h2'.1 (by omega)
  have q2:=shown_wtAll (xs:=xs) h'.2 h2'.2 (by omega)
  show (x.shown.length :: (PyData.shownAll xs).map (·.length)).sum + 2 * ((PyData.shownAll xs).length + 1) <= wtD x + 2 + wtAll xs
  rw [List.sum_cons]
  omega
end
abbrev Span:=Option (Option Int × Option Int)
def rQ (K:FG7) (H:Hp) (x:V):Span -> Prop
 | none=>x = .non
 | some (l,h)=>∃ a,x = .ref a /\ SqT K H a [ov l,ov h]
def uN (o:Option Int):Span:=match o with
 | none=>none
 | some e=>some (some e,some e)
def vn (d:Deed):Span:=if d.add = 0 then some (d.lo,d.hi) else uN (if 0 < d.add then d.hi else d.lo)
def ltO (v:Int):Option Int -> Bool
 | none=>false
 | some l=>decide (v < l)
def gtO (v:Int):Option Int -> Bool
 | none=>false
 | some h=>decide (h < v)
def y0 (d:Deed) (v:Int):Span:=if ltO v d.lo = true then none else if gtO v d.hi = true then none else some (if d.lo = some v then none else some (v - d.add),if d.hi = some v then none else some (v - d.add))
theorem ye {ad v:Int} {lo hi L G:Option Int} (c1:¬ ltO v lo = true) (c2:¬ gtO v hi = true) (e1:(if lo = some v then none else some (v - ad)) = L) (e2:(if hi = some v then none else some (v - ad)) = G):y0 ⟨ad,lo,hi⟩ v = some (L,G):=by
 subst e1 e2
 exact (if_neg c1).trans (if_neg c2)
def inS:Span -> Int -> Bool
 | none,_=>false
 | some (l,h),v=>!(ltO v l) && !(gtO v h)
def I200 (i:Int):Prop:=-(2 ^ 300) < i /\ i < 2 ^ 300
theorem Tl {i:Int} (h:I200 i):RepI i:=by
 show i.natAbs.log2 < 1920
 by_cases h0:i.natAbs = 0
 ·rw [h0]; decide
 ·exact Nat.lt_of_lt_of_le ((Nat.log2_lt h0).mpr (show i.natAbs < 2 ^ 300 by obtain ⟨a,b⟩:=h; omega)) (by decide)
theorem Wa {d:Deed} (o:d.Ok) (v:Int):inS (vn d) v = decide (d.mk' v = v):=by
 rw [Bool.eq_iff_iff,decide_eq_true_iff]
 obtain ⟨a,lo,hi⟩:=d
 unfold vn
 by_cases h0:a = 0
 ·rw [if_pos (show (Deed.mk a lo hi).add = 0 from h0)]
  subst h0
  cases lo <;> cases hi <;> simp only [inS,ltO,gtO,Deed.mk',xf,yN,xI,xJ,Bool.and_eq_true,Bool.not_eq_true',decide_eq_false_iff_not,Bool.not_false,true_and,and_true,Bool.and_true,Bool.true_and] <;>
   (try have:=wc o) <;> first | omega | (simp; done) | (simp; omega)
 ·rw [if_neg (show ¬ (Deed.mk a lo hi).add = 0 from h0)]
  by_cases h1:0 < a
  ·rw [show (if 0 < (Deed.mk a lo hi).add then (Deed.mk a lo hi).hi else (Deed.mk a lo hi).lo) = hi from if_pos h1]
   cases lo <;> cases hi <;> simp only [uN,inS,ltO,gtO,Deed.mk',xf,yN,xI,xJ,Bool.and_eq_true,Bool.not_eq_true',decide_eq_false_iff_not,Bool.false_eq_true,false_iff] <;>
    (try have:=wc o) <;> omega
  ·rw [show (if 0 < (Deed.mk a lo hi).add then (Deed.mk a lo hi).hi else (Deed.mk a lo hi).lo) = lo from if_neg h1]
   cases lo <;> cases hi <;> simp only [uN,inS,ltO,gtO,Deed.mk',xf,yN,xI,xJ,Bool.and_eq_true,Bool.not_eq_true',decide_eq_false_iff_not,Bool.false_eq_true,false_iff] <;>
    (try have:=wc o) <;> omega
theorem Wb {d:Deed} (o:d.Ok) (w v:Int):inS (y0 d w) v = decide (d.mk' v = w):=by
 rw [Bool.eq_iff_iff,decide_eq_true_iff]
 obtain ⟨a,lo,hi⟩:=d
 unfold y0
 have key:∀ (P:Prop) [Decidable P] (x:Int) ,ltO v (if P then none else some x) = decide (¬ P /\ v < x):=fun P _ x=>by by_cases c:P <;> simp [c,ltO]
 have key2:∀ (P:Prop) [Decidable P] (x:Int) ,gtO v (if P then none else some x) = decide (¬ P /\ x < v):=fun P _ x=>by by_cases c:P <;> simp [c,gtO]
 by_cases c1:ltO w lo = true
 ·rw [if_pos (show ltO w (Deed.mk a lo hi).lo = true from c1)]
  cases lo with
  | none=>cases c1
  | some l =>
   have c1':w < l:=of_decide_eq_true c1
   cases hi <;> simp only [inS,Deed.mk',xf,yN,xI,xJ,Bool.false_eq_true,false_iff] <;> (try have:=wc o) <;> omega
 ·rw [if_neg (show ¬ ltO w (Deed.mk a lo hi).lo = true from c1)]
  by_cases c2:gtO w hi = true
  ·rw [if_pos (show gtO w (Deed.mk a lo hi).hi = true from c2)]
   cases hi with
   | none=>cases c2
   | some h =>
    have c2':h < w:=of_decide_eq_true c2
    cases lo <;> simp only [inS,Deed.mk',xf,yN,xI,xJ,Bool.false_eq_true,false_iff] <;> (try have:=wc o) <;> omega
  ·rw [if_neg (show ¬ gtO w (Deed.mk a lo hi).hi = true from c2)]
   simp only [inS,key,key2,Bool.and_eq_true,Bool.not_eq_true',decide_eq_false_iff_not]
   cases lo with
   | none =>
    cases hi with
    | none=>simp only [Deed.mk',xI,xJ]; simp; omega
    | some h =>
     have c2':¬ h < w:=fun z=>c2 (decide_eq_true z)
     simp only [Deed.mk',xI,yN]; simp; omega
   | some l =>
    have c1':¬ w < l:=fun z=>c1 (decide_eq_true z)
    cases hi with
    | none=>simp only [Deed.mk',xf,xJ]; simp; omega
    | some h =>
     have c2':¬ h < w:=fun z=>c2 (decide_eq_true z)
     have:=wc o
     simp only [Deed.mk',xf,yN]; simp; omega
def oD:Option Int -> PyData
 | none=>.none
 | some i=>.int i
def Tm:Span -> PyData
 | none=>.none
 | some (l,h)=>.tuple [oD l,oD h]
theorem Ze {K:FG7} {H:Hp} (o:Option Int):Dat K H (ov o) (oD o):=by cases o; exact .non; exact .int _
theorem rQ.dat {K:FG7} {H:Hp} {x:V} {sp:Span} (h:rQ K H x sp):Dat K H x (Tm sp):=by
 match sp,h with
 | none,h=>cases (show x = .non from h); exact .non
 | some (l,u),⟨a,e,q⟩=>subst e; exact .tup q (.cons (Ze l) (.cons (Ze u) .nil))
theorem y7 {α:Type} (xs:List α):(xs.map (fun _=>true)).all id = true:=by rw [List.all_eq_true]; intro x hx; obtain ⟨_,_,rfl⟩:=List.mem_map.mp hx; rfl
theorem sB (gs:List Int):(gs.map V.int).map (fun _=>V.bl true) = (gs.map (fun _=>true)).map V.bl:=by rw [List.map_map,List.map_map]; rfl
def Zf (K:FG7):Sp:=sp1 fun x H Q=>∃ d,zE K H x d /\ d.Ok /\ ∀ y H',Grow [] H H' -> rQ K H' y (vn d) -> Q y H'
def Zg (K:FG7):Sp:=sp2 fun x y H Q=>∃ d v,zE K H x d /\ d.Ok /\ y = .int v /\ ∀ y H',Grow [] H H' -> rQ K H' y (y0 d v) -> Q y H'
section
variable {K:FG7} {a:Addr} {xs:List V} {lo:Int} {n k:Nat} {te:TE} {Q:VK} {σ:L2.St} {H:Hp}
theorem uu (Pv:Nat -> List V -> Hp -> Prop) (h0:Pv 0 [] H)
  (hs:∀ i ys H',i < n -> Pv i ys H' -> te (σ.set k (some (.int (lo + i)))) H' fun y H5=>ys.length < sizeLine /\ Pv (i + 1) (ys ++ [y]) H5)
  (hd:∀ ys H',Pv n ys H' -> ∀ l,H' l = none -> Q (.ref l) (upd H' l (.lst ys))):vk (Itr lo n) σ H (uc k) qY te Q:=by
 refine ⟨fun i m ys σ' H'=>m = n - i /\ i <= n /\ (σ' = σ \/ ∃ e,σ' = σ.set k e) /\ Pv i ys H',⟨n,by simp,Nat.zero_le _,.inl rfl,h0⟩,?_⟩
 rintro i m ys σ' H' ⟨rfl,hi,hσ,p⟩
 by_cases hlt:i < n
 ·refine .inr ⟨hlt,fun zs σ2 H2=>(σ2 = σ \/ ∃ e,σ2 = σ.set k e) /\ Pv (i + 1) zs H2,fun zs σ2 H2 p'=>⟨n - (i + 1),by omega,rfl,hlt,p'.1,p'.2⟩,fun x H2 y=>?_⟩
  obtain ⟨e,y⟩:=y
  subst e y
  have e:σ'.set k (some (V.int (lo + i))) = σ.set k (some (V.int (lo + i))):=by
   rcases hσ with rfl | ⟨e,rfl⟩
   ·rfl
   ·rw [List.set_set]
  show if true = true then te (σ'.set k (some (V.int (lo + i)))) H2 (fun y H5=>ys.length < sizeLine /\ ((σ'.set k (some (V.int (lo + i))) = σ \/ ∃ e,σ'.set k (some (V.int (lo + i))) = σ.set k e) /\ Pv (i + 1) (ys ++ [y]) H5)) else ((σ'.set k (some (V.int (lo + i))) = σ \/ ∃ e,σ'.set k (some (V.int (lo + i))) = σ.set k e) /\ Pv (i + 1) ys H2)
  rw [if_pos rfl,e]
  have e2:(fun (y:V) (H5:Hp)=>ys.length < sizeLine /\ ((σ.set k (some (V.int (lo + i))) = σ \/ ∃ e,σ.set k (some (V.int (lo + i))) = σ.set k e) /\ Pv (i + 1) (ys ++ [y]) H5)) = fun y H5=>ys.length < sizeLine /\ Pv (i + 1) (ys ++ [y]) H5:=by
   funext y H5
   exact propext ⟨fun z=>⟨z.1,z.2.2⟩,fun z=>⟨z.1,.inr ⟨_,rfl⟩,z.2⟩⟩
  rw [e2]
  exact hs i ys H2 hlt p
 ·have e:i = n:=by omega
  subst e
  exact .inl ⟨Nat.le_refl _,hd ys H' p⟩
end
theorem Grow.fresh {m:List Addr} {H H':Hp} (h:∀ b ∈ m,H b = none) (g:Grow m H H'):Grow [] H H' :=
 ⟨fun b o _ q=>g.keep b o (fun z=>by rw [h b z] at q; cases q) q,g.tup,g.frz⟩
theorem Grow.less {m m':List Addr} {H H':Hp} (g:Grow m H H') (h:∀ b ∈ m,b ∈ m' \/ H b = none):Grow m' H H' :=
 ⟨fun b o n q=>g.keep b o (fun z=>by
  rcases h b z with w | w
  ·exact n w
  ·rw [w] at q; cases q) q,g.tup,g.frz⟩
theorem Pot.ne {H:Hp} {a l:Addr} (p:Pot H a) (h:H l = none):l ∉ [a]:=by
 intro z
 obtain ⟨z0,z1,hz,_⟩:=p
 rw [List.mem_singleton.mp z,hz] at h
 cases h
theorem wq {n:Nat} {i:Int} (h0:0 <= i) (h:i.toNat < n):ixN n i = some i.toNat:=by
 unfold ixN; rw [if_pos h0,if_pos (by omega)]
theorem uO {xs:List V} {i:Int} {j:Nat} {v:V} (h:ixN xs.length i = some j) (hv:xs[j]? = some v):atI xs i = some v:=by
 unfold atI; rw [h]; exact hv
structure Ask where
 hand:Int
 box:Int
 deed:Deed
def rR (K:FG7) (H:Hp) (x:V) (k:Ask):Prop:=∃ r rd,x = .ref r /\ SqT K H r [.int k.hand,.int k.box,.ref rd] /\ SqT K H rd k.deed.vs
def AllA (K:FG7) (H:Hp):List V -> List Ask -> Prop
 | [],[]=>True
 | x :: xs,k :: ks=>rR K H x k /\ AllA K H xs ks
 | _,_=>False
def wU (K:FG7) (H:Hp) (x:V) (ks:List Ask):Prop:=∃ r xs,x = .ref r /\ SqT K H r xs /\ AllA K H xs ks
def zo (K:FG7) (H:Hp) (x:V) (b:List Int):Prop:=∃ r,x = .ref r /\ SqT K H r (b.map V.int)
def jd (m:Nat) (k:Ask):Prop:=0 <= k.hand /\ k.hand <= 15 /\ 0 <= k.box /\ k.box < m /\ k.deed.Ok
theorem Grow.ask {m:List Addr} {H H':Hp} (g:Grow m H H') {K:FG7} {x:V} {k:Ask} (h:rR K H x k):rR K H' x k:=by
 obtain ⟨r,rd,e,h1,h2⟩:=h
 exact ⟨r,rd,e,g.sqT h1,g.sqT h2⟩
theorem Grow.allA {m:List Addr} {H H':Hp} (g:Grow m H H') {K:FG7}:∀ {xs:List V} {ks:List Ask},AllA K H xs ks -> AllA K H' xs ks
 | [],[],_=>trivial
 | _ :: _,_ :: _,⟨h,t⟩=>⟨g.ask h,g.allA t⟩
 | [],_ :: _,h=>h.elim
 | _ :: _,[],h=>h.elim
theorem Grow.asks {m:List Addr} {H H':Hp} (g:Grow m H H') {K:FG7} {x:V} {ks:List Ask} (h:wU K H x ks):wU K H' x ks:=by
 obtain ⟨r,xs,e,h1,h2⟩:=h
 exact ⟨r,xs,e,g.sqT h1,g.allA h2⟩
theorem Grow.board {m:List Addr} {H H':Hp} (g:Grow m H H') {K:FG7} {x:V} {b:List Int} (h:zo K H x b):zo K H' x b:=by
 obtain ⟨r,e,h1⟩:=h
 exact ⟨r,e,g.sqT h1⟩
theorem AllA.len {K:FG7} {H:Hp}:∀ {xs:List V} {ks:List Ask},AllA K H xs ks -> xs.length = ks.length
 | [],[],_=>rfl
 | _ :: xs,_ :: ks,⟨_,t⟩=>congrArg (· + 1) (AllA.len t)
 | [],_ :: _,h=>h.elim
 | _ :: _,[],h=>h.elim
theorem AllA.get {K:FG7} {H:Hp}:∀ {xs:List V} {ks:List Ask} {i:Nat} {x:V},AllA K H xs ks -> xs[i]? = some x -> ∃ k,ks[i]? = some k /\ rR K H x k
 | _ :: _,k :: _,0,x,⟨h,_⟩,e=>by
  obtain rfl:=Option.some.inj e
  exact ⟨k,rfl,h⟩
 | _ :: _,_ :: _,i + 1,x,⟨_,t⟩,e=>AllA.get (i:=i) t e
 | [],[],i,x,_,e=>by cases e
 | [],_ :: _,_,_,h,_=>h.elim
 | _ :: _,[],_,_,h,_=>h.elim
theorem AllA.snoc {K:FG7} {H:Hp}:∀ {xs:List V} {ks:List Ask} {x:V} {k:Ask},AllA K H xs ks -> rR K H x k -> AllA K H (xs ++ [x]) (ks ++ [k])
 | [],[],_,_,_,h=>⟨h,trivial⟩
 | _ :: _,_ :: _,_,_,⟨h,t⟩,q=>⟨h,AllA.snoc t q⟩
 | [],_ :: _,_,_,h,_=>h.elim
 | _ :: _,[],_,_,h,_=>h.elim
def rT (st:List Int × List Int) (k:Ask):List Int × List Int:=(st.1 ++ [st.2.getD k.box.toNat 0],st.2.set k.box.toNat (k.deed.mk' (st.2.getD k.box.toNat 0)))
def wN (b:List Int) (ks:List Ask):List Int × List Int:=ks.foldl rT ([],b)
theorem tR {b:List Int} {ks:List Ask} {i:Nat} {k:Ask} (h:ks[i]? = some k):wN b (ks.take (i + 1)) = rT (wN b (ks.take i)) k:=by
 unfold wN
 rw [List.take_add_one,h,List.foldl_append]; rfl
theorem YH {b:List Int}:∀ {ks:List Ask},(wN b ks).2.length = b.length /\ (wN b ks).1.length = ks.length:=by
 intro ks
 have key:∀ (ks:List Ask) (st:List Int × List Int),(ks.foldl rT st).2.length = st.2.length /\ (ks.foldl rT st).1.length = st.1.length + ks.length:=by
  intro ks
  induction ks with
  | nil=>intro st; exact ⟨rfl,rfl⟩
  | cons k ks ih =>
   intro st
   have:=ih (rT st k)
   refine ⟨this.1.trans (by simp [rT]),this.2.trans ?_⟩
   simp [rT]; omega
 have:=key ks ([],b)
 exact ⟨this.1,this.2.trans (Nat.zero_add _)⟩
theorem je {xs:List Int} {i:Nat} (h:i < xs.length):xs[i]? = some (xs.getD i 0):=by
 rw [List.getD_eq_getElem?_getD,List.getElem?_eq_getElem h]; rfl
def InB (B:Int) (xs:List Int):Prop:=∀ v ∈ xs,-B < v /\ v < B
def jf (xs:List Int):PyData:=.tuple (xs.map PyData.int)
def ud (d:Deed):PyData:=.tuple [.int d.add,oD d.lo,oD d.hi]
def askD (k:Ask):PyData:=.tuple [.int k.hand,.int k.box,ud k.deed]
def Tn (ks:List Ask):PyData:=.tuple (ks.map askD)
theorem uv {K:FG7} {H:Hp}:∀ xs:List Int,DatAll K H (xs.map V.int) (xs.map PyData.int)
 | []=>.nil
 | x :: xs=>.cons (.int x) (uv xs)
theorem zo.dat {K:FG7} {H:Hp} {x:V} {b:List Int} (h:zo K H x b):Dat K H x (jf b):=by
 obtain ⟨r,rfl,h⟩:=h
 exact .tup h (uv b)
theorem Zh {K:FG7} {H:Hp} {r:Addr} {d:Deed} (h:SqT K H r d.vs):Dat K H (.ref r) (ud d):=.tup h (.cons (.int _) (.cons (Ze _) (.cons (Ze _) .nil)))
theorem rR.dat {K:FG7} {H:Hp} {x:V} {k:Ask} (h:rR K H x k):Dat K H x (askD k):=by
 obtain ⟨r,rd,rfl,h1,h2⟩:=h
 exact .tup h1 (.cons (.int _) (.cons (.int _) (.cons (Zh h2) .nil)))
theorem AllA.dat {K:FG7} {H:Hp}:∀ {xs:List V} {ks:List Ask},AllA K H xs ks -> DatAll K H xs (ks.map askD)
 | [],[],_=>.nil
 | _ :: _,_ :: _,⟨h,t⟩=>.cons h.dat (AllA.dat t)
 | [],_ :: _,h=>h.elim
 | _ :: _,[],h=>h.elim
theorem wU.dat {K:FG7} {H:Hp} {x:V} {ks:List Ask} (h:wU K H x ks):Dat K H x (Tn ks):=by
 obtain ⟨r,xs,rfl,h1,h2⟩:=h
 exact .tup h1 h2.dat
def Sh (d:PyData) (w n:Nat):Prop:=d.showable = true /\ d.hasDict = false /\ wtD d <= w /\ d.depth <= n
theorem Sh.mono {d:PyData} {w w' n n':Nat} (h:Sh d w n) (h1:w <= w') (h2:n <= n'):Sh d w' n':=⟨h.1,h.2.1,Nat.le_trans h.2.2.1 h1,Nat.le_trans h.2.2.2 h2⟩
def ShA (ds:List PyData) (w n:Nat):Prop:=PyData.showableAll ds = true /\ PyData.hasDictAll ds = false /\ wtAll ds <= w /\ PyData.depthAll ds <= n
theorem jg {n:Nat}:ShA [] 0 n:=⟨rfl,rfl,Nat.le_refl _,Nat.zero_le _⟩
theorem wC {d:PyData} {ds:List PyData} {w v n:Nat} (h:Sh d w n) (t:ShA ds v n):ShA (d :: ds) (w + 2 + v) n:=by
 obtain ⟨a1,a2,a3,a4⟩:=h
 obtain ⟨b1,b2,b3,b4⟩:=t
 refine ⟨?_,?_,?_,?_⟩
 ·show (d.showable && PyData.showableAll ds) = true
  rw [a1,b1]; rfl
 ·show (d.hasDict || PyData.hasDictAll ds) = false
  rw [a2,b2]; rfl
 ·show wtD d + 2 + wtAll ds <= _; omega
 ·show max d.depth (PyData.depthAll ds) <= n; omega
theorem YI {ds:List PyData} {w n:Nat} (h:ShA ds w n):Sh (.tuple ds) (w + 3) (n + 1):=⟨h.1,h.2.1,Nat.add_le_add_right h.2.2.1 3,Nat.add_le_add_right h.2.2.2 1⟩
theorem Zi {i:Int} {n:Nat} (h:I200 i):Sh (.int i) 1921 n:=⟨decide_eq_true (Tl h),rfl,Nat.le_refl _,Nat.zero_le _⟩
theorem UA {o:Option Int} {n:Nat} (h:∀ i,o = some i -> I200 i):Sh (oD o) 1921 n:=by
 cases o with
 | none=>exact ⟨rfl,rfl,(by show (5:Nat) <= 1921; decide),Nat.zero_le _⟩
 | some i=>exact Zi (h i rfl)
theorem YJ {α:Type} {f:α -> PyData} {w n:Nat}:∀ {xs:List α},(∀ x ∈ xs,Sh (f x) w n) -> ShA (xs.map f) (xs.length * (w + 2)) n
 | [],_=>by rw [show ([]:List α).length * (w + 2) = 0 from Nat.zero_mul _]; exact jg
 | x :: xs,h=>by
  have z:=wC (h x (by simp)) (YJ (xs:=xs) fun y hy=>h y (List.mem_cons_of_mem _ hy))
  rw [show (x :: xs).length * (w + 2) = w + 2 + xs.length * (w + 2) by rw [List.length_cons,Nat.add_mul,Nat.one_mul,Nat.add_comm]]
  exact z
theorem VB {xs:List Int} {n:Nat} (h:InB (2 ^ 300) xs):Sh (jf xs) (xs.length * 1923 + 3) (n + 1):=YI (YJ fun x hx=>Zi (h x hx))
def uP (K:FG7) (H:Hp) (x:V) (p:List Int × List Int):Prop:=∃ r r1 r2,x = .ref r /\ SqT K H r [.ref r1,.ref r2] /\ SqT K H r1 (p.1.map V.int) /\ SqT K H r2 (p.2.map V.int)
def VC (p:List Int × List Int):PyData:=.tuple [jf p.1,jf p.2]
theorem uP.dat {K:FG7} {H:Hp} {x:V} {p:List Int × List Int} (h:uP K H x p):Dat K H x (VC p):=by
 obtain ⟨r,r1,r2,rfl,h0,h1,h2⟩:=h
 exact .tup h0 (.cons (.tup h1 (uv _)) (.cons (.tup h2 (uv _)) .nil))
theorem Grow.told {m:List Addr} {H H':Hp} (g:Grow m H H') {K:FG7} {x:V} {p:List Int × List Int} (h:uP K H x p):uP K H' x p:=by
 obtain ⟨r,r1,r2,e,h0,h1,h2⟩:=h
 exact ⟨r,r1,r2,e,g.sqT h0,g.sqT h1,g.sqT h2⟩
theorem InB.mono {B C:Int} {xs:List Int} (h:InB B xs) (hC:B <= C):InB C xs:=fun v hv=>by have:=h v hv; omega
def sC (_:FG7):Sp:=sp2 fun x y H Q=>∃ a m,x = .ref a /\ y = .int m /\ Pot H a /\ 0 < m /\ m < 2 ^ 200 /\ ∀ n H',0 <= n -> n < m -> Grow [a] H H' -> Pot H' a -> Q (.int n) H'
def yF (K:FG7):Sp:=sp3 fun x y z H Q=>∃ i l u,x = .int i /\ y = .int l /\ z = .int u /\ Q (.bl (decide (l <= i) && decide (i <= u))) H
def uQ (K:FG7):Sp:=sp1 fun x H Q=>∃ b,zo K H x b /\ 1 <= b.length /\ b.length <= 16 /\ ∀ H',Grow [] H H' -> Q (.bl true) H'
def vo (K:FG7):Sp:=sp1 fun x H Q=>∃ b,zo K H x b /\ 1 <= b.length /\ b.length <= 16 /\ ∀ H',Grow [] H H' -> Q .non H'
def rV (K:FG7):Sp:=sp2 fun x y H Q=>∃ b k,zo K H x b /\ rR K H y k /\ jd b.length k /\ Q (.bl true) H
def uR (K:FG7):Sp:=sp2 fun x y H Q=>∃ b ks,zo K H x b /\ 1 <= b.length /\ b.length <= 16 /\ wU K H y ks /\ ks.length <= 1000 /\ (∀ k ∈ ks,jd b.length k) /\ ∀ H',Grow [] H H' -> Q (.bl true) H'
def wu (K:FG7):Sp:=sp2 fun x y H Q=>∃ b ks,zo K H x b /\ 1 <= b.length /\ b.length <= 16 /\ wU K H y ks /\ ks.length <= 1000 /\ (∀ k ∈ ks,jd b.length k) /\ ∀ H',Grow [] H H' -> Q .non H'
def rX (K:FG7):Sp:=sp2 fun x y H Q=>∃ b ks,zo K H x b /\ 1 <= b.length /\ b.length <= 16 /\ wU K H y ks /\ ks.length <= 900 /\ (∀ k ∈ ks,jd b.length k) /\ ∀ y H',Grow [] H H' -> uP K H' y (wN b ks) -> Q y H'
def tS (K:FG7):Sp:=sp1 fun x H Q=>∃ a,x = .ref a /\ Pot H a /\ ∀ H',Grow [a] H H' -> Q (.bl true) H'
theorem vp {P:Program} {w:World} {K:FG7} {mg:Str -> Option Value} {base:Heap} {CX:CXT} {k:Nat} {f:Addr} {fd:FuncData} {ps:List Str} {sp:Sp} (h:∀ vs H Q E,¬ sp vs H Q E):FnOk P w K mg base CX k f fd ps sp :=
 ⟨fun vs H Q E z=>(h vs H Q E z).elim,by
  intros
  first
   | exact (h _ _ _ _ (by assumption)).elim⟩
inductive Tr where
 | leaf (n:Int)
 | node (l r:Tr)
def Tr.count:Tr -> Int
 | .leaf _=>1
 | .node l r=>l.count + r.count
def Tr.ht:Tr -> Nat
 | .leaf _=>0
 | .node l r=>max l.ht r.ht + 1
def zY (K:FG7) (H:Hp) (x:V):Tr -> Prop
 | .leaf n=>x = .int n
 | .node l r=>∃ a xl xr,x = .ref a /\ SqT K H a [xl,xr] /\ zY K H xl l /\ zY K H xr r
theorem Grow.tree {m:List Addr} {H H':Hp} (g:Grow m H H') {K:FG7}:∀ {t:Tr} {x:V},zY K H x t -> zY K H' x t
 | .leaf n,x,h=>h
 | .node l r,x,h=>by
  obtain ⟨a,xl,xr,e,hs,h1,h2⟩:=h
  exact ⟨a,xl,xr,e,g.sqT hs,g.tree h1,g.tree h2⟩
def trD:Tr -> PyData
 | .leaf n=>.int n
 | .node l r=>.tuple [trD l,trD r]
theorem zY.dat {K:FG7} {H:Hp}:∀ {t:Tr} {x:V},zY K H x t -> Dat K H x (trD t)
 | .leaf n,x,h=>by
  cases (show x = V.int n from h)
  exact .int n
 | .node l r,x,h=>by
  obtain ⟨a,xl,xr,e,hs,h1,h2⟩:=h
  subst e
  exact .tup hs (.cons (zY.dat h1) (.cons (zY.dat h2) .nil))
def Tr.Nums (t:Tr):Prop:=match t with
 | .leaf n=>I200 n
 | .node l r=>l.Nums /\ r.Nums
def Tr.wt:Tr -> Nat
 | .leaf _=>1
 | .node l r=>l.wt + r.wt + 1
theorem jh:∀ {t:Tr},t.Nums -> Sh (trD t) (t.wt * 1928) t.ht
 | .leaf n,h=>(Zi h).mono (by show 1921 <= 1 * 1928; decide) (Nat.le_refl 0)
 | .node l r,h=>by
  have a:=(jh (t:=l) h.1).mono (Nat.le_refl _) (show l.ht <= max l.ht r.ht by omega)
  have b:=(jh (t:=r) h.2).mono (Nat.le_refl _) (show r.ht <= max l.ht r.ht by omega)
  have z:=YI (wC a (wC b jg))
  refine z.mono ?_ (Nat.le_refl (max l.ht r.ht + 1))
  show l.wt * 1928 + 2 + (r.wt * 1928 + 2 + 0) + 3 <= (l.wt + r.wt + 1) * 1928
  omega
theorem sD {K:FG7} {H:Hp} {t:Tr} {x:V} (h:zY K H x t):Kn K H x:=by
 cases t with
 | leaf n=>cases (show x = V.int n from h); exact xC
 | node l r =>
  obtain ⟨a,xl,xr,e,hs,_⟩:=h
  subst e
  exact ⟨"tuple",.inl ⟨rfl,_,hs⟩⟩
def chT:Nat -> Tr
 | 0=>.leaf 0
 | n + 1=>.node (chT n) (.leaf ((n:Int) + 1))
theorem ji:∀ n:Nat,n < 1000 -> (chT n).Nums /\ (chT n).ht = n /\ (chT n).wt <= 2 * n + 1
 | 0,_=>⟨⟨by decide,by decide⟩,rfl,by decide⟩
 | n + 1,h=>by
  obtain ⟨a,b,c⟩:=ji n (by omega)
  refine ⟨⟨a,by omega,by omega⟩,?_,?_⟩
  ·show max (chT n).ht 0 + 1 = n + 1; omega
  ·show (chT n).wt + 1 + 1 <= 2 * (n + 1) + 1; omega
def vM (K:FG7):Sp:=sp1 fun x H Q=>∃ m,x = .int m /\ 1 <= m /\ m <= 40 /\ ∀ y H',Grow [] H H' -> zY K H' y (chT (m - 1).toNat) -> Q y H'
def wv (_:FG7):Sp:=sp1 fun x H Q=>∃ m,x = .int m /\ 1 <= m /\ m <= 40 /\ Q .non H
def sp4 (b:V -> V -> V -> V -> Hp -> VK -> Prop):Sp:=fun vs H Q _=>∃ x y z u,vs = [x,y,z,u] /\ b x y z u H Q
theorem VD {b:V -> V -> V -> V -> Hp -> VK -> Prop} {p q r s:Str}:∀ vs H Q E,sp4 b vs H Q E -> vs.length = [p,q,r,s].length:=fun vs H Q E h=>by
 obtain ⟨x,y,z,u,rfl,_⟩:=h; rfl
def AllR {α:Type} (R:V -> α -> Prop):List V -> List α -> Prop
 | [],[]=>True
 | x :: xs,k :: ks=>R x k /\ AllR R xs ks
 | _,_=>False
section
variable {α:Type} {R S:V -> α -> Prop}
theorem AllR.imp (h:∀ x k,R x k -> S x k):∀ {xs:List V} {ks:List α},AllR R xs ks -> AllR S xs ks
 | [],[],_=>trivial
 | _ :: _,_ :: _,⟨a,t⟩=>⟨h _ _ a,AllR.imp h t⟩
 | [],_ :: _,z=>z.elim
 | _ :: _,[],z=>z.elim
theorem AllR.len:∀ {xs:List V} {ks:List α},AllR R xs ks -> xs.length = ks.length
 | [],[],_=>rfl
 | _ :: xs,_ :: ks,⟨_,t⟩=>congrArg (· + 1) (AllR.len t)
 | [],_ :: _,h=>h.elim
 | _ :: _,[],h=>h.elim
theorem AllR.get:∀ {xs:List V} {ks:List α} {i:Nat} {x:V},AllR R xs ks -> xs[i]? = some x -> ∃ k,ks[i]? = some k /\ R x k
 | _ :: _,k :: _,0,x,⟨h,_⟩,e=>by
  obtain rfl:=Option.some.inj e
  exact ⟨k,rfl,h⟩
 | _ :: _,_ :: _,i + 1,x,⟨_,t⟩,e=>AllR.get (i:=i) t e
 | [],[],i,x,_,e=>by cases e
 | [],_ :: _,_,_,h,_=>h.elim
 | _ :: _,[],_,_,h,_=>h.elim
theorem AllR.getR:∀ {xs:List V} {ks:List α} {i:Nat} {k:α},AllR R xs ks -> ks[i]? = some k -> ∃ x,xs[i]? = some x /\ R x k
 | x :: _,_ :: _,0,k,⟨h,_⟩,e=>by
  obtain rfl:=Option.some.inj e
  exact ⟨x,rfl,h⟩
 | _ :: _,_ :: _,i + 1,k,⟨_,t⟩,e=>AllR.getR (i:=i) t e
 | [],[],i,k,_,e=>by cases e
 | [],_ :: _,_,_,h,_=>h.elim
 | _ :: _,[],_,_,h,_=>h.elim
theorem AllR.app:∀ {xs ys:List V} {ks js:List α},AllR R xs ks -> AllR R ys js -> AllR R (xs ++ ys) (ks ++ js)
 | [],_,[],_,_,h=>h
 | _ :: _,_,_ :: _,_,⟨h,t⟩,q=>⟨h,AllR.app t q⟩
 | [],_,_ :: _,_,h,_=>h.elim
 | _ :: _,_,[],_,h,_=>h.elim
theorem AllR.one {x:V} {k:α} (h:R x k):AllR R [x] [k]:=⟨h,trivial⟩
theorem AllR.take:∀ {xs:List V} {ks:List α} {n:Nat},AllR R xs ks -> AllR R (xs.take n) (ks.take n)
 | [],[],n,_=>by rw [List.take_nil,List.take_nil]; trivial
 | _ :: _,_ :: _,0,_=>trivial
 | _ :: _,_ :: _,n + 1,⟨h,t⟩=>⟨h,AllR.take t⟩
 | [],_ :: _,_,h=>h.elim
 | _ :: _,[],_,h=>h.elim
theorem AllR.snocE {xs:List V} {x:V} {ks:List α} (h:AllR R (xs ++ [x]) ks):∃ js j,ks = js ++ [j] /\ AllR R xs js /\ R x j:=by
 induction xs generalizing ks with
 | nil =>
  cases ks with
  | nil=>exact h.elim
  | cons k ks =>
   obtain ⟨a,b⟩:=h
   cases ks with
   | nil=>exact ⟨[],k,rfl,trivial,a⟩
   | cons _ _=>exact b.elim
 | cons y ys ih =>
  cases ks with
  | nil=>exact h.elim
  | cons k ks =>
   obtain ⟨a,b⟩:=h
   obtain ⟨js,j,rfl,p,q⟩:=ih b
   exact ⟨k :: js,j,rfl,⟨a,p⟩,q⟩
end
def xq (K:FG7) (H:Hp) (x:V) (ds:List Deed):Prop:=∃ r xs,x = .ref r /\ SqT K H r xs /\ AllR (zE K H) xs ds
theorem Grow.deedsR {m:List Addr} {H H':Hp} (g:Grow m H H') {K:FG7} {xs:List V} {ds:List Deed} (h:AllR (zE K H) xs ds):AllR (zE K H') xs ds:=h.imp fun _ _ z=>g.deed z
theorem Grow.deedsT {m:List Addr} {H H':Hp} (g:Grow m H H') {K:FG7} {x:V} {ds:List Deed} (h:xq K H x ds):xq K H' x ds:=by
 obtain ⟨r,xs,e,h1,h2⟩:=h
 exact ⟨r,xs,e,g.sqT h1,g.deedsR h2⟩
theorem zE.dat {K:FG7} {H:Hp} {x:V} {d:Deed} (h:zE K H x d):Dat K H x (ud d):=by
 obtain ⟨r,rfl,h⟩:=h
 exact Zh h
theorem datR {α:Type} {K:FG7} {H:Hp} {R:V -> α -> Prop} {f:α -> PyData} (h:∀ x k,R x k -> Dat K H x (f k)):∀ {xs:List V} {ks:List α},AllR R xs ks -> DatAll K H xs (ks.map f)
 | [],[],_=>.nil
 | _ :: _,_ :: _,⟨a,t⟩=>.cons (h _ _ a) (datR h t)
 | [],_ :: _,h=>h.elim
 | _ :: _,[],h=>h.elim
theorem xq.dat {K:FG7} {H:Hp} {x:V} {ds:List Deed} (h:xq K H x ds):Dat K H x (.tuple (ds.map ud)):=by
 obtain ⟨r,xs,rfl,h1,h2⟩:=h
 exact .tup h1 (datR (fun _ _ z=>z.dat) h2)
def Ordd:Tr -> Int -> Prop
 | .leaf n,f=>n = f
 | .node l r,f=>Ordd l f /\ Ordd r (f + l.count)
def look:Deed:=⟨0,none,none⟩
def vq (ds:List Deed):Tr -> Deed
 | .leaf n=>ds.getD n.toNat look
 | .node l r=>zV (vq ds l) (vq ds r)
def wV (ds:List Deed):Tr -> Int -> List Int
 | .leaf _,v=>[v]
 | .node l r,v=>wV ds l v ++ wV ds r ((vq ds l).mk' v)
def yO (ds:List Deed):Prop:=∀ d ∈ ds,d.Ok
theorem zz:∀ t:Tr,1 <= t.count
 | .leaf _=>Int.le_refl 1
 | .node l r=>by have:=zz l; have:=zz r; show 1 <= l.count + r.count; omega
theorem sE {ds:List Deed} (h:yO ds) (i:Nat):(ds.getD i look).Ok:=by
 rw [List.getD_eq_getElem?_getD]
 cases e:ds[i]? with
 | none=>exact xQ
 | some d=>exact h d (List.mem_of_getElem? e)
def runD (ds:List Deed):Deed:=ds.foldl zV look
def runA:List Deed -> Int -> List Int
 | [],_=>[]
 | d :: ds,v=>v :: runA ds (d.mk' v)
def runV:List Deed -> Int -> Int
 | [],v=>v
 | d :: ds,v=>runV ds (d.mk' v)
theorem tT {ds:List Deed} (h:yO ds):∀ {d:Deed},d.Ok -> ds.foldl zV d = zV d (runD ds):=by
 induction ds with
 | nil=>intro d o; exact (tP o).symm
 | cons e es ih =>
  intro d o
  have he:e.Ok:=h e (by simp)
  have hes:yO es:=fun x hx=>h x (List.mem_cons_of_mem _ hx)
  have r0:(runD es).Ok:=by
   have key:∀ (ds:List Deed) (d:Deed),yO ds -> d.Ok -> (ds.foldl zV d).Ok:=by
    intro ds
    induction ds with
    | nil=>intro d _ o; exact o
    | cons x xs ih2=>intro d hh o; exact ih2 _ (fun y hy=>hh y (List.mem_cons_of_mem _ hy)) (yu o (hh x (by simp)))
   exact key es look hes xQ
  show es.foldl zV (zV d e) = zV d (es.foldl zV (zV look e))
  rw [show zV look e = e from vL he,ih hes (yu o he),ih hes he,q9 o he r0]
theorem sF:∀ {ds:List Deed},yO ds -> (runD ds).Ok:=by
 have key:∀ (ds:List Deed) (d:Deed),yO ds -> d.Ok -> (ds.foldl zV d).Ok:=by
  intro ds
  induction ds with
  | nil=>intro d _ o; exact o
  | cons x xs ih2=>intro d hh o; exact ih2 _ (fun y hy=>hh y (List.mem_cons_of_mem _ hy)) (yu o (hh x (by simp)))
 exact fun {ds} h=>key ds look h xQ
theorem Wc {as bs:List Deed} (ha:yO as) (hb:yO bs):runD (as ++ bs) = zV (runD as) (runD bs):=by
 unfold runD
 rw [List.foldl_append]
 exact tT hb (sF ha)
theorem rY {d:Deed} {ds:List Deed} (o:d.Ok) (h:yO ds):runD (d :: ds) = zV d (runD ds):=by
 show ds.foldl zV (zV look d) = _
 rw [show zV look d = d from vL o]
 exact tT h o
theorem sG:∀ {ds:List Deed},yO ds -> ∀ v,(runD ds).mk' v = runV ds v
 | [],_,v=>w4 v
 | d :: ds,h,v=>by
  have o:d.Ok:=h d (by simp)
  have h':yO ds:=fun x hx=>h x (List.mem_cons_of_mem _ hx)
  rw [rY o h',yV o (sF h'),sG h']
  rfl
theorem sH:∀ {as bs:List Deed} (v:Int),runA (as ++ bs) v = runA as v ++ runA bs (runV as v)
 | [],_,_=>rfl
 | a :: as,bs,v=>by show v :: runA (as ++ bs) (a.mk' v) = v :: (runA as (a.mk' v) ++ runA bs (runV as (a.mk' v))); rw [sH]
def seg (ds:List Deed) (f n:Int):List Deed:=(ds.drop f.toNat).take n.toNat
theorem YK {ds:List Deed} {f a b:Int} (hf:0 <= f) (ha:0 <= a) (hb:0 <= b):seg ds f (a + b) = seg ds f a ++ seg ds (f + a) b:=by
 unfold seg
 rw [show (a + b).toNat = a.toNat + b.toNat by omega,show (f + a).toNat = f.toNat + a.toNat by omega,List.take_add,List.drop_drop]
theorem YL {ds:List Deed} (h:yO ds) (f n:Int):yO (seg ds f n):=fun d hd=>h d (List.mem_of_mem_drop (List.mem_of_mem_take hd))
theorem YM {ds:List Deed} {f:Int} (h0:0 <= f) (h:f < ds.length):seg ds f 1 = [ds.getD f.toNat look]:=by
 unfold seg
 have hj:f.toNat < ds.length:=by omega
 rw [List.drop_eq_getElem_cons hj,List.getD_eq_getElem?_getD,List.getElem?_eq_getElem hj]
 rfl
theorem YN (ds:List Deed):seg ds 0 ds.length = ds:=by
 unfold seg
 rw [Int.toNat_natCast,show (0:Int).toNat = 0 from rfl,List.drop_zero,List.take_length]
theorem vt {ds:List Deed} (h:yO ds):∀ {t:Tr} {f:Int},Ordd t f -> 0 <= f -> f + t.count <= ds.length -> vq ds t = runD (seg ds f t.count)
 | .leaf n,f,o,h0,h1=>by
  cases (show n = f from o)
  have h1':n + 1 <= ds.length:=h1
  show ds.getD n.toNat look = runD (seg ds n 1)
  rw [YM h0 (by omega),rY (sE h _) (fun x hx=>by cases hx)]
  exact (tP (sE h _)).symm
 | .node l r,f,o,h0,h1=>by
  have c1:=zz l
  have c2:=zz r
  have h1':f + (l.count + r.count) <= ds.length:=h1
  show zV (vq ds l) (vq ds r) = runD (seg ds f (l.count + r.count))
  rw [YK h0 (by omega) (by omega),Wc (YL h _ _) (YL h _ _),vt h o.1 h0 (by omega),vt h o.2 (by omega) (by omega)]
theorem vN {ds:List Deed} (h:yO ds):∀ {t:Tr} {f:Int} (v:Int),Ordd t f -> 0 <= f -> f + t.count <= ds.length -> wV ds t v = runA (seg ds f t.count) v
 | .leaf n,f,v,o,h0,h1=>by
  cases (show n = f from o)
  have h1':n + 1 <= ds.length:=h1
  show [v] = runA (seg ds n 1) v
  rw [YM h0 (by omega)]; rfl
 | .node l r,f,v,o,h0,h1=>by
  have c1:=zz l
  have c2:=zz r
  have h1':f + (l.count + r.count) <= ds.length:=h1
  show wV ds l v ++ wV ds r ((vq ds l).mk' v) = runA (seg ds f (l.count + r.count)) v
  rw [YK h0 (by omega) (by omega),sH,vN h v o.1 h0 (by omega),vN h _ o.2 (by omega) (by omega),vt h o.1 h0 (by omega),sG (YL h _ _)]
theorem vO (ds:List Deed):∀ (t:Tr) (v:Int),((wV ds t v).length:Int) = t.count
 | .leaf _,_=>rfl
 | .node l r,v=>by
  show ((wV ds l v ++ wV ds r _).length:Int) = l.count + r.count
  rw [List.length_append,Int.natCast_add,vO ds l,vO ds r]
theorem jj:∀ n:Nat,Ordd (chT n) 0 /\ (chT n).count = n + 1
 | 0=>⟨rfl,rfl⟩
 | n + 1=>by
  obtain ⟨a,b⟩:=jj n
  refine ⟨⟨a,?_⟩,?_⟩
  ·show (n:Int) + 1 = 0 + (chT n).count; omega
  ·show (chT n).count + 1 = ((n + 1:Nat):Int) + 1; omega
theorem Wd {d:Deed} {n:Nat} (h:d.Bd (2 ^ 299)):Sh (ud d) 5772 (n + 1):=by
 have q:∀ i,-(2 ^ 299) <= i -> i <= 2 ^ 299 -> I200 i:=fun i a b=>by
  have e:(2:Int) ^ 300 = 2 * 2 ^ 299:=by rw [Int.pow_succ,Int.mul_comm]
  have p:(0:Int) < 2 ^ 299:=Int.pow_pos (by decide)
  exact ⟨by rw [e]; omega,by rw [e]; omega⟩
 exact YI (wC (Zi (q _ h.1.1 h.1.2)) (wC (UA fun i e=>q i (h.2.1 i e).1 (h.2.1 i e).2) (wC (UA fun i e=>q i (h.2.2 i e).1 (h.2.2 i e).2) jg)))
theorem VE {xs:List V} (h:xs ≠ []):∃ ys y,xs = ys ++ [y]:=by
 cases e:xs.reverse with
 | nil=>exact absurd (List.reverse_eq_nil_iff.mp e) h
 | cons y r=>exact ⟨r.reverse,y,by rw [← List.reverse_reverse xs,e,List.reverse_cons]⟩
def OrdR:List Tr -> Int -> Int -> Prop
 | [],f,m=>f = m
 | t :: ts,f,m=>Ordd t f /\ OrdR ts (f + t.count) m
def wsum (ts:List Tr):Nat:=(ts.map Tr.wt).sum
theorem xt {ts:List Tr} {t:Tr}:wsum (ts ++ [t]) = wsum ts + t.wt:=by
 unfold wsum
 rw [List.map_append,List.sum_append]; simp
theorem UB:∀ t:Tr,1 <= t.wt
 | .leaf _=>Nat.le_refl 1
 | .node l r=>by show 1 <= l.wt + r.wt + 1; omega
theorem uw:∀ t:Tr,(t.wt:Int) = 2 * t.count - 1
 | .leaf _=>rfl
 | .node l r=>by
  have a:=uw l
  have b:=uw r
  show ((l.wt + r.wt + 1:Nat):Int) = 2 * (l.count + r.count) - 1
  omega
theorem Zj:∀ ts:List Tr,ts.length <= wsum ts
 | []=>Nat.le_refl 0
 | t :: ts=>by
  have a:=Zj ts
  have b:=UB t
  show ts.length + 1 <= (t.wt :: ts.map Tr.wt).sum
  rw [List.sum_cons]
  have:wsum ts = (ts.map Tr.wt).sum:=rfl
  omega
theorem Grow.treesR {m:List Addr} {H H':Hp} (g:Grow m H H') {K:FG7} {xs:List V} {ts:List Tr} (h:AllR (zY K H) xs ts):AllR (zY K H') xs ts:=h.imp fun _ _ z=>g.tree z
theorem AllR.drop {α:Type} {R:V -> α -> Prop}:∀ {xs:List V} {ks:List α} {n:Nat},AllR R xs ks -> AllR R (xs.drop n) (ks.drop n)
 | [],[],n,_=>by rw [List.drop_nil,List.drop_nil]; trivial
 | _ :: _,_ :: _,0,h=>h
 | _ :: _,_ :: _,n + 1,⟨h,t⟩=>AllR.drop (n:=n) t
 | [],_ :: _,_,h=>h.elim
 | _ :: _,[],_,h=>h.elim
def TOk (m:Int) (t:Tr):Prop:=Ordd t 0 /\ t.count = m /\ t.ht < 41 /\ t.Nums
theorem TOk.sh {m:Int} {t:Tr} (h:TOk m t) (hm:m <= 40):Sh (trD t) 154240 40:=by
 obtain ⟨_,h1,h2,h3⟩:=h
 have w:=uw t
 exact (jh h3).mono (by have h80:t.wt <= 80:=(by omega); have:=Nat.mul_le_mul_right 1928 h80; omega) (by omega)
def xR (K:FG7):Sp:=sp1 fun x H Q=>∃ ds,xq K H x ds /\ 1 <= ds.length /\ ds.length <= 40 /\ yO ds /\ ∀ H',Grow [] H H' -> Q .non H'
def tU (K:FG7):Sp:=sp2 fun x y H Q=>∃ t m,zY K H x t /\ y = .int m /\ Ordd t 0 /\ t.count = m /\ 1 <= m /\ m <= 40 /\ ∀ H',Grow [] H H' -> Q (.bl true) H'
def y8 (K:FG7):Sp:=sp2 fun x y H Q=>∃ t m,zY K H x t /\ y = .int m /\ Ordd t 0 /\ t.count = m /\ 1 <= m /\ m <= 40 /\ ∀ H',Grow [] H H' -> Q .non H'
def xj (N:Nat) (K:FG7):Sp:=sp2 fun x y H Q=>∃ ds t f,xq K H x ds /\ zY K H y t /\ Ordd t f /\ 0 <= f /\ f + t.count <= ds.length /\ t.ht < N /\ ∀ y H',Grow [] H H' -> zE K H' y (vq ds t) -> Q y H'
theorem jk {K:FG7}:∀ vs H Q E,¬ xj 0 K vs H Q E:=by
 rintro vs H Q E ⟨x,y,_,ds,t,f,_,_,_,_,_,h,_⟩
 omega
def wD (N:Nat) (K:FG7):Sp:=sp4 fun x y z u H Q=>∃ (ds:List Deed) (t:Tr) (f v:Int) (l:Addr) (xs:List Int),xq K H x ds /\ zY K H y t /\ Ordd t f /\ 0 <= f /\ f + t.count <= ds.length /\ t.ht < N /\ z = .int v /\ u = .ref l /\ H l = some (.lst (xs.map V.int)) /\ (xs.length:Int) + t.count <= 500 /\ ∀ y H',Grow [l] H H' -> H' l = some (.lst ((xs ++ wV ds t v).map V.int)) -> zE K H' y (vq ds t) -> Q y H'
theorem YO {K:FG7}:∀ vs H Q E,¬ wD 0 K vs H Q E:=by
 rintro vs H Q E ⟨x,y,z,u,_,ds,t,f,v,l,xs,_,_,_,_,_,h,_⟩
 omega
def uS (K:FG7):Sp:=sp2 fun x y H Q=>∃ ds t,xq K H x ds /\ 1 <= ds.length /\ ds.length <= 40 /\ yO ds /\ zY K H y t /\ Ordd t 0 /\ t.count = ds.length /\ t.ht < 41 /\ ∀ y H',Grow [] H H' -> zE K H' y (runD ds) -> Q y H'
def vu (K:FG7):Sp:=sp3 fun x y z H Q=>∃ ds t v,xq K H x ds /\ 1 <= ds.length /\ ds.length <= 40 /\ yO ds /\ zY K H y t /\ Ordd t 0 /\ t.count = ds.length /\ t.ht < 41 /\ z = .int v /\ ∀ y H',Grow [] H H' -> zo K H' y (runA ds v) -> Q y H'
theorem ww {X:Cx} {K:FG7} (h:X.K = K):vh X (.builtin "len") (fun xs H Q=>∃ p ys,xs = [.ref p] /\ (SqL K H p ys \/ SqT K H p ys) /\ Q (.int ys.length) H):=by subst h; exact zk
theorem jl {X:Cx} {K:FG7} (h:X.K = K):vh X (.type "tuple") (fun xs H Q=>∃ p ys,xs = [.ref p] /\ ((SqL K H p ys /\ ∀ l,H l = none -> Q (.ref l) (upd H l (.tup ys))) \/ (SqT K H p ys /\ Q (.ref p) H))):=by subst h; exact zx
def sp5 (b:V -> V -> V -> V -> V -> Hp -> VK -> Prop):Sp:=fun vs H Q _=>∃ x y z u w,vs = [x,y,z,u,w] /\ b x y z u w H Q
theorem YQ {b:V -> V -> V -> V -> V -> Hp -> VK -> Prop} {p q r s t:Str}:∀ vs H Q E,sp5 b vs H Q E -> vs.length = [p,q,r,s,t].length:=fun vs H Q E h=>by
 obtain ⟨x,y,z,u,w,rfl,_⟩:=h; rfl
def sp6 (b:V -> V -> V -> V -> V -> V -> Hp -> VK -> Prop):Sp:=fun vs H Q _=>∃ x y z u w k,vs = [x,y,z,u,w,k] /\ b x y z u w k H Q
theorem VF {b:V -> V -> V -> V -> V -> V -> Hp -> VK -> Prop} {p q r s t u:Str}:∀ vs H Q E,sp6 b vs H Q E -> vs.length = [p,q,r,s,t,u].length:=fun vs H Q E h=>by
 obtain ⟨x,y,z,u,w,k,rfl,_⟩:=h; rfl
def yk (K:FG7) (H:Hp) (x:V) (rows:List (List Int)):Prop:=∃ r xs,x = .ref r /\ SqT K H r xs /\ AllR (zo K H) xs rows
theorem Grow.boardsR {m:List Addr} {H H':Hp} (g:Grow m H H') {K:FG7} {xs:List V} {rows:List (List Int)} (h:AllR (zo K H) xs rows):AllR (zo K H') xs rows:=h.imp fun _ _ z=>g.board z
theorem Grow.rows {m:List Addr} {H H':Hp} (g:Grow m H H') {K:FG7} {x:V} {rows:List (List Int)} (h:yk K H x rows):yk K H' x rows:=by
 obtain ⟨r,xs,e,h1,h2⟩:=h
 exact ⟨r,xs,e,g.sqT h1,g.boardsR h2⟩
def Rng (m:Int) (xs:List Int):Prop:=∀ v ∈ xs,0 <= v /\ v < m
def ue (R M:Nat) (rows:List (List Int)):Prop:=rows.length = R /\ ∀ row ∈ rows,row.length = M /\ Rng M row
theorem getI {xs:List Int} {i:Int} (h0:0 <= i) (h:i < xs.length):atI (xs.map V.int) i = some (V.int (xs.getD i.toNat 0)):=by
 have hj:i.toNat < xs.length:=by omega
 exact uO (wq h0 (by rw [List.length_map]; exact hj)) (by rw [List.getElem?_map,je hj]; rfl)
theorem jm {m:Int} {xs:List Int} (h:Rng m xs) {i:Int} (h0:0 <= i) (h1:i < xs.length):0 <= xs.getD i.toNat 0 /\ xs.getD i.toNat 0 < m:=by
 have hj:i.toNat < xs.length:=by omega
 exact h _ (List.mem_of_getElem? (je hj))
theorem uT {K:FG7} {H:Hp} {xs:List V} {rows:List (List Int)} (h:AllR (zo K H) xs rows) {i:Int} (h0:0 <= i) (h1:i < rows.length):∃ a,atI xs i = some (V.ref a) /\ SqT K H a ((rows.getD i.toNat []).map V.int):=by
 have hj:i.toNat < rows.length:=by omega
 have e:rows[i.toNat]? = some (rows.getD i.toNat []):=by rw [List.getD_eq_getElem?_getD,List.getElem?_eq_getElem hj]; rfl
 obtain ⟨x,hx,a,rfl,hs⟩:=h.getR e
 exact ⟨a,uO (wq h0 (by rw [h.len]; exact hj)) hx,hs⟩
theorem ZO {R M:Nat} {rows:List (List Int)} (h:ue R M rows) {i:Int} (h0:0 <= i) (h1:i < R):(rows.getD i.toNat []).length = M /\ Rng M (rows.getD i.toNat []):=by
 have hj:i.toNat < rows.length:=by rw [h.1]; omega
 have e:rows[i.toNat]? = some (rows.getD i.toNat []):=by rw [List.getD_eq_getElem?_getD,List.getElem?_eq_getElem hj]; rfl
 exact h.2 _ (List.mem_of_getElem? e)
def numT (tab:List (List Int)) (ns:List Int):Tr -> Int
 | .leaf n=>ns.getD n.toNat 0
 | .node l r=>(tab.getD (numT tab ns l).toNat []).getD (numT tab ns r).toNat 0
def shT (ds tab:List (List Int)) (ns:List Int):Tr -> Int -> List Int
 | .leaf _,v=>[v]
 | .node l r,v=>shT ds tab ns l v ++ shT ds tab ns r ((ds.getD (numT tab ns l).toNat []).getD v.toNat 0)
structure Fd (R:Nat) (tab:List (List Int)) (ns:List Int):Prop where
 tab:ue R R tab
 ns:Rng R ns
theorem xg {R:Nat} {tab:List (List Int)} {ns:List Int} (F:Fd R tab ns):∀ {t:Tr} {f:Int},Ordd t f -> 0 <= f -> f + t.count <= ns.length -> 0 <= numT tab ns t /\ numT tab ns t < R
 | .leaf n,f,o,h0,h1=>by
  cases (show n = f from o)
  have h1':n + 1 <= ns.length:=h1
  exact jm F.ns h0 (by omega)
 | .node l r,f,o,h0,h1=>by
  have c1:=zz l
  have c2:=zz r
  have h1':f + (l.count + r.count) <= ns.length:=h1
  have a:=xg F o.1 h0 (by omega)
  have b:=xg F o.2 (by omega) (by omega)
  have z:=ZO F.tab a.1 a.2
  exact jm z.2 b.1 (by rw [z.1]; exact b.2)
theorem jn (ds tab:List (List Int)) (ns:List Int):∀ (t:Tr) (v:Int),((shT ds tab ns t v).length:Int) = t.count
 | .leaf _,_=>rfl
 | .node l r,v=>by
  show ((shT ds tab ns l v ++ shT ds tab ns r _).length:Int) = l.count + r.count
  rw [List.length_append,Int.natCast_add,jn ds tab ns l,jn ds tab ns r]
def wE (N:Nat) (K:FG7):Sp:=sp3 fun x y z H Q=>∃ a f m,x = .ref a /\ y = .int f /\ z = .int m /\ Pot H a /\ 0 <= f /\ 1 <= m /\ m <= N /\ f + m <= 100 /\ ∀ y t H',Grow [a] H H' -> Pot H' a -> zY K H' y t -> Ordd t f -> t.count = m -> t.ht < m.toNat -> t.Nums -> Q y H'
theorem YR {K:FG7}:∀ vs H Q E,¬ wE 0 K vs H Q E:=by
 rintro vs H Q E ⟨x,y,z,_,a,f,m,_,_,_,_,_,h1,h2,_⟩
 omega
def xG (K:FG7):Sp:=sp2 fun x y H Q=>∃ ns m,zo K H x ns /\ y = .int m /\ Rng m ns /\ ns.length <= 1000 /\ ∀ H',Grow [] H H' -> Q (.bl true) H'
def xT (K:FG7):Sp:=sp1 fun x H Q=>∃ rows:List (List Int),yk K H x rows /\ 1 <= rows.length /\ rows.length <= 60 /\ ue rows.length rows.length rows /\ ∀ H',Grow [] H H' -> Q .non H'
def xu (K:FG7):Sp:=sp2 fun x y H Q=>∃ (rows:List (List Int)) (ns:List Int),yk K H x rows /\ zo K H y ns /\ Rng rows.length ns /\ 1 <= ns.length /\ ns.length <= 40 /\ ∀ H',Grow [] H H' -> Q .non H'
def yG (N:Nat) (K:FG7):Sp:=sp3 fun x y z H Q=>∃ (R:Nat) (tab:List (List Int)) (ns:List Int) (t:Tr) (f:Int),yk K H x tab /\ zo K H y ns /\ zY K H z t /\ Fd R tab ns /\ Ordd t f /\ 0 <= f /\ f + t.count <= ns.length /\ t.ht < N /\ Q (.int (numT tab ns t)) H
theorem sI {K:FG7}:∀ vs H Q E,¬ yG 0 K vs H Q E:=by
 rintro vs H Q E ⟨x,y,z,_,R,tab,ns,t,f,_,_,_,_,_,_,_,h,_⟩
 omega
def v5 (K:FG7):Sp:=sp3 fun x y z H Q=>∃ (R:Nat) (tab:List (List Int)) (ns:List Int) (t:Tr),yk K H x tab /\ zo K H y ns /\ zY K H z t /\ Fd R tab ns /\ 1 <= R /\ R <= 60 /\ Ordd t 0 /\ t.count = ns.length /\ ns.length <= 40 /\ t.ht < 41 /\ ∀ H',Grow [] H H' -> Q (.int (numT tab ns t)) H'
def wW (K:FG7):Sp:=sp1 fun x H Q=>∃ row:List Int,zo K H x row /\ 1 <= row.length /\ row.length <= 5 /\ Rng row.length row /\ ∀ H',Grow [] H H' -> Q (.bl true) H'
def x9 (K:FG7):Sp:=sp2 fun x y H Q=>∃ (R M:Nat) (ds tab:List (List Int)),yk K H x ds /\ yk K H y tab /\ 1 <= R /\ R <= 60 /\ 1 <= M /\ M <= 5 /\ ue R M ds /\ ue R R tab /\ ∀ H',Grow [] H H' -> Q .non H'
def yP (N:Nat) (K:FG7):Sp:=sp6 fun x y z u w k H Q=>∃ (R M:Nat) (ds tab:List (List Int)) (ns:List Int) (t:Tr) (f v:Int) (l:Addr) (zs:List Int),yk K H x ds /\ yk K H y tab /\ zo K H z ns /\ zY K H u t /\ Fd R tab ns /\ ue R M ds /\ Ordd t f /\ 0 <= f /\ f + t.count <= ns.length /\ t.ht < N /\ w = .int v /\ 0 <= v /\ v < M /\ k = .ref l /\ H l = some (.lst (zs.map V.int)) /\ (zs.length:Int) + t.count <= 500 /\ ∀ H',Grow [l] H H' -> H' l = some (.lst ((zs ++ shT ds tab ns t v).map V.int)) -> Q (.int (numT tab ns t)) H'
theorem rZ {K:FG7}:∀ vs H Q E,¬ yP 0 K vs H Q E:=by
 rintro vs H Q E ⟨x,y,z,u,w,k,_,R,M,ds,tab,ns,t,f,v,l,zs,_,_,_,_,_,_,_,_,_,h,_⟩
 omega
def v6 (K:FG7):Sp:=sp5 fun x y z u w H Q=>∃ (R M:Nat) (ds tab:List (List Int)) (ns:List Int) (t:Tr) (v:Int),yk K H x ds /\ yk K H y tab /\ zo K H z ns /\ zY K H u t /\ Fd R tab ns /\ ue R M ds /\ 1 <= R /\ R <= 60 /\ 1 <= M /\ M <= 5 /\ Ordd t 0 /\ t.count = ns.length /\ ns.length <= 40 /\ t.ht < 41 /\ w = .int v /\ 0 <= v /\ v < M /\ ∀ y H',Grow [] H H' -> zo K H' y (shT ds tab ns t v) -> Q y H'
section
variable {prog:Program} {w:World} {A:Around} {E:VS7} {s:Shared}
theorem jo {jt t:Addr} {i:Nat} {vs:Array Value} {v:Value} {Q:VS7} (hit:s.heap.IsTupleIter jt t i) (ht:s.heap.IsTuple t vs) (hv:vs[i]? = some v)
  (hQ:∀ h',h'.IsTupleIter jt t (i + 1) -> Heap.SameBut jt s.heap h' -> Q v { s with heap:=h' }):wpAny (model prog w) A (Builtin.SmallTypes.nextOf (.ref jt)) Q E s:=by
 obtain ⟨oj,hoj,cj,dj⟩:=id hit
 obtain ⟨ot,hot,_,nt,dt⟩:=ht
 unfold Builtin.SmallTypes.nextOf
 refine wpAny_bind (wpAny_callSpecial?_slot (name:=Str.ofString "__next__") hit.typeIs F.slot_tuple_iterator_next (wpAny_call_entry F.slot_tuple_iterator_next hit.typeIs F.entry_tuple_iterator_next ?_ (F.args_tuple_iterator_next_1 _)))
 show wpAny _ _ (field (.ref jt) 0 >>= _) _ _ s
 refine wpAny_bind (wpAny_field hoj dj (x:=.ref t) rfl ?_); show wpAny _ _ (if (Value.ref t == Value.none) = true then _ else _) _ _ s
 rw [if_neg (show ¬ ((Value.ref t == Value.none) = true) by exact Bool.false_ne_true)]; show wpAny _ _ (field (.ref jt) 1 >>= _) _ _ s
 refine wpAny_bind (wpAny_field hoj dj (x:=.int i 0) rfl ?_); show wpAny _ _ (seqItems? (.ref t) >>= _) _ _ s
 refine wpAny_bind (wpAny_seqItems hot dt ?_); simp only [Int.toNat_natCast,hv]
 refine wpAny_bind (wpAny_setField hoj dj (by simp) (wpAny_pure ⟨v,rfl,wpAny_pure (hQ _ ⟨_,Heap.get?_update_self _ hoj (Obj.isFreed_of_fields (Obj.data_mapFields dj _)),(Obj.cls_mapFields ..).trans cj,by rw [Obj.data_mapFields dj]; simp [rawInt]⟩ (Heap.SameBut.update ..))⟩))
theorem tV {jt t:Addr} {i:Nat} {vs:Array Value} {Q:VS7} (hh:A.handled = none) (hit:s.heap.IsTupleIter jt t i) (ht:s.heap.IsTuple t vs) (hv:vs[i]? = none)
  (hE:∀ h' e,Heap.ExtBut jt s.heap h' -> (∃ o,h'.get? e = some o /\ o.cls = .type "StopIteration") -> E (.ref e) { s with heap:=h' }):wpAny (model prog w) A (Builtin.SmallTypes.nextOf (.ref jt)) Q E s:=by
 obtain ⟨oj,hoj,cj,dj⟩:=id hit
 obtain ⟨ot,hot,_,nt,dt⟩:=ht
 unfold Builtin.SmallTypes.nextOf
 refine wpAny_bind (wpAny_callSpecial?_slot (name:=Str.ofString "__next__") hit.typeIs F.slot_tuple_iterator_next (wpAny_call_entry F.slot_tuple_iterator_next hit.typeIs F.entry_tuple_iterator_next ?_ (F.args_tuple_iterator_next_1 _)))
 show wpAny _ _ (field (.ref jt) 0 >>= _) _ _ s
 refine wpAny_bind (wpAny_field hoj dj (x:=.ref t) rfl ?_); show wpAny _ _ (if (Value.ref t == Value.none) = true then _ else _) _ _ s
 rw [if_neg (show ¬ ((Value.ref t == Value.none) = true) by exact Bool.false_ne_true)]; show wpAny _ _ (field (.ref jt) 1 >>= _) _ _ s
 refine wpAny_bind (wpAny_field hoj dj (x:=.int i 0) rfl ?_); show wpAny _ _ (seqItems? (.ref t) >>= _) _ _ s
 refine wpAny_bind (wpAny_seqItems hot dt ?_); simp only [Int.toNat_natCast,hv]
 refine wpAny_bind (wpAny_rule (wpAny_bind (wpAny_setField hoj dj (by simp) ?_))); show wpAny _ _ (newExc (.type "StopIteration") [] >>= _) _ _ _
 refine wpAny_bind ?_; simp only [newExc,newTuple]
 refine wpAny_bind (wpAny_newObj_type ?_ (by size_fits)); refine wpAny_bind (m:=firstArgMember _ _) (wpAny_of_eq (a:=Value.none) (by first | rfl | (simp only [firstArgMember]; rfl)) ?_)
 refine wpAny_newObj_type ?_ (by size_fits); simp only [raiseNew]
 refine wpAny_bind (wpAny_handled ?_); (first | rw [show A.in1.handled = none from hh] | rw [hh])
 exact wpAny_bind (wpAny_pure (wpAny_throw (hE _ _ (((Heap.SameBut.update ..).extBut.push _).push _) ⟨_,Heap.get?_push_size _ rfl,rfl⟩)))
end
theorem YS {prog:Program} {w:World} {A:Around} (hh:A.handled = none) (jt t:Addr) (hne:t ≠ jt) (vs:Array Value) :
  Draws prog w A jt [jt,t] vs.size (fun i v=>vs[i]? = some v) (fun i h=>h.IsTupleIter jt t i /\ h.IsTuple t vs) where
 live:=fun _ _ st=>let ⟨o,ho,_⟩:=st.1; ⟨o,ho⟩
 frame:=fun _ _ _ st hk=>⟨st.1.at (hk jt (by simp)),st.2.at (hk t (by simp))⟩
 item:=fun i s Q E hi st hQ=>jo st.1 st.2 (v:=vs[i]) (by simp [hi]) fun h' hit' hs'=>hQ _ h' s.toks (by simp [hi]) ⟨hit',st.2.extBut hs'.extBut hne⟩ hs'
 done:=fun s Q E st hE=>tV hh st.1 st.2 (by simp) hE
theorem YT {prog:Program} {w:World} {A:Around} (hh:A.handled = none) (jt t:Addr) (vs:Array Value) {i:Nat} (hv:vs[i]? = none) :
  Draws prog w A jt [jt,t] i (fun _ _=>True) (fun j h=>j = i /\ h.IsTupleIter jt t i /\ h.IsTuple t vs) where
 live:=fun _ _ st=>let ⟨o,ho,_⟩:=st.2.1; ⟨o,ho⟩
 frame:=fun _ _ _ st hk=>⟨st.1,st.2.1.at (hk jt (by simp)),st.2.2.at (hk t (by simp))⟩
 item:=fun j s Q E hj st hQ=>absurd st.1 (Nat.ne_of_lt hj)
 done:=fun s Q E st hE=>tV hh st.2.1 st.2.2 hv hE
section
variable {X:Cx} {pins:List (Addr × Obj)} {σ:L2.St} {H:Hp} {s:Shared} {h':Heap}
theorem jp {fp:List Addr} {t':Nat} (I:Inv X pins σ H s) (k:∀ b o,b ∉ fp -> s.heap.get? b = some o -> h'.get? b = some o) (ff:∀ b ∈ fp,FpOk X pins H b):Inv X pins σ H { s with heap:=h',toks:=t' }:=by
 have nit:∀ b u,H b = some u -> b ∉ fp:=fun b u e z=>by rw [(ff b z).1] at e; cases e
 refine I.step (g':=s.gens) (d':=s.drawn) (ch:=fp) (fun b hb=>?_) (fun b o _ _ hc e _=>k b o hc e) (fun b o _ _ hc e _=>⟨o.slots,k b o hc e⟩) (fun _ _ _ _ n=>n) (fun b o hc e=>⟨o,k b o hc e⟩) (fun _ _ e=>e) (fun _ _ _ e=>e) (fun b ps e=>⟨#[],by rw [e]; simp⟩) (fun m hm=>?_) (fun b u e=>?_) I.bare
 ·obtain ⟨_,f1,_,f3,f4,f5⟩:=ff b hb
  exact ⟨f3,f1,f4,f5⟩
 ·obtain ⟨o,es,ep,ho,r⟩:=hm
  exact ⟨o,es,ep,k _ o (fun z=>(ff _ z).2.1 rfl) ho,r⟩
 ·refine (I.hok b u e).stay (fun c v hc q=>k c v ?_ q) (fun _ q=>q) fun _ _ q=>q
  rcases hc with z | z
  ·rw [z]; exact nit b u e
  ·exact nit c _ z
theorem Zk {fp:List Addr} {T:Addr} {o:HO} {t':Nat} (I:Inv X pins σ H s) (k:∀ b o,b ∉ fp -> s.heap.get? b = some o -> h'.get? b = some o) (ff:∀ b ∈ fp,FpOk X pins H b) (hT:s.heap.objs.size <= T)
  (new:yA X.prog X.w (upd H T o) h' T o):Inv X pins σ (upd H T o) { s with heap:=h',toks:=t' }:=by
 have hn:H T = none:=I.hok.fresh hT
 have I1:Inv X pins σ H { s with heap:=h',toks:=t' }:=jp I k ff
 have hok:HOk X.prog X.w (upd H T o) h':=HOk.track I1.hok hn new
 refine I.step (g':=s.gens) (d':=s.drawn) (ch:=fp) (fun b hb=>?_) (fun b o _ _ hc e _=>k b o hc e) (fun b o _ _ hc e _=>⟨o.slots,k b o hc e⟩) (fun b u _ e n=>by rw [zq (Nat.ne_of_lt (Nat.lt_of_lt_of_le (Heap.lt_size e) hT))]; exact n) (fun b o hc e=>⟨o,k b o hc e⟩)
  (fun b xs e=>by rw [zq (zt e hn)]; exact e) (fun b u xs e=>by rw [zq (zt e hn)]; exact e) (fun b ps e=>⟨#[],by rw [zq (zt e hn),e]; simp⟩) (fun m hm=>?_) hok I.bare
 ·obtain ⟨_,f1,_,f3,f4,f5⟩:=ff b hb
  exact ⟨f3,f1,f4,f5⟩
 ·obtain ⟨o,es,ep,ho,r⟩:=hm
  exact ⟨o,es,ep,k _ o (fun z=>(ff _ z).2.1 rfl) ho,r⟩
end
def Ite (K:FG7) (a:Addr):It :=
 ⟨fun i H=>∃ xs x,SqT K H a xs /\ xs[i]? = some x,fun i H x H'=>∃ T v,H T = none /\ x = .ref T /\ H' = upd H T (.tup [.int i,v]) /\ ∀ xs,SqT K H a xs -> xs[i]? = some v,fun i H=>∃ xs,SqT K H a xs /\ xs.length <= i⟩
section
variable {X:Cx} {elts:List Expr} {kt:Nat} {pt:Pos}
theorem UC:bootBuiltins "enumerate" = some (.type "enumerate"):=by decide +kernel
end
theorem We {K:FG7} {a:Addr} {xs:List V} {g:TG} {tb:TS} {D:Ends} {σ:L2.St} {H:Hp} (Pv:Nat -> L2.St -> Hp -> Prop) (h0:Pv 0 σ H) (hl:∀ i σ H,i <= xs.length -> Pv i σ H -> SqT K H a xs)
  (hs:∀ i x σ H T,xs[i]? = some x -> Pv i σ H -> H T = none -> g (.ref T) σ (upd H T (.tup [.int i,x])) fun σ2 H2=>tb { D with nx:=Pv (i + 1),ct:=Pv (i + 1),bk:=D.nx } σ2 H2) (hd:∀ σ H,Pv xs.length σ H -> D.nx σ H) :
  ∃ W:Nat -> Nat -> L2.St -> Hp -> Prop,(∃ m,W 0 m σ H) /\ ∀ i m σ H,W i m σ H →
   ((Ite K a).stop i H /\ D.nx σ H) \/ ((Ite K a).go i H /\ ∃ N:L2.St -> Hp -> Prop,(∀ σ' H',N σ' H' -> ∃ m',m' < m /\ W (i + 1) m' σ' H') /\ ∀ x H',(Ite K a).yld i H x H' -> g x σ H' fun σ2 H2=>tb { D with nx:=N,ct:=N,bk:=D.nx } σ2 H2):=by
 refine ⟨fun i m σ H=>m = xs.length - i /\ i <= xs.length /\ Pv i σ H,⟨xs.length,by simp,Nat.zero_le _,h0⟩,?_⟩
 rintro i m σ H ⟨rfl,hi,p⟩
 have q:=hl i σ H hi p
 by_cases hlt:i < xs.length
 ·refine .inr ⟨⟨xs,xs[i],q,by simp [hlt]⟩,Pv (i + 1),fun σ' H' p'=>⟨xs.length - (i + 1),by omega,rfl,hlt,p'⟩,fun x H' y=>?_⟩
  obtain ⟨T,v,hT,rfl,rfl,y⟩:=y
  exact hs i v σ H T (y xs q) p hT
 ·have e:i = xs.length:=by omega
  subst e
  exact .inl ⟨⟨xs,q,Nat.le_refl _⟩,hd σ H p⟩
def qa (st:List Deed × List Deed) (k:Ask):List Deed × List Deed:=(st.1.set k.box.toNat (zV (st.1.getD k.box.toNat look) k.deed),st.2 ++ [st.1.getD k.box.toNat look])
def vP (n:Nat) (ks:List Ask):List Deed × List Deed:=ks.foldl qa (List.replicate n look,[])
theorem tW {n:Nat} {ks:List Ask} {i:Nat} {k:Ask} (h:ks[i]? = some k):vP n (ks.take (i + 1)) = qa (vP n (ks.take i)) k:=by
 unfold vP
 rw [List.take_add_one,h,List.foldl_append]; rfl
theorem UD {ds:List Deed} {i:Nat} (h:i < ds.length):ds[i]? = some (ds.getD i look):=by
 rw [List.getD_eq_getElem?_getD,List.getElem?_eq_getElem h]; rfl
def To (j:Int) (ks:List Ask):List Deed:=(ks.filter fun k=>decide (k.box = j)).map Ask.deed
structure GInv (b:List Int) (ks:List Ask) (g:List Deed × List Deed) (p:List Int × List Int):Prop where
 l1:g.1.length = b.length
 l2:g.2.length = ks.length
 p1:p.1.length = ks.length
 p2:p.2.length = b.length
 bd1:∀ d ∈ g.1,d.Ok /\ d.Bd (ks.length * 10 ^ 30)
 bd2:∀ d ∈ g.2,d.Ok /\ d.Bd (ks.length * 10 ^ 30)
 run:∀ j:Nat,j < b.length -> g.1.getD j look = runD (To j ks)
 val:∀ j:Nat,j < b.length -> p.2.getD j 0 = (g.1.getD j look).mk' (b.getD j 0)
 ans:∀ i k,ks[i]? = some k -> p.1.getD i 0 = (g.2.getD i look).mk' (b.getD k.box.toNat 0)
theorem AllR.set {α:Type} {R:V -> α -> Prop} {x:V} {k:α} (h:R x k):∀ {xs:List V} {ks:List α} {n:Nat},AllR R xs ks -> AllR R (xs.set n x) (ks.set n k)
 | [],[],n,_=>by cases n <;> trivial
 | _ :: _,_ :: _,0,⟨_,t⟩=>⟨h,t⟩
 | _ :: _,_ :: _,n + 1,⟨a,t⟩=>⟨a,AllR.set h t⟩
 | [],_ :: _,_,z=>z.elim
 | _ :: _,[],_,z=>z.elim
theorem Zl {α β:Type} {R:V -> α -> Prop} {x:V} {k:α} (h:R x k):∀ (ys:List β),AllR R (ys.map fun _=>x) (List.replicate ys.length k)
 | []=>trivial
 | _ :: ys=>⟨h,Zl h ys⟩
def YU (K:FG7) (H:Hp) (x:V) (g:List Deed × List Deed):Prop:=∃ r r1 r2,x = .ref r /\ SqT K H r [.ref r1,.ref r2] /\ xq K H (.ref r1) g.1 /\ xq K H (.ref r2) g.2
section
variable {K:FG7} {a:Addr} {xs:List V} {k:Nat} {tt:TT} {te:TE} {Q:VK} {σ:L2.St} {H:Hp}
theorem ZP (p:V -> Bool) (Pv:Nat -> List V -> Hp -> Prop) (h0:Pv 0 [] H) (hl:∀ i ys H',Pv i ys H' -> SqT K H' a xs)
  (ht:∀ x H' (R:Bool -> Hp -> Prop),x ∈ xs -> R (p x) H' -> tt (σ.set k (some x)) H' R)
  (hs:∀ i x ys H',xs[i]? = some x -> Pv i ys H' -> p x = true -> te (σ.set k (some x)) H' fun y H5=>ys.length < sizeLine /\ Pv (i + 1) (ys ++ [y]) H5)
  (hn:∀ i x ys H',xs[i]? = some x -> Pv i ys H' -> p x = false -> Pv (i + 1) ys H')
  (hd:∀ ys H',Pv xs.length ys H' -> ∀ l,H' l = none -> Q (.ref l) (upd H' l (.lst ys))):vk (Itt K a) σ H (uc k) tt te Q:=by
 refine sy (xs:=xs) (fun i ys σ' H'=>(σ' = σ \/ ∃ e,σ' = σ.set k e) /\ Pv i ys H') ⟨.inl rfl,h0⟩ (fun i ys σ' H' _ p=>hl i ys H' p.2) ?_ (fun ys σ' H' p l hl=>hd ys H' p.2 l hl)
 rintro i x ys σ' H' hx ⟨hσ,pv⟩
 have e:σ'.set k (some x) = σ.set k (some x):=by
  rcases hσ with rfl | ⟨e,rfl⟩
  ·rfl
  ·rw [List.set_set]
 show tt (σ'.set k (some x)) H' _
 rw [e]
 refine ht x H' _ (List.mem_of_getElem? hx) ?_
 by_cases c:p x = true
 ·rw [if_pos c]
  have e2:(fun (y:V) (H5:Hp)=>ys.length < sizeLine /\ ((σ.set k (some x) = σ \/ ∃ e,σ.set k (some x) = σ.set k e) /\ Pv (i + 1) (ys ++ [y]) H5)) = fun y H5=>ys.length < sizeLine /\ Pv (i + 1) (ys ++ [y]) H5:=by
   funext y H5
   exact propext ⟨fun z=>⟨z.1,z.2.2⟩,fun z=>⟨z.1,.inr ⟨_,rfl⟩,z.2⟩⟩
  have z:=hs i x ys H' hx pv c
  rw [← e2] at z
  exact z
 ·rw [if_neg c]
  exact ⟨.inr ⟨_,rfl⟩,hn i x ys H' hx pv (by simpa using c)⟩
end
def uU (K:FG7):Sp:=sp2 fun x y H Q=>∃ b ks,zo K H x b /\ 1 <= b.length /\ b.length <= 16 /\ wU K H y ks /\ ks.length <= 900 /\ (∀ k ∈ ks,jd b.length k) /\ ∀ y H',Grow [] H H' -> YU K H' y (vP b.length ks) -> Q y H'
def qb (K:FG7):Sp:=sp2 fun x y H Q=>∃ b ks,zo K H x b /\ 1 <= b.length /\ b.length <= 16 /\ wU K H y ks /\ ks.length <= 900 /\ (∀ k ∈ ks,jd b.length k) /\ ∀ y H',Grow [] H H' -> xq K H' y (vP b.length ks).1 -> Q y H'
def figI (k st l:Int):Int:=Builtin.bitAnd (l / 2 ^ (k - st).toNat) 1
def wfI (k st l w:Int):Int:=Builtin.bitXor l (Builtin.bitXor (figI k st l) w * 2 ^ (k - st).toNat)
def swI (k st l:Int):Int:=Builtin.bitOr (l / 2 ^ (k - st + 1).toNat * 2 ^ (k - st).toNat) (Builtin.bitAnd l (1 * 2 ^ (k - st).toNat - 1))
def ZQ (k n:Int):List Int:=(List.range k.toNat).map fun i:Nat=>Builtin.bitAnd (n / 2 ^ (k - 1 - (0 + (i:Int))).toNat) 1
def numL (xs:List Int):Int:=xs.foldl (fun f o=>2 * f + o) 0
def VG (k h g:Int) (n:Nat):Int:=numL ((ZQ k g).take n ++ (ZQ k h).drop n)
def VH (k l:Int) (st:Nat):Int:=numL ((ZQ k l).take (st - 1) ++ (ZQ k l).drop st)
theorem VI {X:Cx} {K:FG7} {tg l:Expr} {tl:TE} (h:X.K = K) (hl:PE X l tl):PI X tg l (iTup K tl):=by subst h; exact yL hl
theorem nv {i j:Int} (h:i ≠ j):decide (V.int i = V.int j) = false:=decide_eq_false fun z=>h (V.int.inj z)
theorem yv {i j:Int} (h:i = j):decide (V.int i = V.int j) = true:=decide_eq_true (congrArg V.int h)
theorem Deed.Sm.bd2 {d:Deed} (h:d.Sm):d.Bd (2 * 10 ^ 30):=h.bd.mono (by decide)
section
variable {X:Cx} {pins:List (Addr × Obj)} {σ:L2.St} {H2:Hp} {s₂:Shared} {it:Addr} {fp:List Addr} {tn:Nat -> Heap -> Prop} {J:It} {scope:Scope} {cl:List (Str × Addr)} {N':List Str} {sub:List (Option Nat)}
theorem YV {C D:Addr} {s₀:Shared} {tg:Expr} {pos:Pos} {elt iter:Expr} {ifs:List Expr} {g:TG} {tt:TT} {te:TE} {Q:VK} {RR:Value -> Addr -> Result -> Shared -> Prop} {W:Nat -> Nat -> List V -> L2.St -> Hp -> Prop}
  (I:Inv X pins σ H2 s₂) (hcalm:X.calm = true) (T:Turn X.prog X.w X.K tg J fp it tn) (f2:∀ b ∈ fp,FpOk X pins H2 b) (hfp:∀ b ∈ fp,b < s₂.heap.objs.size)
  (hs₀:∀ b o,s₂.heap.get? b = some o -> s₀.heap.get? b = some o) (hos:s₀.os = s₂.os) (hD:s₂.heap.objs.size <= D) (hC:s₂.heap.objs.size <= C) (hDC:D ≠ C)
  (hcl1:∀ x c,cl.lookup x = some c -> X.env.cells.lookup x = some c)
  (hg:PG (cxC X N' scope cl C D fp s₀ H2) tg g) (ht:PIfs (cxC X N' scope cl C D fp s₀ H2) ifs tt) (he:PE (cxC X N' scope cl C D fp s₀ H2) elt te)
  (turn:∀ i m ys σ' H',W i m ys σ' H' →
   (J.stop i H' /\ ∀ l,H' l = none -> Q (.ref l) (upd H' l (.lst ys))) ∨
   (J.go i H' /\ ∃ Nn:List V -> L2.St -> Hp -> Prop,(∀ zs σ2 H2,Nn zs σ2 H2 -> ∃ m',m' < m /\ W (i + 1) m' zs σ2 H2) ∧
    ∀ x H2,J.yld i H' x H2 -> g x σ' H2 fun σ2 H3=>tt σ2 H3 fun b H4=>if b = true then te σ2 H4 fun y H5=>ys.length < sizeLine /\ Nn (ys ++ [y]) σ2 H5 else Nn ys σ2 H4))
  (hRR:∀ (D C:Addr) (oC:Obj) (m:Str -> Option Value) (s':Shared) (Hf:Hp),Inv X (pins ++ [(C,oC)]) σ Hf s' -> s'.heap.Ns C m -> FpOk X pins Hf C -> Q (.ref D) Hf -> RR (.ref D) C (.ok .next) s')
  (n:Nat) (s:Shared) (h:∃ i ys us k σ' H',Inv (cxC X N' scope cl C D fp s₀ H2) pins σ' H' s /\ tn i s.heap /\ (∀ b ∈ fp,H' b = none) /\ H' D = none ∧
   s.heap.get? D = some { cls:=.type "list",data:=.seq (us:List Value).toArray k } /\ Vals ys us /\ ys.length <= sizeLine /\ W i n ys σ' H') :
  codeAny (model X.prog X.w) X.A (.compLoop (.ListComp elt [⟨tg,iter,ifs,0⟩] scope pos) 0 (.ref it) (.ref D) (compEnvC scope cl C X.env)) (RR (.ref D) C) s:=by
 have frsz:∀ b ∈ frs X.stack,b < s₂.heap.objs.size:=fun b hb=>by
  rcases List.mem_cons.mp (I.stkSub b hb) with z | z
  ·rw [z]; exact I.lt
  ·exact Nat.lt_of_not_le fun q=>I.nofs q z
 have cells:∀ x c,cl.lookup x = some c -> c < s₂.heap.objs.size:=fun x c e=>let ⟨v,q⟩:=I.cell x c (hcl1 x c e); q.lt
 have pinsz:∀ p ∈ X.pn ++ pins,p.1 < s₂.heap.objs.size:=fun p hp=>Heap.lt_size (I.pin p hp).1
 refine rM (fun n s=>∃ i ys us k σ' H',Inv (cxC X N' scope cl C D fp s₀ H2) pins σ' H' s /\ tn i s.heap /\ (∀ b ∈ fp,H' b = none) /\ H' D = none ∧
   s.heap.get? D = some { cls:=.type "list",data:=.seq (us:List Value).toArray k } /\ Vals ys us /\ ys.length <= sizeLine /\ W i n ys σ' H') ?_ n h
 rintro n s ⟨i,ys,us,k,σ',H',I',st',fr,hn,hy,rv,hz,w'⟩
 have pD:Inv (cxC X N' scope cl C D fp s₀ H2) (pins ++ [(D,{ cls:=.type "list",data:=.seq us.toArray k })]) σ' H' s:=I'.pins_of fun p hp=>by
  rcases List.mem_append.mp hp with hp | hp
  ·exact I'.pin p (List.mem_append_right _ hp)
  ·rw [List.mem_singleton.mp hp]
   exact ⟨hy,hn,hDC,fun z=>absurd (Nat.lt_of_lt_of_le (frsz _ z) hD) (Nat.lt_irrefl _),fun v z=>by cases z⟩
 have fpok:∀ {H'':Hp},(∀ b ∈ fp,H'' b = none) -> ∀ b ∈ fp,FpOk (cxC X N' scope cl C D fp s₀ H2) (pins ++ [(D,{ cls:=.type "list",data:=.seq us.toArray k })]) H'' b:=fun hz b hb=>by
  refine ⟨hz b hb,Nat.ne_of_lt (Nat.lt_of_lt_of_le (hfp b hb) hC),fun z=>?_,.inl (List.mem_cons_of_mem _ hb),fun x c e=>(f2 b hb).2.2.2.2.1 x c (hcl1 x c e),fun p hp=>?_⟩
  ·rcases List.mem_cons.mp (I.stkSub b z) with z | z
   ·exact (f2 b hb).2.1 z
   ·exact (f2 b hb).2.2.1 z
  ·rcases List.mem_append.mp hp with hp | hp
   ·exact (f2 b hb).2.2.2.2.2 p (List.mem_append_left _ hp)
   ·rcases List.mem_append.mp hp with hp | hp
    ·exact (f2 b hb).2.2.2.2.2 p (List.mem_append_right _ hp)
    ·rw [List.mem_singleton.mp hp]
     exact Nat.ne_of_gt (Nat.lt_of_lt_of_le (hfp b hb) hD)
 rcases turn i n ys σ' H' w' with ⟨stop,q⟩ | ⟨go,Nn,hN,step⟩
 ·refine thn (T.done (cxC X N' scope cl C D fp s₀ H2) rfl rfl rfl hcalm i _ s σ' H' (fun _ _=>False) pD (fpok fr) st' stop) fun r s1 ⟨hr,I1⟩=>?_
  subst hr
  have hy1:=(I1.pin (D,{ cls:=.type "list",data:=.seq us.toArray k }) (by simp)).1
  obtain ⟨m,hm,_⟩:=I1.loc
  obtain ⟨oC,es,ep,hoC,hdC,_⟩:=id hm
  obtain ⟨IX,fpc⟩:=X4 I hs₀ hos hD hC hDC f2 I1.unpinned hn hy1 rv hz hoC (by intro v z; rw [hdC] at z; cases z)
  exact hRR D C oC m s1 _ IX hm fpc (q D hn)
 ·refine thn (T.item (cxC X N' scope cl C D fp s₀ H2) rfl rfl rfl hcalm i _ s σ' H' (fun _ _=>False) pD (fpok fr) st' go) fun r s1 ⟨u,hr,h4⟩=>?_
  subst hr
  refine thn h4 fun _ s2 ⟨x5,H5,I5,r5,y5,st5,fr5⟩=>?_
  have I5':=I5.pinned (fpok fr5) (T.obj _ _ st5)
  refine thn (hg _ s2 σ' H5 x5 u _ I5' r5 (step x5 H5 y5)) fun _ s3 ⟨σ6,H6,I6,q6⟩=>?_
  refine thn (ht _ s3 σ6 H6 _ I6 q6) fun ok s4 ⟨H7,I7,q7⟩=>?_
  have stay:∀ {σ7:L2.St} {H7:Hp} {s7:Shared},Inv (cxC X N' scope cl C D fp s₀ H2) (pins ++ [(D,{ cls:=.type "list",data:=.seq us.toArray k })] ++ uF fp s2.heap) σ7 H7 s7 →
    (∀ b ∈ fp,∀ o,s2.heap.get? b = some o -> s7.heap.get? b = some o) /\ (∀ b ∈ fp,H7 b = none) /\ H7 D = none /\ s7.heap.get? D = some { cls:=.type "list",data:=.seq us.toArray k }:=fun {σ7 H7 s7} I7=>by
   have d:=I7.pin (D,{ cls:=.type "list",data:=.seq us.toArray k }) (by simp)
   refine ⟨fun b hb o e=>(I7.pin (b,o) (List.mem_append_right _ (List.mem_append_right _ (yE hb e)))).1,fun b hb=>?_,d.2.1,d.1⟩
   obtain ⟨o,e,_⟩:=T.obj _ _ st5 b hb
   exact (I7.pin (b,o) (List.mem_append_right _ (List.mem_append_right _ (yE hb e)))).2.1
  cases ok with
  | false =>
   rw [if_neg (by decide)] at q7 ⊢
   obtain ⟨k1,k2,k3,k4⟩:=stay I7
   obtain ⟨m',hm,w7⟩:=hN ys σ6 H7 q7
   exact ⟨m',hm,i + 1,ys,us,k,σ6,H7,I7.unpinned.unpinned,T.keep _ _ _ st5 k1,k2,k3,k4,rv,hz,w7⟩
  | true =>
   rw [if_pos rfl] at q7 ⊢
   refine thn (he _ s4 σ6 H7 _ I7 q7) fun v s5 ⟨y,H8,I8,r8,hl8,n8⟩=>?_
   obtain ⟨k1,k2,k3,k4⟩:=stay I8
   refine wpAny_list_append_plain (l:=D) ⟨k,k4⟩ (fun h' pl sb=>?_) (by rw [List.size_toArray,← rv.length]; exact hz)
   obtain ⟨k',e'⟩:=pl
   obtain ⟨m',hm,w8⟩:=hN _ σ6 H8 n8
   refine ⟨m',hm,i + 1,ys ++ [y],us ++ [v],k',σ6,H8,?_,T.keep _ _ _ (T.keep _ _ _ st5 k1) fun b hb o e=>sb.extBut b o (Nat.ne_of_lt (Nat.lt_of_lt_of_le (hfp b hb) hD)) e,k2,k3,?_,rv.append (.cons r8 .nil),?_,w8⟩
   ·exact (I8.unpinned.unpinned).turned (it:=D) (t':=s5.toks) (h':=h') (fun b o hb e=>sb.extBut b o hb e) k3 hDC (.inl (by simp)) (fun x c e=>Nat.ne_of_lt (Nat.lt_of_lt_of_le (cells x c e) hD)) (fun p hp=>Nat.ne_of_lt (Nat.lt_of_lt_of_le (pinsz p hp) hD))
   ·rw [e']; simp
   ·rw [List.length_append]; exact hl8
theorem uV {tg:Expr} {pos:Pos} {elt iter:Expr} {ifs:List Expr} {g:TG} {tt:TT} {te:TE} {E:VS7} {Q:VK} {RR:Value -> Addr -> Result -> Shared -> Prop}
  (I:Inv X pins σ H2 s₂) (hcalm:X.calm = true) (T:Turn X.prog X.w X.K tg J fp it tn) (st:tn 0 s₂.heap) (f2:∀ b ∈ fp,FpOk X pins H2 b)
  (S:CSc X scope N' sub) (hcl1:∀ x c,cl.lookup x = some c -> X.env.cells.lookup x = some c) (hcl2:∀ y ∈ scope.names,y.2 = .free -> ∃ c,cl.lookup y.1 = some c)
  (hg:∀ C D fp s H,PG (cxC X N' scope cl C D fp s H) tg g) (ht:∀ C D fp s H,PIfs (cxC X N' scope cl C D fp s H) ifs tt) (he:∀ C D fp s H,PE (cxC X N' scope cl C D fp s H) elt te)
  (hW:vk J (capt sub σ) H2 g tt te Q)
  (hRR:∀ (D C:Addr) (oC:Obj) (m:Str -> Option Value) (s':Shared) (Hf:Hp),Inv X (pins ++ [(C,oC)]) σ Hf s' -> s'.heap.Ns C m -> FpOk X pins Hf C -> Q (.ref D) Hf -> RR (.ref D) C (.ok .next) s') :
  wpAny (model X.prog X.w) X.A (newList []) (fun acc s₃=>wpAny (model X.prog X.w) X.A (newFunctionEnv scope X.env.globals cl [] X.env.qual none .none (some X.env)) (fun cenv s₄ =>
   codeAny (model X.prog X.w) X.A (.compStart (.ListComp elt [⟨tg,iter,ifs,0⟩] scope pos) 0 (.ref it) acc { cenv with scope:=relabel scope X.env }) (RR acc cenv.locals) s₄) E s₃) E s₂:=by
 obtain ⟨W,⟨m0,w0⟩,turn⟩:=hW
 refine wpAny_newObj_type (wpAny_newFunctionEnv S.nocell (by intro y hy; simp at hy) (fun h₁ hns₁ hsb₁=>?_) S.kind)
 dsimp only at hns₁ hsb₁ ⊢
 have hC:(s₂.heap.push { cls:=.type "list",dict:=none,data:=.seq ([]:List Value).toArray }).objs.size = s₂.heap.objs.size + 1:=Heap.size_push ..
 rw [hC] at hns₁ hsb₁ ⊢
 have hk:∀ b o,(s₂.heap.push { cls:=.type "list",dict:=none,data:=.seq ([]:List Value).toArray }).get? b = some o -> h₁.get? b = some o:=fun b o e =>
  hsb₁.extBut b o (by have:=Heap.lt_size e; rw [hC] at this; exact Nat.ne_of_lt this) (Heap.get?_push_of_some _ e)
 have hfp:∀ b ∈ fp,b < s₂.heap.objs.size:=fun b hb=>by
  obtain ⟨o,e,_⟩:=T.obj _ _ st b hb
  exact Heap.lt_size e
 have I0:=tM (tk:=s₂.toks + ([]:List (Str × Value)).length) I S hcl1 hcl2 f2 hfp hns₁ hk
 have hD0:h₁.get? s₂.heap.objs.size = some { cls:=.type "list",data:=.seq ([]:List Value).toArray 0 }:=hk _ _ (Heap.get?_push_size _ rfl)
 have loop:codeAny (model X.prog X.w) X.A (.compLoop (.ListComp elt [⟨tg,iter,ifs,0⟩] scope pos) 0 (.ref it) (.ref s₂.heap.objs.size) (compEnvC scope cl (s₂.heap.objs.size + 1) X.env)) (RR (.ref s₂.heap.objs.size) (s₂.heap.objs.size + 1)) { s₂ with heap:=h₁,toks:=s₂.toks + ([]:List (Str × Value)).length } :=
  YV (s₀:={ s₂ with heap:=s₂.heap.push { cls:=.type "list",dict:=none,data:=.seq ([]:List Value).toArray } }) (C:=s₂.heap.objs.size + 1) (D:=s₂.heap.objs.size) I hcalm T f2 hfp (fun b o e=>Heap.get?_push_of_some _ e) rfl (Nat.le_refl _) (Nat.le_succ _) (Nat.ne_of_lt (Nat.lt_succ_self _)) hcl1 (hg _ _ _ _ _) (ht _ _ _ _ _) (he _ _ _ _ _) turn hRR m0 _
   ⟨0,[],[],0,capt sub σ,H2,I0,T.keep _ _ _ st fun b hb o e=>hk b o (Heap.get?_push_of_some _ e),fun b hb=>(f2 b hb).1,I.hok.fresh (Nat.le_refl _),hD0,.nil,Nat.zero_le _,w0⟩
 exact codeAny_compStart_list loop (T.self _ _ _ _ _ (T.keep _ _ _ st fun b hb o e=>hk b o (Heap.get?_push_of_some _ e)) loop)
end
section
variable {X:Cx} {scope:Scope} {N':List Str} {sub:List (Option Nat)} {tg:Expr} {pos:Pos} {elt iter:Expr} {ifs:List Expr} {wi:TI} {g:TG} {tt:TT} {te:TE}
theorem zL (S:CSc X scope N' sub) (hcalm:X.calm = true) (hi:PI X tg iter wi)
  (hg:∀ cl C D fp s H,PG (cxC X N' scope cl C D fp s H) tg g) (ht:∀ cl C D fp s H,PIfs (cxC X N' scope cl C D fp s H) ifs tt) (he:∀ cl C D fp s H,PE (cxC X N' scope cl C D fp s H) elt te)
  (hs:∀ x,foldedSetIterable iter X.env x = pure x:=by intro _; rfl):PE X (.ListComp elt [⟨tg,iter,ifs,0⟩] scope pos) (Vs wi sub g tt te):=by
 intro pins s σ H Q I h
 obtain ⟨cl,hclos,hcl1,hcl2⟩:=S.clos I
 rw [eval_ListComp]
 refine wpAny_comprehension_free (use:=none) rfl hs hclos S.kind S.names (thn (hi pins s σ H _ I h) fun v s1 h1=>thn h1 fun itv s2 h2=>?_)
 obtain ⟨it,fp,tn,J,H2,e,I2,T,st2,f2,hW⟩:=h2
 subst e
 refine uV (RR:=fun acc C=>compPost (model X.prog X.w) X.A X.xe none (EP X pins σ Q) acc C) I2 hcalm T st2 f2 S hcl1 hcl2 (hg cl) (ht cl) (he cl) hW ?_
 intro D C oC m s' Hf IX hm fpc q
 refine ⟨m,hm,fun h' sb=>⟨.ref D,Hf,?_,rfl,q⟩⟩
 exact (IX.unpinned).turned (it:=C) (t':=s'.toks) (h':=h') (fun b o hb e=>sb.extBut b o hb e) fpc.1 fpc.2.1 fpc.2.2.2.1 fpc.2.2.2.2.1 fpc.2.2.2.2.2
theorem Wf {i:Nat} {y:Str} {py spos:Pos} (hN:X.N.Nodup) (hiN:X.N[i]? = some y) (hy:X.env.scope.names.lookup y = some .local) (S:CSc X scope N' sub) (hcalm:X.calm = true) (hi:PI X tg iter wi)
  (hg:∀ cl C D fp s H,PG (cxC X N' scope cl C D fp s H) tg g) (ht:∀ cl C D fp s H,PIfs (cxC X N' scope cl C D fp s H) ifs tt) (he:∀ cl C D fp s H,PE (cxC X N' scope cl C D fp s H) elt te)
  (hsw:swapsWith (.ListComp elt [⟨tg,iter,ifs,0⟩] scope pos) (some (.Name y py)) spos.line X.env = pure true:=by rfl)
  (hs:∀ x,foldedSetIterable iter X.env x = pure x:=by intro _; rfl):PS X (.Assign [.Name y py] (.ListComp elt [⟨tg,iter,ifs,0⟩] scope pos) spos) (tAsg (Vs wi sub g tt te) (uc i)):=by
 intro pins s σ H D I h
 obtain ⟨cl,hclos,hcl1,hcl2⟩:=S.clos I
 rw [exec_Assign_Name_used _ _ _ _ hsw]
 refine wpAny_bind (wpAny_standAt (wpAny_bind ?_))
 show wpAny _ X.A (do let _ ← comprehension (.ListComp elt [⟨tg,iter,ifs,0⟩] scope pos) scope X.env _ (newList []) false (eval iter X.env) (some (assign (.Name y py) X.env))) _ _ s
 refine wpAny_bind (wpAny_mono (wpAny_comprehension_free (use:=some (assign (.Name y py) X.env)) (Q:=fun _ s'=>SP X pins D .next s') rfl hs hclos S.kind S.names
  (thn (hi pins s σ H _ I h) fun v s1 h1=>thn h1 fun itv s2 h2=>?_)) (fun _ s' hq=>wpAny_pure (wpAny_pure hq)) fun _ _ e=>e)
 obtain ⟨it,fp,tn,J,H2,e,I2,T,st2,f2,hW⟩:=h2
 subst e
 refine uV (Q:=fun x H1=>uc i x σ H1 D.nx) (RR:=fun acc C=>compPost (model X.prog X.w) X.A X.xe (some (assign (.Name y py) X.env)) (fun _ s'=>SP X pins D .next s') acc C) I2 hcalm T st2 f2 S hcl1 hcl2 (hg cl) (ht cl) (he cl) hW ?_
 intro L C oC m s' Hf IX hm fpc q
 have st:=zm (X:=X) (pos:=py) hN hiN (.inl hy) (.inr hy) _ s' σ Hf (.ref L) (.ref L) D.nx IX rfl q
 refine thn st fun _ s'' ⟨σ2,H2,I2',q2⟩=>?_
 have p:=I2'.pin (C,oC) (by simp)
 have hm':s''.heap.Ns C m:=by
  obtain ⟨o,es,ep,e1,r⟩:=hm
  have z:=(IX.pin (C,oC) (by simp)).1
  rw [e1] at z; cases z
  exact ⟨_,es,ep,p.1,r⟩
 refine ⟨m,hm',fun h' sb=>⟨σ2,H2,?_,q2⟩⟩
 exact (I2'.unpinned).turned (it:=C) (t':=s''.toks) (h':=h') (fun b o hb e=>sb.extBut b o hb e) p.2.1 fpc.2.1 fpc.2.2.2.1 fpc.2.2.2.2.1 fpc.2.2.2.2.2
end
section
variable {prog:Program} {w:World} {A:Around} {E:VS7} {s:Shared}
theorem tX {h:Heap} {z TI TO:Addr} {f0:Value} (hz:IsZip h z TI TO f0) (v:Value):IsZip (h.update z (Obj.mapFields fun x=>x.setIfInBounds 0 v)) z TI TO v /\ Heap.SameBut z h (h.update z (Obj.mapFields fun x=>x.setIfInBounds 0 v)) :=
 ⟨Heap.get?_update_self _ hz rfl,Heap.SameBut.update ..⟩
theorem UE {h:Heap} {z TI TO:Addr} {f0:Value} (hz:IsZip h z TI TO f0):IsZip (h.update z (Obj.mapFields fun x=>x.setIfInBounds 1 (.bool false))) z TI TO f0 /\ Heap.SameBut z h (h.update z (Obj.mapFields fun x=>x.setIfInBounds 1 (.bool false))) :=
 ⟨Heap.get?_update_self _ hz rfl,Heap.SameBut.update ..⟩
theorem W7 {h:Heap} {T:Addr} {a b:Value} (hp:IsPair h T a b) (v:Value):IsPair (h.update T (Obj.mapSeq fun x=>x.setIfInBounds 0 v)) T v b /\ Heap.SameBut T h (h.update T (Obj.mapSeq fun x=>x.setIfInBounds 0 v)) :=
 ⟨Heap.get?_update_self _ hp rfl,Heap.SameBut.update ..⟩
theorem UF {h:Heap} {T:Addr} {a b:Value} (hp:IsPair h T a b) (v:Value):IsPair (h.update T (Obj.mapSeq fun x=>x.setIfInBounds 1 v)) T a v /\ Heap.SameBut T h (h.update T (Obj.mapSeq fun x=>x.setIfInBounds 1 v)) :=
 ⟨Heap.get?_update_self _ hp rfl,Heap.SameBut.update ..⟩
theorem YW {z TI TO i1 i2:Addr} {fp1 fp2:List Addr} {n1 n2 i:Nat} {P1 P2:Nat -> Value -> Prop} {St1 St2:Nat -> Heap -> Prop} {a b:Value} {Q:VS7}
  (D1:Draws prog w A i1 fp1 n1 P1 St1) (D2:Draws prog w A i2 fp2 n2 P2 St2)
  (hz:IsZip s.heap z TI TO .none) (hI:IsPair s.heap TI (.ref i1) (.ref i2)) (hO:IsPair s.heap TO a b) (st1:St1 i s.heap) (st2:St2 i s.heap) (l1:i < n1) (l2:i < n2)
  (z1:z ∉ fp1) (z2:z ∉ fp2) (o1:TO ∉ fp1) (o2:TO ∉ fp2) (x12:i2 ∉ fp1) (x21:i1 ∉ fp2) (iz1:i1 ≠ z) (iz2:i2 ≠ z) (io1:i1 ≠ TO) (io2:i2 ≠ TO) (oz:TO ≠ z) (tz:TI ≠ z) (tO:TI ≠ TO) (ti1:TI ≠ i1) (ti2:TI ≠ i2)
  (hQ:∀ x y h' tk,P1 i x -> P2 i y -> IsZip h' z TI TO (rawInt s.heap.objs.size) -> IsPair h' TI (.ref i1) (.ref i2) -> IsPair h' TO x y -> St1 (i + 1) h' -> St2 (i + 1) h' -> IsPair h' s.heap.objs.size x y -> h'.objs.size = s.heap.objs.size + 1 →
   (∀ c o,c ≠ z -> c ≠ TO -> c ≠ i1 -> c ≠ i2 -> s.heap.get? c = some o -> h'.get? c = some o) -> Q (.ref s.heap.objs.size) { s with heap:=h',toks:=tk }) :
  wpAny (model prog w) A (Builtin.«zip.__next__» { pos:=[.ref z] }) (fun fin s'=>∃ v,fin = Fin.done (Flow.ret v) /\ Q v s') E s:=by
 show wpAny _ _ (field (.ref z) 2 >>= _) _ _ s
 refine wpAny_bind (wpAny_field hz rfl (x:=.bool false) rfl ?_)
 show wpAny _ _ (field (.ref z) 3 >>= _) _ _ s
 refine wpAny_bind (wpAny_field hz rfl (x:=.ref TI) rfl ?_)
 show wpAny _ _ (seqItems? (.ref TI) >>= _) _ _ s
 refine wpAny_bind (wpAny_seqItems hI rfl ?_)
 show wpAny _ _ (Builtin.SmallTypes.ownedTupleIsFree (.ref z) >>= _) _ _ s
 refine wpAny_bind ?_
 unfold Builtin.SmallTypes.ownedTupleIsFree
 refine wpAny_bind (wpAny_field hz rfl (x:=.none) rfl (wpAny_pure ?_))
 show wpAny _ _ (rule _ >>= _) _ _ s
 refine wpAny_bind (wpAny_rule ?_)
 show wpAny _ _ (field (.ref z) 4 >>= _) _ _ s
 refine wpAny_bind (wpAny_field hz rfl (x:=.ref TO) rfl ?_)
 show wpAny _ _ (setField (.ref z) 0 .ellipsis >>= _) _ _ s
 refine wpAny_bind (wpAny_setField hz rfl (by show 0 < 5; decide) ?_)
 obtain ⟨hz0,sb0⟩:=tX hz .ellipsis
 revert hz0 sb0
 generalize s.heap.update z (Obj.mapFields fun x=>x.setIfInBounds 0 Value.ellipsis) = h0
 intro hz0 sb0
 have no:∀ b,b ≠ z -> ∀ o,s.heap.get? b = some o -> h0.get? b = some o:=fun b hb o e=>(sb0.2 b hb).trans e
 refine wpAny_bind ?_
 show wpAny _ _ (forIn [(Value.ref i1,0),(Value.ref i2,1)] (none,()) _) _ _ _
 rw [List.forIn_cons]
 refine wpAny_bind (wpAny_bind (wpAny_onRaise ?_))
 show wpAny _ _ (Builtin.SmallTypes.nextOf (.ref i1) >>= fun x=>pure (some x)) _ _ _
 refine wpAny_bind (D1.item i { s with heap:=h0 } _ _ l1 (D1.frame _ _ _ st1 fun b hb o e=>no b (fun q=>z1 (q ▸ hb)) o e) fun x h1 tk1 p1 st1' sb1=>wpAny_pure ?_)
 have hO1:IsPair h1 TO a b:=(sb1.2 TO (Ne.symm io1)).trans (no TO oz _ hO)
 show wpAny _ _ (seqItems? (.ref TO) >>= _) _ _ _
 refine wpAny_bind (wpAny_seqItems (s:={ s with heap:=h1,toks:=tk1 }) hO1 rfl ?_)
 show wpAny _ _ (updateSeq TO _ >>= _) _ _ _
 refine wpAny_bind (wpAny_updateSeq (s:={ s with heap:=h1,toks:=tk1 }) hO1 rfl ?_)
 obtain ⟨hO2,sb2⟩:=W7 hO1 x
 revert hO2 sb2
 show IsPair (h1.update TO (Obj.mapSeq fun q=>q.setIfInBounds 0 x)) TO x b -> Heap.SameBut TO h1 (h1.update TO (Obj.mapSeq fun q=>q.setIfInBounds 0 x)) -> wpAny _ _ _ _ _ { s with heap:=h1.update TO (Obj.mapSeq fun q=>q.setIfInBounds 0 x),toks:=tk1 }
 generalize h1.update TO (Obj.mapSeq fun q=>q.setIfInBounds 0 x) = h2
 intro hO2 sb2
 refine wpAny_bind (wpAny_letGo (wpAny_pure ?_))
 show wpAny _ _ (forIn [(Value.ref i2,1)] (none,()) _) _ _ _
 rw [List.forIn_cons]
 refine wpAny_bind (wpAny_bind (wpAny_onRaise ?_))
 show wpAny _ _ (Builtin.SmallTypes.nextOf (.ref i2) >>= fun x=>pure (some x)) _ _ _
 have k2:∀ c o,c ≠ z -> c ≠ TO -> c ≠ i1 -> s.heap.get? c = some o -> h2.get? c = some o:=fun c o c1 c2 c3 e=>(sb2.2 c c2).trans ((sb1.2 c c3).trans (no c c1 o e))
 refine wpAny_bind (D2.item i { s with heap:=h2,toks:=tk1 } _ _ l2 (D2.frame _ _ _ st2 fun c hc o e=>k2 c o (fun q=>z2 (q ▸ hc)) (fun q=>o2 (q ▸ hc)) (fun q=>x21 (q ▸ hc)) e) fun y h3 tk3 p2 st2' sb3=>wpAny_pure ?_)
 have hO3:IsPair h3 TO x b:=(sb3.2 TO (Ne.symm io2)).trans hO2
 show wpAny _ _ (seqItems? (.ref TO) >>= _) _ _ _
 refine wpAny_bind (wpAny_seqItems (s:={ s with heap:=h3,toks:=tk3 }) hO3 rfl ?_)
 show wpAny _ _ (updateSeq TO _ >>= _) _ _ _
 refine wpAny_bind (wpAny_updateSeq (s:={ s with heap:=h3,toks:=tk3 }) hO3 rfl ?_)
 obtain ⟨hO4,sb4⟩:=UF hO3 y
 revert hO4 sb4
 show IsPair (h3.update TO (Obj.mapSeq fun q=>q.setIfInBounds 1 y)) TO x y -> Heap.SameBut TO h3 (h3.update TO (Obj.mapSeq fun q=>q.setIfInBounds 1 y)) -> wpAny _ _ _ _ _ { s with heap:=h3.update TO (Obj.mapSeq fun q=>q.setIfInBounds 1 y),toks:=tk3 }
 generalize h3.update TO (Obj.mapSeq fun q=>q.setIfInBounds 1 y) = h4
 intro hO4 sb4
 refine wpAny_bind (wpAny_letGo (wpAny_pure ?_))
 show wpAny _ _ (forIn [] (none,()) _) _ _ _
 rw [List.forIn_nil]
 refine wpAny_pure ?_
 show wpAny _ _ (seqItems? (.ref TO) >>= _) _ _ _
 refine wpAny_bind (wpAny_seqItems (s:={ s with heap:=h4,toks:=tk3 }) hO4 rfl ?_)
 show wpAny _ _ (newTuple [x,y] >>= _) _ _ _
 refine wpAny_bind ?_
 simp only [newTuple]
 have k4:∀ c o,c ≠ z -> c ≠ TO -> c ≠ i1 -> c ≠ i2 -> s.heap.get? c = some o -> h4.get? c = some o:=fun c o c1 c2 c3 c4 e=>(sb4.2 c c2).trans ((sb3.2 c c4).trans (k2 c o c1 c2 c3 e))
 have hz4:IsZip h4 z TI TO .ellipsis:=(sb4.2 z (Ne.symm oz)).trans ((sb3.2 z (Ne.symm iz2)).trans ((sb2.2 z (Ne.symm oz)).trans ((sb1.2 z (Ne.symm iz1)).trans hz0)))
 have s1':St1 (i + 1) h4:=D1.frame _ _ _ st1' fun c hc o e=>(sb4.2 c (fun q=>o1 (q ▸ hc))).trans ((sb3.2 c (fun q=>x12 (q ▸ hc))).trans ((sb2.2 c (fun q=>o1 (q ▸ hc))).trans e))
 have s2':St2 (i + 1) h4:=D2.frame _ _ _ st2' fun c hc o e=>(sb4.2 c (fun q=>o2 (q ▸ hc))).trans e
 have sz4:h4.objs.size = s.heap.objs.size:=by rw [sb4.1,sb3.1,sb2.1,sb1.1,sb0.1]
 refine wpAny_newObj_type ?_ (by size_fits)
 have hz5:IsZip (h4.push { cls:=.type "tuple",data:=.seq #[x,y] }) z TI TO .ellipsis:=Heap.get?_push_of_some _ hz4
 have hT5:IsPair (h4.push { cls:=.type "tuple",data:=.seq #[x,y] }) h4.objs.size x y:=Heap.get?_push_size _ rfl
 have sz5:(h4.push { cls:=.type "tuple",data:=.seq #[x,y] }).objs.size = h4.objs.size + 1:=Heap.size_push ..
 have k5:∀ c o,h4.get? c = some o -> (h4.push { cls:=.type "tuple",data:=.seq #[x,y] }).get? c = some o:=fun c o e=>Heap.get?_push_of_some _ e
 show wpAny _ _ _ _ _ { s with heap:=h4.push { cls:=.type "tuple",data:=.seq #[x,y] },toks:=tk3 }
 revert hz5 hT5 sz5 k5
 generalize h4.push { cls:=.type "tuple",data:=.seq #[x,y] } = h5
 intro hz5 hT5 sz5 k5
 show wpAny _ _ (Builtin.SmallTypes.ownedTupleHandOut (.ref z) (.ref h4.objs.size) >>= fun _=>pure (Fin.done (Flow.ret (.ref h4.objs.size)))) _ _ _
 rw [sz4] at hT5 sz5 ⊢
 refine wpAny_bind ?_
 show wpAny _ _ (setField (.ref z) 0 (rawInt s.heap.objs.size) >>= fun _=>setField (.ref z) 1 (.bool false)) _ _ _
 refine wpAny_bind (wpAny_setField (s:={ s with heap:=h5,toks:=tk3 }) hz5 rfl (by show 0 < 5; decide) ?_)
 obtain ⟨hz6,sb6⟩:=tX hz5 (rawInt s.heap.objs.size)
 obtain ⟨hz7,sb7⟩:=UE hz6
 refine wpAny_setField hz6 rfl (by show 1 < 5; decide) (wpAny_pure ⟨_,rfl,?_⟩)
 have k7:∀ c o,c ≠ z -> h4.get? c = some o -> ((h5.update z (Obj.mapFields fun x=>x.setIfInBounds 0 (rawInt s.heap.objs.size))).update z (Obj.mapFields fun x=>x.setIfInBounds 1 (.bool false))).get? c = some o:=fun c o c1 e=>(sb7.2 c c1).trans ((sb6.2 c c1).trans (k5 c o e))
 have nT:s.heap.objs.size ≠ z:=Nat.ne_of_gt (Heap.lt_size hz)
 exact hQ x y _ tk3 p1 p2 hz7 (k7 TI _ tz (k4 TI _ tz tO ti1 ti2 hI)) (k7 TO _ oz hO4) (D1.frame _ _ _ s1' fun c hc o e=>k7 c o (fun q=>z1 (q ▸ hc)) e) (D2.frame _ _ _ s2' fun c hc o e=>k7 c o (fun q=>z2 (q ▸ hc)) e) ((sb7.2 _ nT).trans ((sb6.2 _ nT).trans hT5)) (by rw [sb7.1,sb6.1,sz5]) fun c o c1 c2 c3 c4 e=>k7 c o c1 (k4 c o c1 c2 c3 c4 e)
theorem Wg {z TI TO i1 i2:Addr} {fp1:List Addr} {n1:Nat} {P1:Nat -> Value -> Prop} {St1:Nat -> Heap -> Prop} {a b:Value} {Q:Fin -> Shared -> Prop}
  (D1:Draws prog w A i1 fp1 n1 P1 St1)
  (hz:IsZip s.heap z TI TO .none) (hI:IsPair s.heap TI (.ref i1) (.ref i2)) (hO:IsPair s.heap TO a b) (st1:St1 n1 s.heap)
  (z1:z ∉ fp1) (iz1:i1 ≠ z)
  (hE:∀ h' e tk,(∀ c o,c ≠ z -> c ≠ TO -> c ≠ i1 -> c ≠ i2 -> s.heap.get? c = some o -> h'.get? c = some o) -> (∃ o,h'.get? e = some o /\ o.cls = .type "StopIteration") -> E (.ref e) { s with heap:=h',toks:=tk }) :
  wpAny (model prog w) A (Builtin.«zip.__next__» { pos:=[.ref z] }) Q E s:=by
 show wpAny _ _ (field (.ref z) 2 >>= _) _ _ s
 refine wpAny_bind (wpAny_field hz rfl (x:=.bool false) rfl ?_)
 show wpAny _ _ (field (.ref z) 3 >>= _) _ _ s
 refine wpAny_bind (wpAny_field hz rfl (x:=.ref TI) rfl ?_)
 show wpAny _ _ (seqItems? (.ref TI) >>= _) _ _ s
 refine wpAny_bind (wpAny_seqItems hI rfl ?_)
 show wpAny _ _ (Builtin.SmallTypes.ownedTupleIsFree (.ref z) >>= _) _ _ s
 refine wpAny_bind ?_
 unfold Builtin.SmallTypes.ownedTupleIsFree
 refine wpAny_bind (wpAny_field hz rfl (x:=.none) rfl (wpAny_pure ?_))
 show wpAny _ _ (rule _ >>= _) _ _ s
 refine wpAny_bind (wpAny_rule ?_)
 show wpAny _ _ (field (.ref z) 4 >>= _) _ _ s
 refine wpAny_bind (wpAny_field hz rfl (x:=.ref TO) rfl ?_)
 show wpAny _ _ (setField (.ref z) 0 .ellipsis >>= _) _ _ s
 refine wpAny_bind (wpAny_setField hz rfl (by show 0 < 5; decide) ?_)
 obtain ⟨hz0,sb0⟩:=tX hz .ellipsis
 revert hz0 sb0
 generalize s.heap.update z (Obj.mapFields fun x=>x.setIfInBounds 0 Value.ellipsis) = h0
 intro hz0 sb0
 have no:∀ b,b ≠ z -> ∀ o,s.heap.get? b = some o -> h0.get? b = some o:=fun b hb o e=>(sb0.2 b hb).trans e
 refine wpAny_bind ?_
 show wpAny _ _ (forIn [(Value.ref i1,0),(Value.ref i2,1)] (none,()) _) _ _ _
 rw [List.forIn_cons]
 refine wpAny_bind (wpAny_bind (wpAny_onRaise ?_))
 show wpAny _ _ (Builtin.SmallTypes.nextOf (.ref i1) >>= fun x=>pure (some x)) _ _ _
 refine wpAny_bind (D1.done { s with heap:=h0 } _ _ (D1.frame _ _ _ st1 fun b hb o e=>no b (fun q=>z1 (q ▸ hb)) o e) fun h1 e xb hs=>?_)
 have hz1:IsZip h1 z TI TO .ellipsis:=xb z _ (Ne.symm iz1) hz0
 obtain ⟨hz2,sb2⟩:=tX hz1 .none
 refine wpAny_setField (s:={ s with heap:=h1 }) hz1 rfl (by show 0 < 5; decide) (hE _ e s.toks (fun c o c1 c2 c3 c4 q=>(sb2.2 c c1).trans (xb c o c3 (no c c1 o q))) ?_)
 obtain ⟨o,ho,hc⟩:=hs
 refine ⟨o,(sb2.2 e fun q=>?_).trans ho,hc⟩
 rw [q,hz1] at ho
 obtain rfl:=Option.some.inj ho
 exact absurd hc (by show ¬ (Value.type "zip" = Value.type "StopIteration"); decide)
theorem Wh {z TI TO i1 i2:Addr} {fp1 fp2:List Addr} {n1 i:Nat} {P1 P2:Nat -> Value -> Prop} {St1 St2:Nat -> Heap -> Prop} {a b:Value} {Q:Fin -> Shared -> Prop}
  (D1:Draws prog w A i1 fp1 n1 P1 St1) (D2:Draws prog w A i2 fp2 i P2 St2)
  (hz:IsZip s.heap z TI TO .none) (hI:IsPair s.heap TI (.ref i1) (.ref i2)) (hO:IsPair s.heap TO a b) (st1:St1 i s.heap) (st2:St2 i s.heap) (l1:i < n1)
  (z1:z ∉ fp1) (z2:z ∉ fp2) (o2:TO ∉ fp2) (x21:i1 ∉ fp2) (iz1:i1 ≠ z) (iz2:i2 ≠ z) (io1:i1 ≠ TO) (oz:TO ≠ z)
  (hE:∀ h' e tk,(∀ c o,c ≠ z -> c ≠ TO -> c ≠ i1 -> c ≠ i2 -> s.heap.get? c = some o -> h'.get? c = some o) -> (∃ o,h'.get? e = some o /\ o.cls = .type "StopIteration") -> E (.ref e) { s with heap:=h',toks:=tk }) :
  wpAny (model prog w) A (Builtin.«zip.__next__» { pos:=[.ref z] }) Q E s:=by
 show wpAny _ _ (field (.ref z) 2 >>= _) _ _ s
 refine wpAny_bind (wpAny_field hz rfl (x:=.bool false) rfl ?_)
 show wpAny _ _ (field (.ref z) 3 >>= _) _ _ s
 refine wpAny_bind (wpAny_field hz rfl (x:=.ref TI) rfl ?_)
 show wpAny _ _ (seqItems? (.ref TI) >>= _) _ _ s
 refine wpAny_bind (wpAny_seqItems hI rfl ?_)
 show wpAny _ _ (Builtin.SmallTypes.ownedTupleIsFree (.ref z) >>= _) _ _ s
 refine wpAny_bind ?_
 unfold Builtin.SmallTypes.ownedTupleIsFree
 refine wpAny_bind (wpAny_field hz rfl (x:=.none) rfl (wpAny_pure ?_))
 show wpAny _ _ (rule _ >>= _) _ _ s
 refine wpAny_bind (wpAny_rule ?_)
 show wpAny _ _ (field (.ref z) 4 >>= _) _ _ s
 refine wpAny_bind (wpAny_field hz rfl (x:=.ref TO) rfl ?_)
 show wpAny _ _ (setField (.ref z) 0 .ellipsis >>= _) _ _ s
 refine wpAny_bind (wpAny_setField hz rfl (by show 0 < 5; decide) ?_)
 obtain ⟨hz0,sb0⟩:=tX hz .ellipsis
 revert hz0 sb0
 generalize s.heap.update z (Obj.mapFields fun x=>x.setIfInBounds 0 Value.ellipsis) = h0
 intro hz0 sb0
 have no:∀ b,b ≠ z -> ∀ o,s.heap.get? b = some o -> h0.get? b = some o:=fun b hb o e=>(sb0.2 b hb).trans e
 refine wpAny_bind ?_
 show wpAny _ _ (forIn [(Value.ref i1,0),(Value.ref i2,1)] (none,()) _) _ _ _
 rw [List.forIn_cons]
 refine wpAny_bind (wpAny_bind (wpAny_onRaise ?_))
 show wpAny _ _ (Builtin.SmallTypes.nextOf (.ref i1) >>= fun x=>pure (some x)) _ _ _
 refine wpAny_bind (D1.item i { s with heap:=h0 } _ _ l1 (D1.frame _ _ _ st1 fun b hb o e=>no b (fun q=>z1 (q ▸ hb)) o e) fun x h1 tk1 p1 st1' sb1=>wpAny_pure ?_)
 have hO1:IsPair h1 TO a b:=(sb1.2 TO (Ne.symm io1)).trans (no TO oz _ hO)
 show wpAny _ _ (seqItems? (.ref TO) >>= _) _ _ _
 refine wpAny_bind (wpAny_seqItems (s:={ s with heap:=h1,toks:=tk1 }) hO1 rfl ?_)
 show wpAny _ _ (updateSeq TO _ >>= _) _ _ _
 refine wpAny_bind (wpAny_updateSeq (s:={ s with heap:=h1,toks:=tk1 }) hO1 rfl ?_)
 obtain ⟨hO2,sb2⟩:=W7 hO1 x
 revert hO2 sb2
 show IsPair (h1.update TO (Obj.mapSeq fun q=>q.setIfInBounds 0 x)) TO x b -> Heap.SameBut TO h1 (h1.update TO (Obj.mapSeq fun q=>q.setIfInBounds 0 x)) -> wpAny _ _ _ _ _ { s with heap:=h1.update TO (Obj.mapSeq fun q=>q.setIfInBounds 0 x),toks:=tk1 }
 generalize h1.update TO (Obj.mapSeq fun q=>q.setIfInBounds 0 x) = h2
 intro hO2 sb2
 refine wpAny_bind (wpAny_letGo (wpAny_pure ?_))
 show wpAny _ _ (forIn [(Value.ref i2,1)] (none,()) _) _ _ _
 rw [List.forIn_cons]
 refine wpAny_bind (wpAny_bind (wpAny_onRaise ?_))
 show wpAny _ _ (Builtin.SmallTypes.nextOf (.ref i2) >>= fun x=>pure (some x)) _ _ _
 have k2:∀ c o,c ≠ z -> c ≠ TO -> c ≠ i1 -> s.heap.get? c = some o -> h2.get? c = some o:=fun c o c1 c2 c3 e=>(sb2.2 c c2).trans ((sb1.2 c c3).trans (no c c1 o e))
 have hz2:IsZip h2 z TI TO .ellipsis:=(sb2.2 z (Ne.symm oz)).trans ((sb1.2 z (Ne.symm iz1)).trans hz0)
 refine wpAny_bind (D2.done { s with heap:=h2,toks:=tk1 } _ _ (D2.frame _ _ _ st2 fun c hc o e=>k2 c o (fun q=>z2 (q ▸ hc)) (fun q=>o2 (q ▸ hc)) (fun q=>x21 (q ▸ hc)) e) fun h3 e xb hs=>?_)
 have hz3:IsZip h3 z TI TO .ellipsis:=xb z _ (Ne.symm iz2) hz2
 obtain ⟨hz4,sb4⟩:=tX hz3 .none
 refine wpAny_setField (s:={ s with heap:=h3,toks:=tk1 }) hz3 rfl (by show 0 < 5; decide) (hE _ e tk1 (fun c o c1 c2 c3 c4 q=>(sb4.2 c c1).trans (xb c o c4 (k2 c o c1 c2 c3 q))) ?_)
 obtain ⟨o,ho,hc⟩:=hs
 refine ⟨o,(sb4.2 e fun q=>?_).trans ho,hc⟩
 rw [q,hz3] at ho
 obtain rfl:=Option.some.inj ho
 exact absurd hc (by show ¬ (Value.type "zip" = Value.type "StopIteration"); decide)
end
section
variable {prog:Program} {w:World} {A:Around} {E:VS7} {s:Shared}
theorem YX {e:Addr} {Q:Option Value -> Shared -> Prop} (h:∃ o,s.heap.get? e = some o /\ o.cls = .type "StopIteration") (q:Q none s) :
  wpAny (model prog w) A (do if ← isInstance (.ref e) (.type "StopIteration") then pure none else throw (.ref e):Sem (Option Value)) Q E s:=by
 refine wpAny_bind (wpAny_isInstance (T:="StopIteration") (b:=true) h (by first | rfl | decide) ?_)
 rw [if_pos rfl]
 exact wpAny_pure q
theorem W8 {z TI TO:Addr} {f0:Value} (hz:IsZip s.heap z TI TO f0):s.TypeIs (.ref z) "zip":=⟨_,hz,rfl⟩
theorem YY {z TI TO:Addr} {f0:Value} {Q:Option Value -> Shared -> Prop} (hz:IsZip s.heap z TI TO f0)
  (h:wpAny (model prog w) A.in1 (Builtin.«zip.__next__» { pos:=[.ref z] }) (fun fin s'=>∃ v,fin = Fin.done (Flow.ret v) /\ Q (some v) s')
   (fun e s'=>∃ a,e = .ref a /\ (∃ o,s'.heap.get? a = some o /\ o.cls = .type "StopIteration") /\ Q none s') s):wpAny (model prog w) A (pyNext (.ref z)) Q E s:=by
 unfold pyNext
 refine wpAny_bind (wpAny_attempt (wpAny_callSpecial?_slot (name:=Str.ofString "__next__") (W8 hz) F.slot_zip_next (wpAny_call_entry F.slot_zip_next (W8 hz) F.entry_zip_next (wpAny_mono h (fun fin s' hq=>?_) (fun e s' hq=>?_)) (F.args_zip_next_1 _))))
 ·obtain ⟨v,rfl,q⟩:=hq
  exact ⟨v,rfl,wpAny_pure q⟩
 ·obtain ⟨a,rfl,ho,q⟩:=hq
  exact YX ho q
def wO (h:Heap) (a:Addr) (cn:String) (vs:Array Value):Prop:=(cn = "tuple_iterator" /\ h.IsTuple a vs) \/ (cn = "list_iterator" /\ h.IsList a vs)
theorem wO.iter {a:Addr} {cn:String} {vs:Array Value} {Q:VS7} (h:wO s.heap a cn vs)
  (q:Q (.ref s.heap.objs.size) { s with heap:=s.heap.push { cls:=.type cn,data:=.fields #[.ref a,.int 0 0] } }):wpAny (model prog w) A (pyIter (.ref a)) Q E s:=by
 rcases h with ⟨rfl,h⟩ | ⟨rfl,h⟩
 ·exact wpAny_pyIter_tuple h q
 ·exact wpAny_pyIter_list h q
theorem wO.push {h:Heap} {a:Addr} {cn:String} {vs:Array Value} (x:wO h a cn vs) (o:Obj):wO (h.push o) a cn vs:=by
 rcases x with ⟨rfl,x⟩ | ⟨rfl,x⟩
 ·exact .inl ⟨rfl,x.push o⟩
 ·exact .inr ⟨rfl,x.push o⟩
def zpO (c:String) (a:Addr):Obj:={ cls:=.type c,data:=.fields #[.ref a,.int 0 0] }
def zpT (a b:Value):Obj:={ cls:=.type "tuple",data:=.seq #[a,b] }
def zpZ (TI TO:Addr):Obj:={ cls:=.type "zip",data:=.fields #[.none,.bool false,.bool false,.ref TI,.ref TO] }
def zpN (h:Heap) (c1:String) (a:Addr) (c2:String) (b:Addr):Addr :=
 let h1:=h.push (zpO c1 a)
 let h2:=h1.push (zpO c2 b)
 let h3:=h2.push (zpT (.ref h.objs.size) (.ref h1.objs.size))
 (h3.push (zpT .none .none)).objs.size
def zpH (h:Heap) (c1:String) (a:Addr) (c2:String) (b:Addr):Heap :=
 let h1:=h.push (zpO c1 a)
 let h2:=h1.push (zpO c2 b)
 let h3:=h2.push (zpT (.ref h.objs.size) (.ref h1.objs.size))
 let h4:=h3.push (zpT .none .none)
 h4.push (zpZ h2.objs.size h3.objs.size)
theorem VJ (a b:Addr) (c1 c2:String) (xs ys:Array Value) :
  Meets (Builtin.«zip.__new__» ⟨[.type "zip",.ref a,.ref b],[]⟩) (fun _ R s=>wO s.heap a c1 xs /\ wO s.heap b c2 ys ∧
   R (.ok (.ret (.ref (zpN s.heap c1 a c2 b)))) { s with heap:=zpH s.heap c1 a c2 b }) :=
 .of_wp fun prog w A R s h=>by
  obtain ⟨hp,g,d,tk,os⟩:=s; obtain ⟨h1,h2,h⟩:=h
  have hsub:=sub_zip
  have h2':wO (Shared.heap ⟨hp.push { cls:=.type c1,data:=.fields #[.ref a,.int 0 0] },g,d,tk,os⟩) b c2 ys:=h2.push _
  wp_walk using wO.iter h1,wO.iter h2'
  exact ⟨_,rfl,h⟩
theorem YZ {a b:Addr} {c1 c2:String} {xs ys:Array Value} {Q:VS7} (ha:wO s.heap a c1 xs) (hb:wO s.heap b c2 ys)
  (h:∀ h',IsZip h' (s.heap.objs.size + 4) (s.heap.objs.size + 2) (s.heap.objs.size + 3) .none -> IsPair h' (s.heap.objs.size + 2) (.ref s.heap.objs.size) (.ref (s.heap.objs.size + 1)) -> IsPair h' (s.heap.objs.size + 3) .none .none →
   h'.get? s.heap.objs.size = some (zpO c1 a) -> h'.get? (s.heap.objs.size + 1) = some (zpO c2 b) -> (∀ c o,s.heap.get? c = some o -> h'.get? c = some o) -> Q (.ref (s.heap.objs.size + 4)) { s with heap:=h' }) :
  wpAny (model prog w) A (call (.type "zip") [.ref a,.ref b]) Q E s:=by
 refine callType_new F.called_zip (by decide) (F.typeCall_zip_2 _ _) (F.newCall_zip_2 _ _) (fun obj=>F.args_object_init_3 obj _ _) F.entry_zip_new (VJ a b c1 c2 xs ys) ⟨ha,hb,?_⟩
 have gs:∀ (h:Heap) (o:Obj) (m:Nat),o.isFreed = false -> h.objs.size = m -> (h.push o).get? m = some o /\ (h.push o).objs.size = m + 1:=fun h o m f e=>by
  subst e; exact ⟨Heap.get?_push_size _ f,Heap.size_push ..⟩
 obtain ⟨e1,z1⟩:=gs s.heap (zpO c1 a) _ rfl rfl
 obtain ⟨e2,z2⟩:=gs (s.heap.push (zpO c1 a)) (zpO c2 b) _ rfl z1
 obtain ⟨e3,z3⟩:=gs ((s.heap.push (zpO c1 a)).push (zpO c2 b)) (zpT (.ref s.heap.objs.size) (.ref (s.heap.push (zpO c1 a)).objs.size)) _ rfl z2
 obtain ⟨e4,z4⟩:=gs (((s.heap.push (zpO c1 a)).push (zpO c2 b)).push (zpT (.ref s.heap.objs.size) (.ref (s.heap.push (zpO c1 a)).objs.size))) (zpT .none .none) _ rfl z3
 obtain ⟨e5,z5⟩:=gs ((((s.heap.push (zpO c1 a)).push (zpO c2 b)).push (zpT (.ref s.heap.objs.size) (.ref (s.heap.push (zpO c1 a)).objs.size))).push (zpT .none .none)) (zpZ ((s.heap.push (zpO c1 a)).push (zpO c2 b)).objs.size (((s.heap.push (zpO c1 a)).push (zpO c2 b)).push (zpT (.ref s.heap.objs.size) (.ref (s.heap.push (zpO c1 a)).objs.size))).objs.size) _ rfl z4
 have eN:zpN s.heap c1 a c2 b = s.heap.objs.size + 4:=z4
 have ps:∀ (h:Heap) (o:Obj) (c:Addr) (q:Obj),h.get? c = some q -> (h.push o).get? c = some q:=fun h o c q e=>Heap.get?_push_of_some _ e
 have f5:(zpH s.heap c1 a c2 b).get? (s.heap.objs.size + 4) = some (zpZ (s.heap.objs.size + 2) (s.heap.objs.size + 3)):=by
  have:=e5
  rw [z2,z3] at this
  unfold zpH
  dsimp only
  rw [z2,z3]
  exact this
 have f3:(zpH s.heap c1 a c2 b).get? (s.heap.objs.size + 2) = some (zpT (.ref s.heap.objs.size) (.ref (s.heap.objs.size + 1))):=by
  have:=ps _ (zpZ ((s.heap.push (zpO c1 a)).push (zpO c2 b)).objs.size (((s.heap.push (zpO c1 a)).push (zpO c2 b)).push (zpT (.ref s.heap.objs.size) (.ref (s.heap.push (zpO c1 a)).objs.size))).objs.size) _ _ (ps _ (zpT .none .none) _ _ e3)
  unfold zpH
  dsimp only
  exact this.trans (by rw [z1])
 have f4:(zpH s.heap c1 a c2 b).get? (s.heap.objs.size + 3) = some (zpT .none .none):=ps _ _ _ _ e4
 have f1:(zpH s.heap c1 a c2 b).get? s.heap.objs.size = some (zpO c1 a):=ps _ _ _ _ (ps _ _ _ _ (ps _ _ _ _ (ps _ _ _ _ e1)))
 have f2:(zpH s.heap c1 a c2 b).get? (s.heap.objs.size + 1) = some (zpO c2 b):=ps _ _ _ _ (ps _ _ _ _ (ps _ _ _ _ e2))
 have fk:∀ c o,s.heap.get? c = some o -> (zpH s.heap c1 a c2 b).get? c = some o:=fun c o e=>ps _ _ _ _ (ps _ _ _ _ (ps _ _ _ _ (ps _ _ _ _ (ps _ _ _ _ e))))
 show _ /\ _
 rw [eN]
 exact ⟨⟨_,f5,rfl⟩,h _ f5 f3 f4 f1 f2 fk⟩
end
def SqC (c:Bool) (K:FG7) (H:Hp) (a:Addr) (xs:List V):Prop:=match c with
 | true=>SqT K H a xs
 | false=>SqL K H a xs
def vQ (c:Bool) (h:Heap) (j a:Addr) (i:Nat):Prop:=match c with
 | true=>h.IsTupleIter j a i
 | false=>h.IsListIter j a i
def SeqC (c:Bool) (h:Heap) (a:Addr) (vs:Array Value):Prop:=match c with
 | true=>h.IsTuple a vs
 | false=>h.IsList a vs
def cnC (c:Bool):String:=match c with
 | true=>"tuple_iterator"
 | false=>"list_iterator"
theorem vQ.at {c:Bool} {h h':Heap} {j a:Addr} {i:Nat} (x:vQ c h j a i) (k:∀ o,h.get? j = some o -> h'.get? j = some o):vQ c h' j a i:=by
 cases c
 ·exact Heap.IsListIter.at x k
 ·exact Heap.IsTupleIter.at x k
theorem vQ.obj {c:Bool} {h:Heap} {j a:Addr} {i:Nat} (x:vQ c h j a i):∃ o,h.get? j = some o /\ ∀ v,o.data ≠ .cell v:=by
 cases c
 ·obtain ⟨o,e,_,d⟩:=x
  exact ⟨o,e,fun v z=>by rw [d] at z; cases z⟩
 ·obtain ⟨o,e,_,d⟩:=x
  exact ⟨o,e,fun v z=>by rw [d] at z; cases z⟩
theorem vQ.mk {c:Bool} {h:Heap} {j a:Addr} (e:h.get? j = some (zpO (cnC c) a)):vQ c h j a 0:=by
 cases c
 ·exact ⟨_,e,rfl,rfl⟩
 ·exact ⟨_,e,rfl,rfl⟩
theorem SeqC.src {c:Bool} {h:Heap} {a:Addr} {vs:Array Value} (x:SeqC c h a vs):wO h a (cnC c) vs:=by
 cases c
 ·exact .inr ⟨rfl,x⟩
 ·exact .inl ⟨rfl,x⟩
theorem SeqC.lt {c:Bool} {h:Heap} {a:Addr} {vs:Array Value} (x:SeqC c h a vs):a < h.objs.size:=by
 cases c
 ·obtain ⟨_,e,_⟩:=(show h.IsList a vs from x); exact Heap.lt_size e
 ·obtain ⟨_,e,_⟩:=(show h.IsTuple a vs from x); exact Heap.lt_size e
theorem Zm {prog:Program} {w:World} {A:Around} (hh:A.handled = none) (c:Bool) (j t:Addr) (hne:t ≠ j) (vs:Array Value) :
  Draws prog w A j [j,t] vs.size (fun i v=>vs[i]? = some v) (fun i h=>vQ c h j t i /\ SeqC c h t vs):=by
 cases c
 ·exact Draws.list hh j t hne vs
 ·exact YS hh j t hne vs
theorem ZR {prog:Program} {w:World} {A:Around} (hh:A.handled = none) (jt t:Addr) (vs:Array Value) {i:Nat} (hv:vs[i]? = none) :
  Draws prog w A jt [jt,t] i (fun _ _=>True) (fun j h=>j = i /\ h.IsListIter jt t i /\ h.IsList t vs) where
 live:=fun _ _ st=>let ⟨o,ho,_⟩:=st.2.1; ⟨o,ho⟩
 frame:=fun _ _ _ st hk=>⟨st.1,st.2.1.at (hk jt (by simp)),st.2.2.at (hk t (by simp))⟩
 item:=fun j s Q E hj st hQ=>absurd st.1 (Nat.ne_of_lt hj)
 done:=fun s Q E st hE=>wpAny_nextOf_list_end hh st.2.1 st.2.2 hv hE
theorem vR {prog:Program} {w:World} {A:Around} (hh:A.handled = none) (c:Bool) (j t:Addr) (vs:Array Value) {i:Nat} (hv:vs[i]? = none) :
  Draws prog w A j [j,t] i (fun _ _=>True) (fun k h=>k = i /\ vQ c h j t i /\ SeqC c h t vs):=by
 cases c
 ·exact ZR hh j t vs hv
 ·exact YT hh j t vs hv
theorem xh {X:Cx} {pins:List (Addr × Obj)} {σ:L2.St} {H:Hp} {s:Shared} {c:Bool} {a:Addr} {xs:List V} (I:Inv X pins σ H s) (h:SqC c X.K H a xs):∃ its:List Value,Vals xs its /\ SeqC c s.heap a its.toArray:=by
 cases c
 ·obtain ⟨its,r,p,_⟩:=I.list h
  exact ⟨its,r,p.isList⟩
 ·obtain ⟨its,r,p,_⟩:=I.tuple h
  exact ⟨its,r,p⟩
theorem wx {X:Cx} {pins:List (Addr × Obj)} {σ:L2.St} {H:Hp} {s:Shared} {c:Bool} {a:Addr} {xs ys:List V} (I:Inv X pins σ H s) (h:SqC c X.K H a xs) (h':SqC c X.K H a ys):xs = ys:=by
 cases c
 ·exact I.list_inj h h'
 ·exact I.tuple_inj h h'
theorem nne {i j:Nat} (h:i ≠ j):i ≠ j:=h
theorem nin2 {z j t:Nat} (h1:z ≠ j) (h2:z ≠ t):z ∉ ([j,t]:List Nat):=by simp [h1,h2]
def Itz (K:FG7) (c:Bool) (a:Addr) (d:Bool) (b:Addr):It :=
  ⟨fun i H=>∃ xs ys x y,SqC c K H a xs /\ SqC d K H b ys /\ xs[i]? = some x /\ ys[i]? = some y,
   fun i H x H'=>∃ T v w,H T = none /\ x = .ref T /\ H' = upd H T (.tup [v,w]) /\ (∀ xs,SqC c K H a xs -> xs[i]? = some v) /\ ∀ ys,SqC d K H b ys -> ys[i]? = some w,
   fun i H=>∃ xs ys,SqC c K H a xs /\ SqC d K H b ys /\ (xs.length <= i \/ ys.length <= i)⟩
def UG (c d:Bool) (z TI TO i1 i2 a b:Addr) (i:Nat) (h:Heap):Prop :=
 IsZip h z TI TO .none /\ IsPair h TI (.ref i1) (.ref i2) /\ (∃ u v,IsPair h TO u v) /\ vQ c h i1 a i /\ vQ d h i2 b i
theorem nad {n:Nat} (i j:Nat) (h:i ≠ j):n + i ≠ n + j:=fun z=>h (Nat.add_left_cancel z)
theorem nad0 {n:Nat} (i:Nat) (h:i ≠ 0):n + i ≠ n:=fun z=>h (Nat.add_left_cancel (z.trans (Nat.add_zero n).symm))
theorem Wi {P:Program} {w:World} {K:FG7} {elts:List Expr} {kt:Nat} {pt:Pos} (c d:Bool) (a b n:Nat) (ha:a < n) (hb:b < n) :
  Turn P w K (.Tuple elts kt pt) (Itz K c a d b) [n + 4,n + 3,n + 2,n + 1,n] (n + 4) (UG c d (n + 4) (n + 2) (n + 3) n (n + 1) a b) where
 mem:=by simp
 obj:=fun i h st q hq=>by
  obtain ⟨hz,hI,⟨u,v,hO⟩,s1,s2⟩:=st
  simp only [List.mem_cons,List.mem_nil_iff,or_false] at hq
  rcases hq with rfl | rfl | rfl | rfl | rfl
  ·exact ⟨_,hz,fun v z=>by cases z⟩
  ·exact ⟨_,hO,fun v z=>by cases z⟩
  ·exact ⟨_,hI,fun v z=>by cases z⟩
  ·exact s2.obj
  ·exact s1.obj
 keep:=fun i h h' st k=>by
  obtain ⟨hz,hI,⟨u,v,hO⟩,s1,s2⟩:=st
  exact ⟨k _ (by simp) _ hz,k _ (by simp) _ hI,⟨u,v,k _ (by simp) _ hO⟩,s1.at (k _ (by simp)),s2.at (k _ (by simp))⟩
 item:=by
  intro X hP hw hK hc i pins s σ H E I hf st hg
  subst hP hw hK
  obtain ⟨hz,hI,⟨u0,v0,hO⟩,s1,s2⟩:=st
  obtain ⟨xs,ys,x,y,hqa,hqb,hx,hy⟩:=hg
  obtain ⟨ia,ra,pa⟩:=xh I hqa
  obtain ⟨ib,rb,pb⟩:=xh I hqb
  obtain ⟨u,hu,ru⟩:=ra.get hx
  obtain ⟨v,hv,rv⟩:=rb.get hy
  have l1:i < ia.toArray.size:=by have:=(List.getElem?_eq_some_iff.mp hu).1; simpa using this
  have l2:i < ib.toArray.size:=by have:=(List.getElem?_eq_some_iff.mp hv).1; simpa using this
  have an:a ≠ n:=Nat.ne_of_lt ha
  have bn:b ≠ n + 1:=by omega
  refine YY hz (wpAny_mono (YW (A:=X.A.in1) (Q:=fun v s1=>∃ u,some v = some u /\ wpAny (model X.prog X.w) X.A (letOwnedTupleGo (.Tuple elts kt pt) (.ref (n + 4)) u) (fun _ s2=>∃ x H',Inv X pins σ H' s2 /\ RelV x u /\ (Itz X.K c a d b).yld i H x H' /\ UG c d (n + 4) (n + 2) (n + 3) n (n + 1) a b (i + 1) s2.heap /\ ∀ b ∈ [n + 4,n + 3,n + 2,n + 1,n],H' b = none) E s1) (Zm (A:=X.A.in1) (I.ok.hd hc) c n a an ia.toArray) (Zm (A:=X.A.in1) (I.ok.hd hc) d (n + 1) b bn ib.toArray) hz hI hO ⟨s1,pa⟩ ⟨s2,pb⟩ l1 l2
   (nin2 (by first | exact nad _ _ (by decide) | exact nad0 _ (by decide) | exact (nad0 _ (by decide)).symm | omega) (by first | exact nad _ _ (by decide) | exact nad0 _ (by decide) | exact (nad0 _ (by decide)).symm | omega)) (nin2 (by first | exact nad _ _ (by decide) | exact nad0 _ (by decide) | exact (nad0 _ (by decide)).symm | omega) (by first | exact nad _ _ (by decide) | exact nad0 _ (by decide) | exact (nad0 _ (by decide)).symm | omega)) (nin2 (by first | exact nad _ _ (by decide) | exact nad0 _ (by decide) | exact (nad0 _ (by decide)).symm | omega) (by first | exact nad _ _ (by decide) | exact nad0 _ (by decide) | exact (nad0 _ (by decide)).symm | omega)) (nin2 (by first | exact nad _ _ (by decide) | exact nad0 _ (by decide) | exact (nad0 _ (by decide)).symm | omega) (by first | exact nad _ _ (by decide) | exact nad0 _ (by decide) | exact (nad0 _ (by decide)).symm | omega)) (nin2 (by first | exact nad _ _ (by decide) | exact nad0 _ (by decide) | exact (nad0 _ (by decide)).symm | omega) (by first | exact nad _ _ (by decide) | exact nad0 _ (by decide) | exact (nad0 _ (by decide)).symm | omega)) (nin2 (by first | exact nad _ _ (by decide) | exact nad0 _ (by decide) | exact (nad0 _ (by decide)).symm | omega) (by first | exact nad _ _ (by decide) | exact nad0 _ (by decide) | exact (nad0 _ (by decide)).symm | omega)) (nne (by first | exact nad _ _ (by decide) | exact nad0 _ (by decide) | exact (nad0 _ (by decide)).symm | omega)) (nne (by first | exact nad _ _ (by decide) | exact nad0 _ (by decide) | exact (nad0 _ (by decide)).symm | omega)) (nne (by first | exact nad _ _ (by decide) | exact nad0 _ (by decide) | exact (nad0 _ (by decide)).symm | omega)) (nne (by first | exact nad _ _ (by decide) | exact nad0 _ (by decide) | exact (nad0 _ (by decide)).symm | omega)) (nne (by first | exact nad _ _ (by decide) | exact nad0 _ (by decide) | exact (nad0 _ (by decide)).symm | omega)) (nne (by first | exact nad _ _ (by decide) | exact nad0 _ (by decide) | exact (nad0 _ (by decide)).symm | omega)) (nne (by first | exact nad _ _ (by decide) | exact nad0 _ (by decide) | exact (nad0 _ (by decide)).symm | omega)) (nne (by first | exact nad _ _ (by decide) | exact nad0 _ (by decide) | exact (nad0 _ (by decide)).symm | omega)) (nne (by first | exact nad _ _ (by decide) | exact nad0 _ (by decide) | exact (nad0 _ (by decide)).symm | omega)) ?_) (fun fin s' hq=>hq) (fun e s' (hq:False)=>hq.elim))
  intro p q h1 tk hp hq hz1 hI1 hO1 st1 st2 hT hsz hk
  have ep:p = u:=by
   have e1:ia.toArray[i]? = some p:=hp
   have e2:ia.toArray[i]? = some u:=by simpa using hu
   rw [e1] at e2; exact Option.some.inj e2
  have eq':q = v:=by
   have e1:ib.toArray[i]? = some q:=hq
   have e2:ib.toArray[i]? = some v:=by simpa using hv
   rw [e1] at e2; exact Option.some.inj e2
  subst ep eq'
  refine ⟨_,rfl,wpAny_letOwnedTupleGo_zip (s:={ s with heap:=h1,toks:=tk }) hz1 fun h2 hz2 hs2=>?_⟩
  have hk2:∀ b o,b ∉ [n + 4,n + 3,n + 2,n + 1,n] -> s.heap.get? b = some o -> h2.get? b = some o:=fun b o hb q=>by
   have n1:b ≠ n + 4:=fun z=>hb (by simp [z])
   have n2:b ≠ n + 3:=fun z=>hb (by simp [z])
   have n3:b ≠ n + 1:=fun z=>hb (by simp [z])
   have n4:b ≠ n:=fun z=>hb (by simp [z])
   exact (hs2.2 b n1).trans (hk b o n1 n2 n4 n3 q)
  have zs:n + 4 < s.heap.objs.size:=Heap.lt_size hz
  have hT2:h2.get? s.heap.objs.size = some { cls:=.type "tuple",data:=.seq #[p,q] }:=(hs2.2 _ (Nat.ne_of_gt zs)).trans hT
  have hn:H s.heap.objs.size = none:=I.hok.fresh (Nat.le_refl _)
  have I2:Inv X pins σ (upd H s.heap.objs.size (.tup [x,y])) { s with heap:=h2,toks:=tk }:=Zk (s:=s) I hk2 hf (Nat.le_refl _) ⟨by show 2 <= sizeLine; decide,[p,q],.cons ru (.cons rv .nil),_,hT2,rfl,0,rfl⟩
  refine ⟨.ref s.heap.objs.size,upd H s.heap.objs.size (.tup [x,y]),I2,rfl,⟨_,x,y,hn,rfl,rfl,fun zs hz=>by rw [wx I hz hqa]; exact hx,fun zs hz=>by rw [wx I hz hqb]; exact hy⟩,⟨hz2,(hs2.2 _ (nne (by first | exact nad _ _ (by decide) | exact nad0 _ (by decide) | exact (nad0 _ (by decide)).symm | omega))).trans hI1,⟨p,q,(hs2.2 _ (nne (by first | exact nad _ _ (by decide) | exact nad0 _ (by decide) | exact (nad0 _ (by decide)).symm | omega))).trans hO1⟩,st1.1.at fun o e=>(hs2.2 _ (nne (by first | exact nad _ _ (by decide) | exact nad0 _ (by decide) | exact (nad0 _ (by decide)).symm | omega))).trans e,st2.1.at fun o e=>(hs2.2 _ (nne (by first | exact nad _ _ (by decide) | exact nad0 _ (by decide) | exact (nad0 _ (by decide)).symm | omega))).trans e⟩,fun q hq=>?_⟩
  have nb:q ≠ s.heap.objs.size:=by
   simp only [List.mem_cons,List.mem_nil_iff,or_false] at hq
   omega
  rw [zq nb]; exact (hf q hq).1
 done:=by
  intro X hP hw hK hc i pins s σ H E I hf st hg
  subst hP hw hK
  obtain ⟨hz,hI,⟨u0,v0,hO⟩,s1,s2⟩:=st
  obtain ⟨xs,ys,hqa,hqb,hl⟩:=hg
  obtain ⟨ia,ra,pa⟩:=xh I hqa
  obtain ⟨ib,rb,pb⟩:=xh I hqb
  have la:=ra.length
  have lb:=rb.length
  have an:a ≠ n:=Nat.ne_of_lt ha
  have fin:∀ (h':Heap) (e:Addr) (tk:Nat),(∀ c o,c ≠ n + 4 -> c ≠ n + 3 -> c ≠ n -> c ≠ n + 1 -> s.heap.get? c = some o -> h'.get? c = some o) -> Inv X pins σ H { s with heap:=h',toks:=tk }:=fun h' e tk k =>
   jp (fp:=[n + 4,n + 3,n + 2,n + 1,n]) I (fun b o hb q=>k b o (fun z=>hb (by simp [z])) (fun z=>hb (by simp [z])) (fun z=>hb (by simp [z])) (fun z=>hb (by simp [z])) q) hf
  by_cases h1:xs.length <= i
  ·refine YY hz (Wg (A:=X.A.in1) (vR (A:=X.A.in1) (I.ok.hd hc) c n a ia.toArray (i:=i) (by simp; omega)) hz hI hO ⟨rfl,s1,pa⟩ (nin2 (by first | exact nad _ _ (by decide) | exact nad0 _ (by decide) | exact (nad0 _ (by decide)).symm | omega) (by first | exact nad _ _ (by decide) | exact nad0 _ (by decide) | exact (nad0 _ (by decide)).symm | omega)) (nne (by first | exact nad _ _ (by decide) | exact nad0 _ (by decide) | exact (nad0 _ (by decide)).symm | omega)) fun h' e tk k ho=>⟨e,rfl,ho,rfl,fin h' e tk k⟩)
  ·have h2:ys.length <= i:=by omega
   refine YY hz (Wh (A:=X.A.in1) (Zm (A:=X.A.in1) (I.ok.hd hc) c n a an ia.toArray) (vR (A:=X.A.in1) (I.ok.hd hc) d (n + 1) b ib.toArray (i:=i) (by simp; omega)) hz hI hO ⟨s1,pa⟩ ⟨rfl,s2,pb⟩ (by simp; omega) (nin2 (by first | exact nad _ _ (by decide) | exact nad0 _ (by decide) | exact (nad0 _ (by decide)).symm | omega) (by first | exact nad _ _ (by decide) | exact nad0 _ (by decide) | exact (nad0 _ (by decide)).symm | omega)) (nin2 (by first | exact nad _ _ (by decide) | exact nad0 _ (by decide) | exact (nad0 _ (by decide)).symm | omega) (by first | exact nad _ _ (by decide) | exact nad0 _ (by decide) | exact (nad0 _ (by decide)).symm | omega)) (nin2 (by first | exact nad _ _ (by decide) | exact nad0 _ (by decide) | exact (nad0 _ (by decide)).symm | omega) (by first | exact nad _ _ (by decide) | exact nad0 _ (by decide) | exact (nad0 _ (by decide)).symm | omega)) (nin2 (by first | exact nad _ _ (by decide) | exact nad0 _ (by decide) | exact (nad0 _ (by decide)).symm | omega) (by first | exact nad _ _ (by decide) | exact nad0 _ (by decide) | exact (nad0 _ (by decide)).symm | omega)) (nne (by first | exact nad _ _ (by decide) | exact nad0 _ (by decide) | exact (nad0 _ (by decide)).symm | omega)) (nne (by first | exact nad _ _ (by decide) | exact nad0 _ (by decide) | exact (nad0 _ (by decide)).symm | omega)) (nne (by first | exact nad _ _ (by decide) | exact nad0 _ (by decide) | exact (nad0 _ (by decide)).symm | omega)) (nne (by first | exact nad _ _ (by decide) | exact nad0 _ (by decide) | exact (nad0 _ (by decide)).symm | omega)) fun h' e tk k ho=>⟨e,rfl,ho,rfl,fin h' e tk k⟩)
 self:=fun _ _ _ _ _ st h=>wpAny_pyIter_zip st.1 h
section
variable {X:Cx} {elts:List Expr} {kt:Nat} {pt:Pos}
theorem Tp:bootBuiltins "zip" = some (.type "zip"):=by decide +kernel
def iZip (K:FG7) (ta:TA):TI:=fun σ H R=>ta σ H fun vs H1=>∃ (c d:Bool) (a b:Addr),vs = [.ref a,.ref b] /\ (∃ xs,SqC c K H1 a xs) /\ (∃ ys,SqC d K H1 b ys) /\ R (Itz K c a d b) H1
end
section
variable {X:Cx} {elts:List Expr} {kt:Nat} {pt:Pos} {K:FG7}
theorem UH {a b:Expr} {ta:TA} {p pos:Pos} (hK:X.K = K) (hg:Gl X "zip") (hm:X.mg "zip" = none) (ha:PA X [a,b] ta) (hs:starEach [a,b] X.env = [(false,eval a X.env),(false,eval b X.env)]:=by rfl) (hs2:starEach [b] X.env = [(false,eval b X.env)]:=by rfl) :
  PI X (.Tuple elts kt pt) (.Call (.Name "zip" p) [a,b] [] pos) (iZip K ta):=by
 subst hK
 intro pins s σ H R I h
 refine Call_ (wP I hg hm Tp (PyProof.Rows.callWith_type1 (thn (ha pos pins s σ H _ I h) fun us s1 ⟨vs,H1,I1,r1,q1⟩=>?_) (by rw [hs,hs2]) (by rw [hs2]; rfl)))
 obtain ⟨c,d,ra,rb,e,⟨xs,hqa⟩,⟨ys,hqb⟩,q⟩:=q1
 subst e
 obtain ⟨u,w',rfl,e1,e2⟩:=XZ r1
 cases (show u = Value.ref ra from e1)
 cases (show w' = Value.ref rb from e2)
 obtain ⟨ia,va,pa⟩:=xh I1 hqa
 obtain ⟨ib,vb,pb⟩:=xh I1 hqb
 refine YZ pa.src pb.src fun h' hz hI hO h1 h2 hk=>?_
 refine wpAny_pyIter_zip (s:={ s1 with heap:=h' }) hz ?_
 have I2:Inv X pins σ H1 { s1 with heap:=h' }:=I1.kept (t':=s1.toks) hk
 refine ⟨s1.heap.objs.size + 4,[s1.heap.objs.size + 4,s1.heap.objs.size + 3,s1.heap.objs.size + 2,s1.heap.objs.size + 1,s1.heap.objs.size],_,_,H1,rfl,I2,Wi c d ra rb s1.heap.objs.size pa.lt pb.lt,⟨hz,hI,⟨_,_,hO⟩,.mk h1,.mk h2⟩,fun b hb=>?_,q⟩
 have hle:s1.heap.objs.size <= b:=by
  simp only [List.mem_cons,List.mem_nil_iff,or_false] at hb
  rcases hb with rfl | rfl | rfl | rfl | rfl <;> first | exact Nat.le_add_right _ _ | exact Nat.le_refl _
 exact I1.fpOk hle (I1.hok.fresh hle)
end
section
variable {K:FG7} {a b:Addr} {c d:Bool} {xs ys:List V} {g:TG} {tt:TT} {te:TE} {tb:TS} {D:Ends} {Q:VK} {σ:L2.St} {H:Hp}
theorem VL (Pv:Nat -> L2.St -> Hp -> Prop) (h0:Pv 0 σ H) (hl:∀ i σ H,Pv i σ H -> SqC c K H a xs /\ SqC d K H b ys)
  (hs:∀ i x y σ H T,xs[i]? = some x -> ys[i]? = some y -> Pv i σ H -> H T = none -> g (.ref T) σ (upd H T (.tup [x,y])) fun σ2 H2=>tb { D with nx:=Pv (i + 1),ct:=Pv (i + 1),bk:=D.nx } σ2 H2) (hd:∀ σ H,Pv (min xs.length ys.length) σ H -> D.nx σ H) :
  ∃ W:Nat -> Nat -> L2.St -> Hp -> Prop,(∃ m,W 0 m σ H) /\ ∀ i m σ H,W i m σ H →
   ((Itz K c a d b).stop i H /\ D.nx σ H) \/ ((Itz K c a d b).go i H /\ ∃ N:L2.St -> Hp -> Prop,(∀ σ' H',N σ' H' -> ∃ m',m' < m /\ W (i + 1) m' σ' H') /\ ∀ x H',(Itz K c a d b).yld i H x H' -> g x σ H' fun σ2 H2=>tb { D with nx:=N,ct:=N,bk:=D.nx } σ2 H2):=by
 refine ⟨fun i m σ H=>m = min xs.length ys.length - i /\ i <= min xs.length ys.length /\ Pv i σ H,⟨min xs.length ys.length,by simp,Nat.zero_le _,h0⟩,?_⟩
 rintro i m σ H ⟨rfl,hi,p⟩
 obtain ⟨q1,q2⟩:=hl i σ H p
 by_cases hlt:i < min xs.length ys.length
 ·have l1:i < xs.length:=by omega
  have l2:i < ys.length:=by omega
  refine .inr ⟨⟨xs,ys,xs[i],ys[i],q1,q2,by simp [l1],by simp [l2]⟩,Pv (i + 1),fun σ' H' p'=>⟨min xs.length ys.length - (i + 1),by omega,rfl,hlt,p'⟩,fun x H' y=>?_⟩
  obtain ⟨T,v,w,hT,rfl,rfl,y1,y2⟩:=y
  exact hs i v w σ H T (y1 xs q1) (y2 ys q2) p hT
 ·have e:i = min xs.length ys.length:=by omega
  subst e
  exact .inl ⟨⟨xs,ys,q1,q2,by omega⟩,hd σ H p⟩
end
section
variable {prog:Program} {w:World} {A:Around} {E:VS7} {s:Shared}
open AutoSeq1 (wpAny_loadPart')
theorem Y0 (t:Addr) (c:Bool) (vs:Array Value) :
  Meets (Builtin.«enumerate.__new__» ⟨[.type "enumerate",.ref t],[]⟩) (fun _ R s=>SeqC c s.heap t vs ∧
   R (.ok (.ret (.ref (s.heap.push (zpO (cnC c) t)).objs.size)))
    { s with heap:=(s.heap.push (zpO (cnC c) t)).push { cls:=.type "enumerate",data:=.fields #[.none,.bool false,.ref s.heap.objs.size,rawInt 0,.none,.none] } }) :=
 .of_wp fun prog w A R s h=>by
  obtain ⟨hp,g,d,tk,os⟩:=s; obtain ⟨hT,h⟩:=h
  have hT':wO (Shared.heap ⟨hp,g,d,tk,os⟩) t (cnC c) vs:=hT.src
  obtain ⟨ot,hot⟩:∃ o,hp.get? t = some o:=by
   cases c
   ·obtain ⟨o,e,_⟩:=(show hp.IsList t vs from hT); exact ⟨o,e⟩
   ·obtain ⟨o,e,_⟩:=(show hp.IsTuple t vs from hT); exact ⟨o,e⟩
  have hsub:=sub_enumerate
  wp_walk using wpAny_loadPart' hot
  refine wpAny_stack_any fun st=>wpAny_pure ?_
  split
  ·rename_i c' _ _ _ _ _
   cases (c' == Value.type "enumerate") <;> (wp_walk using wpAny_loadPart' hot,wO.iter hT') <;> exact ⟨_,rfl,h⟩
  ·wp_walk using wpAny_loadPart' hot,wO.iter hT'
   exact ⟨_,rfl,h⟩
theorem ZS {t:Addr} {c:Bool} {vs:Array Value} {Q:VS7} (ht:SeqC c s.heap t vs)
  (h:∀ h',IsEnum h' (s.heap.objs.size + 1) s.heap.objs.size 0 .none -> vQ c h' s.heap.objs.size t 0 -> h'.objs.size = s.heap.objs.size + 2 -> (∀ b o,s.heap.get? b = some o -> h'.get? b = some o) -> Q (.ref (s.heap.objs.size + 1)) { s with heap:=h' }) :
  wpAny (model prog w) A (call (.type "enumerate") [.ref t]) Q E s:=by
 refine callType_new F.called_enumerate (by decide) (F.typeCall_enumerate_1 _) (F.newCall_enumerate_1 _) (fun obj=>F.args_object_init_2 obj _) F.entry_enumerate_new (Y0 t c vs) ⟨ht,?_⟩
 have hz:(s.heap.push (zpO (cnC c) t)).objs.size = s.heap.objs.size + 1:=Heap.size_push ..
 show _ /\ _
 rw [hz]
 have he:IsEnum ((s.heap.push (zpO (cnC c) t)).push { cls:=.type "enumerate",data:=.fields #[.none,.bool false,.ref s.heap.objs.size,rawInt 0,.none,.none] }) (s.heap.objs.size + 1) s.heap.objs.size 0 .none:=by
  have:=Heap.get?_push_size (s.heap.push (zpO (cnC c) t)) (o:={ cls:=.type "enumerate",data:=.fields #[.none,.bool false,.ref s.heap.objs.size,rawInt 0,.none,.none] }) rfl
  rw [hz] at this; exact this
 exact ⟨⟨_,he,rfl⟩,h _ he (.mk (Heap.get?_push_of_some _ (Heap.get?_push_size _ rfl))) (by rw [Heap.size_push,Heap.size_push]) fun b o x=>Heap.get?_push_of_some _ (Heap.get?_push_of_some _ x)⟩
end
def IteC (c:Bool) (K:FG7) (a:Addr):It :=
 ⟨fun i H=>∃ xs x,SqC c K H a xs /\ xs[i]? = some x,fun i H x H'=>∃ T v,H T = none /\ x = .ref T /\ H' = upd H T (.tup [.int i,v]) /\ ∀ xs,SqC c K H a xs -> xs[i]? = some v,fun i H=>∃ xs,SqC c K H a xs /\ xs.length <= i⟩
theorem ZT {P:Program} {w:World} {K:FG7} {elts:List Expr} {kt:Nat} {pt:Pos} (c:Bool) (a e jt:Addr) (hej:e ≠ jt) (hae:a ≠ e) (haj:a ≠ jt) :
  Turn P w K (.Tuple elts kt pt) (IteC c K a) [e,jt] e (fun i h=>(∃ old,IsEnum h e jt i old) /\ vQ c h jt a i) where
 mem:=by simp
 obj:=fun i h st b hb=>by
  obtain ⟨⟨old,he⟩,st⟩:=st
  simp only [List.mem_cons,List.mem_nil_iff,or_false] at hb
  rcases hb with rfl | rfl
  ·exact ⟨_,he,fun v z=>by cases z⟩
  ·exact st.obj
 keep:=fun i h h' st k=>by
  obtain ⟨⟨old,he⟩,st⟩:=st
  exact ⟨⟨old,k e (by simp) _ he⟩,st.at fun o q=>k jt (by simp) o q⟩
 item:=by
  intro X hP hw hK hc i pins s σ H E I hf st hg
  subst hP hw hK
  obtain ⟨⟨old,he⟩,hit⟩:=st
  obtain ⟨xs,x,hq,hx⟩:=hg
  obtain ⟨its,rv,p⟩:=xh I hq
  obtain ⟨u,hu,ru⟩:=rv.get hx
  have hlt:i < its.toArray.size:=by have:=(List.getElem?_eq_some_iff.mp hu).1; simpa using this
  refine wpAny_pyNext_enum_itemD (Zm (A:=X.A.in1) (I.ok.hd hc) c jt a haj its.toArray) he ⟨hit,p⟩ hlt hej (by simp [hej,Ne.symm hae]) fun v h1 tk hv hout hst1 hT hsz hk=>?_
  have hvu:v = u:=by
   have e1:its.toArray[i]? = some v:=hv
   have e2:its.toArray[i]? = some u:=by simpa using hu
   rw [e1] at e2; exact Option.some.inj e2
  subst hvu
  refine ⟨_,rfl,wpAny_letOwnedTupleGo_enum (s:={ s with heap:=h1,toks:=tk + 1 }) hout fun h2 he2 hs2=>?_⟩
  have hk2:∀ b o,b ∉ [e,jt] -> s.heap.get? b = some o -> h2.get? b = some o:=fun b o hb q=>by
   have n1:b ≠ e:=fun z=>hb (by simp [z])
   have n2:b ≠ jt:=fun z=>hb (by simp [z])
   exact (hs2.2 b n1).trans (hk b o n1 n2 q)
  have eT:s.heap.objs.size ≠ e:=Nat.ne_of_gt (Heap.lt_size he)
  have hT2:h2.get? s.heap.objs.size = some { cls:=.type "tuple",data:=.seq #[.int i tk,v] }:=(hs2.2 _ eT).trans hT
  have hn:H s.heap.objs.size = none:=I.hok.fresh (Nat.le_refl _)
  have I2:Inv X pins σ (upd H s.heap.objs.size (.tup [.int i,x])) { s with heap:=h2,toks:=tk + 1 }:=Zk (s:=s) I hk2 hf (Nat.le_refl _) ⟨by show 2 <= sizeLine; decide,[.int i tk,v],.cons ⟨_,rfl⟩ (.cons ru .nil),_,hT2,rfl,0,rfl⟩
  refine ⟨.ref s.heap.objs.size,upd H s.heap.objs.size (.tup [.int i,x]),I2,rfl,⟨_,x,hn,rfl,rfl,fun ys hy=>by rw [wx I hy hq]; exact hx⟩,⟨⟨v,by simpa using he2⟩,?_⟩,fun b hb=>?_⟩
  ·exact hst1.1.at fun o q=>(hs2.2 jt (Ne.symm hej)).trans q
  ·have nb:b ≠ s.heap.objs.size:=by
    obtain ⟨oj,hoj,_⟩:=hit.obj
    simp only [List.mem_cons,List.mem_nil_iff,or_false] at hb
    rcases hb with rfl | rfl
    ·exact Ne.symm eT
    ·exact Nat.ne_of_lt (Heap.lt_size hoj)
   rw [zq nb]; exact (hf b hb).1
 done:=by
  intro X hP hw hK hc i pins s σ H E I hf st hg
  subst hP hw hK
  obtain ⟨⟨old,he⟩,hit⟩:=st
  obtain ⟨xs,hq,hx⟩:=hg
  obtain ⟨its,rv,p⟩:=xh I hq
  have hl:=rv.length
  refine wpAny_pyNext_enum_endD (vR (A:=X.A.in1) (I.ok.hd hc) c jt a its.toArray (i:=i) (by simp; omega)) he ⟨rfl,hit,p⟩ fun h' eb=>⟨rfl,?_⟩
  exact jp (fp:=[e,jt]) (t':=s.toks) I (fun b o hb q=>eb b o (fun z=>hb (by simp [z])) q) hf
 self:=fun _ _ _ _ _ st h=>by
  obtain ⟨⟨old,he⟩,_⟩:=st
  exact wpAny_pyIter_enum he h
section
variable {X:Cx} {elts:List Expr} {kt:Nat} {pt:Pos} {K:FG7}
def UI (c:Bool) (K:FG7) (ta:TA):TI:=fun σ H R=>ta σ H fun vs H1=>∃ a xs,vs = [.ref a] /\ SqC c K H1 a xs /\ R (IteC c K a) H1
theorem ux {a:Expr} {ta:TA} {p pos:Pos} (c:Bool) (hK:X.K = K) (hg:Gl X "enumerate") (hm:X.mg "enumerate" = none) (ha:PA X [a] ta) (hs:starEach [a] X.env = [(false,eval a X.env)]:=by rfl) :
  PI X (.Tuple elts kt pt) (.Call (.Name "enumerate" p) [a] [] pos) (UI c K ta):=by
 subst hK
 intro pins s σ H R I h
 refine Call_ (wP I hg hm UC (PyProof.Rows.callWith_type1 (thn (ha pos pins s σ H _ I h) fun us s1 ⟨vs,H1,I1,r1,q1⟩=>?_) hs rfl))
 obtain ⟨t,xs,e,hq,q⟩:=q1
 subst e
 obtain ⟨u,rfl,e1⟩:=sk r1
 cases (show u = Value.ref t from e1)
 obtain ⟨its,rv,p⟩:=xh I1 hq
 refine ZS p fun h' he hit _ hk=>?_
 refine wpAny_pyIter_enum he ?_
 have lt:t < s1.heap.objs.size:=p.lt
 have I2:Inv X pins σ H1 { s1 with heap:=h' }:=I1.kept (t':=s1.toks) hk
 refine ⟨s1.heap.objs.size + 1,[s1.heap.objs.size + 1,s1.heap.objs.size],_,_,H1,rfl,I2,ZT c t (s1.heap.objs.size + 1) s1.heap.objs.size (Nat.succ_ne_self _) (Nat.ne_of_lt (Nat.lt_succ_of_lt lt)) (Nat.ne_of_lt lt),⟨⟨_,he⟩,hit⟩,fun b hb=>?_,q⟩
 simp only [List.mem_cons,List.mem_nil_iff,or_false] at hb
 rcases hb with rfl | rfl
 ·exact I1.fpOk (Nat.le_succ _) (I1.hok.fresh (Nat.le_succ _))
 ·exact I1.fpOk (Nat.le_refl _) (I1.hok.fresh (Nat.le_refl _))
end
section
variable {K:FG7} {a:Addr} {c:Bool} {xs:List V} {g:TG} {tt:TT} {te:TE} {tb:TS} {D:Ends} {Q:VK} {σ:L2.St} {H:Hp}
theorem Y1 (Pv:Nat -> L2.St -> Hp -> Prop) (h0:Pv 0 σ H) (hl:∀ i σ H,i <= xs.length -> Pv i σ H -> SqC c K H a xs)
  (hs:∀ i x σ H T,xs[i]? = some x -> Pv i σ H -> H T = none -> g (.ref T) σ (upd H T (.tup [.int i,x])) fun σ2 H2=>tb { D with nx:=Pv (i + 1),ct:=Pv (i + 1),bk:=D.nx } σ2 H2) (hd:∀ σ H,Pv xs.length σ H -> D.nx σ H) :
  ∃ W:Nat -> Nat -> L2.St -> Hp -> Prop,(∃ m,W 0 m σ H) /\ ∀ i m σ H,W i m σ H →
   ((IteC c K a).stop i H /\ D.nx σ H) \/ ((IteC c K a).go i H /\ ∃ N:L2.St -> Hp -> Prop,(∀ σ' H',N σ' H' -> ∃ m',m' < m /\ W (i + 1) m' σ' H') /\ ∀ x H',(IteC c K a).yld i H x H' -> g x σ H' fun σ2 H2=>tb { D with nx:=N,ct:=N,bk:=D.nx } σ2 H2):=by
 refine ⟨fun i m σ H=>m = xs.length - i /\ i <= xs.length /\ Pv i σ H,⟨xs.length,by simp,Nat.zero_le _,h0⟩,?_⟩
 rintro i m σ H ⟨rfl,hi,p⟩
 have q:=hl i σ H hi p
 by_cases hlt:i < xs.length
 ·refine .inr ⟨⟨xs,xs[i],q,by simp [hlt]⟩,Pv (i + 1),fun σ' H' p'=>⟨xs.length - (i + 1),by omega,rfl,hlt,p'⟩,fun x H' y=>?_⟩
  obtain ⟨T,v,hT,rfl,rfl,y⟩:=y
  exact hs i v σ H T (y xs q) p hT
 ·have e:i = xs.length:=by omega
  subst e
  exact .inl ⟨⟨xs,q,Nat.le_refl _⟩,hd σ H p⟩
theorem ZU (Pv:Nat -> List V -> L2.St -> Hp -> Prop) (h0:Pv 0 [] σ H) (hl:∀ i zs σ H,Pv i zs σ H -> SqC c K H a xs)
  (hs:∀ i x zs σ H T,xs[i]? = some x -> Pv i zs σ H -> H T = none -> g (.ref T) σ (upd H T (.tup [.int i,x])) fun σ2 H3=>tt σ2 H3 fun b H4=>if b = true then te σ2 H4 fun y H5=>zs.length < sizeLine /\ Pv (i + 1) (zs ++ [y]) σ2 H5 else Pv (i + 1) zs σ2 H4)
  (hd:∀ zs σ H,Pv xs.length zs σ H -> ∀ l,H l = none -> Q (.ref l) (upd H l (.lst zs))) :
  vk (IteC c K a) σ H g tt te Q:=by
 refine ⟨fun i m zs σ H=>m = xs.length - i /\ i <= xs.length /\ Pv i zs σ H,⟨xs.length,by simp,Nat.zero_le _,h0⟩,?_⟩
 rintro i m zs σ H ⟨rfl,hi,p⟩
 have q:=hl i zs σ H p
 by_cases hlt:i < xs.length
 ·refine .inr ⟨⟨xs,xs[i],q,by simp [hlt]⟩,Pv (i + 1),fun ws σ' H' p'=>⟨xs.length - (i + 1),by omega,rfl,hlt,p'⟩,fun x H' y=>?_⟩
  obtain ⟨T,v,hT,rfl,rfl,y1⟩:=y
  exact hs i v zs σ H T (y1 xs q) p hT
 ·have e:i = xs.length:=by omega
  subst e
  exact .inl ⟨⟨xs,q,Nat.le_refl _⟩,hd zs σ H p⟩
end
section
variable {X:Cx}
variable {K:FG7}
theorem Y2 {es:List Expr} {k:Nat} {pos:Pos} {t:TGs} (n:Nat) (h0:X.K = K) (hc:X.calm = true) (h:PGs X es t)
  (hn:(assignEach es X.env).length = n) (hst:(assignEach es X.env).findIdx? (·.1) = none):PG X (.Tuple es k pos) (gTup K n t):=by subst h0; exact x6 hc h hn hst
end
def InC (C:Int) (xs:List Int):Prop:=∀ v ∈ xs,-C <= v /\ v <= C
theorem InC.mono {B C:Int} {xs:List Int} (h:InC B xs) (hC:B <= C):InC C xs:=fun v hv=>by have:=h v hv; omega
theorem InC.inB {C:Int} {xs:List Int} (h:InC C xs) (hC:C < 2 ^ 300):InB (2 ^ 300) xs:=fun v hv=>by have:=h v hv; omega
theorem Deed.Bd.sh {d:Deed} {B:Int} {n:Nat} (h:d.Bd B) (hB:B <= 10 ^ 90):Sh (ud d) 5772 (n + 1):=Wd (h.mono (Int.le_trans hB (by decide)))
theorem InC.sh {xs:List Int} {C:Int} {m n:Nat} (h:InC C xs) (hC:C <= 10 ^ 90) (l:xs.length <= m):Sh (jf xs) (m * 1923 + 3) (n + 1) :=
 (VB (n:=n) (h.inB (Int.lt_of_le_of_lt hC (by decide)))).mono (by have:=Nat.mul_le_mul_right 1923 l; omega) (Nat.le_refl _)
theorem YU.dat {K:FG7} {H:Hp} {x:V} {g:List Deed × List Deed} (h:YU K H x g):Dat K H x (.tuple [.tuple (g.1.map ud),.tuple (g.2.map ud)]):=by
 obtain ⟨r,r1,r2,rfl,h0,d1,d2⟩:=h
 exact .tup h0 (.cons d1.dat (.cons d2.dat .nil))
theorem uK:∀ {ns:List Int} {us:List Value},IntsAre us ns -> Vals (ns.map V.int) us:=by
 intro ns us h
 induction h with
 | nil=>exact .nil
 | cons n t _ ih=>exact .cons ⟨t,rfl⟩ ih
structure Wk (prog:Program) (w:World) (A:Around) (T:String) (I:Addr) (n:Nat) (Fr:Addr -> Prop) (J:List Value -> Shared -> Prop) (Fn:List Value -> Shared -> Prop):Prop where
 ty:∀ acc s,J acc s -> s.TypeIs (.ref I) T
 self:∀ acc s (Q:VS7) (E:VS7),J acc s -> Q (.ref I) s -> wpAny (model prog w) A (pyIter (.ref I)) Q E s
 stay:∀ acc s (S:Addr) (ob:Obj) (h':Heap),J acc s -> Fr S -> s.heap.get? S = some ob -> ob.cls = .type "list" -> (∀ b o,b ≠ S -> s.heap.get? b = some o -> h'.get? b = some o) -> h'.objs.size = s.heap.objs.size -> J acc { s with heap:=h' }
 next:∀ acc s (S:Addr) (ob:Obj) (Q:Option Value -> Shared -> Prop) (E:VS7),J acc s -> Fr S -> s.heap.get? S = some ob -> ob.cls = .type "list" →
  (∀ v s',acc.length < n -> J (acc ++ [v]) s' -> s'.heap.get? S = some ob -> Q (some v) s') -> (∀ s',Fn acc s' -> s'.heap.get? S = some ob -> Q none s') -> wpAny (model prog w) A (pyNext (.ref I)) Q E s
 push:∀ acc s (o:Obj),J acc s -> J acc { s with heap:=s.heap.push o }
def v7 (H:Hp) (a:Addr):Prop:=∃ p0 c t:Int,H a = some (.lst [.int p0,.int c,.int t]) /\ 0 <= p0
theorem v7.grow {H H':Hp} {a:Addr} (p:v7 H a) (g:Grow [] H H'):v7 H' a:=by
 obtain ⟨x,y,z,h,q⟩:=p
 exact ⟨x,y,z,g.keep _ _ (by simp) h,q⟩
theorem v7.new {H:Hp} {a l:Addr} (p:v7 H a) (hl:H l = none) (o:HO):v7 (upd H l o) a:=p.grow (Grow.new hl o)
theorem v7.ne {H:Hp} {a l:Addr} (p:v7 H a) (h:H l = none):l ∉ [a]:=by
 intro z
 obtain ⟨x,y,w,hz,_⟩:=p
 rw [List.mem_singleton.mp z,hz] at h
 cases h
def Tq (ns:List Int):List Int:=ns.mergeSort fun a b=>decide (a <= b)
def dupS:List Int -> Option Int
 | a :: b :: r=>if a = b then some a else dupS (b :: r)
 | _=>none
def UJ (rows:List (List Int)) (l:Nat):List Int:=rows.map fun r=>r.getD l 0
def vw (rows:List (List Int)) (l:Nat):Option Int:=dupS (Tq (UJ rows l))
def sJ (k:Nat) (rows:List (List Int)) (o:Option (Nat × Int)):Prop:=match o with
 | none=>∀ l,l <= k -> vw rows l = none
 | some (l,v)=>l <= k /\ vw rows l = some v /\ ∀ j,j < l -> vw rows j = none
theorem sJ.one {k:Nat} {rows rows':List (List Int)} {o o':Option (Nat × Int)} (e:∀ l,vw rows l = vw rows' l) (h:sJ k rows o) (h':sJ k rows' o'):o = o':=by
 cases o with
 | none =>
  cases o' with
  | none=>rfl
  | some p =>
   obtain ⟨l,v⟩:=p
   have z:=h l h'.1
   rw [e,h'.2.1] at z; cases z
 | some p =>
  obtain ⟨l,v⟩:=p
  cases o' with
  | none =>
   have z:=h' l h.1
   rw [← e,h.2.1] at z; cases z
  | some p' =>
   obtain ⟨l',v'⟩:=p'
   obtain ⟨a1,a2,a3⟩:=h
   obtain ⟨b1,b2,b3⟩:=h'
   by_cases c:l < l'
   ·have z:=b3 l c
    rw [← e,a2] at z; cases z
   ·by_cases c2:l' < l
    ·have z:=a3 l' c2
     rw [e,b2] at z; cases z
    ·have:l = l':=by omega
     subst this
     rw [e,b2] at a2
     cases a2; rfl
def Y3 (K:FG7) (H:Hp) (x:V) (o:Option (Nat × Int)):Prop:=match o with
 | none=>x = .non
 | some (l,v)=>∃ r,x = .ref r /\ SqT K H r [.int l,.int v]
theorem Grow.clash {m:List Addr} {H H':Hp} (g:Grow m H H') {K:FG7} {x:V} {o:Option (Nat × Int)} (h:Y3 K H x o):Y3 K H' x o:=by
 cases o with
 | none=>exact h
 | some p =>
  obtain ⟨l,v⟩:=p
  obtain ⟨r,e,z⟩:=h
  exact ⟨r,e,g.sqT z⟩
mutual
inductive Dq (K:FG7) (H:Hp):V -> PyData -> Prop
 | non:Dq K H .non .none
 | bl (b:Bool):Dq K H (.bl b) (.bool b)
 | int (i:Int):Dq K H (.int i) (.int i)
 | str (x:Str):Dq K H (.str x) (.str x)
 | tup {a:Addr} {xs:List V} {ds:List PyData}:SqT K H a xs -> DqAll K H xs ds -> Dq K H (.ref a) (.tuple ds)
 | lst {a:Addr} {xs:List V} {ds:List PyData}:SqL K H a xs -> DqAll K H xs ds -> Dq K H (.ref a) (.list ds)
inductive DqAll (K:FG7) (H:Hp):List V -> List PyData -> Prop
 | nil:DqAll K H [] []
 | cons {x:V} {xs:List V} {d:PyData} {ds:List PyData}:Dq K H x d -> DqAll K H xs ds -> DqAll K H (x :: xs) (d :: ds)
end
mutual
theorem Dat.dq {K:FG7} {H:Hp}:∀ {x:V} {d:PyData},Dat K H x d -> Dq K H x d
 | _,_,.non=>.non
 | _,_,.bl b=>.bl b
 | _,_,.int i=>.int i
 | _,_,.tup h t=>.tup h (DatAll.dq t)
 | _,_,.lst h t=>.lst h (DatAll.dq t)
theorem DatAll.dq {K:FG7} {H:Hp}:∀ {xs:List V} {ds:List PyData},DatAll K H xs ds -> DqAll K H xs ds
 | _,_,.nil=>.nil
 | _,_,.cons h t=>.cons (Dat.dq h) (DatAll.dq t)
end
theorem DqAll.len {K:FG7} {H:Hp}:∀ {xs:List V} {ds:List PyData},DqAll K H xs ds -> xs.length = ds.length
 | _,_,.nil=>rfl
 | _,_,.cons _ t=>congrArg (· + 1) (DqAll.len t)
theorem DqAll.app {K:FG7} {H:Hp}:∀ {xs:List V} {ds:List PyData} {ys:List V} {es:List PyData},DqAll K H xs ds -> DqAll K H ys es -> DqAll K H (xs ++ ys) (ds ++ es)
 | _,_,_,_,.nil,h=>h
 | _,_,_,_,.cons h t,g=>.cons h (DqAll.app t g)
theorem wF (n:Nat):(List.range n).all (fun _=>true) = true:=List.all_eq_true.mpr fun _ _=>rfl
section
variable {X:Cx} {pins:List (Addr × Obj)} {σ:L2.St} {H:Hp} {s:Shared}
mutual
theorem dq_eq (I:Inv X pins σ H s):∀ {d:PyData} {x y:V} {u v:Value} {A:Around},Dq X.K H x d -> Dq X.K H y d -> RelV x u -> RelV y v -> A.units + d.depth < cLine -> SeqAt.EqAt A s u v true
 | _,_,y,u,v,A,.non,hy,ru,rv,_=>by
  cases hy
  cases (show u = Value.none from ru)
  cases (show v = Value.none from rv)
  exact SeqAt.EqAt.same _
 | _,_,y,u,v,A,.bl b,hy,ru,rv,_=>by
  cases hy
  cases (show u = Value.bool b from ru)
  cases (show v = Value.bool b from rv)
  exact SeqAt.EqAt.same _
 | _,_,y,u,v,A,.int i,hy,ru,rv,_=>by
  cases hy
  obtain ⟨t,rfl⟩:=ru
  obtain ⟨t',rfl⟩:=rv
  have z:=SeqAt.EqAt.int_int (A:=A) (s:=s) i t i t'
  rw [beq_self_eq_true] at z
  exact z
 | _,_,y,u,v,A,.str x,hy,ru,rv,_=>by
  cases hy
  obtain ⟨t,rfl⟩:=ru
  obtain ⟨t',rfl⟩:=rv
  have z:=SeqAt.EqAt.str_str (A:=A) (s:=s) x t x t'
  rw [beq_self_eq_true] at z
  exact z
 | _,_,y,u,v,A,.tup (a:=a) (xs:=xs) (ds:=ds) hs ha,hy,ru,rv,hu=>by
  cases hy with
  | tup hs' ha' =>
   rename_i a' xs'
   cases (show u = Value.ref a from ru)
   cases (show v = Value.ref a' from rv)
   obtain ⟨us,r1,t1,_⟩:=I.tuple hs
   obtain ⟨ws,r2,t2,_⟩:=I.tuple hs'
   have hd:A.units + (PyData.depthAll ds + 1) < cLine:=hu
   by_cases e:a = a'
   ·subst e; exact SeqAt.EqAt.same _
   ·have l1:=ha.len
    have l2:=ha'.len
    have q:=SeqAt.RcAt.tuples (e:=fun _=>true) (yi t1) (yi t2) (by omega) (dqs_eq I ha ha' r1 r2 (A:=A.in1) (by show A.units + 1 + PyData.depthAll ds < cLine; omega))
    rw [wF,Bool.true_and,List.size_toArray,List.size_toArray,← r1.length,← r2.length,l1,l2,beq_self_eq_true] at q
    exact SeqAt.EqAt.of_refs e q
 | _,_,y,u,v,A,.lst (a:=a) (xs:=xs) (ds:=ds) hs ha,hy,ru,rv,hu=>by
  cases hy with
  | lst hs' ha' =>
   rename_i a' xs'
   cases (show u = Value.ref a from ru)
   cases (show v = Value.ref a' from rv)
   obtain ⟨us,r1,t1,_⟩:=I.list hs
   obtain ⟨ws,r2,t2,_⟩:=I.list hs'
   have hd:A.units + (PyData.depthAll ds + 1) < cLine:=hu
   by_cases e:a = a'
   ·subst e; exact SeqAt.EqAt.same _
   ·have l1:=ha.len
    have l2:=ha'.len
    have q:=SeqAt.RcAt.lists (e:=fun _=>true) t1.isList t2.isList (by rw [List.size_toArray,List.size_toArray,← r1.length,← r2.length,l1,l2]) (by omega) (dqs_eq I ha ha' r1 r2 (A:=A.in1) (by show A.units + 1 + PyData.depthAll ds < cLine; omega))
    rw [wF] at q
    exact SeqAt.EqAt.of_refs e q
theorem dqs_eq (I:Inv X pins σ H s):∀ {ds:List PyData} {xs ys:List V} {us vs:List Value} {A:Around},DqAll X.K H xs ds -> DqAll X.K H ys ds -> Vals xs us -> Vals ys vs -> A.units + PyData.depthAll ds < cLine →
  ∀ j (h1:j < us.toArray.size) (h2:j < vs.toArray.size),SeqAt.EqAt A s us.toArray[j] vs.toArray[j] true
 | _,_,_,_,_,A,.nil,hy,ru,rv,_=>fun j h1 _=>by
  cases ru
  exact absurd h1 (Nat.not_lt_zero j)
 | _,_,_,_,_,A,.cons (d:=d) (ds:=ds) hx tx,hy,ru,rv,hd=>fun j h1 h2=>by
  cases hy with
  | cons hy ty =>
   cases ru with
   | cons r1 rr1 =>
    cases rv with
    | cons r2 rr2 =>
     have hd':A.units + max d.depth (PyData.depthAll ds) < cLine:=hd
     cases j with
     | zero=>simpa using dq_eq I hx hy r1 r2 (A:=A) (by omega)
     | succ j =>
      have z:=dqs_eq I tx ty rr1 rr2 (A:=A) (by omega) j (by simpa using h1) (by simpa using h2)
      simpa using z
end
variable {K:FG7}
def Wj (K:FG7) (neg:Bool):R2:=fun x y H Q=>∃ d,Dq K H x d /\ Dq K H y d /\ (∃ a,x = .ref a) /\ d.depth <= 100 /\ Q (.bl neg) H
theorem UK {k:Nat} (hK:X.K = K) (hr:Room k X.A):OpR X (compareOp .Eq) (Wj K true):=by
 subst hK
 intro pins s σ H x y u v Q I rx ry h
 obtain ⟨d,hx,hy,⟨a0,e0⟩,hd,q⟩:=h
 have hu:=hr.un
 cases hx with
 | non=>cases e0
 | bl b=>cases e0
 | int i=>cases e0
 | str x=>cases e0
 | tup hs ha =>
  cases hy with
  | tup hs' ha' =>
   rename_i a xs ds a' xs'
   cases (show u = Value.ref a from rx)
   cases (show v = Value.ref a' from ry)
   obtain ⟨us,r1,t1,_⟩:=I.tuple hs
   obtain ⟨ws,r2,t2,_⟩:=I.tuple hs'
   have hd':PyData.depthAll ds + 1 <= 100:=hd
   refine SeqAt.eq_tupleAt (e:=fun _=>true) (yi t1) (yi t2) hr.units0 (dqs_eq I ha ha' r1 r2 (A:=X.A.in1) (by show X.A.units + 1 + PyData.depthAll ds < cLine; omega)) ?_
   rw [wF,Bool.true_and,List.size_toArray,List.size_toArray,← r1.length,← r2.length,ha.len,ha'.len,beq_self_eq_true]
   exact ⟨.bl true,H,I,rfl,q⟩
 | lst hs ha =>
  cases hy with
  | lst hs' ha' =>
   rename_i a xs ds a' xs'
   cases (show u = Value.ref a from rx)
   cases (show v = Value.ref a' from ry)
   obtain ⟨us,r1,t1,_⟩:=I.list hs
   obtain ⟨ws,r2,t2,_⟩:=I.list hs'
   have hd':PyData.depthAll ds + 1 <= 100:=hd
   refine SeqAt.eq_listAt (e:=fun _=>true) t1.isList t2.isList (by rw [List.size_toArray,List.size_toArray,← r1.length,← r2.length,ha.len,ha'.len]) hr.units0 (dqs_eq I ha ha' r1 r2 (A:=X.A.in1) (by show X.A.units + 1 + PyData.depthAll ds < cLine; omega)) ?_
   rw [wF]
   exact ⟨.bl true,H,I,rfl,q⟩
theorem W9 {k:Nat} (hK:X.K = K) (hr:Room k X.A):OpR X (compareOp .NotEq) (Wj K false):=by
 subst hK
 intro pins s σ H x y u v Q I rx ry h
 obtain ⟨d,hx,hy,⟨a0,e0⟩,hd,q⟩:=h
 have hu:=hr.un
 cases hx with
 | non=>cases e0
 | bl b=>cases e0
 | int i=>cases e0
 | str x=>cases e0
 | tup hs ha =>
  cases hy with
  | tup hs' ha' =>
   rename_i a xs ds a' xs'
   cases (show u = Value.ref a from rx)
   cases (show v = Value.ref a' from ry)
   obtain ⟨us,r1,t1,_⟩:=I.tuple hs
   obtain ⟨ws,r2,t2,_⟩:=I.tuple hs'
   have hd':PyData.depthAll ds + 1 <= 100:=hd
   refine SeqAt.RcNeAt.tuples (e:=fun _=>true) (yi t1) (yi t2) hr.units0 (dqs_eq I ha ha' r1 r2 (A:=X.A.in1) (by show X.A.units + 1 + PyData.depthAll ds < cLine; omega)) _ _ _ _ ?_
   rw [wF,Bool.true_and,List.size_toArray,List.size_toArray,← r1.length,← r2.length,ha.len,ha'.len,beq_self_eq_true]
   exact ⟨.bl false,H,I,rfl,q⟩
 | lst hs ha =>
  cases hy with
  | lst hs' ha' =>
   rename_i a xs ds a' xs'
   cases (show u = Value.ref a from rx)
   cases (show v = Value.ref a' from ry)
   obtain ⟨us,r1,t1,_⟩:=I.list hs
   obtain ⟨ws,r2,t2,_⟩:=I.list hs'
   have hd':PyData.depthAll ds + 1 <= 100:=hd
   refine SeqAt.RcNeAt.lists (e:=fun _=>true) t1.isList t2.isList (by rw [List.size_toArray,List.size_toArray,← r1.length,← r2.length,ha.len,ha'.len]) hr.units0 (dqs_eq I ha ha' r1 r2 (A:=X.A.in1) (by show X.A.units + 1 + PyData.depthAll ds < cLine; omega)) _ _ _ _ ?_
   rw [wF]
   exact ⟨.bl false,H,I,rfl,q⟩
end
def xN (k st a:Nat):Nat:=a ^^^ 2 ^ (k - st)
def nN (k st a:Nat):Nat:=(VH k a st).toNat
def lN (k h g n:Nat):Nat:=(VG k h g n).toNat
structure OneF (k st a:Nat):Prop where
 sw:swI k st a = VH k a st
 num:VH k a st = (nN k st a:Int)
 lt:nN k st a < 2 ^ (k - 1)
 nx:nN k st (xN k st a) = nN k st a
 xx:xN k st (xN k st a) = a
 xne:xN k st a ≠ a
 xlt:xN k st a < 2 ^ k
 w0:wfI k st a (Builtin.bitXor (figI k st a) 0) = (a:Int)
 w1:wfI k st a (Builtin.bitXor (figI k st a) 1) = (xN k st a:Int)
 c1:Builtin.bitXor (figI k st a) (figI k st (xN k st a)) = 1
 c0:Builtin.bitXor (figI k st a) (figI k st a) = 0
 b0:Builtin.bitXor (figI k st a) 0 = 0 \/ Builtin.bitXor (figI k st a) 0 = 1
 b1:Builtin.bitXor (figI k st a) 1 = 0 \/ Builtin.bitXor (figI k st a) 1 = 1
def plOf (gs:List Nat):List (Nat × Nat):=(List.range gs.length).map fun h=>(h,gs.getD h 0)
def uW (k:Nat) (gs:List Nat):Prop:=gs.length = 2 ^ k /\ ∀ g ∈ gs,g < 2 ^ k
theorem uW.get {k:Nat} {gs:List Nat} (h:uW k gs) {i:Nat} (hi:i < 2 ^ k):gs.getD i 0 < 2 ^ k:=by
 rw [List.getD_eq_getElem?_getD,List.getElem?_eq_getElem (by rw [h.1]; exact hi)]
 exact h.2 _ (List.getElem_mem _)
def UL (k st:Nat) (q:Nat × Nat):Int:=Builtin.bitXor (figI k st (VG k q.1 q.2 (st - 1))) (figI k st (VG k q.1 q.2 st))
def UM (k st:Nat) (m:List Int) (q:Nat × Nat):List Int:=m.set (nN k st (lN k q.1 q.2 st)) (UL k st q)
def UN (k st:Nat) (pl:List (Nat × Nat)):List Int:=pl.foldl (UM k st) (List.replicate (2 ^ k / 2) 0)
def Ts (k:Nat) (gs:List Nat):List (List Int):=(List.range k).map fun n=>UN k (n + 1) (plOf gs)
def UO (K:FG7) (H:Hp) (x:V) (k:Nat) (gs:List Nat) (o:Option (Nat × Int)):Prop:=∃ (r:Addr) (s:Str) (y:V),x = .ref r /\ SqT K H r [.str s,y] /\ match o with
 | none=>s = "settings" /\ yk K H y (Ts k gs)
 | some (l,v)=>s = "clash" /\ ∃ c,y = .ref c /\ SqT K H c [.int l,.int v]
theorem Grow.ans {m:List Addr} {H H':Hp} (g:Grow m H H') {K:FG7} {x:V} {k:Nat} {gs:List Nat} {o:Option (Nat × Int)} (h:UO K H x k gs o):UO K H' x k gs o:=by
 obtain ⟨r,s,y,e,z,w⟩:=h
 refine ⟨r,s,y,e,g.sqT z,?_⟩
 cases o with
 | none=>exact ⟨w.1,g.rows w.2⟩
 | some p =>
  obtain ⟨l,v⟩:=p
  obtain ⟨w1,c,e,z⟩:=w
  exact ⟨w1,c,e,g.sqT z⟩
theorem Y4 {K:FG7} {H:Hp}:∀ (ns:List Int),DqAll K H (ns.map V.int) (ns.map PyData.int)
 | []=>.nil
 | n :: ns=>.cons (.int n) (Y4 ns)
def rowD (r:List Int):PyData:=.tuple (r.map PyData.int)
theorem uy:∀ ns:List Int,PyData.depthAll (ns.map PyData.int) = 0
 | []=>rfl
 | n :: ns=>by
  show max (PyData.depth (.int n)) (PyData.depthAll (ns.map PyData.int)) = 0
  rw [uy ns]; rfl
theorem Zn:∀ rows:List (List Int),PyData.depthAll (rows.map rowD) <= 1
 | []=>Nat.zero_le _
 | r :: rows=>by
  show max (PyData.depthAll (r.map PyData.int) + 1) (PyData.depthAll (rows.map rowD)) <= 1
  have:=Zn rows
  rw [uy]; omega
theorem UP {K:FG7} {H:Hp} {x:V} {r:List Int} (h:zo K H x r):Dq K H x (rowD r):=by
 obtain ⟨a,rfl,h⟩:=h
 exact .tup h (Y4 r)
theorem sK {K:FG7} {H:Hp}:∀ {xs:List V} {rows:List (List Int)},AllR (zo K H) xs rows -> DqAll K H xs (rows.map rowD)
 | [],[],_=>.nil
 | _ :: _,_ :: _,⟨h,t⟩=>.cons (UP h) (sK t)
 | [],_ :: _,h=>h.elim
 | _ :: _,[],h=>h.elim
theorem uW.set {k:Nat} {gs:List Nat} (h:uW k gs) {j n:Nat} (hn:n < 2 ^ k):uW k (gs.set j n):=by
 refine ⟨by rw [List.length_set,h.1],fun g hg=>?_⟩
 rcases List.mem_or_eq_of_mem_set hg with z | rfl
 ·exact h.2 g z
 ·exact hn
def wfN (k s l:Nat) (w:Int):Nat:=(wfI k s l w).toNat
structure WfF (k s l:Nat) (w:Int):Prop where
 eq:wfI k s l w = (wfN k s l w:Int)
 lt:wfN k s l w < 2 ^ k
 at_:figI k s (wfN k s l w) = w
 off:∀ t:Nat,t <= k -> t ≠ s -> figI k t (wfN k s l w) = figI k t l
def mixN (k e x t:Nat):Nat:=(numL ((ZQ k e).take (t - 1) ++ (ZQ k x).drop t)).toNat
def fstI (rows:List (List Int)) (t n:Nat):Int:=(rows.getD (t - 1) []).getD n 0
def Tt (k:Nat) (rows:List (List Int)) (e m x y:Nat):Prop:=∃ t:Nat,m < t /\ t <= k /\ figI k t x ≠ figI k t y /\ (∀ u:Nat,t < u -> u <= k -> figI k u x = figI k u y) /\ figI k t x = fstI rows t (mixN k e x t)
structure OrdF (k:Nat) (rows:List (List Int)) (e n:Nat) (L:List Nat):Prop where
 len:L.length = 2 ^ n
 mem:∀ x ∈ L,x < 2 ^ k /\ ∀ t:Nat,1 <= t -> t <= k - n -> figI k t x = figI k t e
 all:∀ x:Nat,x < 2 ^ k -> (∀ t:Nat,1 <= t -> t <= k - n -> figI k t x = figI k t e) -> x ∈ L
 row:L.Pairwise (Tt k rows e (k - n))
def LsR (H:Hp) (x:V) (row:List Int):Prop:=∃ r,x = .ref r /\ H r = some (.lst (row.map V.int))
def LsB (H:Hp) (x:V) (rows:List (List Int)):Prop:=∃ l xs,x = .ref l /\ H l = some (.lst xs) /\ AllR (LsR H) xs rows
def LsN (a:Addr) (H:Hp) (x:V) (row:List Int):Prop:=∃ r,x = .ref r /\ r ∉ [a] /\ H r = some (.lst (row.map V.int))
def LsA (a:Addr) (H:Hp) (x:V) (rows:List (List Int)):Prop:=∃ l xs,x = .ref l /\ l ∉ [a] /\ H l = some (.lst xs) /\ AllR (LsN a H) xs rows
theorem LsA.b {a:Addr} {H:Hp} {x:V} {rows:List (List Int)} (h:LsA a H x rows):LsB H x rows:=by
 obtain ⟨l,xs,e,n,z,w⟩:=h
 exact ⟨l,xs,e,z,w.imp fun _ _ ⟨r,e,_,z⟩=>⟨r,e,z⟩⟩
def uX (K:FG7) (H:Hp) (f:Addr) (rows:List (List Int)):Prop:=∃ xs,H f = some (.lst xs) /\ AllR (zo K H) xs rows
theorem uX.grow {K:FG7} {H H':Hp} {f:Addr} {rows:List (List Int)} (h:uX K H f rows) (g:Grow [] H H'):uX K H' f rows:=by
 obtain ⟨xs,e,a⟩:=h
 exact ⟨xs,g.keep _ _ (by simp) e,g.boardsR a⟩
theorem uX.ne {K:FG7} {H:Hp} {f r:Addr} {rows:List (List Int)} (h:uX K H f rows) (e:H r = none):r ≠ f:=by
 obtain ⟨xs,e',_⟩:=h
 intro z; rw [z,e'] at e; cases e
theorem uX.set {K:FG7} {H:Hp} {f:Addr} {rows:List (List Int)} {xs:List V} (e:H f = some (.lst xs)) (a:AllR (zo K H) xs rows):uX K H f rows:=⟨xs,e,a⟩
abbrev cxO (X:Cx) (N':List Str) (scope:Scope) (cl:List (Str × Addr)) (C D:Addr) (fp:List Addr) (s:Shared) (H:Hp):Cx :=
 { X with N:=N',s₀:=s,H₀:=H,env:=compEnvC scope cl C X.env,outer:=X.stack,ex:=D :: fp,fn:=fun x=>scope.names.lookup x == some .cell,xe:=fun _ _=>False }
structure CScC (X:Cx) (scope:Scope) (N':List Str) (sub:List (Option Nat)):Prop where
 free:∀ y ∈ scope.names,y.2 = .free -> X.env.kindOf y.1 = some .cell
 nd:(scope.names.map (·.1)).Nodup
 kind:scope.kind = .function
 names:∀ y ∈ scope.names,y.2 = .local -> scope.names.lookup y.1 = some .local
 len:sub.length = N'.length
 cap:∀ (j:Nat) (y:Str) (i:Nat),N'[j]? = some y -> sub[j]? = some (some i) -> X.N[i]? = some y /\ X.env.scope.names.lookup y = some .cell /\ scope.names.lookup y = some .free
theorem wG {α:Type} {x:Str} {c:α}:∀ {a b:List (Str × α)},(a ++ b).lookup x = some c -> a.lookup x = some c \/ (a.lookup x = none /\ b.lookup x = some c)
 | [],b,h=>.inr ⟨rfl,h⟩
 | (k,v) :: r,b,h=>by
  rw [List.cons_append,List.lookup_cons] at h
  rw [List.lookup_cons]
  cases hb:x == k with
  | true=>rw [hb] at h; exact .inl h
  | false=>rw [hb] at h; exact wG h
theorem ZV {α:Type} {x:Str} {a b:List (Str × α)} (h:∃ c,a.lookup x = some c):∃ c,(a ++ b).lookup x = some c:=by
 induction a with
 | nil=>obtain ⟨c,h⟩:=h; cases h
 | cons p r ih =>
  obtain ⟨k,v⟩:=p
  rw [List.lookup_cons] at h
  rw [List.cons_append,List.lookup_cons]
  cases hb:x == k with
  | true=>exact ⟨v,rfl⟩
  | false=>rw [hb] at h; exact ih h
theorem uY {α:Type} {x:Str} {a b:List (Str × α)} (h:∃ c,b.lookup x = some c):∃ c,(a ++ b).lookup x = some c:=by
 induction a with
 | nil=>exact h
 | cons p r ih =>
  obtain ⟨k,v⟩:=p
  rw [List.cons_append,List.lookup_cons]
  cases hb:x == k with
  | true=>exact ⟨v,rfl⟩
  | false=>exact ih
theorem jq {α:Type} {x:Str} {c:α} {a b:List (Str × α)} (h:a.lookup x = none) (e:b.lookup x = some c):(a ++ b).lookup x = some c:=by
 induction a with
 | nil=>exact e
 | cons p r ih =>
  obtain ⟨k,v⟩:=p
  rw [List.lookup_cons] at h
  rw [List.cons_append,List.lookup_cons]
  cases hb:x == k with
  | true=>rw [hb] at h; cases h
  | false=>rw [hb] at h; exact ih h
theorem uZ:∀ (names:List (Str × NameKind)) (n:Nat) (acc more:List (Str × Addr)),cellsFrom n names (acc ++ more) = cellsFrom n names acc ++ more
 | [],_,_,_=>rfl
 | (x,k) :: r,n,acc,more=>by
  unfold cellsFrom
  split
  ·exact uZ r (n + 1) ((x,n) :: acc) more
  ·exact uZ r n acc more
theorem u4:∀ {names:List (Str × NameKind)} {n:Nat} {acc:List (Str × Addr)} {x:Str} {c:Addr},(x,c) ∈ cellsFrom n names acc -> (x,c) ∈ acc \/ (x,NameKind.cell) ∈ names
 | [],_,_,_,_,h=>.inl h
 | (y,k) :: r,n,acc,x,c,h=>by
  unfold cellsFrom at h
  split at h
  ·rename_i hk
   have hk':k = .cell:=by simpa using hk
   rcases u4 h with z | z
   ·rcases List.mem_cons.mp z with e | z
    ·cases e; exact .inr (by rw [hk']; simp)
    ·exact .inl z
   ·exact .inr (List.mem_cons_of_mem _ z)
  ·rcases u4 h with z | z
   ·exact .inl z
   ·exact .inr (List.mem_cons_of_mem _ z)
theorem vy {α:Type} {x:Str}:∀ {a:List (Str × α)},x ∈ a.map (·.1) -> ∃ c,a.lookup x = some c
 | (k,v) :: r,h=>by
  rw [List.lookup_cons]
  cases hb:x == k with
  | true=>exact ⟨v,rfl⟩
  | false =>
   rcases List.mem_cons.mp h with e | h
   ·rw [e] at hb; simp at hb
   ·exact vy h
theorem vS:∀ {names:List (Str × NameKind)} {n:Nat} {acc:List (Str × Addr)} {x:Str},x ∈ acc.map (·.1) -> x ∈ (cellsFrom n names acc).map (·.1)
 | [],_,_,_,h=>h
 | (y,k) :: r,n,acc,x,h=>by
  unfold cellsFrom
  split
  ·exact vS (by rw [List.map_cons]; exact List.mem_cons_of_mem _ h)
  ·exact vS h
theorem Zo:∀ {names:List (Str × NameKind)} {n:Nat} {acc:List (Str × Addr)} {x:Str},(x,NameKind.cell) ∈ names -> x ∈ (cellsFrom n names acc).map (·.1)
 | (y,k) :: r,n,acc,x,h=>by
  unfold cellsFrom
  rcases List.mem_cons.mp h with e | h
  ·cases e
   rw [if_pos (by decide)]
   exact vS (by rw [List.map_cons]; exact List.mem_cons_self)
  ·split <;> exact Zo h
theorem qc {names:List (Str × NameKind)} {n:Nat} {x:Str} (h:(x,NameKind.cell) ∈ names):∃ c,(cellsFrom n names []).lookup x = some c:=vy (Zo h)
theorem Y5 {names:List (Str × NameKind)} {n:Nat} {x:Str} (nd:(names.map (·.1)).Nodup) (h:(x,NameKind.free) ∈ names):(cellsFrom n names []).lookup x = none:=by
 cases e:(cellsFrom n names []).lookup x with
 | none=>rfl
 | some c =>
  rcases u4 (PySem.mem_of_lookup e) with z | z
  ·cases z
  ·have key:∀ {l:List (Str × NameKind)},(l.map (·.1)).Nodup -> (x,NameKind.free) ∈ l -> (x,NameKind.cell) ∈ l -> False:=by
    intro l
    induction l with
    | nil=>intro _ h; cases h
    | cons p r ih =>
     intro nd h1 h2
     rw [List.map_cons,List.nodup_cons] at nd
     rcases List.mem_cons.mp h1 with e1 | h1 <;> rcases List.mem_cons.mp h2 with e2 | h2
     ·rw [← e1] at e2; cases e2
     ·exact nd.1 (by rw [← e1]; exact List.mem_map.mpr ⟨_,h2,rfl⟩)
     ·exact nd.1 (by rw [← e2]; exact List.mem_map.mpr ⟨_,h1,rfl⟩)
     ·exact ih nd.2 h1 h2
   exact (key nd h z).elim
section
variable {X:Cx} {pins:List (Addr × Obj)} {σ:L2.St} {H2:Hp} {s₂:Shared} {it:Addr} {fp:List Addr} {tn:Nat -> Heap -> Prop} {J:It} {scope:Scope} {cl:List (Str × Addr)} {N':List Str} {sub:List (Option Nat)}
theorem jr {h₁:Heap} {tk:Nat} (I:Inv X pins σ H2 s₂) (S:CScC X scope N' sub) (hcl1:∀ x c,cl.lookup x = some c -> X.env.cells.lookup x = some c) (hcl2:∀ y ∈ scope.names,y.2 = .free -> ∃ c,cl.lookup y.1 = some c)
    (hcc:CellsOk h₁ (s₂.heap.objs.size + 2) (cellsFrom (s₂.heap.objs.size + 2) scope.names []))
    (f2:∀ b ∈ fp,FpOk X pins H2 b) (hfp:∀ b ∈ fp,b < s₂.heap.objs.size) {m:Str -> Option Value} {ob:Obj}
    (hns:h₁.Ns (s₂.heap.objs.size + 1) m) (hk:∀ b o,(s₂.heap.push ob).get? b = some o -> h₁.get? b = some o) :
    Inv (cxO X N' scope (cellsFrom (s₂.heap.objs.size + 2) scope.names [] ++ cl) (s₂.heap.objs.size + 1) s₂.heap.objs.size fp { s₂ with heap:=s₂.heap.push ob } H2) pins (capt sub σ) H2 { s₂ with heap:=h₁,toks:=tk }:=by
  have old:∀ b o,s₂.heap.get? b = some o -> (s₂.heap.push ob).get? b = some o:=fun b o e=>Heap.get?_push_of_some _ e
  have old2:∀ b o,s₂.heap.get? b = some o -> h₁.get? b = some o:=fun b o e=>hk b o (old b o e)
  have sz:(s₂.heap.push ob).objs.size = s₂.heap.objs.size + 1:=Heap.size_push ..
  have lk:∀ x c,(cellsFrom (s₂.heap.objs.size + 2) scope.names [] ++ cl).lookup x = some c -> ((x,c) ∈ cellsFrom (s₂.heap.objs.size + 2) scope.names [] /\ h₁.IsCell c none /\ s₂.heap.objs.size + 2 <= c) \/ X.env.cells.lookup x = some c:=fun x c e=>by
    rcases wG e with e | ⟨_,e⟩
    · exact .inl ⟨PySem.mem_of_lookup e,hcc.empty x c (PySem.mem_of_lookup e)⟩
    · exact .inr (hcl1 x c e)
  have cells:∀ x c,X.env.cells.lookup x = some c -> c < s₂.heap.objs.size:=fun x c e=>let ⟨v,q⟩:=I.cell x c e; q.lt
  have has:∀ x,((relabel scope X.env).names.lookup x = some .cell \/ (relabel scope X.env).names.lookup x = some .free) -> ∃ c,(cellsFrom (s₂.heap.objs.size + 2) scope.names [] ++ cl).lookup x = some c:=fun x hx=>by
    rcases hx with hx | hx
    · obtain ⟨k',e,z⟩:=yU hx
      rcases z with z | ⟨_,z⟩
      · subst z; exact ZV (qc (PySem.mem_of_lookup e))
      · subst z; exact uY (hcl2 _ (PySem.mem_of_lookup e) rfl)
    · obtain ⟨k',e,z⟩:=yU hx
      rcases z with z | ⟨z,_⟩
      · subst z; exact uY (hcl2 _ (PySem.mem_of_lookup e) rfl)
      · cases z
  have frsz:∀ b ∈ frs X.stack,b < s₂.heap.objs.size:=fun b hb=>by
    rcases List.mem_cons.mp (I.stkSub b hb) with z | z
    · rw [z]; exact I.lt
    · exact Nat.lt_of_not_le fun q=>I.nofs q z
  refine
    { ok :=
      { mod:=I.ok.mod,kind:=S.kind,glob:=I.ok.glob,blt:=I.ok.blt
        above:=by show (s₂.heap.push ob).objs.size <= s₂.heap.objs.size + 1; rw [sz]; exact Nat.le_refl _
        inj:=fun x y c h1 h2=>?inj
        has:=has
        cab:=fun x c z e=>?cab
        hd:=I.ok.hd,frames:=I.ok.frames,stk:=.inl rfl
        exf:=fun b hb=>?exf
        bs:=fun b o e=>⟨old b o (I.bk b o e),(I.bs b o e).2⟩
        bsz:=by show X.base.objs.size <= (s₂.heap.push ob).objs.size; rw [sz]; exact Nat.le_succ_of_le (Nat.le_trans I.ok.bsz I.sz)
        noex:=fun b o e hb=>?noex
        exfs:=fun b hb=>?exfs
        funs:=?funs
        frf:=I.stkFree }
      os:=rfl,bare:=I.bare,base:=Un.kept fun b u e=>hk b u e
      loc:=⟨m,hns,?loc⟩
      cell:=fun x c e=>?cell
      free:=I.hok.fresh (Nat.le_succ _)
      freeC:=fun x c e=>?freeC
      pin:=fun p hp=>?pin
      hok:=I.hok.kept old2
      len:=?len }
  case exf =>
    rcases List.mem_cons.mp hb with rfl | hb
    · exact ⟨Nat.ne_of_lt (Nat.lt_succ_self _),fun x c e=>(lk x c e).elim (fun z=>Nat.ne_of_gt (Nat.lt_of_lt_of_le (Nat.lt_succ_of_lt (Nat.lt_succ_self _)) z.2.2)) (fun z=>Nat.ne_of_lt (cells x c z))⟩
    · exact ⟨Nat.ne_of_lt (Nat.lt_succ_of_lt (hfp b hb)),fun x c e=>(lk x c e).elim (fun z=>Nat.ne_of_gt (Nat.lt_of_lt_of_le (hfp b hb) (Nat.le_trans (Nat.le_add_right _ 2) z.2.2))) (fun z=>(f2 b hb).2.2.2.2.1 x c z)⟩
  case noex =>
    have hl:b < X.s₀.heap.objs.size:=Nat.lt_of_lt_of_le (Heap.lt_size e) I.ok.bsz
    rcases List.mem_cons.mp hb with rfl | hb
    · exact absurd (Nat.lt_of_lt_of_le hl I.sz) (Nat.lt_irrefl _)
    · rcases (f2 b hb).2.2.2.1 with z | z
      · exact I.ok.noex b o e z
      · exact absurd (Nat.lt_of_lt_of_le hl z) (Nat.lt_irrefl _)
  case exfs =>
    intro hs
    rcases List.mem_cons.mp hb with rfl | hb
    · exact absurd (frsz _ hs) (Nat.lt_irrefl _)
    · rcases List.mem_cons.mp (I.stkSub b hs) with z | z
      · exact (f2 b hb).2.1 z
      · exact (f2 b hb).2.2.1 z
  case funs=>exact Heap.FunFrames.of_keeps (fun b o e _=>⟨o,old b o e,rfl⟩) I.stack
  case loc =>
    intro j y v hj hv hvis
    obtain ⟨mX,_,lX⟩:=I.loc
    unfold capt at hv
    rw [List.getElem?_map] at hv
    cases hs:sub[j]? with
    | none=>rw [hs] at hv; cases hv
    | some o =>
      rw [hs] at hv
      cases o with
      | none=>cases hv
      | some i =>
        obtain ⟨hN,hc,hf⟩:=S.cap j y i hj hs
        have hv':σ[i]? = some (some v):=by
          have z:(match σ[i]? with | some v=>v | none=>none) = some v:=Option.some.inj hv
          cases q:σ[i]? with
          | none=>rw [q] at z; cases z
          | some w=>rw [q] at z; rw [show w = some v from z]
        obtain ⟨u,ru,hl⟩:=lX i y v hN hv' (.inr (.inl hc))
        refine ⟨u,ru,?_⟩
        have kc:(relabel scope X.env).names.lookup y = some .cell:=wo I.ok.kind hc hf
        rcases hl with ⟨z,_⟩ | ⟨_,c,e,ic⟩
        · have z':X.env.scope.names.lookup y = some .local :=z
          rw [hc] at z'; cases z'
        · obtain ⟨c',e'⟩:=hcl2 _ (PySem.mem_of_lookup hf) rfl
          have:=hcl1 _ _ e'
          rw [e] at this; cases this
          have e3:(cellsFrom (s₂.heap.objs.size + 2) scope.names [] ++ cl).lookup y = some c:=jq (Y5 S.nd (PySem.mem_of_lookup hf)) e'
          refine .inr ⟨.inl kc,c,e3,?_⟩
          obtain ⟨oc,h1,h2⟩:=ic
          exact ⟨oc,old2 _ _ h1,h2⟩
  case cell =>
    rcases lk x c e with ⟨_,z,_⟩ | z
    · exact ⟨none,z⟩
    · obtain ⟨v,oc,h1,h2⟩:=I.cell x c z
      exact ⟨v,oc,old2 _ _ h1,h2⟩
  case inj =>
    rcases lk x c h1 with ⟨m1,_,z1⟩ | z1 <;> rcases lk y c h2 with ⟨m2,_,z2⟩ | z2
    · exact name_of_addr hcc.apart m1 m2
    · exact absurd (Nat.lt_of_lt_of_le (cells y c z2) (Nat.le_trans (Nat.le_add_right _ 2) z1)) (Nat.lt_irrefl _)
    · exact absurd (Nat.lt_of_lt_of_le (cells x c z1) (Nat.le_trans (Nat.le_add_right _ 2) z2)) (Nat.lt_irrefl _)
    · exact I.ok.inj x y c z1 z2
  case cab =>
    show (s₂.heap.push ob).objs.size <= c
    rw [sz]
    have hz:scope.names.lookup x = some .cell:=by simpa using z
    rcases wG e with e | ⟨e,_⟩
    · have:=(hcc.empty x c (PySem.mem_of_lookup e)).2; omega
    · obtain ⟨c',e'⟩:=qc (n:=s₂.heap.objs.size + 2) (PySem.mem_of_lookup hz)
      rw [e'] at e; cases e
  case freeC =>
    rcases lk x c e with ⟨_,_,z⟩ | z
    · exact I.hok.fresh (by omega)
    · exact I.freeC x c z
  case pin =>
    obtain ⟨p1,p2,p3,p4,p5⟩:=I.pin p hp
    refine ⟨old2 _ _ p1,p2,Nat.ne_of_lt (Nat.lt_succ_of_lt (Heap.lt_size p1)),fun hs=>?_,p5⟩
    rcases List.mem_cons.mp (I.stkSub _ hs) with z | z
    · exact p3 z
    · exact p4 z
  case len =>
    show (capt sub σ).length = N'.length
    unfold capt
    rw [List.length_map]; exact S.len
theorem Y6 {C D:Addr} {s₀:Shared} {s':Shared} {σ':L2.St} {H':Hp} {ys:List V} {us:List Value} {k:Nat} {oC:Obj} (I:Inv X pins σ H2 s₂)
    (hs₀:∀ b o,s₂.heap.get? b = some o -> s₀.heap.get? b = some o) (hos:s₀.os = s₂.os) (hD:s₂.heap.objs.size <= D) (hC:s₂.heap.objs.size <= C) (hDC:D ≠ C) (f2:∀ b ∈ fp,FpOk X pins H2 b)
    (I':Inv (cxO X N' scope cl C D fp s₀ H2) pins σ' H' s') (hn:H' D = none) (hy:s'.heap.get? D = some { cls:=.type "list",data:=.seq us.toArray k }) (rv:Vals ys us) (hz:ys.length <= sizeLine)
    (ho:s'.heap.get? C = some oC) (hd:∀ v,oC.data ≠ .cell v):Inv X (pins ++ [(C,oC)]) σ (upd H' D (.lst ys)) s' /\ FpOk X pins (upd H' D (.lst ys)) C:=by
  have neD:∀ b o,s₂.heap.get? b = some o -> b ≠ D:=fun b o e=>Nat.ne_of_lt (Nat.lt_of_lt_of_le (Heap.lt_size e) hD)
  have nm:∀ b o,s₂.heap.get? b = some o -> b ∉ fp -> b ∉ D :: fp:=fun b o e h z=>(List.mem_cons.mp z).elim (neD b o e) h
  have U:=I'.base
  have HC:upd H' D (.lst ys) C = none:=by rw [zq (Ne.symm hDC)]; exact I'.free
  have fpc:FpOk X pins (upd H' D (.lst ys)) C:=I.fpOk hC HC
  have un:Un (frs X.stack) fp H2 (upd H' D (.lst ys)) s₂.heap s'.heap :=
    { keep:=fun b o e n h1 h2=>U.keep b o (hs₀ b o e) n h1 (nm b o e h2)
      slot:=fun b o e n h1 h2=>U.slot b o (hs₀ b o e) n h1 (nm b o e h2)
      free:=fun b o e n h2=>by rw [zq (neD b o e)]; exact U.free b o (hs₀ b o e) n (nm b o e h2)
      there:=fun b o e h2=>U.there b o (hs₀ b o e) (nm b o e h2)
      tups:=fun b xs e=>by have z:=U.tups b xs e; rw [zq (zt z hn)]; exact z
      frzs:=fun b o u e=>by have z:=U.frzs b o u e; rw [zq (zt z hn)]; exact z
      tbls:=fun b ps e=>by obtain ⟨more,z⟩:=U.tbls b ps e; exact ⟨more,by rw [zq (zt z hn)]; exact z⟩ }
  have hok:HOk X.prog X.w (upd H' D (.lst ys)) s'.heap:=HOk.track I'.hok hn ⟨hz,us,k,rv,hy⟩
  have IX:Inv X pins σ (upd H' D (.lst ys)) s':=I.call' (I'.os.trans hos) un hok I'.bare fun b hb=>⟨(f2 b hb).2.2.2.1,(f2 b hb).2.1,(f2 b hb).2.2.2.2.1,(f2 b hb).2.2.2.2.2⟩
  refine ⟨IX.pins_of fun p hp=>?_,fpc⟩
  rcases List.mem_append.mp hp with hp | hp
  · exact IX.pin p (List.mem_append_right _ hp)
  · rw [List.mem_singleton.mp hp]
    exact ⟨ho,HC,fpc.2.1,fpc.2.2.1,hd⟩
theorem Y7 {C D:Addr} {s₀:Shared} {tg:Expr} {pos:Pos} {elt iter:Expr} {ifs:List Expr} {g:TG} {tt:TT} {te:TE} {Q:VK} {RR:Value -> Addr -> Result -> Shared -> Prop} {W:Nat -> Nat -> List V -> L2.St -> Hp -> Prop}
  (I:Inv X pins σ H2 s₂) (hcalm:X.calm = true) (T:Turn X.prog X.w X.K tg J fp it tn) (f2:∀ b ∈ fp,FpOk X pins H2 b) (hfp:∀ b ∈ fp,b < s₂.heap.objs.size)
  (hs₀:∀ b o,s₂.heap.get? b = some o -> s₀.heap.get? b = some o) (hos:s₀.os = s₂.os) (hD:s₂.heap.objs.size <= D) (hC:s₂.heap.objs.size <= C) (hDC:D ≠ C)
  (hcl1:∀ x c,cl.lookup x = some c -> X.env.cells.lookup x = some c \/ (s₂.heap.objs.size <= c /\ D ≠ c))
  (hg:PG (cxO X N' scope cl C D fp s₀ H2) tg g) (ht:PIfs (cxO X N' scope cl C D fp s₀ H2) ifs tt) (he:PE (cxO X N' scope cl C D fp s₀ H2) elt te)
  (turn:∀ i m ys σ' H',W i m ys σ' H' →
   (J.stop i H' /\ ∀ l,H' l = none -> Q (.ref l) (upd H' l (.lst ys))) ∨
   (J.go i H' /\ ∃ Nn:List V -> L2.St -> Hp -> Prop,(∀ zs σ2 H2,Nn zs σ2 H2 -> ∃ m',m' < m /\ W (i + 1) m' zs σ2 H2) ∧
    ∀ x H2,J.yld i H' x H2 -> g x σ' H2 fun σ2 H3=>tt σ2 H3 fun b H4=>if b = true then te σ2 H4 fun y H5=>ys.length < sizeLine /\ Nn (ys ++ [y]) σ2 H5 else Nn ys σ2 H4))
  (hRR:∀ (D C:Addr) (oC:Obj) (m:Str -> Option Value) (s':Shared) (Hf:Hp),Inv X (pins ++ [(C,oC)]) σ Hf s' -> s'.heap.Ns C m -> FpOk X pins Hf C -> Q (.ref D) Hf -> RR (.ref D) C (.ok .next) s')
  (n:Nat) (s:Shared) (h:∃ i ys us k σ' H',Inv (cxO X N' scope cl C D fp s₀ H2) pins σ' H' s /\ tn i s.heap /\ (∀ b ∈ fp,H' b = none) /\ H' D = none ∧
   s.heap.get? D = some { cls:=.type "list",data:=.seq (us:List Value).toArray k } /\ Vals ys us /\ ys.length <= sizeLine /\ W i n ys σ' H') :
  codeAny (model X.prog X.w) X.A (.compLoop (.ListComp elt [⟨tg,iter,ifs,0⟩] scope pos) 0 (.ref it) (.ref D) (compEnvC scope cl C X.env)) (RR (.ref D) C) s:=by
 have frsz:∀ b ∈ frs X.stack,b < s₂.heap.objs.size:=fun b hb=>by
  rcases List.mem_cons.mp (I.stkSub b hb) with z | z
  ·rw [z]; exact I.lt
  ·exact Nat.lt_of_not_le fun q=>I.nofs q z
 have cells:∀ x c,cl.lookup x = some c -> D ≠ c:=fun x c e=>by
  rcases hcl1 x c e with z | z
  ·obtain ⟨v,q⟩:=I.cell x c z
   exact Nat.ne_of_gt (Nat.lt_of_lt_of_le q.lt hD)
  ·exact z.2
 have pinsz:∀ p ∈ X.pn ++ pins,p.1 < s₂.heap.objs.size:=fun p hp=>Heap.lt_size (I.pin p hp).1
 refine rM (fun n s=>∃ i ys us k σ' H',Inv (cxO X N' scope cl C D fp s₀ H2) pins σ' H' s /\ tn i s.heap /\ (∀ b ∈ fp,H' b = none) /\ H' D = none ∧
   s.heap.get? D = some { cls:=.type "list",data:=.seq (us:List Value).toArray k } /\ Vals ys us /\ ys.length <= sizeLine /\ W i n ys σ' H') ?_ n h
 rintro n s ⟨i,ys,us,k,σ',H',I',st',fr,hn,hy,rv,hz,w'⟩
 have pD:Inv (cxO X N' scope cl C D fp s₀ H2) (pins ++ [(D,{ cls:=.type "list",data:=.seq us.toArray k })]) σ' H' s:=I'.pins_of fun p hp=>by
  rcases List.mem_append.mp hp with hp | hp
  ·exact I'.pin p (List.mem_append_right _ hp)
  ·rw [List.mem_singleton.mp hp]
   exact ⟨hy,hn,hDC,fun z=>absurd (Nat.lt_of_lt_of_le (frsz _ z) hD) (Nat.lt_irrefl _),fun v z=>by cases z⟩
 have fpok:∀ {H'':Hp},(∀ b ∈ fp,H'' b = none) -> ∀ b ∈ fp,FpOk (cxO X N' scope cl C D fp s₀ H2) (pins ++ [(D,{ cls:=.type "list",data:=.seq us.toArray k })]) H'' b:=fun hz b hb=>by
  refine ⟨hz b hb,Nat.ne_of_lt (Nat.lt_of_lt_of_le (hfp b hb) hC),fun z=>?_,.inl (List.mem_cons_of_mem _ hb),fun x c e=>(hcl1 x c e).elim (fun z=>(f2 b hb).2.2.2.2.1 x c z) (fun z q=>absurd (Nat.lt_of_lt_of_le (q ▸ hfp b hb) z.1) (Nat.lt_irrefl _)),fun p hp=>?_⟩
  ·rcases List.mem_cons.mp (I.stkSub b z) with z | z
   ·exact (f2 b hb).2.1 z
   ·exact (f2 b hb).2.2.1 z
  ·rcases List.mem_append.mp hp with hp | hp
   ·exact (f2 b hb).2.2.2.2.2 p (List.mem_append_left _ hp)
   ·rcases List.mem_append.mp hp with hp | hp
    ·exact (f2 b hb).2.2.2.2.2 p (List.mem_append_right _ hp)
    ·rw [List.mem_singleton.mp hp]
     exact Nat.ne_of_gt (Nat.lt_of_lt_of_le (hfp b hb) hD)
 rcases turn i n ys σ' H' w' with ⟨stop,q⟩ | ⟨go,Nn,hN,step⟩
 ·refine thn (T.done (cxO X N' scope cl C D fp s₀ H2) rfl rfl rfl hcalm i _ s σ' H' (fun _ _=>False) pD (fpok fr) st' stop) fun r s1 ⟨hr,I1⟩=>?_
  subst hr
  have hy1:=(I1.pin (D,{ cls:=.type "list",data:=.seq us.toArray k }) (by simp)).1
  obtain ⟨m,hm,_⟩:=I1.loc
  obtain ⟨oC,es,ep,hoC,hdC,_⟩:=id hm
  obtain ⟨IX,fpc⟩:=Y6 I hs₀ hos hD hC hDC f2 I1.unpinned hn hy1 rv hz hoC (by intro v z; rw [hdC] at z; cases z)
  exact hRR D C oC m s1 _ IX hm fpc (q D hn)
 ·refine thn (T.item (cxO X N' scope cl C D fp s₀ H2) rfl rfl rfl hcalm i _ s σ' H' (fun _ _=>False) pD (fpok fr) st' go) fun r s1 ⟨u,hr,h4⟩=>?_
  subst hr
  refine thn h4 fun _ s2 ⟨x5,H5,I5,r5,y5,st5,fr5⟩=>?_
  have I5':=I5.pinned (fpok fr5) (T.obj _ _ st5)
  refine thn (hg _ s2 σ' H5 x5 u _ I5' r5 (step x5 H5 y5)) fun _ s3 ⟨σ6,H6,I6,q6⟩=>?_
  refine thn (ht _ s3 σ6 H6 _ I6 q6) fun ok s4 ⟨H7,I7,q7⟩=>?_
  have stay:∀ {σ7:L2.St} {H7:Hp} {s7:Shared},Inv (cxO X N' scope cl C D fp s₀ H2) (pins ++ [(D,{ cls:=.type "list",data:=.seq us.toArray k })] ++ uF fp s2.heap) σ7 H7 s7 →
    (∀ b ∈ fp,∀ o,s2.heap.get? b = some o -> s7.heap.get? b = some o) /\ (∀ b ∈ fp,H7 b = none) /\ H7 D = none /\ s7.heap.get? D = some { cls:=.type "list",data:=.seq us.toArray k }:=fun {σ7 H7 s7} I7=>by
   have d:=I7.pin (D,{ cls:=.type "list",data:=.seq us.toArray k }) (by simp)
   refine ⟨fun b hb o e=>(I7.pin (b,o) (List.mem_append_right _ (List.mem_append_right _ (yE hb e)))).1,fun b hb=>?_,d.2.1,d.1⟩
   obtain ⟨o,e,_⟩:=T.obj _ _ st5 b hb
   exact (I7.pin (b,o) (List.mem_append_right _ (List.mem_append_right _ (yE hb e)))).2.1
  cases ok with
  | false =>
   rw [if_neg (by decide)] at q7 ⊢
   obtain ⟨k1,k2,k3,k4⟩:=stay I7
   obtain ⟨m',hm,w7⟩:=hN ys σ6 H7 q7
   exact ⟨m',hm,i + 1,ys,us,k,σ6,H7,I7.unpinned.unpinned,T.keep _ _ _ st5 k1,k2,k3,k4,rv,hz,w7⟩
  | true =>
   rw [if_pos rfl] at q7 ⊢
   refine thn (he _ s4 σ6 H7 _ I7 q7) fun v s5 ⟨y,H8,I8,r8,hl8,n8⟩=>?_
   obtain ⟨k1,k2,k3,k4⟩:=stay I8
   refine wpAny_list_append_plain (l:=D) ⟨k,k4⟩ (fun h' pl sb=>?_) (by rw [List.size_toArray,← rv.length]; exact hz)
   obtain ⟨k',e'⟩:=pl
   obtain ⟨m',hm,w8⟩:=hN _ σ6 H8 n8
   refine ⟨m',hm,i + 1,ys ++ [y],us ++ [v],k',σ6,H8,?_,T.keep _ _ _ (T.keep _ _ _ st5 k1) fun b hb o e=>sb.extBut b o (Nat.ne_of_lt (Nat.lt_of_lt_of_le (hfp b hb) hD)) e,k2,k3,?_,rv.append (.cons r8 .nil),?_,w8⟩
   ·exact (I8.unpinned.unpinned).turned (it:=D) (t':=s5.toks) (h':=h') (fun b o hb e=>sb.extBut b o hb e) k3 hDC (.inl (by simp)) (fun x c e=>(cells x c e).symm) (fun p hp=>Nat.ne_of_lt (Nat.lt_of_lt_of_le (pinsz p hp) hD))
   ·rw [e']; simp
   ·rw [List.length_append]; exact hl8
theorem Y8 {M:Model} {A:Around} {E:VS7} {s:Shared} {scope:Scope} {globals:Addr} {closure:List (Str × Addr)} {qual:Str} {around:Env} {Q:Env -> Shared -> Prop} (hk:scope.kind = .function)
  (hQ:∀ h',h'.Ns s.heap.objs.size (fun _=>none) -> (∀ b o,s.heap.get? b = some o -> h'.get? b = some o) -> CellsOk h' (s.heap.objs.size + 1) (cellsFrom (s.heap.objs.size + 1) scope.names []) →
   Q (newEnv scope s.heap.objs.size globals (cellsFrom (s.heap.objs.size + 1) scope.names [] ++ closure) qual none .none (some around) builtinsNs) { s with heap:=h' }) :
  wpAny M A (newFunctionEnv scope globals closure [] qual none .none (some around)) Q E s:=by
 simp only [newFunctionEnv,Option.isSome_some,if_true]
 refine wpAny_bind (wpAny_alloc (wpAny_bind (wpAny_layCells _ (fun nm kd cs=>by cases h:kd == NameKind.cell <;> simp [h]) scope.names closure _ _ ?_)))
 have own:=cellsFrom_ok scope.names (s.heap.push ⟨.type "dict",none,.dict #[],#[]⟩) (s.heap.objs.size + 1) [] ⟨fun _ _ z=>(nomatch z),.nil⟩ (Nat.le_of_eq (Heap.size_push ..).symm)
 have sz:(s.heap.push ⟨.type "dict",none,.dict #[],#[]⟩).objs.size = s.heap.objs.size + 1:=Heap.size_push ..
 rw [sz] at own
 have ea:=uZ scope.names (s.heap.objs.size + 1) [] closure
 rw [List.nil_append] at ea
 show wpAny _ _ _ _ _ { s with heap:=pushCells (s.heap.push ⟨.type "dict",none,.dict #[],#[]⟩) scope.names }
 dsimp only
 rw [sz,ea]
 exact wpAny_bind (wpAny_pure (wpAny_pure (hQ _ ((Heap.Ns.new s.heap (.type "dict")).keeps (pushCells_keeps _ _)) (fun b o e=>pushCells_keeps _ _ b o (Heap.get?_push_of_some _ e)) own)))
theorem ju {tg:Expr} {pos:Pos} {elt iter:Expr} {ifs:List Expr} {g:TG} {tt:TT} {te:TE} {E:VS7} {Q:VK} {RR:Value -> Addr -> Result -> Shared -> Prop}
  (I:Inv X pins σ H2 s₂) (hcalm:X.calm = true) (T:Turn X.prog X.w X.K tg J fp it tn) (st:tn 0 s₂.heap) (f2:∀ b ∈ fp,FpOk X pins H2 b)
  (S:CScC X scope N' sub) (hcl1:∀ x c,cl.lookup x = some c -> X.env.cells.lookup x = some c) (hcl2:∀ y ∈ scope.names,y.2 = .free -> ∃ c,cl.lookup y.1 = some c)
  (hg:∀ cl C D fp s H,PG (cxO X N' scope cl C D fp s H) tg g) (ht:∀ cl C D fp s H,PIfs (cxO X N' scope cl C D fp s H) ifs tt) (he:∀ cl C D fp s H,PE (cxO X N' scope cl C D fp s H) elt te)
  (hW:vk J (capt sub σ) H2 g tt te Q)
  (hRR:∀ (D C:Addr) (oC:Obj) (m:Str -> Option Value) (s':Shared) (Hf:Hp),Inv X (pins ++ [(C,oC)]) σ Hf s' -> s'.heap.Ns C m -> FpOk X pins Hf C -> Q (.ref D) Hf -> RR (.ref D) C (.ok .next) s') :
  wpAny (model X.prog X.w) X.A (newList []) (fun acc s₃=>wpAny (model X.prog X.w) X.A (newFunctionEnv scope X.env.globals cl [] X.env.qual none .none (some X.env)) (fun cenv s₄ =>
   codeAny (model X.prog X.w) X.A (.compStart (.ListComp elt [⟨tg,iter,ifs,0⟩] scope pos) 0 (.ref it) acc { cenv with scope:=relabel scope X.env }) (RR acc cenv.locals) s₄) E s₃) E s₂:=by
 obtain ⟨W,⟨m0,w0⟩,turn⟩:=hW
 refine wpAny_newObj_type (Y8 S.kind fun h₁ hns₁ hk0 hcc=>?_)
 dsimp only at hns₁ hk0 hcc ⊢
 have hC:(s₂.heap.push { cls:=.type "list",dict:=none,data:=.seq ([]:List Value).toArray }).objs.size = s₂.heap.objs.size + 1:=Heap.size_push ..
 rw [hC] at hns₁ hcc ⊢
 have hk:∀ b o,(s₂.heap.push { cls:=.type "list",dict:=none,data:=.seq ([]:List Value).toArray }).get? b = some o -> h₁.get? b = some o:=hk0
 have hfp:∀ b ∈ fp,b < s₂.heap.objs.size:=fun b hb=>by
  obtain ⟨o,e,_⟩:=T.obj _ _ st b hb
  exact Heap.lt_size e
 have I0:=jr (tk:=s₂.toks) I S hcl1 hcl2 hcc f2 hfp hns₁ hk
 have hD0:h₁.get? s₂.heap.objs.size = some { cls:=.type "list",data:=.seq ([]:List Value).toArray 0 }:=hk _ _ (Heap.get?_push_size _ rfl)
 have hcl3:∀ x c,(cellsFrom (s₂.heap.objs.size + 2) scope.names [] ++ cl).lookup x = some c -> X.env.cells.lookup x = some c \/ (s₂.heap.objs.size <= c /\ s₂.heap.objs.size ≠ c):=fun x c e=>by
  rcases wG e with e | ⟨_,e⟩
  ·have z:=(hcc.empty x c (PySem.mem_of_lookup e)).2
   exact .inr ⟨Nat.le_trans (Nat.le_add_right _ 2) z,Nat.ne_of_lt (Nat.lt_of_lt_of_le (Nat.lt_succ_of_lt (Nat.lt_succ_self _)) z)⟩
  ·exact .inl (hcl1 x c e)
 have loop:codeAny (model X.prog X.w) X.A (.compLoop (.ListComp elt [⟨tg,iter,ifs,0⟩] scope pos) 0 (.ref it) (.ref s₂.heap.objs.size) (compEnvC scope (cellsFrom (s₂.heap.objs.size + 2) scope.names [] ++ cl) (s₂.heap.objs.size + 1) X.env)) (RR (.ref s₂.heap.objs.size) (s₂.heap.objs.size + 1)) { s₂ with heap:=h₁,toks:=s₂.toks } :=
  Y7 (s₀:={ s₂ with heap:=s₂.heap.push { cls:=.type "list",dict:=none,data:=.seq ([]:List Value).toArray } }) (C:=s₂.heap.objs.size + 1) (D:=s₂.heap.objs.size) I hcalm T f2 hfp (fun b o e=>Heap.get?_push_of_some _ e) rfl (Nat.le_refl _) (Nat.le_succ _) (Nat.ne_of_lt (Nat.lt_succ_self _)) hcl3 (hg _ _ _ _ _ _) (ht _ _ _ _ _ _) (he _ _ _ _ _ _) turn hRR m0 _
   ⟨0,[],[],0,capt sub σ,H2,I0,T.keep _ _ _ st fun b hb o e=>hk b o (Heap.get?_push_of_some _ e),fun b hb=>(f2 b hb).1,I.hok.fresh (Nat.le_refl _),hD0,.nil,Nat.zero_le _,w0⟩
 exact codeAny_compStart_list loop (T.self _ _ _ _ _ (T.keep _ _ _ st fun b hb o e=>hk b o (Heap.get?_push_of_some _ e)) loop)
end
section
variable {X:Cx} {scope:Scope} {N':List Str} {sub:List (Option Nat)} {tg:Expr} {pos:Pos} {elt iter:Expr} {ifs:List Expr} {wi:TI} {g:TG} {tt:TT} {te:TE}
theorem CScC.clos {pins:List (Addr × Obj)} {σ:L2.St} {H:Hp} {s:Shared} (S:CScC X scope N' sub) (I:Inv X pins σ H s):∃ cl,closureFor scope X.env = pure cl /\ (∀ x c,cl.lookup x = some c -> X.env.cells.lookup x = some c) /\ ∀ y ∈ scope.names,y.2 = .free -> ∃ c,cl.lookup y.1 = some c :=
 tL fun y hy hf=>I.ok.has y.1 (.inl (S.free y hy hf))
theorem Wm (S:CScC X scope N' sub) (hcalm:X.calm = true) (hi:PI X tg iter wi)
  (hg:∀ cl C D fp s H,PG (cxO X N' scope cl C D fp s H) tg g) (ht:∀ cl C D fp s H,PIfs (cxO X N' scope cl C D fp s H) ifs tt) (he:∀ cl C D fp s H,PE (cxO X N' scope cl C D fp s H) elt te)
  (hs:∀ x,foldedSetIterable iter X.env x = pure x:=by intro _; rfl):PE X (.ListComp elt [⟨tg,iter,ifs,0⟩] scope pos) (Vs wi sub g tt te):=by
 intro pins s σ H Q I h
 obtain ⟨cl,hclos,hcl1,hcl2⟩:=S.clos I
 rw [eval_ListComp]
 refine wpAny_comprehension_free (use:=none) rfl hs hclos S.kind S.names (thn (hi pins s σ H _ I h) fun v s1 h1=>thn h1 fun itv s2 h2=>?_)
 obtain ⟨it,fp,tn,J,H2,e,I2,T,st2,f2,hW⟩:=h2
 subst e
 refine ju (RR:=fun acc C=>compPost (model X.prog X.w) X.A X.xe none (EP X pins σ Q) acc C) I2 hcalm T st2 f2 S hcl1 hcl2 hg ht he hW ?_
 intro D C oC m s' Hf IX hm fpc q
 refine ⟨m,hm,fun h' sb=>⟨.ref D,Hf,?_,rfl,q⟩⟩
 exact (IX.unpinned).turned (it:=C) (t':=s'.toks) (h':=h') (fun b o hb e=>sb.extBut b o hb e) fpc.1 fpc.2.1 fpc.2.2.2.1 fpc.2.2.2.2.1 fpc.2.2.2.2.2
end
theorem CScC.of {X:Cx} {scope:Scope} {N':List Str} {sub:List (Option Nat)} (sc:Scope) (NN:List Str) (e:X.env.scope = sc) (en:X.N = NN)
  (h:((scope.names.all fun y=>(y.2 != .free || sc.names.lookup y.1 == some .cell) && (y.2 != .local || scope.names.lookup y.1 == some .local)) && (sub.length == N'.length) &&
   ((N'.zip sub).all fun p=>match p.2 with | none=>true | some i=>NN[i]? == some p.1 && sc.names.lookup p.1 == some .cell && scope.names.lookup p.1 == some .free)) = true)
  (nd:(scope.names.map (·.1)).Nodup) (hk:scope.kind = .function):CScC X scope N' sub:=by
 rw [Bool.and_eq_true,Bool.and_eq_true] at h
 obtain ⟨⟨h1,h2⟩,h3⟩:=h
 have k1:=fun y hy=>List.all_eq_true.mp h1 y hy
 refine ⟨fun y hy hf=>?_,nd,hk,fun y hy hl=>?_,by simpa using h2,fun j y i hj hs=>?_⟩
 ·have:=k1 y hy
  simp only [hf,Bool.and_eq_true] at this
  have z:=this.1
  show X.env.scope.names.lookup y.1 = _
  rw [e]; simpa using z
 ·have:=k1 y hy
  simp only [hl,Bool.and_eq_true] at this
  simpa using this.2
 ·have hm:(y,some i) ∈ N'.zip sub:=by
   have:(N'.zip sub)[j]? = some (y,some i):=by
    rw [List.getElem?_zip_eq_some]; exact ⟨hj,hs⟩
   exact List.mem_of_getElem? this
  have:=List.all_eq_true.mp h3 _ hm
  simp only [Bool.and_eq_true,beq_iff_eq] at this
  rw [e,en]
  exact ⟨this.1.1,this.1.2,this.2⟩
theorem jv {scope:Scope} {env:Env} {y:Str} (h:scope.names.lookup y = some .cell):(relabel scope env).names.lookup y = some .cell:=by
 have key:∀ l:List (Str × NameKind),l.lookup y = some .cell -> (l.map fun (n,k)=>if (k == NameKind.free && env.scope.kind == .function && env.kindOf n == some .cell) then (n,NameKind.cell) else (n,k)).lookup y = some .cell:=by
  intro l
  induction l with
  | nil=>intro h; cases h
  | cons p r ih =>
   obtain ⟨n,k0⟩:=p
   intro h
   rw [List.map_cons]
   rw [List.lookup_cons] at h
   dsimp only
   cases hx:y == n with
   | true =>
    rw [hx] at h
    cases h
    rw [if_neg (by simp),List.lookup_cons,hx]
   | false =>
    rw [hx] at h
    by_cases hc2:(k0 == NameKind.free && env.scope.kind == .function && env.kindOf n == some .cell) = true
    ·rw [if_pos hc2,List.lookup_cons,hx]; exact ih h
    ·rw [if_neg hc2,List.lookup_cons,hx]; exact ih h
 exact key scope.names h
theorem CSc.nestO {X0:Cx} {scope scope2:Scope} {N' N2:List Str} {sub sub2:List (Option Nat)} {cl:List (Str × Addr)} {C D:Addr} {fp:List Addr} {s:Shared} {H:Hp} (S:CScC X0 scope N' sub) (hk0:X0.env.scope.kind = .function)
  (h:((scope2.names.all fun y=>(y.2 != .free || (scope.names.lookup y.1 == some .free || scope.names.lookup y.1 == some .cell)) && (y.2 != .cell) && (y.2 != .local || scope2.names.lookup y.1 == some .local)) && (sub2.length == N2.length) &&
   ((N2.zip sub2).all fun p=>match p.2 with | none=>true | some i=>N'[i]? == some p.1 && (scope.names.lookup p.1 == some .free || scope.names.lookup p.1 == some .cell) && scope2.names.lookup p.1 == some .free)) = true)
  (hk:scope2.kind = .function):CSc (cxO X0 N' scope cl C D fp s H) scope2 N2 sub2:=by
 rw [Bool.and_eq_true,Bool.and_eq_true] at h
 obtain ⟨⟨h1,h2⟩,h3⟩:=h
 have k1:=fun y hy=>List.all_eq_true.mp h1 y hy
 have cellOf:∀ y:Str,(scope.names.lookup y = some .free \/ scope.names.lookup y = some .cell) -> (relabel scope X0.env).names.lookup y = some .cell:=fun y hy=>by
  rcases hy with hy | hy
  ·exact wo hk0 (S.free (y,.free) (PySem.mem_of_lookup hy) rfl) hy
  ·exact jv hy
 refine ⟨fun y hy hf=>?_,fun y hy hc=>?_,hk,fun y hy hl=>?_,by simpa using h2,fun j y i hj hs=>?_⟩
 ·have:=k1 y hy
  simp only [hf,Bool.and_eq_true] at this
  have z:=this.1.1
  exact cellOf y.1 (by simpa using z)
 ·have:=k1 y hy
  simp only [hc,Bool.and_eq_true] at this
  simp at this
 ·have:=k1 y hy
  simp only [hl,Bool.and_eq_true] at this
  simpa using this.2
 ·have hm:(y,some i) ∈ N2.zip sub2:=by
   have:(N2.zip sub2)[j]? = some (y,some i):=by
    rw [List.getElem?_zip_eq_some]; exact ⟨hj,hs⟩
   exact List.mem_of_getElem? this
  have:=List.all_eq_true.mp h3 _ hm
  simp only [Bool.and_eq_true,Bool.or_eq_true,beq_iff_eq] at this
  exact ⟨this.1.1,cellOf y this.1.2,this.2⟩
theorem yO.at {ds:List Deed} (h:yO ds) {i:Nat} (hi:i < ds.length):(ds.getD i look).Ok:=h _ (List.mem_of_getElem? (UD hi))
structure MixOk (m:List Nat):Prop where
 nd:m.Nodup
 lt:∀ j ∈ m,j < m.length
 has:∀ j,j < m.length -> j ∈ m
theorem MixOk.of {m:List Nat} {n:Nat} (h:m.Perm (List.range n)):MixOk m /\ m.length = n:=by
 have hl:m.length = n:=by rw [h.length_eq,List.length_range]
 refine ⟨⟨(h.nodup_iff).mpr List.nodup_range,fun j hj=>?_,fun j hj=>?_⟩,hl⟩
 ·rw [hl]; exact List.mem_range.mp (h.mem_iff.mp hj)
 ·exact h.mem_iff.mpr (List.mem_range.mpr (by omega))
theorem MixOk.at {m:List Nat} (h:MixOk m) {j:Nat} (hj:j < m.length):m.idxOf j < m.length /\ m.getD (m.idxOf j) 0 = j:=by
 have hl:=List.idxOf_lt_length_of_mem (h.has j hj)
 refine ⟨hl,?_⟩
 rw [List.getD_eq_getElem?_getD,List.getElem?_eq_getElem hl]
 exact List.getElem_idxOf hl
structure WkD (prog:Program) (w:World) (A:Around) (T:String) (I:Addr) (n:Nat) (Fr:Addr -> Prop) (J:List Value -> Shared -> Prop) (Fn:List Value -> Shared -> Prop):Prop where
 ty:∀ acc s,J acc s -> s.TypeIs (.ref I) T
 self:∀ acc s (Q:VS7) (E:VS7),J acc s -> Q (.ref I) s -> wpAny (model prog w) A (pyIter (.ref I)) Q E s
 stay:∀ acc s (S:Addr) (ob:Obj) (h':Heap),J acc s -> Fr S -> s.heap.get? S = some ob -> (ob.cls = .type "list" /\ ∀ v,ob.data ≠ .cell v) -> (∀ b o,b ≠ S -> s.heap.get? b = some o -> h'.get? b = some o) -> h'.objs.size = s.heap.objs.size -> J acc { s with heap:=h' }
 next:∀ acc s (S:Addr) (ob:Obj) (Q:Option Value -> Shared -> Prop) (E:VS7),J acc s -> Fr S -> s.heap.get? S = some ob -> (ob.cls = .type "list" /\ ∀ v,ob.data ≠ .cell v) →
  (∀ v s',acc.length < n -> J (acc ++ [v]) s' -> s'.heap.get? S = some ob -> Q (some v) s') -> (∀ s',Fn acc s' -> s'.heap.get? S = some ob -> Q none s') -> wpAny (model prog w) A (pyNext (.ref I)) Q E s
 push:∀ acc s (o:Obj),J acc s -> J acc { s with heap:=s.heap.push o }
section
variable {X:Cx} {K:FG7} {a b:Expr} {ta:TA} {p p2 pos pos2:Pos}
theorem SqC.grow {c:Bool} {H H':Hp} {a:Addr} {xs:List V} (g:Grow [] H H') (h:SqC c K H a xs):SqC c K H' a xs:=by
 cases c
 ·exact g.sqL h
 ·exact g.sqT h
end
open PySem PySem.Spec PyProof.Rows L2 HT
section
variable {prog:Program} {w:World} {A:Around} {E:VS7} {s:Shared}
theorem Wn (l b:Addr) (us ws:Array Value) (n m:Nat) (d1 d2:Option Addr) (e1 e2:Array (Option Value)) (h0:us.isEmpty = true) :
  Meets (Builtin.«tuple.__add__» ⟨[.ref l,.ref b],[]⟩) (fun _ R s=>s.heap.get? l = some ⟨.type "tuple",d1,.seq us n,e1⟩ /\ s.heap.get? b = some ⟨.type "tuple",d2,.seq ws m,e2⟩ /\ R (.ok (.ret (.ref b))) s) :=
 .of_wp fun P w A R s h=>by
  obtain ⟨hh,gg,dd,tk,os⟩:=s
  obtain ⟨eL,eT,q⟩:=h
  have k1:=PySem.AutoSeq1.sub_tuple_tuple
  wp_walk using PySem.AutoSeq1.wpAny_loadPart' eL,PySem.AutoSeq1.wpAny_loadPart' eT
  exact ⟨_,rfl,q⟩
theorem Wo {t b:Addr} {vs ws:List Value} {Q:VS7} (ht:IsTup s.heap t vs.toArray) (hb:IsTup s.heap b ws.toArray) (hv:vs = []) (h1:Q (.ref b) s):wpAny (model prog w) A (binaryOp .Add (.ref t) (.ref b)) Q E s:=by
 obtain ⟨⟨c1,d1,x1,l1⟩,ho,hc,n,hd⟩:=id ht
 obtain ⟨⟨c2,d2,x2,l2⟩,ho2,hc2,m,hd2⟩:=id hb
 cases hc
 cases hd
 cases hc2
 cases hd2
 exact concat_meets ⟨_,ho,rfl⟩ ⟨_,ho2,rfl⟩ noFill_tuple_add seq_tuple_add PySem.F.slot_tuple_add PySem.F.entry_tuple_add (PySem.F.args_tuple_add_2 _ _) (Wn t b vs.toArray ws.toArray n m d1 d2 l1 l2 (by simp [hv])) ⟨ho,ho2,h1⟩
end
section
variable {X:Cx} {K:FG7}
def Tu (K:FG7):R2:=fun x y H Q=>∃ a b xs ys,x = .ref a /\ y = .ref b /\ SqT K H a xs /\ SqT K H b ys /\ xs.length + ys.length <= sizeLine /\ ∀ p H',Grow [] H H' -> SqT K H' p (xs ++ ys) -> Q (.ref p) H'
theorem VM (hK:X.K = K):OpR X (binaryOp .Add) (Tu K):=by
 subst hK
 intro pins s σ H x y v u Q I rx ry h
 obtain ⟨a,b,xs,ys,rfl,rfl,ha,hb,hz,q⟩:=h
 by_cases hx:xs = []
 ·cases rx
  cases ry
  obtain ⟨its,r1,p1,_⟩:=I.tuple ha
  obtain ⟨its2,r2,p2,_⟩:=I.tuple hb
  exact Wo p1 p2 (r1.nil_iff.mpr hx) ⟨.ref b,H,I,rfl,q b H (Grow.refl _ _) (by rw [hx]; exact hb)⟩
 ·exact Vo pins s σ H _ _ v u Q I rx ry ⟨a,b,xs,ys,rfl,rfl,ha,hb,hx,hz,fun e=>q a H (Grow.refl _ _) (by rw [e,List.append_nil]; exact ha),fun _ p hp=>q p _ (Grow.new hp _) (SqT.of ze)⟩
end
theorem Wp (p:List Int × List Int):(VC p).depth <= 100:=by
 show max (PyData.depthAll (p.1.map PyData.int) + 1) (max (PyData.depthAll (p.2.map PyData.int) + 1) 0) + 1 <= 100
 rw [uy,uy]; decide
theorem UQ (o:Option Int):(oD o).depth = 0:=by cases o <;> rfl
theorem qd:∀ ds:List Deed,PyData.depthAll (ds.map ud) <= 1
 | []=>Nat.zero_le _
 | d :: ds=>by
  show max (max 0 (max (oD d.lo).depth (max (oD d.hi).depth 0)) + 1) (PyData.depthAll (ds.map ud)) <= 1
  have:=qd ds
  rw [UQ,UQ]; omega
theorem Y9 {K:FG7} {H:Hp} {x y:V} {p:List Int × List Int} {neg:Bool} {Q:VK} (hx:uP K H x p) (hy:uP K H y p) (q:Q (.bl neg) H):Wj K neg x y H Q :=
 ⟨VC p,hx.dat.dq,hy.dat.dq,(by obtain ⟨a,_,_,e,_⟩:=hx; exact ⟨a,e⟩),Wp p,q⟩
theorem ZW {K:FG7} {H:Hp} {x y:V} {ds:List Deed} {neg:Bool} {Q:VK} (hx:xq K H x ds) (hy:xq K H y ds) (q:Q (.bl neg) H):Wj K neg x y H Q :=
 ⟨.tuple (ds.map ud),hx.dat.dq,hy.dat.dq,(by obtain ⟨a,_,e,_⟩:=hx; exact ⟨a,e⟩),by have:=qd ds; show PyData.depthAll (ds.map ud) + 1 <= 100; omega,q⟩
def jw (P:Program) (w:World) (K:FG7) (mg:Str -> Option Value) (base:Heap) (C:Addr) (k:Nat) (m:Str) (ps:List Str) (sp:Sp):Prop :=
 ∃ (f:Addr) (fd:FuncData),FnOk P w K mg base CX0 k f fd ps sp /\ uI K fd ps [] /\ Meth K C m f
def sL (P:Program) (w:World) (K:FG7) (mg:Str -> Option Value) (base:Heap) (C:Addr) (k:Nat) (ps:List Str) (sp:Sp):Prop :=
 ∃ (j:Nat) (f:Addr) (fd:FuncData),j + 1 = k /\ FnOk P w K mg base CX0 j f fd ps sp /\ uI K fd ps [] /\ Mk K C f
section
variable {P:Program} {w:World} {K:FG7} {mg:Str -> Option Value} {base:Heap} {C:Addr} {j k:Nat} {m:Str} {ps:List Str} {sp:Sp}
theorem jw.mono (c:jw P w K mg base C j m ps sp) (h:j <= k):jw P w K mg base C k m ps sp:=by
 obtain ⟨f,fd,F,b,mt⟩:=c
 exact ⟨f,fd,F.mono h,b,mt⟩
theorem sL.mono (c:sL P w K mg base C j ps sp) (h:j <= k):sL P w K mg base C k ps sp:=by
 obtain ⟨i,f,fd,e,F,b,mt⟩:=c
 exact ⟨k - 1,f,fd,by omega,F.mono (by omega),b,mt⟩
end
structure CTxt (K:FG7) (mg:Str -> Option Value) (C:Addr):Prop where
 cl:Cls K C
 n1:uH K C "depth"
 n2:uH K C "gates"
 n3:uH K C "out_lines"
 n4:uH K C "ups"
 n5:uH K C "tokens"
 n6:uH K C "came_out"
 n7:uH K C "given"
 mgC:mg "Counter" = some (.ref C)
section
variable {X:Cx} {K:FG7}
def FrT (H:Hp) (r:Addr) (xs:List V):Prop:=∃ o:Obj,H r = some (.frz o (.tup xs)) /\ o.cls = .type "tuple" /\ o.dict = none
theorem FrT.sqT {H:Hp} {r:Addr} {xs:List V} (h:FrT H r xs):SqT K H r xs:=by
 obtain ⟨o,e,_⟩:=h
 exact .inl (.inr ⟨o,e⟩)
end
def Trc (h:Heap) (e T:Addr) (cls:Value):Prop :=
 ∃ oe vs oT ts,h.get? e = some oe /\ oe.cls = cls /\ oe.data = .fields vs /\ vs[1]? = some (.ref T) /\ T ≠ e /\ h.get? T = some oT /\ oT.data = .fields ts /\ ts[3]? = some .none /\ vs[2]? = some .none
structure Lft (fr:List Addr) (e T0 T:Addr) (cls:Value) (h h':Heap):Prop where
 keep:∀ b o,b ∉ fr -> b ≠ e -> b ≠ T0 -> h.get? b = some o -> h'.get? b = some o
 slot:∀ b o,b ∈ fr -> b ≠ e -> b ≠ T0 -> h.get? b = some o -> ∃ sl,h'.get? b = some { o with slots:=sl }
 new:h.get? T = none
 trc:Trc h' e T cls
def CX1 (P:Program) (w:World):CXT:=fun outer H s E e s'=>∃ (a T C:Addr) (H':Hp),e = .ref a /\ s'.os = s.os /\ AllBare s'.gens /\ Un (frs outer) [] H H' s.heap s'.heap /\ HOk P w H' s'.heap ∧
 Trc s'.heap a T (.ref C) /\ H' a = none /\ H' T = none /\ s.heap.get? a = none /\ s.heap.get? T = none /\ E e (some C) H'
theorem yA.at {P:Program} {w:World} {H:Hp} {h:Heap} {a:Addr} {o:HO} (x:yA P w H h a o):∃ ob,h.get? a = some ob:=by
 induction o with
 | lst xs=>obtain ⟨z,its,n,r,e⟩:=x; exact ⟨_,e⟩
 | tup xs=>obtain ⟨z,its,r,ob,e,c⟩:=x; exact ⟨_,e⟩
 | dK kvs=>obtain ⟨z,y,vs,r,ob,es,ep,e,c⟩:=x; exact ⟨_,e⟩
 | dT kvs=>obtain ⟨z,y,xs,r,ob,es,ep,e,c⟩:=x; exact ⟨_,e⟩
 | set S n=>obtain ⟨ob,es,ep,t,e,c⟩:=x; exact ⟨_,e⟩
 | ins C dx fs=>obtain ⟨d,z,ne,e,_⟩:=x; exact ⟨_,e⟩
 | own y=>exact x
 | xd fs=>obtain ⟨mA,⟨od,es,ep,e,c⟩,r⟩:=x; exact ⟨_,e⟩
 | rng lo hi=>obtain ⟨t,u,v,e⟩:=x; exact ⟨_,e⟩
 | frz ob u ih=>exact ⟨_,x.1⟩
 | tbl ps=>exact ⟨_,x⟩
 | met f y=>exact ⟨_,x⟩
 | ext φ=>exact x.2.1
section
variable {P:Program} {w:World} {K:FG7} {mg:Str -> Option Value} {base:Heap} {N:List Str} {qual:Str} {scope:Scope} {f:Addr} {cd:Value} {A:Around} {outer:List Env} {s0:Shared} {H0:Hp} {E:XK}
 {pins:List (Addr × Obj)} {σ:L2.St} {H:Hp} {s:Shared}
end
abbrev veM:List Value:=[.type "ValueError",.type "Exception",.type "BaseException",.type "object"]
def ExcC (K:FG7) (mg:Str -> Option Value) (x:Str) (C:Addr):Prop:=∀ h:Heap,K.In h -> OwnCls x C veM "ValueError.__new__" mg h
structure ApX (X:Cx) (pins:List (Addr × Obj)) (H:Hp) (a T:Addr):Prop where
 s0:∀ b o,X.s₀.heap.get? b = some o -> b ≠ a /\ b ≠ T
 loc:X.env.locals ≠ a /\ X.env.locals ≠ T
 cel:∀ x c,X.env.cells.lookup x = some c -> c ≠ a /\ c ≠ T
 pin:∀ p ∈ X.pn ++ pins,p.1 ≠ a /\ p.1 ≠ T
 ha:H a = none
 hT:H T = none
theorem ApX.of {X:Cx} {pins:List (Addr × Obj)} {σ:L2.St} {H H':Hp} {s:Shared} {a T:Addr} (I:Inv X pins σ H s) (hx:X.ex = []) (na:s.heap.get? a = none) (nT:s.heap.get? T = none) (ha:H' a = none) (hT:H' T = none):ApX X pins H' a T:=by
 have ne:∀ b o,s.heap.get? b = some o -> b ≠ a /\ b ≠ T:=fun b o hb=>⟨fun z=>(by rw [z,na] at hb; cases hb),fun z=>(by rw [z,nT] at hb; cases hb)⟩
 refine ⟨fun b o hb=>?_,?_,fun x c hc=>?_,fun p hp=>ne _ _ (I.pin p hp).1,ha,hT⟩
 ·obtain ⟨o',h1⟩:=I.base.there b o hb (by rw [hx]; simp)
  exact ne b o' h1
 ·obtain ⟨m,⟨o,es,ep,ho,_⟩,_⟩:=I.loc
  exact ne _ _ ho
 ·obtain ⟨v,hv⟩:=I.cell x c hc
  obtain ⟨o,ho,_⟩:=hv
  exact ne _ _ ho
theorem Inv.leftK {X:Cx} {pins:List (Addr × Obj)} {σ:L2.St} {H:Hp} {s:Shared} {a T0:Addr} {h2:Heap} (I:Inv X pins σ H s) (hx:X.ex = []) (ap:ApX X pins H a T0)
  (lk:∀ b o,b ∉ frs X.stack -> b ≠ a -> b ≠ T0 -> s.heap.get? b = some o -> h2.get? b = some o) (ls:∀ b o,b ∈ frs X.stack -> b ≠ a -> b ≠ T0 -> s.heap.get? b = some o -> ∃ sl,h2.get? b = some { o with slots:=sl }):Inv X pins σ H { s with heap:=h2 }:=by
 have stk:∀ b,b ∈ frs X.stack -> b = X.env.locals \/ b ∈ X.fs:=fun b hb=>List.mem_cons.mp (I.stkSub b hb)
 have any:∀ b o,b ≠ a -> b ≠ T0 -> s.heap.get? b = some o -> ∃ sl,h2.get? b = some { o with slots:=sl }:=fun b o n1 n2 ho=>by
  by_cases z:b ∈ frs X.stack
  ·exact ls b o z n1 n2 ho
  ·exact ⟨o.slots,lk b o z n1 n2 ho⟩
 have cellK:∀ x c,X.env.cells.lookup x = some c -> ∀ v,s.heap.IsCell c v -> h2.IsCell c v:=fun x c e v ⟨o,ho,hd⟩=>by
  obtain ⟨n1,n2⟩:=ap.cel x c e
  obtain ⟨sl,h1⟩:=any c o n1 n2 ho
  exact ⟨_,h1,hd⟩
 refine ⟨I.ok,I.os,I.bare,⟨fun b o hb hn hf hx'=>?_,fun b o hb hn hf hx'=>?_,I.base.free,fun b o hb hx'=>?_,I.base.tups,I.base.frzs,I.base.tbls⟩,?_,fun x c hc=>?_,I.free,I.freeC,fun p hp=>?_,fun b u q=>?_,I.len⟩
 ·obtain ⟨n1,n2⟩:=ap.s0 b o hb
  refine lk b o (fun z=>?_) n1 n2 (I.base.keep b o hb hn hf hx')
  rcases stk b z with z | z
  ·exact absurd (Nat.lt_of_lt_of_le (Heap.lt_size hb) I.ok.above) (by rw [z]; exact Nat.lt_irrefl _)
  ·exact hf z
 ·obtain ⟨n1,n2⟩:=ap.s0 b o hb
  obtain ⟨sl,h1⟩:=I.base.slot b o hb hn hf hx'
  obtain ⟨sl',h3⟩:=any b _ n1 n2 h1
  exact ⟨sl',h3⟩
 ·obtain ⟨n1,n2⟩:=ap.s0 b o hb
  obtain ⟨o',h1⟩:=I.base.there b o hb hx'
  obtain ⟨sl,h3⟩:=any b o' n1 n2 h1
  exact ⟨_,h3⟩
 ·obtain ⟨m,⟨o,es,ep,ho,r⟩,hl⟩:=I.loc
  obtain ⟨sl,h1⟩:=any _ o ap.loc.1 ap.loc.2 ho
  refine ⟨m,⟨_,es,ep,h1,r⟩,fun i x v e1 e2 e3=>?_⟩
  obtain ⟨u,ru,lk⟩:=hl i x v e1 e2 e3
  refine ⟨u,ru,?_⟩
  rcases lk with lk | ⟨k1,c,k2,k3⟩
  ·exact .inl lk
  ·exact .inr ⟨k1,c,k2,cellK x c k2 _ k3⟩
 ·obtain ⟨v,hv⟩:=I.cell x c hc
  exact ⟨v,cellK x c hc v hv⟩
 ·obtain ⟨p1,p2,p3,p4,p5⟩:=I.pin p hp
  obtain ⟨n1,n2⟩:=ap.pin p hp
  refine ⟨lk _ _ (fun z=>?_) n1 n2 p1,p2,p3,p4,p5⟩
  rcases stk _ z with z | z
  ·exact p3 z
  ·exact p4 z
 ·refine (I.hok b u q).stay (fun c v hc r=>?_) (fun _ r=>r) fun _ _ r=>r
  have hn:H c ≠ none:=by
   rcases hc with rfl | hc
   ·rw [q]; exact fun z=>nomatch z
   ·rw [hc]; exact fun z=>nomatch z
  exact lk c v (fun z=>hn (I.stkFree c z)) (fun z=>hn (by rw [z]; exact ap.ha)) (fun z=>hn (by rw [z]; exact ap.hT)) r
theorem Inv.left {X:Cx} {pins:List (Addr × Obj)} {σ:L2.St} {H:Hp} {s:Shared} {a T0 T:Addr} {cls:Value} {h2:Heap} (I:Inv X pins σ H s) (hx:X.ex = []) (ap:ApX X pins H a T0)
  (l:Lft (frs X.stack) a T0 T cls s.heap h2):Inv X pins σ H { s with heap:=h2 }:=Inv.leftK I hx ap l.keep l.slot
open PySem.W in
/-- an exception class as the text's constants show it -/
theorem excC_of {K:FG7} {mg:Str -> Option Value} {x:Str} {C:Addr} (b:mg x = some (.ref C)) (q:PySem.W.excIn K C veM "ValueError.__new__" = true):ExcC K mg x C:=by
 intro h X
 refine ⟨b,?_⟩
 unfold PySem.W.excIn at q
 cases ho:K.lookup C with
 | none=>rw [ho] at q; cases q
 | some ob =>
  rw [ho] at q
  obtain ⟨oc,od,oda,osl⟩:=ob
  split at q
  ·rename_i dd cd sl e
   obtain ⟨rfl,rfl,rfl,rfl⟩:=Obj.mk.inj (Option.some.inj e)
   split at q
   ·rename_i C' bm k0 k1 k2 k3 n k5 hm hs
    simp only [Bool.and_eq_true,beq_iff_eq,Bool.not_eq_true'] at q
    obtain ⟨⟨⟨⟨⟨rfl,rfl⟩,hdel⟩,ht⟩,hok⟩,hni⟩:=q
    obtain ⟨nm,bs,mro,ns,qn,hd,sn,sub,ab,col,del⟩:=cd
    dsimp only at hm hdel hok hni
    subst hm hdel
    obtain ⟨l⟩:=osl
    have hl:l = [k0,k1,k2,k3,some (.builtin "ValueError.__new__"),k5]:=hs
    subst hl
    exact ⟨bm,ns,nm,qn,bs,hd,sn,sub,ab,col,od,k0,k1,k2,k3,k5,_,X _ _ ho,.of_isNs (PySem.W.isNs_of_in X hok),PySem.W.nsMap_none_of_in X hok hni,PySem.W.tail_of_in X ht⟩
   ·cases q
  ·cases q
def sM (P:Program) (w:World) (K:FG7) (mg:Str -> Option Value) (base:Heap) (C:Addr) (k:Nat) (m:Str) (ps:List Str) (sp:Sp):Prop :=
 ∃ (f:Addr) (fd:FuncData),FnOk P w K mg base (CX1 P w) k f fd ps sp /\ uI K fd ps [] /\ Meth K C m f
def jx (P:Program) (w:World) (K:FG7) (mg:Str -> Option Value) (base:Heap) (k:Nat) (x:Str) (ps:List Str) (sp:Sp):Prop :=
 ∃ (f:Addr) (fd:FuncData),FnOk P w K mg base (CX1 P w) k f fd ps sp /\ uI K fd ps [] /\ PySem.W.keepIn K (.ref f) = true /\ mg x = some (.ref f)
section
variable {P:Program} {w:World} {K:FG7} {mg:Str -> Option Value} {base:Heap} {C:Addr} {j k:Nat} {m x:Str} {ps:List Str} {sp:Sp}
theorem sM.mono (c:sM P w K mg base C j m ps sp) (h:j <= k):sM P w K mg base C k m ps sp:=by
 obtain ⟨f,fd,F,b,mt⟩:=c
 exact ⟨f,fd,F.mono h,b,mt⟩
theorem jx.mono (c:jx P w K mg base j x ps sp) (h:j <= k):jx P w K mg base k x ps sp:=by
 obtain ⟨f,fd,F,b,mt⟩:=c
 exact ⟨f,fd,F.mono h,b,mt⟩
end
open PySem PySem.Spec PyProof.Rows L2 PySem.W
open PySem.Builtin PySem.Builtin.ObjectAttr PySem.Builtin.Getset_descriptor in
theorem exc_class_get {prog:Program} {w:World} {A:Around} {s:Shared} {K:FG7} {a C:Addr} {o:Obj} {R:Result -> Shared -> Prop} {tp:Value} (X:K.In s.heap) (hx:s.heap.get? a = some o) (hc:o.cls = .ref C) (hm:PySem.W.mroIn K C (.type "object") = some true)
  (h:R (.ok (.ret (.ref C))) s):codeAny (model prog w) A (.call (.builtin "getset_descriptor.__get__") ⟨[.builtin "object.__class__",.ref a,tp],[]⟩) R s:=by
 obtain ⟨hh,g,dr,t,os⟩:=s
 have L0:Looks (model prog w) hh (typeOf (.ref a)) (.ref C):=hc ▸ (Looks.ld hx).andThen .now
 have L1:=looks_mroIn (M:=model prog w) X hm
 refine codeAny_call_builtin KF.slot_gs.plain KF.entry_gs (KF.slot_gs.check _ _ _ _ _ _ _ _ KF.type_class (KF.args_gs _ _ _) ?_)
 unfold Builtin.«getset_descriptor.__get__» descrGet
 rw [dga_obj]
 refine wpAny_bind (wpAny_pure ?_)
 unfold descrGetter descrCheckInstance descrNameAndClass isInstance
 simp only [KF.owner_class]
 repeat lk
 refine ⟨Code.quiet_builtin _ (by decide +kernel),codeAny_builtin KF.entry_class ?_⟩
 unfold Builtin.«object.__class__» shownTypeOf
 repeat lk
 exact h
section
variable {prog:Program} {w:World} {A:Around} {E:VS7} {K:FG7} {a C:Addr} {o:Obj} {h:Heap} {g:Array GenState} {d:Drawn} {t:Nat} {os:OsState}
theorem Xa {tk:Tok} {Q:PySem.Fin -> Shared -> Prop} (X:K.In h) (hx:h.get? a = some o) (hc:o.cls = .ref C) (ha:findIn K (.ref C) "__class__" = some (some (.builtin "object.__class__"))) (hm:PySem.W.mroIn K C (.type "object") = some true)
  (hq:Q (.done (.ret (.ref C))) ⟨h,g,d,t,os⟩):wpAny (model prog w) A (Builtin.«object.__getattribute__» ⟨[.ref a,.str "__class__" tk],[]⟩) Q E ⟨h,g,d,t,os⟩:=by
 have L0:Looks (model prog w) h (typeOf (.ref a)) (.ref C):=hc ▸ (Looks.ld hx).andThen .now
 have L1:=looks_findIn (M:=model prog w) X ha
 have f5:=PySem.F.typeOf_object_class
 have f6:=PySem.F.slot_gs_get.lookup
 have f7:=PySem.F.slot_gs_set.lookup
 repeat (any_goals (first | assumption | with_reducible refine L0.at ?_ | with_reducible refine L1.at ?_ | (with_reducible refine wpAny_loadPart_at hx ?_; rw [hc]) | wp_step))
 refine exc_class_get X hx hc hm ?_
 repeat (any_goals (first | assumption | wp_step))
end
open PySem PySem.Spec PyProof.Rows L2 PySem.W
structure ExcK (K:FG7) (C:Addr):Prop where
 ga:findIn K (.ref C) "__getattribute__" = some (some (.builtin "BaseException.__getattribute__"))
 gt:findIn K (.ref C) "__getattr__" = some none
 cl:findIn K (.ref C) "__class__" = some (some (.builtin "object.__class__"))
 ob:mroIn K C (.type "object") = some true
 be:mroIn K C (.type "BaseException") = some true
def ExO (a C:Addr):HO:=.ext fun h=>∃ o,h.get? a = some o /\ o.cls = .ref C /\ ∃ vs,o.data = .fields vs /\ vs[2]? = some .none
theorem ExO.cl {h:Heap} {a C:Addr} (p:∃ o,h.get? a = some o /\ o.cls = .ref C /\ ∃ vs,o.data = .fields vs /\ vs[2]? = some .none):∃ o,h.get? a = some o /\ o.cls = .ref C:=p.imp fun _ z=>⟨z.1,z.2.1⟩
open PySem PySem.Spec PyProof.Rows L2 PySem.W
end L3
namespace L2
open PySem PySem.Spec PyProof.Rows
end L2
namespace L2
open PySem PySem.Spec PyProof.Rows
end L2
namespace L2
open PySem PySem.Spec PyProof.Rows
end L2
namespace L2
open PySem PySem.Spec PyProof.Rows
end L2
namespace L2
open PySem PySem.Spec PyProof.Rows
end L2
namespace L2
open PySem PySem.Spec PyProof.Rows
end L2
namespace L2
open PySem PySem.Spec PyProof.Rows
section
variable {κ:Type} [DecidableEq κ]
def valV (kvs:List (κ × V)) (k:κ):Option V:=(kvs.find? fun kv=>decide (kv.1 = k)).map (·.2)
def putK (kvs:List (κ × V)) (k:κ) (v:V):List (κ × V) :=
 if (kvs.any fun kv=>decide (kv.1 = k)) = true then kvs.map (fun kv=>if kv.1 = k then (kv.1,v) else kv) else kvs ++ [(k,v)]
def UR (kvs:List (κ × V)) (k:κ):List (κ × V):=kvs.filter fun kv=>decide (kv.1 ≠ k)
theorem vz {p:κ × V} {r:List (κ × V)} {k:κ} (e:p.1 = k):valV (p :: r) k = some p.2:=by simp [valV,List.find?_cons,e]
theorem wH {p:κ × V} {r:List (κ × V)} {k:κ} (e:¬ p.1 = k):valV (p :: r) k = valV r k:=by simp [valV,List.find?_cons,e]
theorem sN (k:κ):∀ kvs:List (κ × V),(kvs.any fun kv=>decide (kv.1 = k)) = (valV kvs k).isSome
 | []=>rfl
 | p :: r=>by
  rw [List.any_cons]
  by_cases e:p.1 = k
  ·simp only [vz e,decide_eq_true e,Bool.true_or,Option.isSome_some]
  ·rw [wH e,decide_eq_false e,Bool.false_or]; exact sN k r
theorem w5 (kvs:List (κ × V)) (k:κ) (v:V):(putK kvs k v).length <= kvs.length + 1:=by
 unfold putK
 split
 ·rw [List.length_map]; omega
 ·rw [List.length_append,List.length_cons,List.length_nil]; omega
theorem Zp {kvs:List (κ × V)} {k:κ} (v:V) (h:valV kvs k = none):putK kvs k v = kvs ++ [(k,v)]:=by
 unfold putK
 rw [sN,h]
 exact if_neg (by decide)
theorem RelO.isSome_eq {o:Option V} {u:Option Value} (r:RelO o u):o.isSome = u.isSome:=by
 cases o with
 | none=>cases u with
  | none=>rfl
  | some _=>exact (show False from r).elim
 | some _=>cases u with
  | none=>exact (show False from r).elim
  | some _=>rfl
theorem RelO.getD {o:Option V} {u:Option Value} {d:V} {d':Value} (r:RelO o u) (rd:RelV d d'):RelV (o.getD d) (u.getD d'):=by
 cases o with
 | none=>cases u with
  | none=>exact rd
  | some _=>exact (show False from r).elim
 | some _=>cases u with
  | none=>exact (show False from r).elim
  | some _=>exact r
theorem KV.val {kvs:List (κ × V)} {vs:List (κ × Value)} (r:KV kvs vs) (k:κ):RelO (valV kvs k) (valueAt vs k):=by
 unfold KV at r
 induction r with
 | nil=>exact True.intro
 | @cons p q ps qs h t ih =>
  obtain ⟨h1,h2⟩:=h
  by_cases e:p.1 = k
  ·have e':q.1 = k:=h1.symm.trans e
   have b:valueAt (q :: qs) k = some q.2:=by simp [valueAt,List.find?_cons,e']
   rw [vz e,b]; exact h2
  ·have e':¬ q.1 = k:=fun z=>e (h1.trans z)
   have b:valueAt (q :: qs) k = valueAt qs k:=by simp [valueAt,List.find?_cons,e']
   rw [wH e,b]; exact ih
theorem KV.any {kvs:List (κ × V)} {vs:List (κ × Value)} (r:KV kvs vs) (k:κ):(kvs.any fun kv=>decide (kv.1 = k)) = vs.any fun kv=>decide (kv.1 = k):=by
 unfold KV at r
 induction r with
 | nil=>rfl
 | cons h t ih=>rw [List.any_cons,List.any_cons,ih,h.1]
theorem KV.repl {kvs:List (κ × V)} {vs:List (κ × Value)} (r:KV kvs vs) (k:κ) {y:V} {u:Value} (ry:RelV y u) :
  KV (kvs.map fun kv=>if kv.1 = k then (kv.1,y) else kv) (vs.map fun kv=>if kv.1 = k then (kv.1,u) else kv):=by
 unfold KV at r ⊢
 induction r with
 | nil=>exact .nil
 | @cons p q ps qs h t ih =>
  rw [List.map_cons,List.map_cons]
  refine .cons ?_ ih
  obtain ⟨h1,h2⟩:=h
  by_cases e:p.1 = k
  ·rw [if_pos e,if_pos (h1.symm.trans e)]; exact ⟨h1,ry⟩
  ·rw [if_neg e,if_neg (fun z=>e (h1.trans z))]; exact ⟨h1,h2⟩
theorem KV.put {kvs:List (κ × V)} {vs:List (κ × Value)} (r:KV kvs vs) (k:κ) {y:V} {u:Value} (ry:RelV y u):KV (putK kvs k y) (stored vs k u):=by
 unfold putK stored
 rw [r.any k]
 by_cases e:(vs.any fun kv=>decide (kv.1 = k)) = true
 ·rw [if_pos e,if_pos e]; exact r.repl k ry
 ·rw [if_neg e,if_neg e]; exact Paired.snoc r ⟨rfl,ry⟩
theorem KV.drop {kvs:List (κ × V)} {vs:List (κ × Value)} (r:KV kvs vs) (k:κ):KV (UR kvs k) (without vs k):=by
 unfold KV at r ⊢
 unfold UR without
 induction r with
 | nil=>exact .nil
 | @cons p q ps qs h t ih =>
  obtain ⟨h1,h2⟩:=h
  rw [List.filter_cons,List.filter_cons]
  by_cases e:p.1 = k
  ·have a:¬ decide (p.1 ≠ k) = true:=by simp [e]
   have b:¬ decide (q.1 ≠ k) = true:=by simp [h1.symm.trans e]
   rw [if_neg a,if_neg b]; exact ih
  ·have e':¬ q.1 = k:=fun z=>e (h1.trans z)
   have a:decide (p.1 ≠ k) = true:=by simp [e]
   have b:decide (q.1 ≠ k) = true:=by simp [e']
   rw [if_pos a,if_pos b]; exact .cons ⟨h1,h2⟩ ih
theorem KV.keys {kvs:List (κ × V)} {vs:List (κ × Value)} (r:KV kvs vs):kvs.map (·.1) = vs.map (·.1):=by
 unfold KV at r
 induction r with
 | nil=>rfl
 | cons h t ih=>rw [List.map_cons,List.map_cons,ih,h.1]
theorem KV.length {kvs:List (κ × V)} {vs:List (κ × Value)} (r:KV kvs vs):kvs.length = vs.length:=Paired.length r
end
theorem Wq {P:Program} {w:World} {k:Key} {u:Value} (r:RelV (kV k) u):(z7 P w).is k u = true:=by
 cases k with
 | inl i=>obtain ⟨t,e⟩:=(show ∃ t,u = Value.int i t from r); subst e; exact qS P w i t
 | inr x=>obtain ⟨t,e⟩:=(show ∃ t,u = Value.str x t from r); subst e; exact qT P w x t
theorem qe {P:Program} {w:World}:∀ {ks:List Key} {us:List Value},Vals (ks.map kV) us -> ItemsAre (z7 P w) ks us
 | [],_,r=>by rw [List.map_nil] at r; cases r; exact .nil
 | k :: ks,_,r=>by
  rw [List.map_cons] at r
  cases r with
  | cons h t=>exact .cons (Wq h) (qe t)
abbrev KT (H:Hp):List (List Key × V) -> List (List Key × Addr × Value) -> Prop:=Paired fun p q=>p.1 = q.1 /\ H q.2.1 = some (.tup (p.1.map kV)) /\ RelV p.2 q.2.2
theorem KT.val {H:Hp} {kvs:List (List Key × V)} {xs:List (List Key × Addr × Value)} (r:KT H kvs xs) (k:List Key):RelO (valV kvs k) ((atKey xs k).map (·.2)):=by
 induction r with
 | nil=>exact True.intro
 | @cons p q ps qs h t ih =>
  obtain ⟨h1,_,h2⟩:=h
  by_cases e:p.1 = k
  ·have e':q.1 = k:=h1.symm.trans e
   have b:atKey (q :: qs) k = some q.2:=by simp [atKey,List.find?_cons,e']
   rw [vz e,b]; exact h2
  ·have e':¬ q.1 = k:=fun z=>e (h1.trans z)
   have b:atKey (q :: qs) k = atKey qs k:=by simp [atKey,List.find?_cons,e']
   rw [wH e,b]; exact ih
theorem KT.repl {H:Hp} {kvs:List (List Key × V)} {xs:List (List Key × Addr × Value)} (r:KT H kvs xs) (k:List Key) {y:V} {u:Value} (ry:RelV y u) :
  KT H (kvs.map fun kv=>if kv.1 = k then (kv.1,y) else kv) (xs.map (putAt k u)):=by
 induction r with
 | nil=>exact .nil
 | @cons p q ps qs h t ih =>
  rw [List.map_cons,List.map_cons]
  refine .cons ?_ ih
  obtain ⟨h1,h2,h3⟩:=h
  unfold putAt
  by_cases e:p.1 = k
  ·rw [if_pos e,if_pos (h1.symm.trans e)]; exact ⟨h1,h2,ry⟩
  ·rw [if_neg e,if_neg (fun z=>e (h1.trans z))]; exact ⟨h1,h2,h3⟩
theorem KT.put {H:Hp} {kvs:List (List Key × V)} {xs:List (List Key × Addr × Value)} (r:KT H kvs xs) (k:List Key) {b:Addr} {y:V} {u:Value} (hb:H b = some (.tup (k.map kV))) (ry:RelV y u) :
  KT H (putK kvs k y) (storedH xs k b u):=by
 have e:(kvs.any fun kv=>decide (kv.1 = k)) = (atKey xs k).isSome:=by
  rw [sN,(r.val k).isSome_eq,Option.isSome_map]
 unfold putK storedH
 rw [e]
 by_cases q:(atKey xs k).isSome = true
 ·rw [if_pos q,if_pos q]; exact r.repl k ry
 ·rw [if_neg q,if_neg q]; exact Paired.snoc r ⟨rfl,hb,ry⟩
theorem KT.keeps {H H':Hp} {kvs:List (List Key × V)} {xs:List (List Key × Addr × Value)} (r:KT H kvs xs) (ht:∀ b ys,H b = some (.tup ys) -> H' b = some (.tup ys)):KT H' kvs xs :=
 Paired.mapP r fun _ _ z=>⟨z.1,ht _ _ z.2.1,z.2.2⟩
section
variable {P:Program} {w:World} {H:Hp} {h:Heap} {a:Addr}
theorem US {u:HO} (ok:HOk P w H h) (e:Rd H a u):yA P w H h a u:=e.ok ok
theorem Wr {kvs:List (Key × V)} (ok:HOk P w H h) (e:Rd H a (.dK kvs)):kvs.length <= sizeLine /\ (a == sysModules) = false /\ ∃ vs,KV kvs vs /\ h.DictOf (z7 P w) a vs :=
 show yA P w H h a (.dK kvs) from US ok e
theorem Tv {kvs:List (Key × V)} (ok:HOk P w H h) (e:H a = some (.dK kvs)):kvs.length <= sizeLine /\ (a == sysModules) = false /\ ∃ vs,KV kvs vs /\ h.DictOf (z7 P w) a vs:=Wr ok (.inl e)
theorem u5 {ks:List Key} (ok:HOk P w H h) (e:H a = some (.tup (ks.map kV))):(tupleKind (z7 P w)).is h ks a:=by
 obtain ⟨_,its,r,o,h1,h2,n,h3⟩:=(show yA P w H h a (.tup (ks.map kV)) from ok a _ e)
 exact ⟨o,its.toArray,n,h1,h2,h3,by simpa using qe r⟩
theorem Ws {kvs:List (List Key × V)} (ok:HOk P w H h) (e:Rd H a (.dT kvs)):kvs.length <= sizeLine /\ (a == sysModules) = false ∧
  ∃ xs,KT H kvs xs /\ h.DictOfH (tupleKind (z7 P w)) a xs:=by
 obtain ⟨z,y,xs,r,o,es,ep,h1,h2,h3,h4,h5⟩:=(show yA P w H h a (.dT kvs) from US ok e)
 refine ⟨z,y,xs,r,o,es,ep,h1,h2,h3,h4,fun x hx=>?_,h5⟩
 have all:∀ {l:List (List Key × V)} {m:List (List Key × Addr × Value)},KT H l m -> ∀ x ∈ m,(tupleKind (z7 P w)).is h x.1 x.2.1:=by
  intro l m q
  induction q with
  | nil=>intro x hx; exact nomatch hx
  | @cons p q ps qs hq t ih =>
   intro x hx
   rcases List.mem_cons.mp hx with e | hx
   ·subst e
    exact u5 ok (by rw [← hq.1]; exact hq.2.1)
   ·exact ih x hx
 exact all r x hx
theorem Xb {kvs:List (List Key × V)} (ok:HOk P w H h) (e:H a = some (.dT kvs)):kvs.length <= sizeLine /\ (a == sysModules) = false ∧
  ∃ xs,KT H kvs xs /\ h.DictOfH (tupleKind (z7 P w)) a xs:=Ws ok (.inl e)
end
def DGet (H:Hp) (a:Addr) (y:V) (r:Option V):Prop :=
 (∃ kvs k,Rd H a (.dK kvs) /\ y = kV k /\ r = valV kvs k) \/ ∃ kvs k b,Rd H a (.dT kvs) /\ y = .ref b /\ H b = some (.tup (k.map kV)) /\ r = valV kvs k
def DPut (H:Hp) (a:Addr) (y v:V) (H':Hp):Prop :=
 (∃ kvs k,H a = some (.dK kvs) /\ y = kV k /\ kvs.length < sizeLine /\ H' = upd H a (.dK (putK kvs k v))) ∨
 ∃ kvs k b,H a = some (.dT kvs) /\ y = .ref b /\ H b = some (.tup (k.map kV)) /\ kvs.length < sizeLine /\ H' = upd H a (.dT (putK kvs k v))
theorem DGet.k {H:Hp} {a:Addr} {kvs:List (Key × V)} {k:Key} (e:H a = some (.dK kvs)):DGet H a (kV k) (valV kvs k):=.inl ⟨kvs,k,.inl e,rfl,rfl⟩
theorem DGet.t {H:Hp} {a b:Addr} {kvs:List (List Key × V)} {k:List Key} (e:H a = some (.dT kvs)) (eb:H b = some (.tup (k.map kV))):DGet H a (.ref b) (valV kvs k):=.inr ⟨kvs,k,b,.inl e,rfl,eb,rfl⟩
theorem DPut.k {H:Hp} {a:Addr} {kvs:List (Key × V)} {k:Key} {v:V} (e:H a = some (.dK kvs)) (hl:kvs.length < sizeLine):DPut H a (kV k) v (upd H a (.dK (putK kvs k v))):=.inl ⟨kvs,k,e,rfl,hl,rfl⟩
theorem DPut.t {H:Hp} {a b:Addr} {kvs:List (List Key × V)} {k:List Key} {v:V} (e:H a = some (.dT kvs)) (eb:H b = some (.tup (k.map kV))) (hl:kvs.length < sizeLine) :
  DPut H a (.ref b) v (upd H a (.dT (putK kvs k v))):=.inr ⟨kvs,k,b,e,rfl,eb,hl,rfl⟩
section
variable {X:Cx} {pins:List (Addr × Obj)} {σ:St} {H:Hp} {s:Shared} {a:Addr} {y v:V} {u r:Value} {o:Option V} {A:Around} {E:VS7}
theorem Inv.big (I:Inv X pins σ H s):sysModules < s.heap.objs.size:=by
 have h:mainGlobals < s.heap.objs.size:=(I.mod.glob.keeps I.bk).lt
 exact Nat.lt_trans (by decide) h
theorem Xc {Q:VS7} (hu:A.units + 1 < cLine) (I:Inv X pins σ H s) (g:DGet H a y (some v)) (ry:RelV y u) (h:∀ w' s',Inv X pins σ H s' -> RelV v w' -> Q w' s') :
  wpAny (model X.prog X.w) A (getItem (.ref a) u) Q E s:=by
 rcases g with ⟨kvs,k,e,ey,l⟩ | ⟨kvs,k,b,e,ey,eb,l⟩
 ·subst ey
  obtain ⟨z,hd,vs,rel,dd⟩:=Wr I.hok e
  obtain ⟨w',hw,rw'⟩:=RelO.some_of (v:=v) (o:=valueAt vs k) (by rw [l]; exact rel.val k)
  exact wpAny_getItem_of (Wq ry) dd.mapOf hw (h w' _ (I.tok _) rw')
 ·subst ey
  cases (show u = Value.ref b from ry)
  obtain ⟨z,hd,xs,rel,dd⟩:=Ws I.hok e
  obtain ⟨w',hw,rw'⟩:=RelO.some_of (v:=v) (o:=(atKey xs k).map (·.2)) (by rw [l]; exact rel.val k)
  obtain ⟨p,hp,hp2⟩:=Option.map_eq_some_iff.mp hw
  refine wpAny_getItem_heap (tupleKind_room_in1 hu) (u5 I.hok eb) dd hp ?_
  rw [hp2]
  exact h w' _ (I.tok _) rw'
theorem VN {Q:VS7} (hu:A.units + 1 < cLine) (I:Inv X pins σ H s) (g:DGet H a y o) (ry:RelV y u) (h:∀ s',Inv X pins σ H s' -> Q (.bool (!o.isSome)) s') :
  wpAny (model X.prog X.w) A (compareOp .NotIn u (.ref a)) Q E s:=by
 rcases g with ⟨kvs,k,e,ey,l⟩ | ⟨kvs,k,b,e,ey,eb,l⟩
 ·subst ey
  obtain ⟨z,hd,vs,rel,dd⟩:=Wr I.hok e
  refine wpAny_notIn_of (Wq ry) hd dd.mapOf ?_
  rw [← (rel.val k).isSome_eq,← l]
  exact h _ (I.tok _)
 ·subst ey
  cases (show u = Value.ref b from ry)
  obtain ⟨z,hd,xs,rel,dd⟩:=Ws I.hok e
  refine wpAny_notIn_heap (tupleKind_room_in1 hu) (u5 I.hok eb) hd dd ?_
  have q:=(rel.val k).isSome_eq
  rw [Option.isSome_map] at q
  rw [← q,← l]
  exact h _ (I.tok _)
theorem jy {h':Heap} {t':Nat} {ob:HO} (I:Inv X pins σ H s) (mu:Mut (H a)) (hs:Heap.SameBut a s.heap h') (he:∃ q,h'.get? a = some q) (new:yA X.prog X.w (upd H a ob) h' a ob) :
  Inv X pins σ (upd H a ob) { s with heap:=h',toks:=t' } :=
 I.write (x:=a) (e:=a) mu (.inl rfl) (fun b q hb z=>(hs.2 b hb).trans z) he new
theorem UT {P:Program} {w:World} {H':Hp} {h':Heap} {kvs:List (Key × V)} {vs:List (Key × Value)} (z:kvs.length <= sizeLine) (hd:(a == sysModules) = false) (rel:KV kvs vs) (dd:h'.DictOf (z7 P w) a vs) :
  yA P w H' h' a (.dK kvs):=⟨z,hd,vs,rel,dd⟩
theorem Xd {H':Hp} {Q:Unit -> Shared -> Prop} (hu:A.units + 1 < cLine) (I:Inv X pins σ H s) (g:DPut H a y v H') (ry:RelV y u) (rv:RelV v r) (h:∀ s',Inv X pins σ H' s' -> Q () s') :
  wpAny (model X.prog X.w) A (setItem (.ref a) u r) Q E s:=by
 rcases g with ⟨kvs,k,e,ey,l,eH⟩ | ⟨kvs,k,b,e,ey,eb,l,eH⟩
 ·subst ey eH
  obtain ⟨z,hd,vs,rel,dd⟩:=Tv I.hok e
  have hz:vs.length <= sizeLine:=by rw [← rel.length]; exact z
  have hl:(putK kvs k v).length <= sizeLine:=by have:=w5 kvs k v; omega
  refine wpAny_setItem_pairs (hsz:=hz) (Wq ry) dd fun h' dd' hs=>h _ ?_
  have he:∃ q,h'.get? a = some q:=let ⟨q,_,_,hq,_⟩:=dd'; ⟨q,hq⟩
  exact jy I (by rw [e]; exact True.intro) hs he (UT hl hd (rel.put k rv) dd')
 ·subst ey eH
  cases (show u = Value.ref b from ry)
  obtain ⟨z,hd,xs,rel,dd⟩:=Xb I.hok e
  have hz:xs.length <= sizeLine:=by rw [← Paired.length rel]; exact z
  have hl:(putK kvs k v).length <= sizeLine:=by have:=w5 kvs k v; omega
  refine wpAny_setItem_heap (hsz:=hz) (tupleKind_room_in1 hu) (u5 I.hok eb) dd fun h' dd' hs=>h _ ?_
  obtain ⟨q,es,ep,hq,h2,h3,h4,_,h5⟩:=dd'
  refine jy I (by rw [e]; exact True.intro) hs ⟨q,hq⟩ ⟨hl,hd,_,(rel.put k eb rv).keeps fun c ys ec=>?_,q,es,ep,hq,h2,h3,h4,h5⟩
  rw [zq (Ub ec e (fun z=>nomatch z))]
  exact ec
end
def NoSl (i:Expr):Prop:=∀ ov iv,subscripted i false ov iv = operate [ov,iv] (getItem ov iv)
theorem VO {prog:Program} {w:World} {A:Around} {E:VS7} {s:Shared} {env:Env} {value slice:Expr} {pos:Pos} {T id:String} {Q:VS7}
  (hl:typeLookup (.type T) "__getitem__" = pure (some (.builtin id))) (hs:NoSl slice)
  (h:wpAny (model prog w) A (eval value env) (fun o s₁=>wpAny (model prog w) A (eval slice env) (fun i s₂=>s₂.TypeIs o T /\ wpAny (model prog w) A (getItem o i) Q E s₂) E s₁) E s) :
  wpAny (model prog w) A (eval (.Subscript value slice pos) env) Q E s:=by
 refine Subscript_ (wpAny_mono h (fun o s₁ h₁=>wpAny_mono h₁ (fun i s₂ h₂=>?_) fun _ _ x=>x) fun _ _ x=>x)
 obtain ⟨hT,h₂⟩:=h₂
 unfold subscriptTail
 refine wpAny_bind ?_
 rw [getitemInPython_of_ne hT.not_modules]
 refine wpAny_bind (wpAny_specialOf hT hl ?_)
 have fin:wpAny (model prog w) A (subscripted slice false o i) (fun r s₃=>wpAny (model prog w) A (letTemporaryGo value o r >>= fun _=>pure r) Q E s₃) E s₂:=by
  rw [hs o i]
  exact wpAny_operating (wpAny_mono h₂ (fun r s₃ h₃=>wpAny_bind (wpAny_letTemporaryGo (wpAny_pure h₃))) fun _ _ x=>x)
 first
  | exact wpAny_pure (wpAny_bind fin)
  | exact wpAny_bind (wpAny_pure (wpAny_bind fin))
  | exact wpAny_bind fin
theorem jz {X:Cx} {pins:List (Addr × Obj)} {σ:St} {H:Hp} {s:Shared} {a:Addr} {y:V} {o:Option V} (I:Inv X pins σ H s) (g:DGet H a y o):s.TypeIs (.ref a) "dict":=by
 rcases g with ⟨kvs,k,e,_,_⟩ | ⟨kvs,k,b,e,_,_,_⟩
 ·obtain ⟨_,_,vs,_,dd⟩:=Wr I.hok e
  exact dd.typeIs
 ·obtain ⟨_,_,xs,_,dd⟩:=Ws I.hok e
  exact dd.typeIs
def Tw (td ty:TE):TE:=fun σ H Q=>td σ H fun x H1=>ty σ H1 fun y H2=>∃ a v,x = .ref a /\ DGet H2 a y (some v) /\ Q v H2
def VP (ty td:TE):TE:=fun σ H Q=>ty σ H fun y H1=>td σ H1 fun x H2=>∃ a o,x = .ref a /\ DGet H2 a y o /\ Q (.bl (!o.isSome)) H2
def Tx (td ty tv:TE):TS:=fun D σ H=>tv σ H fun v H1=>td σ H1 fun x H2=>ty σ H2 fun y H3=>∃ a H4,x = .ref a /\ DPut H3 a y v H4 /\ D.nx σ H4
section
variable {X:Cx} {o i e value:Expr} {pos pos' tpos:Pos} {td ty tv:TE}
theorem Xe (hu:X.A.units + 1 < cLine) (ho:PE X o td) (hi:PE X i ty) (hs:NoSl i):PE X (.Subscript o i pos) (Tw td ty):=by
 intro pins s σ H Q I h
 refine VO PySem.F.slot_dict_getitem.lookup hs (thn (ho pins s σ H _ I h) fun u s1 ⟨x,H1,I1,rx,q1⟩=>thn (hi pins s1 σ H1 _ I1 q1) fun iv s2 ⟨y,H2,I2,ry,a,v,ex,g,q2⟩=>?_)
 subst ex
 obtain rfl:u = Value.ref a:=rx
 exact ⟨jz I2 g,Xc hu I2 g ry fun w' s3 I3 rw'=>⟨v,H2,I3,rw',q2⟩⟩
theorem Xf (hu:X.A.units + 1 < cLine) (hi:PE X i ty) (ho:PE X o td):PC X .NotIn i o (VP ty td):=by
 intro pins s σ H Q I h
 refine thn (hi pins s σ H _ I h) fun iv s1 ⟨y,H1,I1,ry,q1⟩=>thn (ho pins s1 σ H1 _ I1 q1) fun u s2 ⟨x,H2,I2,rx,a,ov,ex,g,q2⟩=>?_
 subst ex
 obtain rfl:u = Value.ref a:=rx
 exact VN hu I2 g ry fun s3 I3=>⟨.bl (!ov.isSome),H2,I3,rfl,q2⟩
theorem VQ (hu:X.A.units + 1 < cLine) (ho:PE X o td) (hi:PE X i ty) (hv:PE X value tv) (hs:swapsWith value (some (.Subscript o i pos')) pos.line X.env = pure false) :
  PS X (.Assign [.Subscript o i pos'] value pos) (Tx td ty tv):=by
 intro pins s σ H D I h
 refine wpAny_Assign_Subscript (thn (hv pins s σ H _ I h) fun r s1 ⟨v,H1,I1,rv,q1⟩=>thn (ho pins s1 σ H1 _ I1 q1) fun u s2 ⟨x,H2,I2,rx,q2⟩=>thn (hi pins s2 σ H2 _ I2 q2) fun iv s3 ⟨y,H3,I3,ry,a,H4,ex,g,q3⟩=>?_) hs
 subst ex
 obtain rfl:u = Value.ref a:=rx
 exact Xd hu I3 g ry rv fun s4 I4=>⟨σ,H4,I4,q3⟩
end
theorem Zq {P:Program} {w:World} {H:Hp} (h:Heap) (hb:sysModules < h.objs.size):yA P w H (h.push { cls:=.type "dict",data:=.dict #[] }) h.objs.size (.dT []) :=
 ⟨Nat.zero_le _,beq_eq_false_iff_ne.mpr (Ne.symm (Nat.ne_of_lt hb)),[],.nil,_,#[],0,Heap.get?_push_size _ rfl,⟨rfl,rfl,rfl⟩,rfl,rfl,List.nodup_nil⟩
structure M1 (X:Cx) (o:Expr) (m:Str) (apos:Pos) (e:Expr) (cpos:Pos):Prop where
 base:attributeBase o m X.env (eval o X.env) = eval o X.env
 few:((backTo cpos (starEach [e] X.env)).all (fun x=>!x.1) && (backToKw cpos (keywordEach [] X.env)).all (fun x=>x.1.isSome)
  && decide (([e]:List Expr).length + ([]:List Keyword).length + (if ([]:List Keyword).isEmpty then 0 else 1) < 30)) = true
 line:(apos.endLine == cpos.line) = true
 trees:backTo cpos (starEach [e] X.env) = [(false,eval e X.env)]
structure M2 (X:Cx) (o:Expr) (m:Str) (apos:Pos) (e f:Expr) (cpos:Pos):Prop where
 base:attributeBase o m X.env (eval o X.env) = eval o X.env
 few:((backTo cpos (starEach [e,f] X.env)).all (fun x=>!x.1) && (backToKw cpos (keywordEach [] X.env)).all (fun x=>x.1.isSome)
  && decide (([e,f]:List Expr).length + ([]:List Keyword).length + (if ([]:List Keyword).isEmpty then 0 else 1) < 30)) = true
 line:(apos.endLine == cpos.line) = true
 trees:backTo cpos (starEach [e,f] X.env) = [(false,eval e X.env),(false,eval f X.env)]
end L2
namespace Att
open PySem PySem.W PySem.Calls PyProof.Rows
end Att
namespace L2
open PySem PySem.Spec PyProof.Rows
end L2
namespace L3
open PySem PySem.Spec PyProof.Rows L2
section
variable {prog:Program} {w:World} {κ:Type} [DecidableEq κ] {knd:HeapKind prog w κ} {A:Around} {E:VS7} {s:Shared}
theorem ZX (d:Addr) (hd:(d == sysModules) = false) :
  MeetsIn prog w (Builtin.«dict.__len__» ⟨[.ref d],[]⟩) (fun _ R s=>∃ xs,s.heap.DictOfH knd d xs /\ R (.ok (.ret (.int xs.length s.toks))) { s with toks:=s.toks + 1 }) :=
 .of_wp fun A R s ⟨xs,hm,h⟩=>by
  obtain ⟨o,es,ep,ho,hc,hdat,he,_,_⟩:=hm
  show wpAny _ _ (dictSize d >>= _) _ _ s
  unfold dictSize
  refine wpAny_bind (wpAny_bind (wpAny_dictEntries ho hdat (wpAny_pure ?_)))
  show wpAny _ _ (Builtin.Dict.pendingCount d >>= _) _ _ s
  refine wpAny_bind (wpAny_pendingCount_other hd ?_)
  refine wpAny_ret_mkInt ?_
  rw [Nat.add_zero,size_of_entries he]; exact h
theorem Xg {d:Addr} {xs:List (κ × Addr × Value)} {Q:VS7} (hd:(d == sysModules) = false) (hm:s.heap.DictOfH knd d xs) (hfit:(xs.length:Int) < 2 ^ 63)
  (h:Q (.int xs.length (s.toks + 1)) { s with toks:=s.toks + 1 + 1 }):wpAny (model prog w) A (Builtin.«len» ⟨[.ref d],[]⟩) (fun fin s'=>∃ r,fin = .done (.ret r) /\ Q r s') E s:=by
 unfold Builtin.«len»
 refine wpAny_bind (m:=oneArg "len" _) (wpAny_pure ?_)
 refine wpAny_bind (m:=callSpecial? (.ref d) (Str.ofString "__len__")) (wpAny_callSpecial?_slot (name:=Str.ofString "__len__") hm.typeIs F.slot_dict_len
  (call_meetsIn F.slot_dict_len hm.typeIs F.entry_dict_len (F.args_dict_len_1 _) (ZX (knd:=knd) d hd) ⟨xs,hm,?_⟩))
 show wpAny _ _ _ _ _ { s with toks:=s.toks + 1 }
 refine wpAny_bind (wpAny_holding (wpAny_pure ?_))
 refine wpAny_bind (wpAny_letGo ?_)
 show wpAny _ _ (if ((xs.length:Nat):Int) < 0 then _ else _) _ _ _
 rw [if_neg (by omega)]
 show wpAny _ _ (if ((xs.length:Nat):Int) >= 2 ^ 63 then _ else _) _ _ _
 rw [if_neg (by omega)]
 exact wpAny_bind (wpAny_mkInt (wpAny_pure ⟨_,rfl,h⟩))
end
section
variable {X:Cx}
theorem ZY:vh X (.builtin "len") (fun xs H Q=>∃ a kvs,xs = [V.ref a] /\ H a = some (.dT kvs) /\ Q (.int kvs.length) H):=by
 intro pins s σ H xs us Q I r h
 obtain ⟨a,kvs,rfl,ha,q⟩:=h
 obtain ⟨u,rfl,ru⟩:=sk r
 cases ru
 obtain ⟨z,hd,ys,rel,dd⟩:=Xb I.hok ha
 have hl:kvs.length = ys.length:=Paired.length rel
 refine Calls.call_function_entry kind_len plain_len entry_len (args_len1 _) (Xg hd dd (by rw [← hl]; rw [sizeLine_eq] at z; omega) ?_)
 rw [← hl]
 exact ⟨.int kvs.length,H,I.tok _,⟨_,rfl⟩,q⟩
end
def VR (tk tv:TE):TE:=fun σ H Q=>∀ p,H p = none -> tk σ (upd H p (.dT [])) fun y H1=>tv σ H1 fun v H2=>H2 p = some (.dT []) /\ ∃ b ks,y = .ref b /\ H2 b = some (.tup (ks.map kV)) /\ Q (.ref p) (upd H2 p (.dT [(ks,v)]))
section
variable {X:Cx} {pos:Pos} {k v:Expr} {tk tv:TE}
theorem Xh (hu:X.A.units + 1 < cLine) (hk:PE X k tk) (hv:PE X v tv):PE X (.Dict [some k] [v] pos) (VR tk tv):=by
 intro pins s σ H Q I q
 have hn:=I.hok.fresh (Nat.le_refl s.heap.objs.size)
 have I1:=I.laid (a:=s.heap.objs.size) (o:=.dT []) (h':=s.heap.push { cls:=.type "dict",data:=.dict #[] }) (t':=s.toks) (fun _ _ q=>Heap.get?_push_of_some _ q) (Nat.le_refl _) (Zq s.heap I.big)
 rw [arm_eval_Dict,zip_pairTrees [some k] [v] X.env pos rfl rfl,dictDisplay_pairs (pairTrees [some k] [v] X.env pos) (by intro z; cases z) (show 1 < 17 by decide)]
 refine wpAny_bind (wpAny_standAt (wpAny_bind ?_))
 unfold subDict
 refine wpAny_bind (wpAny_alloc ?_)
 refine wpAny_bind (wpAny_holding ?_)
 rw [if_pos (show (pairTrees [some k] [v] X.env pos).length <= 15 from (show 1 <= 15 by decide))]
 refine wpAny_bind (pairTrees_cons_walk (thn (hk pins _ σ _ _ I1 (q _ hn)) fun kv s1 ⟨y,H1,I2,ry,q1⟩=>thn (hv pins s1 σ H1 _ I2 q1) fun vv s2 ⟨vV,H2,I3,rv,e,b,ks,ey,eb,q2⟩=>pairTrees_nil_walk ?_))
 subst ey
 cases (show kv = Value.ref b from ry)
 obtain ⟨z,hd,xs,rel,dd⟩:=Xb I3.hok e
 cases rel
 refine wpAny_holding ?_
 rw [List.forIn_cons]
 refine wpAny_bind (wpAny_bind (wpAny_bind (wpAny_dictSet_heap (hsz:=Nat.zero_le _) (show (tupleKind (z7 X.prog X.w)).room X.A from Nat.lt_of_succ_lt hu) (u5 I3.hok eb) dd fun h' dd' hs=>wpAny_pure ?_)))
 show wpAny _ _ (forIn [] _ _) _ _ _
 rw [List.forIn_nil]
 first
  | refine wpAny_pure (wpAny_pure (wpAny_pure (wpAny_pure ⟨.ref s.heap.objs.size,_,?_,rfl,q2⟩)))
  | refine wpAny_pure (wpAny_pure (wpAny_pure ⟨.ref s.heap.objs.size,_,?_,rfl,q2⟩))
 obtain ⟨qo,es,ep,hq,h2,h3,h4,_,h5⟩:=dd'
 refine jy I3 (by rw [e]; exact True.intro) hs ⟨qo,hq⟩ ⟨by show 1 <= _; rw [sizeLine_eq]; decide,hd,_,(KT.put .nil ks eb rv).keeps fun c ys ec=>?_,qo,es,ep,hq,h2,h3,h4,h5⟩
 rw [zq (Ub ec e (fun z=>nomatch z))]
 exact ec
end
open PySem PySem.Spec PyProof.Rows L2 PySem.W
def we (es:Array DictEntry) (d:Addr) (ep:Nat) (h:Heap):Prop:=∃ o,h.get? d = some o /\ o.ExactDict /\ o.data = .dict es ep
section
variable {prog:Program} {w:World} {A:Around} {E:VS7} {s:Shared} {es:Array DictEntry} {d it:Addr} {ep i:Nat}
theorem we.typeIs (h:we es d ep s.heap):s.TypeIs (.ref d) "dict":=let ⟨o,ho,hc,_⟩:=h; ⟨o,ho,hc.1⟩
theorem we.keep {h h':Heap} (x:we es d ep h) (e:∀ o,h.get? d = some o -> h'.get? d = some o):we es d ep h':=let ⟨o,ho,r⟩:=x; ⟨o,e o ho,r⟩
theorem Wt {Q:VS7} (hd:(d == sysModules) = false) (hm:we es d ep s.heap)
  (hQ:Q (.ref s.heap.objs.size) { s with heap:=s.heap.push { cls:=.type "dict_keyiterator",data:=.fields #[.ref d,.int 0 0,.int es.size 0,.int ep 0] } }) :
  wpAny (model prog w) A (pyIter (.ref d)) Q E s:=by
 obtain ⟨o,ho,hc,hdat⟩:=id hm
 have hT:s.TypeIs (.ref d) "dict":=hm.typeIs
 refine wpAny_pyIter_slot hT PySem.F.slot_dict_iter (wpAny_call_entry PySem.F.slot_dict_iter hT PySem.F.entry_dict_iter ?_ (PySem.F.args_dict_iter_1 _))
 unfold Builtin.«dict.__iter__»
 refine wpAny_bind ?_
 unfold Builtin.Dict.dictSlotNone
 refine wpAny_bind (wpAny_notOrdered_dict hT ?_)
 show wpAny _ _ (pure (Value.ref d)) _ _ s
 refine wpAny_pure ?_
 show wpAny _ _ (Builtin.Dict.showsAll d >>= _) _ _ s
 unfold Builtin.Dict.showsAll
 rw [if_neg (by rw [hd]; exact Bool.false_ne_true)]
 refine wpAny_bind (wpAny_pure ?_)
 refine wpAny_bind (wpAny_dictEntries ho hdat ?_)
 refine wpAny_bind (wpAny_dictEpoch ho hdat ?_)
 refine wpAny_bind (wpAny_newObj_type (wpAny_pure ⟨_,rfl,"dict_keyiterator",_,⟨_,Heap.get?_push_size _ rfl,rfl⟩,PySem.F.slot_dict_keyiterator_next.lookup,?_⟩))
 simpa [rawInt] using hQ
theorem Wu {Q:Option Value -> Shared -> Prop} (hit:s.heap.IsKeyIter it d i es.size ep) (hm:we es d ep s.heap) (hlt:i < es.size)
  (hQ:∀ h',h'.IsKeyIter it d (i + 1) es.size ep -> Heap.SameBut it s.heap h' -> Q (some es[i].key) { s with heap:=h' }) :
  wpAny (model prog w) A (pyNext (.ref it)) Q E s:=by
 obtain ⟨o,ho,hc,hd⟩:=id hit
 obtain ⟨od,hod,hcd,hdd⟩:=id hm
 unfold pyNext
 refine wpAny_bind (wpAny_attempt (wpAny_callSpecial?_slot (name:=Str.ofString "__next__") hit.typeIs PySem.F.slot_dict_keyiterator_next
  (wpAny_call_entry PySem.F.slot_dict_keyiterator_next hit.typeIs PySem.F.entry_dict_keyiterator_next ?_ (PySem.F.args_dict_keyiterator_next_1 _))))
 refine wpAny_bind (wpAny_pure ?_)
 refine wpAny_bind ?_
 refine wpAny_bind ?_
 first | refine wpAny_bind (wpAny_typeNameOfWhole_keyiter hit.typeIs (wpAny_pure ?_)) | refine wpAny_bind (wpAny_typeNameOf_keyiter hit.typeIs (wpAny_pure ?_))
 refine wpAny_bind (wpAny_fieldsOf ho hd ?_)
 have hown:Builtin.Dict_items.ownsTuple "dict_keyiterator" = false:=by decide
 simp only [hown,Bool.false_eq_true,if_false]
 show wpAny _ _ (if (Value.ref d == Value.none) = true then _ else _) _ _ s
 rw [if_neg (show ¬ ((Value.ref d == Value.none) = true) from Bool.false_ne_true)]
 refine wpAny_bind (wpAny_pure ?_)
 refine wpAny_bind (wpAny_dictEntries hod hdd ?_)
 rw [if_neg (by simp)]
 refine wpAny_bind (wpAny_pure ?_)
 refine wpAny_bind (wpAny_dictEpoch hod hdd ?_)
 rw [if_neg (by simp)]
 refine wpAny_pure ?_
 simp only [show ¬ ((i:Int) < 0) from by omega,if_false,Int.toNat_natCast,Array.getElem?_eq_getElem hlt]
 refine wpAny_bind ?_
 first | refine wpAny_bind (wpAny_typeNameOfWhole_keyiter hit.typeIs (wpAny_pure ?_)) | refine wpAny_bind (wpAny_typeNameOf_keyiter hit.typeIs (wpAny_pure ?_))
 refine wpAny_bind (wpAny_isOneOf_keyiter hit.typeIs ?_)
 show wpAny _ _ (setField (.ref it) 1 (rawInt ((i:Int) + 1)) >>= _) _ _ s
 refine wpAny_bind (wpAny_setField ho hd (by simp) ?_)
 have hit':(s.heap.update it (Obj.mapFields (·.setIfInBounds 1 (rawInt ((i:Int) + 1))))).IsKeyIter it d (i + 1) es.size ep :=
  ⟨_,Heap.get?_update_self _ ho (Obj.isFreed_of_fields (Obj.data_mapFields hd _)),(Obj.cls_mapFields ..).trans hc,by rw [Obj.data_mapFields hd]; simp [rawInt]⟩
 refine wpAny_bind (wpAny_holding ?_)
 refine wpAny_bind (wpAny_isOneOf_keyiter (s:={ s with heap:=s.heap.update it (Obj.mapFields (·.setIfInBounds 1 (rawInt ((i:Int) + 1)))) }) hit'.typeIs ?_)
 show wpAny _ _ (pure es[i].key) _ _ _
 exact wpAny_pure (wpAny_pure ⟨_,rfl,wpAny_pure (hQ _ hit' (Heap.SameBut.update ..))⟩)
theorem VS {Q:Option Value -> Shared -> Prop} (hh:A.handled = none) (hit:s.heap.IsKeyIter it d es.size es.size ep) (hm:we es d ep s.heap)
  (hQ:∀ h',Heap.ExtBut it s.heap h' -> Q none { s with heap:=h' }):wpAny (model prog w) A (pyNext (.ref it)) Q E s:=by
 obtain ⟨o,ho,hc,hd⟩:=id hit
 obtain ⟨od,hod,hcd,hdd⟩:=id hm
 unfold pyNext
 refine wpAny_bind (wpAny_attempt (wpAny_callSpecial?_slot (name:=Str.ofString "__next__") hit.typeIs PySem.F.slot_dict_keyiterator_next
  (wpAny_call_entry PySem.F.slot_dict_keyiterator_next hit.typeIs PySem.F.entry_dict_keyiterator_next ?_ (PySem.F.args_dict_keyiterator_next_1 _))))
 refine wpAny_bind (wpAny_pure ?_)
 refine wpAny_bind ?_
 refine wpAny_bind ?_
 first | refine wpAny_bind (wpAny_typeNameOfWhole_keyiter hit.typeIs (wpAny_pure ?_)) | refine wpAny_bind (wpAny_typeNameOf_keyiter hit.typeIs (wpAny_pure ?_))
 refine wpAny_bind (wpAny_fieldsOf ho hd ?_)
 have hown:Builtin.Dict_items.ownsTuple "dict_keyiterator" = false:=by decide
 simp only [hown,Bool.false_eq_true,if_false]
 show wpAny _ _ (if (Value.ref d == Value.none) = true then _ else _) _ _ s
 rw [if_neg (show ¬ ((Value.ref d == Value.none) = true) from Bool.false_ne_true)]
 refine wpAny_bind (wpAny_pure ?_)
 refine wpAny_bind (wpAny_dictEntries hod hdd ?_)
 rw [if_neg (by simp)]
 refine wpAny_bind (wpAny_pure ?_)
 refine wpAny_bind (wpAny_dictEpoch hod hdd ?_)
 rw [if_neg (by simp)]
 refine wpAny_pure ?_
 simp only [show ¬ ((es.size:Int) < 0) from by omega,if_false,Int.toNat_natCast,Array.getElem?_eq_none (Nat.le_refl es.size)]
 refine wpAny_bind ?_
 first | refine wpAny_bind (wpAny_typeNameOfWhole_keyiter hit.typeIs (wpAny_pure ?_)) | refine wpAny_bind (wpAny_typeNameOf_keyiter hit.typeIs (wpAny_pure ?_))
 show wpAny _ _ (setField (.ref it) 0 .none >>= _) _ _ s
 refine wpAny_bind (wpAny_setField ho hd (by simp) ?_)
 show wpAny _ _ (newExc (.type "StopIteration") [] >>= _) _ _ _
 refine wpAny_bind ?_
 simp only [newExc,newTuple]
 refine wpAny_bind (wpAny_newObj_type ?_ (by size_fits))
 refine wpAny_bind (m:=firstArgMember _ _) (wpAny_of_eq (a:=Value.none) (by first | rfl | (simp only [firstArgMember]; rfl)) ?_)
 refine wpAny_newObj_type ?_ (by size_fits)
 simp only [raiseNew]
 refine wpAny_bind (wpAny_handled ?_)
 rw [show A.in1.handled = none from hh]
 refine wpAny_bind (wpAny_pure (wpAny_throw ?_))
 refine wpAny_bind (wpAny_isInstance (T:="StopIteration") (b:=true) ⟨_,Heap.get?_push_size _ rfl,rfl⟩ isSubtype_stop ?_)
 exact wpAny_pure (hQ _ (((Heap.SameBut.update ..).extBut.push _).push _))
theorem Xi (hh:A.handled = none) (I d:Addr) (hne:d ≠ I) (es:Array DictEntry) (ep:Nat) :
  Walks prog w A I [I,d] [I] es.size (fun i v=>∃ h:i < es.size,v = es[i].key) (fun i h=>h.IsKeyIter I d i es.size ep /\ we es d ep h) where
 sub:=fun b hb=>by simp at hb; simp [hb]
 frame:=fun _ _ _ st hk=>⟨st.1.at fun o e=>hk I (by simp) o e,st.2.keep fun o e=>hk d (by simp) o e⟩
 item:=fun i s Q E hi st hQ=>by
  refine Wu st.1 st.2 hi fun h' hit' hs'=>?_
  exact hQ _ h' s.toks ⟨hi,rfl⟩ ⟨hit',st.2.keep fun o e=>hs'.extBut d o hne e⟩ fun b o hb e=>hs'.extBut b o (fun h=>hb (by simp [h])) e
 done:=fun s Q E st hQ=>VS hh st.1 st.2 fun h' he'=>hQ h' s.toks fun b o hb e=>he' b o (fun h=>hb (by simp [h])) e
 self:=fun _ _ _ _ st hQ=>wpAny_pyIter_keyiter st.1 hQ
theorem VT (lo:(d == sysModules) = false):KdlSrc prog w "dict" d d es.size (fun i v=>∃ h:i < es.size,v = es[i].key) (we es d ep) where
 type:=fun _ hm=>hm.typeIs
 there:=fun _ hm=>let ⟨_,ho,_⟩:=hm; ⟨Heap.lt_size ho,Heap.lt_size ho⟩
 keep:=fun _ _ hm hk=>hm.keep fun o e=>hk d (.inl rfl) o e
 notList:=by decide
 notTuple:=by decide
 hint:=fun _ _ _ _ hm hq=>kdl_hint_dict hm.typeIs hq
 iter:=fun _ _ hh hm=>⟨_,_,(fun _ _ hq=>Wt lo hm hq),Xi hh _ d (let ⟨_,ho,_⟩:=hm; Nat.ne_of_lt (Heap.lt_size ho)) es ep,⟨⟨_,Heap.get?_push_size _ rfl,rfl,rfl⟩,hm.keep fun o e=>Heap.get?_push_of_some _ e⟩⟩
end
def VU (H:Hp) (z:V) (p:List Key × V):Prop:=∃ b,z = .ref b /\ H b = some (.tup (p.1.map kV))
theorem Zr {H:Hp}:∀ {kvs:List (List Key × V)} {xs:List (List Key × Addr × Value)},KT H kvs xs -> AllR (VU H) (xs.map fun q=>V.ref q.2.1) kvs
 | _,_,.nil=>trivial
 | _,_,.cons h t=>⟨⟨_,rfl,h.2.1⟩,Zr t⟩
theorem qf:∀ xs:List (List Key × Addr × Value),Vals (xs.map fun q=>V.ref q.2.1) (xs.map fun q=>Value.ref q.2.1)
 | []=>.nil
 | _ :: xs=>.cons rfl (qf xs)
open PySem PySem.Spec PyProof.Rows L2 HT
section
variable {prog:Program} {w:World} {A:Around} {E:VS7} {s:Shared}
theorem sO {Q:List Value -> Shared -> Prop} {r:Addr} {a b c:Int} {t u v:Tok} {n:Nat} (hh:A.handled = none) (hr:IsRange s.heap r a b c t u v) (hsmall:Builtin.Range.small a b c = true)
  (hn:Builtin.Range.rangeSize a b c = n) (hlen:n <= 2 ^ 24)
  (hQ:∀ (h':Heap) tk acc',(∀ b o,s.heap.get? b = some o -> h'.get? b = some o) -> ItemsOf (fun i v=>∃ t,v = .int (a + i * c) t) acc' n -> Q acc'.toList { s with heap:=h',toks:=tk }) :
  wpAny (model prog w) A (collect (.ref r)) Q E s:=by
 unfold collect
 refine wpAny_bind (wpAny_runValue (codeAny_builtin F.entry_proto_collect ?_))
 rw [Around.under_plainId F.plain_proto_collect _]
 show wpAny _ A.in1 (newList [] >>= fun l=>again (.builtin "list.__iadd__" ⟨[l,.ref r],[]⟩)) _ _ s
 refine wpAny_bind (wpAny_newObj_type ?_)
 refine wpAny_pure ⟨plainId_quiet F.plain_list_iadd _,codeAny_builtin F.entry_list_iadd ?_⟩
 rw [Around.under_plainId F.plain_list_iadd _]
 show wpAny _ A.in1 (Builtin.List.listExtendWith (.ref s.heap.objs.size) (.ref r) (.ref s.heap.objs.size)) _ _ _
 have hS:(s.heap.push { cls:=.type "list",data:=.seq ([]:List Value).toArray }).get? s.heap.objs.size = some { cls:=.type "list",data:=.seq ([]:List Value).toArray }:=Heap.get?_push_size _ rfl
 have hr':IsRange (s.heap.push { cls:=.type "list",data:=.seq ([]:List Value).toArray }) r a b c t u v:=Heap.get?_push_of_some _ hr
 have fin:∀ (h':Heap) tk acc' c',(∀ b o,s.heap.get? b = some o -> h'.get? b = some o) -> h'.get? s.heap.objs.size = some { cls:=.type "list",dict:=none,data:=.seq acc' c',slots:=#[] } -> ItemsOf (fun i v=>∃ t,v = .int (a + i * c) t) acc' n →
   wpAny (model prog w) A (load s.heap.objs.size >>= fun o=>match o.data with | .seq xs _=>pure xs.toList | _=>unsupported "internal:collect") Q E { s with heap:=h',toks:=tk }:=fun h' tk acc' c' hk hS' hacc =>
  wpAny_bind (wpAny_load hS' (wpAny_pure (hQ h' tk acc' hk hacc)))
 refine wpAny_mono (wpAny_extend_range (R:=fun r' s'=>∃ (h':Heap) (tk:Nat) (acc':Array Value) (c':Nat),r' = .ok (.ret (.ref s.heap.objs.size)) /\ s' = { s with heap:=h',toks:=tk } /\ (∀ b o,s.heap.get? b = some o -> h'.get? b = some o) /\ h'.get? s.heap.objs.size = some { cls:=.type "list",dict:=none,data:=.seq acc' c',slots:=#[] } /\ ItemsOf (fun i v=>∃ t,v = .int (a + i * c) t) acc' n) (s:={ s with heap:=s.heap.push { cls:=.type "list",data:=.seq ([]:List Value).toArray } }) (A:=A) hh hr' hsmall hn hlen s.heap.objs.size _ _ hS fun h' tk acc' c' hk hS hacc =>
  ⟨h',tk,acc',c',rfl,rfl,fun b o e=>hk b o (Nat.ne_of_lt (Heap.lt_size e)) (Heap.get?_push_of_some _ e),hS,hacc⟩) (fun fn s' h=>?_) (fun e s' h=>?_)
 ·cases fn with
  | done f =>
   obtain ⟨h',tk,acc',c',e,rfl,hf,hl,hS'⟩:=h
   cases e
   exact fin h' tk acc' c' hf hl hS'
  | again c =>
   refine ⟨h.1,codeAny_mono h.2 fun r s'' hr=>?_⟩
   obtain ⟨h',tk,acc',c',e,rfl,hf,hl,hS'⟩:=hr
   subst e
   exact fin h' tk acc' c' hf hl hS'
 ·obtain ⟨h',tk,acc',c',e,_⟩:=h
  cases e
theorem uf {Q:VS7} {r:Addr} {a b c:Int} {t u v:Tok} {n:Nat} (hh:A.handled = none) (hr:IsRange s.heap r a b c t u v) (hsmall:Builtin.Range.small a b c = true)
  (hn:Builtin.Range.rangeSize a b c = n) (hlen:n <= 2 ^ 24) (hsz:n <= sizeLine)
  (hQ:∀ (h':Heap) tk acc',(∀ b o,s.heap.get? b = some o -> h'.get? b = some o) -> ItemsOf (fun i v=>∃ t,v = .int (a + i * c) t) acc' n -> Q (.ref h'.objs.size) { s with heap:=h'.push { cls:=.type "tuple",data:=.seq acc' },toks:=tk }) :
  wpAny (model prog w) A (call (.type "tuple") [.ref r]) Q E s:=by
 refine callType_codes (Q₁:=fun obj s₁=>s₁.TypeIs obj "tuple" /\ Q obj s₁) F.called_tuple (F.typeCall_tuple_1 _) F.entry_object_init ?_ fun obj s₁ h₁=>?_
 ·refine codeAny_of_tree ?_
  show wpAny _ A.in1.in1 (do checkBuiltinCall "tuple.__new__" ⟨[.type "tuple",.ref r],[]⟩; again (.builtin "tuple.__new__" ⟨[.type "tuple",.ref r],[]⟩)) _ _ s
  refine wpAny_bind (wpAny_of_eq (F.newCall_tuple_1 _) (wpAny_pure ⟨plainId_quiet F.plain_tuple_new _,codeAny_builtin F.entry_tuple_new ?_⟩))
  rw [Around.under_plainId F.plain_tuple_new _]
  have hsub:=sub_tuple_self
  have hinit:=init_tuple_lookup
  have hmh:=madeHere_tuple
  have hTI:s.TypeIs (.ref r) "range":=⟨_,hr,rfl⟩
  wp_walk using wpAny_typeOf hTI,sO (A:=A.in1.in1) hh hr hsmall hn hlen
  intro h' tk acc hf hacc
  show wpAny _ _ (Builtin.Tuple.tupleExact acc.toList.toArray >>= fun v=>ret v) _ _ _
  unfold Builtin.Tuple.tupleExact
  refine wpAny_bind (wpAny_newObj_type ?_ (by show acc.toList.toArray.size <= sizeLine; simp only [Array.toArray_toList]; rw [hacc.1]; exact hsz))
  refine wpAny_pure ⟨⟨_,Heap.get?_push_size _ rfl,rfl⟩,?_⟩
  have e:acc.toList.toArray = acc:=by simp
  rw [e]
  exact hQ h' tk acc hf hacc
 ·exact ⟨h₁.1,F.args_object_init_2 obj _,object_init_meets F.called_tuple.init.lookup F.called_tuple.made (by decide) prog w A.in1 _ s₁ ⟨h₁.1,rfl,h₁.2⟩⟩
end
theorem ZZ:∀ (m:Nat) (l:List Value) (j:Nat),l.length = m -> (∀ i v,l[i]? = some v -> ∃ t,v = Value.int ((j + i:Nat):Int) t) -> Vals ((List.range' j m).map fun i:Nat=>V.int i) l:=by
 intro m
 induction m with
 | zero =>
  intro l j hl _
  rw [List.length_eq_zero_iff.mp hl]
  exact .nil
 | succ m ih =>
  intro l j hl hv
  match l,hl,hv with
  | x :: l,hl,hv =>
   refine .cons ?_ (ih l (j + 1) (by simpa using hl) fun i v h=>?_)
   ·obtain ⟨t,e⟩:=hv 0 x rfl
    exact ⟨t,e⟩
   ·obtain ⟨t,e⟩:=hv (i + 1) v (by simpa using h)
    exact ⟨t,by rw [e,show j + (i + 1) = j + 1 + i by omega]⟩
section
variable {X:Cx} {a:Expr} {ta:TA} {p p2 pos pos2:Pos}
def Ty (ta:TA):TE:=fun σ H Q=>ta σ H fun vs H1=>∃ n:Nat,vs = [.int n] /\ n <= 1000 /\ ∀ l,H1 l = none -> Q (.ref l) (upd H1 l (.tup ((List.range n).map fun i:Nat=>V.int i)))
theorem u6 (hc:X.calm = true) (hgl:Gl X "tuple") (hml:X.mg "tuple" = none) (hgr:Gl X "range") (hmr:X.mg "range" = none) (ha:PA X [a] ta)
  (hs:starEach [a] X.env = [(false,eval a X.env)]:=by rfl) (hs2:starEach [(.Call (.Name "range" p2) [a] [] pos2:Expr)] X.env = [(false,eval (.Call (.Name "range" p2) [a] [] pos2) X.env)]:=by rfl) :
  PE X (.Call (.Name "tuple" p) [.Call (.Name "range" p2) [a] [] pos2] [] pos) (Ty ta):=by
 intro pins s σ H Q I h
 refine wpAny_Call_Name_kw (wP I hgl hml zH (PyProof.Rows.callWith_type1 ?_ hs2 rfl))
 rw [hs2]
 show wpAny _ _ (spliced [(false,eval (.Call (.Name "range" p2) [a] [] pos2) X.env)]) _ _ s
 refine Calls.spliced_cons ?_
 refine Call_ (wP I hgr hmr boot_range (PyProof.Rows.callWith_type1 (thn (ha pos2 pins s σ H _ I h) fun us s1 ⟨vs,H1,I1,r1,q1⟩=>?_) hs rfl))
 obtain ⟨n,e,hn,q⟩:=q1
 subst e
 obtain ⟨u,rfl,e1⟩:=sk r1
 obtain ⟨t,rfl⟩:=e1
 refine call_range_1 (Calls.spliced_nil ?_)
 have I2:Inv X pins σ H1 { s1 with heap:=s1.heap.push { cls:=.type "range",data:=.fields #[.int 0 s1.toks,.int n t,.int 1 (s1.toks + 1)] },toks:=s1.toks + 1 + 1 }:=I1.kept fun b o e=>Heap.get?_push_of_some _ e
 refine uf (n:=n) (I.ok.hd hc) (IsRange.new ..) (small_one (by omega) (by omega) (by omega) (by omega)) (by rw [rangeSize_one]; split <;> omega) (by omega) (Nat.le_of_lt (zQ hn)) fun h' tk acc hk hacc=>?_
 have hvr:Vals ((List.range n).map fun i:Nat=>V.int i) acc.toList:=by
  have hlen:acc.toList.length = n:=by rw [Array.length_toList]; exact hacc.1
  rw [List.range_eq_range']
  refine ZZ n acc.toList 0 hlen fun i v h=>?_
  obtain ⟨t,e⟩:=hacc.2 i v (by rw [← h]; exact (Array.getElem?_toList).symm)
  exact ⟨t,by rw [e]; congr 1; omega⟩
 have I3:Inv X pins σ H1 { s1 with heap:=h',toks:=tk }:=I2.kept (t':=tk) hk
 refine ⟨.ref h'.objs.size,_,I3.laid (t':=tk) (o:=.tup ((List.range n).map fun i:Nat=>V.int i)) (fun b o e=>Heap.get?_push_of_some _ e) (Nat.le_refl _) ⟨by rw [List.length_map,List.length_range]; exact Nat.le_of_lt (zQ hn),acc.toList,hvr,by simpa using IsTup.new _ _⟩,rfl,q _ (I3.hok.fresh (Nat.le_refl _))⟩
end
def zC (a b:List Int):List Int:=a.map fun i=>b.getD i.toNat 0
theorem qg {a b:List Int}:(zC a b).length = a.length:=by unfold zC; rw [List.length_map]
theorem Xj {S:Nat} {a b:List Int} (ha:Rng S a) (hb:Rng S b) (hl:b.length = S):Rng S (zC a b):=by
 intro x hx
 obtain ⟨i,hi,rfl⟩:=List.mem_map.mp hx
 have h1:=ha i hi
 have h2:i.toNat < b.length:=by omega
 refine hb _ ?_
 rw [List.getD_eq_getElem?_getD,List.getElem?_eq_getElem h2,Option.getD_some]
 exact List.getElem_mem h2
def qh (tab:List (List Int)) (i j:Int):Int:=(tab.getD i.toNat []).getD j.toNat 0
def misT (tab:List (List Int)) (i j l:Nat):Prop:=qh tab (qh tab i j) l ≠ qh tab i (qh tab j l)
def tY (tab:List (List Int)) (i j l:Nat):Prop:=(i < tab.length /\ j < tab.length /\ l < tab.length) /\ misT tab i j l ∧
 ∀ i' j' l':Nat,i' < tab.length -> j' < tab.length -> l' < tab.length -> (i' < i \/ (i' = i /\ (j' < j \/ (j' = j /\ l' < l)))) -> ¬ misT tab i' j' l'
theorem tY.eq {tab:List (List Int)} {i j l i' j' l':Nat} (a:tY tab i j l) (b:tY tab i' j' l'):i = i' /\ j = j' /\ l = l':=by
 have h1:¬ (i' < i \/ (i' = i /\ (j' < j \/ (j' = j /\ l' < l)))):=fun z=>a.2.2 i' j' l' b.1.1 b.1.2.1 b.1.2.2 z b.2.1
 have h2:¬ (i < i' \/ (i = i' /\ (j < j' \/ (j = j' /\ l < l')))):=fun z=>b.2.2 i j l a.1.1 a.1.2.1 a.1.2.2 z a.2.1
 omega
def Z0 (K:FG7) (H:Hp) (tab:List (List Int)) (y:V):Prop :=
 (y = .non /\ ∀ i j l:Nat,i < tab.length -> j < tab.length -> l < tab.length -> ¬ misT tab i j l) \/ ∃ i j l:Nat,tY tab i j l /\ zo K H y [(i:Int),(j:Int),(l:Int)]
def FamD (H:Hp) (x:V) (fam:List (List Int)):Prop:=∃ l kvs,x = .ref l /\ H l = some (.dT kvs) /\ kvs.map (·.1) = fam.map (List.map Sum.inl)
theorem jA:∀ d:List Int,(d.map (Sum.inl:Int -> Key)).map kV = d.map V.int
 | []=>rfl
 | x :: d=>by rw [List.map_cons,List.map_cons,List.map_cons,jA d]; rfl
def brkD:Option (Nat × Nat × Nat) -> PyData
 | none=>.none
 | some t=>jf [(t.1:Int),(t.2.1:Int),(t.2.2:Int)]
def BrkO (tab:List (List Int)):Option (Nat × Nat × Nat) -> Prop
 | none=>∀ i j l:Nat,i < tab.length -> j < tab.length -> l < tab.length -> ¬ misT tab i j l
 | some t=>tY tab t.1 t.2.1 t.2.2
theorem BrkO.eq {tab:List (List Int)} {o o':Option (Nat × Nat × Nat)} (a:BrkO tab o) (b:BrkO tab o'):o = o':=by
 cases o with
 | none=>cases o' with
  | none=>rfl
  | some t=>exact absurd b.2.1 (a _ _ _ b.1.1 b.1.2.1 b.1.2.2)
 | some t=>cases o' with
  | none=>exact absurd a.2.1 (b _ _ _ a.1.1 a.1.2.1 a.1.2.2)
  | some t' =>
   obtain ⟨i,j,l⟩:=t
   obtain ⟨i',j',l'⟩:=t'
   obtain ⟨e1,e2,e3⟩:=tY.eq a b
   rw [show i = i' from e1,show j = j' from e2,show l = l' from e3]
theorem Z0.o {K:FG7} {H:Hp} {tab:List (List Int)} {y:V} (h:Z0 K H tab y):∃ o,BrkO tab o /\ Dat K H y (brkD o) /\ ((o = none /\ y = .non) \/ ∃ a,y = .ref a):=by
 rcases h with ⟨rfl,h⟩ | ⟨i,j,l,h,hb⟩
 ·exact ⟨none,h,.non,.inl ⟨rfl,rfl⟩⟩
 ·exact ⟨some (i,j,l),h,hb.dat,.inr (let ⟨a,e,_⟩:=hb; ⟨a,e⟩)⟩
theorem Z0.grow {K:FG7} {m:List Addr} {H H':Hp} {tab:List (List Int)} {y:V} (h:Z0 K H tab y) (g:Grow m H H'):Z0 K H' tab y:=by
 rcases h with h | ⟨i,j,l,h,hb⟩
 ·exact .inl h
 ·exact .inr ⟨i,j,l,h,g.board hb⟩
def TabG (K:FG7) (H:Hp) (y:V) (tab:List (List Int)):Prop:=yk K H y tab /\ 1 <= tab.length /\ tab.length <= 60 /\ ue tab.length tab.length tab
def jB (K:FG7) (H:Hp) (z:V):Prop:=∃ t y1 y2 tab,z = .ref t /\ SqT K H t [y1,y2] /\ TabG K H y1 tab /\ Z0 K H tab y2
theorem jB.grow {K:FG7} {m:List Addr} {H H':Hp} {z:V} (h:jB K H z) (g:Grow m H H'):jB K H' z:=by
 obtain ⟨t,y1,y2,tab,e,h1,⟨h2,h3⟩,h4⟩:=h
 exact ⟨t,y1,y2,tab,e,g.sqT h1,⟨g.rows h2,h3⟩,h4.grow g⟩
theorem nd1 {α:Type} {a:α}:[a].Nodup:=List.nodup_cons.mpr ⟨(fun z=>nomatch z),List.nodup_nil⟩
def idL (S:Nat):List Int:=(List.range S).map fun i:Nat=>(i:Int)
abbrev FW:=List (List Int × List Int)
def zu (f:FW):List (List Int):=f.map (·.1)
def yh (f:FW) (d:List Int):Option (List Int):=(f.find? fun p=>decide (p.1 = d)).map (·.2)
theorem xU {d:List Int}:∀ {f:FW},d ∈ zu f -> ∃ w,yh f d = some w
 | [],h=>by cases h
 | p :: f,h=>by
  by_cases e:p.1 = d
  ·exact ⟨p.2,by simp [yh,List.find?_cons,e]⟩
  ·have:d ∈ zu f:=by
    rcases List.mem_cons.mp h with h | h
    ·exact absurd h.symm e
    ·exact h
   obtain ⟨w,hw⟩:=xU this
   exact ⟨w,by simpa [yh,List.find?_cons,e] using hw⟩
theorem wy {d w:List Int}:∀ {f:FW},yh f d = some w -> (d,w) ∈ f
 | [],h=>by cases h
 | p :: f,h=>by
  by_cases e:p.1 = d
  ·have h':p.2 = w:=by simpa [yh,List.find?_cons,e] using h
   exact List.mem_cons.mpr (.inl (by rw [← e,← h']))
  ·exact List.mem_cons.mpr (.inr (wy (by simpa [yh,List.find?_cons,e] using h)))
theorem Z1 {f:FW} {d w:List Int} (h:yh f d = some w):d ∈ zu f:=List.mem_map.mpr ⟨_,wy h,rfl⟩
theorem jC {f:FW} {d:List Int} (h:¬ (yh f d).isSome = true):d ∉ zu f:=fun z=>by
 obtain ⟨w,hw⟩:=xU z
 rw [hw] at h; exact h rfl
def xv (d:List Int) (fm:FW × List (List Int)) (n:Nat) (m:List Int):FW × List (List Int) :=
 if (yh fm.1 (zC d m)).isSome = true then fm else (fm.1 ++ [(zC d m,(yh fm.1 d).getD [] ++ [(n:Int)])],fm.2 ++ [zC d m])
def fRow (ms:List (List Int)) (d:List Int):Nat -> FW × List (List Int) -> FW × List (List Int)
 | 0,fm=>fm
 | i + 1,fm=>xv d (fRow ms d i fm) i (ms.getD i [])
def yD (ms last:List (List Int)):Nat -> FW × List (List Int) -> FW × List (List Int)
 | 0,fm=>fm
 | j + 1,fm=>fRow ms (last.getD j []) ms.length (yD ms last j fm)
inductive FamR (ms:List (List Int)):FW -> List (List Int) -> FW -> Prop
 | done {f:FW} {last:List (List Int)}:last = [] \/ 60 < f.length -> FamR ms f last f
 | step {f r:FW} {last:List (List Int)}:last ≠ [] -> f.length <= 60 -> FamR ms (yD ms last last.length (f,[])).1 (yD ms last last.length (f,[])).2 r -> FamR ms f last r
theorem FamR.eq {ms:List (List Int)} {f r:FW} {last:List (List Int)} (a:FamR ms f last r):∀ {r'},FamR ms f last r' -> r = r':=by
 induction a with
 | done h =>
  intro r' b
  cases b with
  | done _=>rfl
  | step h1 h2 _ =>
   rcases h with h | h
   ·exact absurd h h1
   ·omega
 | step h1 h2 _ ih =>
  intro r' b
  cases b with
  | done h =>
   rcases h with h | h
   ·exact absurd h h1
   ·omega
  | step _ _ c=>exact ih c
inductive Word (ms:List (List Int)) (S:Nat):List Int -> Prop
 | id:Word ms S (idL S)
 | more {d m:List Int}:Word ms S d -> m ∈ ms -> Word ms S (zC d m)
def Mks (ms:List (List Int)) (S:Nat):Prop:=∀ m ∈ ms,m.length = S /\ Rng S m
def Dd (S:Nat) (d:List Int):Prop:=d.length = S /\ Rng S d
theorem Xk (S:Nat):Dd S (idL S):=by
 refine ⟨by unfold idL; rw [List.length_map,List.length_range],fun v hv=>?_⟩
 obtain ⟨i,hi,rfl⟩:=List.mem_map.mp hv
 have:=List.mem_range.mp hi
 omega
theorem uz {S:Nat} {a b:List Int} (ha:Dd S a) (hb:Dd S b):Dd S (zC a b):=⟨qg.trans ha.1,Xj ha.2 hb.2 hb.1⟩
theorem Word.dd {ms:List (List Int)} {S:Nat} (hm:Mks ms S) {d:List Int} (h:Word ms S d):Dd S d:=by
 induction h with
 | id=>exact Xk S
 | more _ h ih=>exact uz ih (hm _ h)
theorem sP {S:Nat} {i:Int} (h0:0 <= i) (h1:i < S):(idL S).getD i.toNat 0 = i:=by
 have:i.toNat < S:=by omega
 unfold idL
 rw [List.getD_eq_getElem?_getD,List.getElem?_map,List.getElem?_range this]
 show ((i.toNat:Nat):Int) = i
 omega
theorem Wv {S:Nat} {a:List Int} (ha:Dd S a):zC a (idL S) = a:=by
 unfold zC
 conv=>rhs; rw [← List.map_id a]
 refine List.map_congr_left fun i hi=>?_
 obtain ⟨h0,h1⟩:=ha.2 i hi
 exact sP h0 h1
theorem Ww {S:Nat} {a:List Int} (ha:a.length = S):zC (idL S) a = a:=by
 apply List.ext_getElem?
 intro j
 unfold zC idL
 rw [List.getElem?_map,List.getElem?_map]
 by_cases h:j < S
 ·rw [List.getElem?_range h,List.getElem?_eq_getElem (show j < a.length by omega)]
  show some (a.getD ((j:Int)).toNat 0) = some _
  rw [Int.toNat_natCast,List.getD_eq_getElem?_getD,List.getElem?_eq_getElem (show j < a.length by omega)]
  rfl
 ·rw [List.getElem?_eq_none (show (List.range S).length <= j by rw [List.length_range]; omega),List.getElem?_eq_none (show a.length <= j by omega)]
  rfl
theorem u7 {S:Nat} {a b c:List Int} (ha:Dd S a) (hb:b.length = S):zC a (zC b c) = zC (zC a b) c:=by
 unfold zC
 rw [List.map_map]
 refine List.map_congr_left fun i hi=>?_
 obtain ⟨h0,h1⟩:=ha.2 i hi
 have hi':i.toNat < b.length:=by omega
 show (b.map fun i=>c.getD i.toNat 0).getD i.toNat 0 = c.getD (b.getD i.toNat 0).toNat 0
 rw [List.getD_eq_getElem?_getD,List.getElem?_map,List.getElem?_eq_getElem hi',List.getD_eq_getElem?_getD (l:=b),List.getElem?_eq_getElem hi']
 rfl
theorem Word.mul {ms:List (List Int)} {S:Nat} (hm:Mks ms S) {a b:List Int} (ha:Word ms S a) (hb:Word ms S b):Word ms S (zC a b):=by
 induction hb with
 | id=>rw [Wv (ha.dd hm)]; exact ha
 | more h1 h2 ih=>rw [u7 (ha.dd hm) (h1.dd hm).1]; exact .more ih h2
def Ex (fm fm':FW × List (List Int)):Prop:=∃ g:FW,fm'.1 = fm.1 ++ g /\ fm'.2 = fm.2 ++ zu g
theorem Ex.refl (fm:FW × List (List Int)):Ex fm fm:=⟨[],by rw [List.append_nil],by show _ = _ ++ []; rw [List.append_nil]⟩
theorem Ex.trans {a b c:FW × List (List Int)} (h:Ex a b) (k:Ex b c):Ex a c:=by
 obtain ⟨g,h1,h2⟩:=h
 obtain ⟨g',k1,k2⟩:=k
 exact ⟨g ++ g',by rw [k1,h1,List.append_assoc],by rw [k2,h2,List.append_assoc]; unfold zu; rw [List.map_append]⟩
theorem Ex.keys {a b:FW × List (List Int)} (h:Ex a b) {d:List Int} (hd:d ∈ zu a.1):d ∈ zu b.1:=by
 obtain ⟨g,h1,_⟩:=h
 unfold zu at *
 rw [h1,List.map_append]
 exact List.mem_append.mpr (.inl hd)
theorem Va {a b:FW × List (List Int)} (h:Ex a b) (l:a.2.length <= a.1.length):b.2.length <= b.1.length:=by
 obtain ⟨g,h1,h2⟩:=h
 rw [h1,h2,List.length_append,List.length_append]
 unfold zu
 rw [List.length_map]
 omega
theorem Zs {d m:List Int} {fm:FW × List (List Int)} {n:Nat}:Ex fm (xv d fm n m):=by
 unfold xv
 split
 ·exact Ex.refl fm
 ·exact ⟨[_],rfl,rfl⟩
theorem vT {ms:List (List Int)} {d:List Int} {fm:FW × List (List Int)}:∀ i,Ex fm (fRow ms d i fm)
 | 0=>Ex.refl fm
 | i + 1=>(vT i).trans Zs
theorem xD {ms last:List (List Int)} {fm:FW × List (List Int)}:∀ j,Ex fm (yD ms last j fm)
 | 0=>Ex.refl fm
 | j + 1=>(xD j).trans (vT _)
theorem Wx {d m:List Int} {fm:FW × List (List Int)} {n:Nat}:zC d m ∈ zu (xv d fm n m).1:=by
 unfold xv
 split
 ·rename_i h
  obtain ⟨w,hw⟩:=Option.isSome_iff_exists.mp h
  exact Z1 hw
 ·unfold zu; rw [List.map_append]; exact List.mem_append.mpr (.inr (List.mem_singleton.mpr rfl))
theorem Xl {ms:List (List Int)} {d:List Int} {fm:FW × List (List Int)}:∀ i,∀ k < i,zC d (ms.getD k []) ∈ zu (fRow ms d i fm).1
 | 0,_,h=>by cases h
 | i + 1,k,h=>by
  by_cases e:k = i
  ·rw [e]; exact Wx
  ·exact Zs.keys (Xl i k (by omega))
theorem Zt {ms last:List (List Int)} {fm:FW × List (List Int)}:∀ j,∀ k < j,∀ i < ms.length,zC (last.getD k []) (ms.getD i []) ∈ zu (yD ms last j fm).1
 | 0,_,h,_,_=>by cases h
 | j + 1,k,h,i,hi=>by
  by_cases e:k = j
  ·rw [e]; exact Xl _ i hi
  ·exact (vT _).keys (Zt j k (by omega) i hi)
theorem Wy {d m:List Int} {fm:FW × List (List Int)} {n:Nat}:(xv d fm n m).1.length <= fm.1.length + 1:=by
 unfold xv
 split
 ·omega
 ·rw [List.length_append]; exact Nat.le_refl _
theorem jD {ms:List (List Int)} {d:List Int} {fm:FW × List (List Int)}:∀ i,(fRow ms d i fm).1.length <= fm.1.length + i
 | 0=>Nat.le_refl _
 | i + 1=>Nat.le_trans Wy (by have:=jD (ms:=ms) (d:=d) (fm:=fm) i; omega)
theorem sQ {ms last:List (List Int)} {fm:FW × List (List Int)}:∀ j,(yD ms last j fm).1.length <= fm.1.length + j * ms.length
 | 0=>by rw [Nat.zero_mul]; exact Nat.le_refl _
 | j + 1=>Nat.le_trans (jD _) (by have:=sQ (ms:=ms) (last:=last) (fm:=fm) j; rw [Nat.succ_mul]; omega)
structure GoodF (ms:List (List Int)) (S:Nat) (f:FW):Prop where
 nd:(zu f).Nodup
 wd:∀ d ∈ zu f,Word ms S d
theorem Z2 {ms:List (List Int)} {S:Nat} {d m:List Int} {fm:FW × List (List Int)} {n:Nat} (h:GoodF ms S fm.1) (hd:Word ms S d) (hm:m ∈ ms):GoodF ms S (xv d fm n m).1:=by
 unfold xv
 split
 ·exact h
 ·rename_i c
  have hn:=jC c
  refine ⟨?_,fun z hz=>?_⟩
  ·show (zu (fm.1 ++ [_])).Nodup
   unfold zu at hn ⊢
   rw [List.map_append]
   refine List.nodup_append.mpr ⟨h.nd,nd1,fun a ha b hb e=>?_⟩
   rw [e,List.mem_singleton.mp hb] at ha
   exact hn ha
  ·unfold zu at hz
   rw [List.map_append] at hz
   rcases List.mem_append.mp hz with hz | hz
   ·exact h.wd z hz
   ·rw [List.mem_singleton.mp hz]; exact .more hd hm
theorem yW {ms:List (List Int)} {i:Nat} (h:i < ms.length):ms.getD i [] ∈ ms:=by
 rw [List.getD_eq_getElem?_getD,List.getElem?_eq_getElem h]; exact List.getElem_mem h
theorem u8 {ms:List (List Int)} {S:Nat} {d:List Int} {fm:FW × List (List Int)} (h:GoodF ms S fm.1) (hd:Word ms S d):∀ i,i <= ms.length -> GoodF ms S (fRow ms d i fm).1
 | 0,_=>h
 | i + 1,hi=>Z2 (u8 h hd i (by omega)) hd (yW (by omega))
theorem vU {ms last:List (List Int)} {S:Nat} {fm:FW × List (List Int)} (h:GoodF ms S fm.1) (hd:∀ d ∈ last,Word ms S d):∀ j,j <= last.length -> GoodF ms S (yD ms last j fm).1
 | 0,_=>h
 | j + 1,hj=>u8 (vU h hd j (by omega)) (hd _ (yW (by omega))) _ (Nat.le_refl _)
structure LI (ms:List (List Int)) (S:Nat) (f:FW) (last:List (List Int)):Prop where
 good:GoodF ms S f
 idk:idL S ∈ zu f
 sub:∀ d ∈ last,d ∈ zu f
 len:last.length <= f.length
 cl:∀ d ∈ zu f,d ∉ last -> ∀ m ∈ ms,zC d m ∈ zu f
 hd:f.head? = some (idL S,[])
theorem LI.init (ms:List (List Int)) (S:Nat):LI ms S [(idL S,[])] [idL S] where
 good:=⟨nd1,fun d hd=>by rw [List.mem_singleton.mp hd]; exact .id⟩
 idk:=List.mem_singleton.mpr rfl
 sub:=fun d hd=>hd
 len:=Nat.le_refl _
 cl:=fun d hd hn=>absurd hd hn
 hd:=rfl
theorem Zu {l:List (List Int)} {d:List Int} (h:d ∈ l):∃ k < l.length,l.getD k [] = d:=by
 obtain ⟨k,hk,e⟩:=List.mem_iff_getElem.mp h
 exact ⟨k,hk,by rw [List.getD_eq_getElem?_getD,List.getElem?_eq_getElem hk]; exact e⟩
theorem LI.pass {ms last:List (List Int)} {S:Nat} {f:FW} (h:LI ms S f last):LI ms S (yD ms last last.length (f,[])).1 (yD ms last last.length (f,[])).2:=by
 have hE:Ex (f,[]) (yD ms last last.length (f,[])):=xD _
 have hI:=fun k hk i hi=>Zt (ms:=ms) (last:=last) (fm:=(f,[])) last.length k hk i hi
 have hG:=vU (last:=last) (fm:=(f,[])) h.good (fun d hd=>h.good.wd d (h.sub d hd)) last.length (Nat.le_refl _)
 revert hE hI hG
 generalize yD ms last last.length (f,[]) = fm
 intro hE hI hG
 obtain ⟨g,e1,e2⟩:=id hE
 rw [List.nil_append] at e2
 have ek:zu fm.1 = zu f ++ zu g:=by rw [e1]; unfold zu; rw [List.map_append]
 refine ⟨hG,hE.keys h.idk,fun d hd=>?_,?_,fun d hd hn m hm=>?_,?_⟩
 ·rw [ek]; rw [e2] at hd; exact List.mem_append.mpr (.inr hd)
 ·rw [e2,e1,List.length_append]; unfold zu; rw [List.length_map]; omega
 ·rw [ek] at hd
  rcases List.mem_append.mp hd with hd | hd
  ·by_cases w:d ∈ last
   ·obtain ⟨k,hk,rfl⟩:=Zu w
    obtain ⟨i,hi,rfl⟩:=Zu hm
    exact hI k hk i hi
   ·exact hE.keys (h.cl d hd w m hm)
  ·rw [e2] at hn; exact absurd hd hn
 ·rw [e1,List.head?_append,h.hd]; rfl
structure FamOk (ms:List (List Int)) (S:Nat) (r:FW):Prop where
 good:GoodF ms S r
 idk:idL S ∈ zu r
 cl:r.length <= 60 -> ∀ d ∈ zu r,∀ m ∈ ms,zC d m ∈ zu r
 hd:r.head? = some (idL S,[])
theorem FamR.ok {ms last:List (List Int)} {S:Nat} {f r:FW} (a:FamR ms f last r) (h:LI ms S f last):FamOk ms S r:=by
 induction a with
 | done c =>
  refine ⟨h.good,h.idk,fun hl d hd m hm=>?_,h.hd⟩
  rcases c with rfl | c
  ·exact h.cl d hd (fun z=>by cases z) m hm
  ·omega
 | step _ _ _ ih=>exact ih h.pass
def FamL (ms:List (List Int)) (S:Nat) (r:FW):Prop:=FamR ms [(idL S,[])] [idL S] r
theorem FamL.ok {ms:List (List Int)} {S:Nat} {r:FW} (h:FamL ms S r):FamOk ms S r:=FamR.ok h (LI.init ms S)
def Few (ms:List (List Int)) (S:Nat):Prop:=∃ l:List (List Int),l.length <= 60 /\ ∀ d,Word ms S d -> d ∈ l
theorem FamOk.all {ms:List (List Int)} {S:Nat} {r:FW} (h:FamOk ms S r) (hl:r.length <= 60) {d:List Int} (hd:Word ms S d):d ∈ zu r:=by
 induction hd with
 | id=>exact h.idk
 | more _ hm ih=>exact h.cl hl _ ih _ hm
theorem FamOk.few {ms:List (List Int)} {S:Nat} {r:FW} (h:FamOk ms S r) (hl:r.length <= 60):Few ms S:=⟨zu r,by unfold zu; rw [List.length_map]; exact hl,fun _ hd=>h.all hl hd⟩
theorem uA:∀ {l l':List (List Int)},l.Nodup -> (∀ x ∈ l,x ∈ l') -> l.length <= l'.length
 | [],_,_,_=>Nat.zero_le _
 | a :: l,l',hn,h=>by
  have ha:a ∈ l':=h a (List.mem_cons.mpr (.inl rfl))
  obtain ⟨h1,h2⟩:=List.nodup_cons.mp hn
  have:=uA (l:=l) (l':=l'.erase a) h2 fun x hx=>(List.mem_erase_of_ne (fun e=>h1 (by rw [← e]; exact hx))).mpr (h x (List.mem_cons.mpr (.inr hx)))
  rw [List.length_erase_of_mem ha] at this
  have:0 < l'.length:=List.length_pos_of_mem ha
  rw [List.length_cons]; omega
theorem FamOk.le {ms:List (List Int)} {S:Nat} {r:FW} (h:FamOk ms S r) (hf:Few ms S):r.length <= 60:=by
 obtain ⟨l,hl,hw⟩:=hf
 have:=uA h.good.nd fun d hd=>hw d (h.good.wd d hd)
 unfold zu at this
 rw [List.length_map] at this
 omega
def WL (f:FW):Prop:=0 < f.length /\ ∀ q ∈ f,q.2.length < f.length
theorem Wz {d m:List Int} {fm:FW × List (List Int)} {n:Nat} (h:WL fm.1):WL (xv d fm n m).1:=by
 unfold xv
 split
 ·exact h
 ·refine ⟨by show 0 < (fm.1 ++ [_]).length; rw [List.length_append]; exact Nat.lt_of_lt_of_le h.1 (Nat.le_add_right _ _),fun q hq=>?_⟩
  have hq':q ∈ fm.1 ++ [(zC d m,(yh fm.1 d).getD [] ++ [(n:Int)])]:=hq
  show q.2.length < (fm.1 ++ [_]).length
  rw [List.length_append]
  rcases List.mem_append.mp hq' with w | w
  ·have:=h.2 q w
   show _ < _ + 1
   omega
  ·rw [List.mem_singleton.mp w]
   show ((yh fm.1 d).getD [] ++ [(n:Int)]).length < _ + 1
   rw [List.length_append]
   show _ + 1 < _ + 1
   cases e:yh fm.1 d with
   | none =>
    show 0 + 1 < _ + 1
    have:=h.1
    omega
   | some v =>
    have:=h.2 _ (wy e)
    show v.length + 1 < _ + 1
    have e2:v.length < fm.1.length:=this
    omega
theorem jE {ms:List (List Int)} {d:List Int} {fm:FW × List (List Int)} (h:WL fm.1):∀ i,WL (fRow ms d i fm).1
 | 0=>h
 | i + 1=>Wz (jE h i)
theorem uC {ms last:List (List Int)} {fm:FW × List (List Int)} (h:WL fm.1):∀ j,WL (yD ms last j fm).1
 | 0=>h
 | j + 1=>jE (uC h j) _
theorem jF {ms last:List (List Int)} {f:FW} {j:Nat} (h:(yD ms last j (f,[])).2 ≠ []):f.length < (yD ms last j (f,[])).1.length:=by
 obtain ⟨g,e1,e2⟩:=xD (ms:=ms) (last:=last) (fm:=(f,[])) j
 rw [e1,List.length_append]
 cases g with
 | nil=>exact absurd e2 h
 | cons a g=>show f.length < f.length + (g.length + 1); omega
def KeyB (H:Hp) (y:V) (row:List Int):Prop:=∃ b,y = .ref b /\ H b = some (.tup (row.map V.int))
theorem KeyB.board {K:FG7} {H:Hp} {y:V} {row:List Int} (h:KeyB H y row):zo K H y row:=let ⟨b,e,hb⟩:=h; ⟨b,e,SqT.of hb⟩
theorem KeyB.grow {m:List Addr} {H H':Hp} {y:V} {row:List Int} (h:KeyB H y row) (g:Grow m H H'):KeyB H' y row:=let ⟨b,e,hb⟩:=h; ⟨b,e,g.tup _ _ hb⟩
def kI (d:List Int):List Key:=d.map Sum.inl
theorem Zv:∀ {a b:List Int},kI a = kI b -> a = b
 | [],[],_=>rfl
 | [],_ :: _,e=>by cases e
 | _ :: _,[],e=>by cases e
 | x :: a,y :: b,e=>by
  unfold kI at e
  rw [List.map_cons,List.map_cons] at e
  injection e with e1 e2
  rw [Sum.inl.inj e1,Zv e2]
theorem Xm (d:List Int):(kI d).map kV = d.map V.int:=jA d
def KvF (K:FG7) (H:Hp):List (List Key × V) -> FW -> Prop
 | [],[]=>True
 | p :: kvs,q :: f=>(p.1 = kI q.1 /\ zo K H p.2 q.2) /\ KvF K H kvs f
 | _,_=>False
section
variable {K:FG7} {H H':Hp} {m:List Addr}
theorem KvF.len:∀ {kvs:List (List Key × V)} {f:FW},KvF K H kvs f -> kvs.length = f.length
 | [],[],_=>rfl
 | _ :: _,_ :: _,h=>by rw [List.length_cons,List.length_cons,KvF.len h.2]
 | [],_ :: _,h=>h.elim
 | _ :: _,[],h=>h.elim
theorem KvF.keys:∀ {kvs:List (List Key × V)} {f:FW},KvF K H kvs f -> kvs.map (·.1) = (zu f).map (List.map Sum.inl)
 | [],[],_=>rfl
 | p :: kvs,q :: f,h=>by
  show p.1 :: kvs.map (·.1) = q.1.map Sum.inl :: (zu f).map (List.map Sum.inl)
  rw [KvF.keys h.2,h.1.1]; rfl
 | [],_ :: _,h=>h.elim
 | _ :: _,[],h=>h.elim
theorem KvF.grow (g:Grow m H H'):∀ {kvs:List (List Key × V)} {f:FW},KvF K H kvs f -> KvF K H' kvs f
 | [],[],_=>trivial
 | _ :: _,_ :: _,h=>⟨⟨h.1.1,g.board h.1.2⟩,KvF.grow g h.2⟩
 | [],_ :: _,h=>h.elim
 | _ :: _,[],h=>h.elim
theorem KvF.app:∀ {kvs:List (List Key × V)} {f:FW} {kvs':List (List Key × V)} {f':FW},KvF K H kvs f -> KvF K H kvs' f' -> KvF K H (kvs ++ kvs') (f ++ f')
 | [],[],_,_,_,k=>k
 | _ :: _,_ :: _,_,_,h,k=>⟨h.1,KvF.app h.2 k⟩
 | [],_ :: _,_,_,h,_=>h.elim
 | _ :: _,[],_,_,h,_=>h.elim
theorem KvF.val (d:List Int):∀ {kvs:List (List Key × V)} {f:FW},KvF K H kvs f -> (∃ v w,valV kvs (kI d) = some v /\ yh f d = some w /\ zo K H v w) \/ (valV kvs (kI d) = none /\ yh f d = none)
 | [],[],_=>.inr ⟨rfl,rfl⟩
 | p :: kvs,q :: f,h=>by
  by_cases e:q.1 = d
  ·exact .inl ⟨p.2,q.2,vz (by rw [h.1.1,e]),by simp [yh,List.find?_cons,e],h.1.2⟩
  ·have e':¬ p.1 = kI d:=fun z=>e (Zv (h.1.1.symm.trans z))
   have ew:yh (q :: f) d = yh f d:=by simp [yh,List.find?_cons,e]
   rw [wH e',ew]
   exact KvF.val d h.2
 | [],_ :: _,h=>h.elim
 | _ :: _,[],h=>h.elim
end
theorem Mks.take {ms:List (List Int)} {S n:Nat} (h:Mks ms S):Mks (ms.take n) S:=fun m hm=>h m (List.mem_of_mem_take hm)
def FamW (K:FG7) (H:Hp) (y:V) (f:FW):Prop:=∃ l kvs,y = .ref l /\ H l = some (.dT kvs) /\ KvF K H kvs f
theorem FamW.d {K:FG7} {H:Hp} {y:V} {f:FW} (h:FamW K H y f):FamD H y (zu f):=let ⟨l,kvs,e,hl,hk⟩:=h; ⟨l,kvs,e,hl,hk.keys⟩
theorem Grow.setDT {m:List Addr} {H:Hp} {p:Addr} {xs:List (List Key × V)} (h:H p = some (.dT xs)) (hm:p ∈ m) (ys:List (List Key × V)):Grow m H (upd H p (.dT ys)) :=
 ⟨fun b u hb q=>by rw [zq (show b ≠ p from fun z=>hb (by rw [z]; exact hm))]; exact q,fun b zs q=>by rw [zq (fun z=>by subst z; rw [h] at q; cases q)]; exact q,fun b u v q=>by rw [zq (fun z=>by subst z; rw [h] at q; cases q)]; exact q⟩
theorem Room.u1F {k:Nat} {A:Around} (r:Room k A):A.units + 1 < cLine:=by have:=r.un; omega
def sR (K:FG7):Sp:=sp2 fun x y H Q=>∃ (S:Nat) (a b:List Int),zo K H x a /\ zo K H y b /\ Rng S a /\ b.length = S /\ a.length <= 5 /\ ∀ y H',Grow [] H H' -> KeyB H' y (zC a b) -> Q y H'
theorem UU (S:Nat):((List.range S).map fun i:Nat=>V.int i) = (idL S).map V.int:=by
 unfold idL; rw [List.map_map]; rfl
section
variable {c:TT} {e:TE} {i:Nat} {v v':V} {t u r:TS} {D:Ends} {σ:L2.St} {H:Hp} {rt:VK} {bk ct:L2.St -> Hp -> Prop}
theorem Vb (h:t D (σ.set i (some v)) H):uc i v σ H ({ nx:=t D,rt:=rt,bk:=bk,ct:=ct }:Ends).nx:=h
theorem xV (Good:V -> Hp -> Prop) (hc:∀ K:VK,(∀ v H',Good v H' -> K v H') -> e σ H K) (hr:∀ v H',Good v H' -> t D (σ.set i (some v)) H'):tSeq (tAsg e (uc i)) t D σ H:=hc _ fun v H' g=>hr v H' g
theorem wa (h:t D σ H):Ue ({ nx:=t D,rt:=rt,bk:=bk,ct:=ct }:Ends) σ H:=h
theorem c_nx (h:t D σ H):({ nx:=t D,rt:=rt,bk:=bk,ct:=ct }:Ends).nx σ H:=h
theorem v8 (Good:Bool -> Hp -> Prop) (hc:∀ K:Bool -> Hp -> Prop,(∀ b H',Good b H' -> K b H') -> c σ H K) (hr:∀ b H',Good b H' -> if b = true then t { D with nx:=r D } σ H' else u { D with nx:=r D } σ H'):tSeq (tIfS c t u) r D σ H:=hc _ hr
end
def misH (ds tab:List (List Int)) (i j:Nat):Prop:=ds.getD (qh tab i j).toNat [] ≠ zC (ds.getD i []) (ds.getD j [])
def tZ (R:Nat) (ds tab:List (List Int)) (i j:Nat):Prop:=(i < R /\ j < R) /\ misH ds tab i j /\ ∀ i' j':Nat,i' < R -> j' < R -> (i' < i \/ (i' = i /\ j' < j)) -> ¬ misH ds tab i' j'
theorem tZ.eq {R:Nat} {ds tab:List (List Int)} {i j i' j':Nat} (a:tZ R ds tab i j) (b:tZ R ds tab i' j'):i = i' /\ j = j':=by
 have h1:¬ (i' < i \/ (i' = i /\ j' < j)):=fun z=>a.2.2 i' j' b.1.1 b.1.2 z b.2.1
 have h2:¬ (i < i' \/ (i = i' /\ j < j')):=fun z=>b.2.2 i j a.1.1 a.1.2 z a.2.1
 omega
def Z3 (K:FG7) (H:Hp) (R:Nat) (ds tab:List (List Int)) (y:V):Prop :=
 (y = .non /\ ∀ i j:Nat,i < R -> j < R -> ¬ misH ds tab i j) \/ ∃ i j:Nat,tZ R ds tab i j /\ zo K H y [(i:Int),(j:Int)]
structure DT (K:FG7) (H:Hp) (R M:Nat) (ds tab:List (List Int)) (x y:V):Prop where
 hx:yk K H x ds
 hy:yk K H y tab
 r1:1 <= R
 r60:R <= 60
 m1:1 <= M
 m5:M <= 5
 hD:ue R M ds
 hT:ue R R tab
theorem DT.grow {K:FG7} {m:List Addr} {H H':Hp} {R M:Nat} {ds tab:List (List Int)} {x y:V} (h:DT K H R M ds tab x y) (g:Grow m H H'):DT K H' R M ds tab x y :=
 ⟨g.rows h.hx,g.rows h.hy,h.r1,h.r60,h.m1,h.m5,h.hD,h.hT⟩
def hldD:Option (Nat × Nat) -> PyData
 | none=>.none
 | some t=>jf [(t.1:Int),(t.2:Int)]
def HldO (R:Nat) (ds tab:List (List Int)):Option (Nat × Nat) -> Prop
 | none=>∀ i j:Nat,i < R -> j < R -> ¬ misH ds tab i j
 | some t=>tZ R ds tab t.1 t.2
theorem HldO.eq {R:Nat} {ds tab:List (List Int)} {o o':Option (Nat × Nat)} (a:HldO R ds tab o) (b:HldO R ds tab o'):o = o':=by
 cases o with
 | none=>cases o' with
  | none=>rfl
  | some t=>exact absurd b.2.1 (a _ _ b.1.1 b.1.2)
 | some t=>cases o' with
  | none=>exact absurd a.2.1 (b _ _ a.1.1 a.1.2)
  | some t' =>
   obtain ⟨i,j⟩:=t
   obtain ⟨i',j'⟩:=t'
   obtain ⟨e1,e2⟩:=tZ.eq a b
   rw [show i = i' from e1,show j = j' from e2]
theorem Z3.o {K:FG7} {H:Hp} {R:Nat} {ds tab:List (List Int)} {y:V} (h:Z3 K H R ds tab y):∃ o,HldO R ds tab o /\ Dat K H y (hldD o) /\ ((o = none /\ y = .non) \/ ∃ a,y = .ref a):=by
 rcases h with ⟨rfl,h⟩ | ⟨i,j,h,hb⟩
 ·exact ⟨none,h,.non,.inl ⟨rfl,rfl⟩⟩
 ·exact ⟨some (i,j),h,hb.dat,.inr (let ⟨a,e,_⟩:=hb; ⟨a,e⟩)⟩
theorem Z3.grow {K:FG7} {m:List Addr} {H H':Hp} {R:Nat} {ds tab:List (List Int)} {y:V} (h:Z3 K H R ds tab y) (g:Grow m H H'):Z3 K H' R ds tab y:=by
 rcases h with h | ⟨i,j,h,hb⟩
 ·exact .inl h
 ·exact .inr ⟨i,j,h,g.board hb⟩
theorem FamOk.closed {ms:List (List Int)} {S:Nat} {r:FW} (h:FamOk ms S r) (hM:Mks ms S) (hl:r.length <= 60) {a b:List Int} (ha:a ∈ zu r) (hb:b ∈ zu r):zC a b ∈ zu r :=
 h.all hl ((h.good.wd a ha).mul hM (h.good.wd b hb))
structure SomeAt (K:FG7) (H:Hp) (p lf:Addr) (S:Nat) (rows:List (List Int)):Prop where
 l:∃ zs,H lf = some (.lst zs) /\ AllR (zo K H) zs rows
 np:lf ∉ [p]
 r1:1 <= rows.length
 r60:rows.length <= 60
 ok:Mks rows S
 cl:∀ a ∈ rows,∀ b ∈ rows,zC a b ∈ rows
theorem SomeAt.of {K:FG7} {H:Hp} {p lf:Addr} {S:Nat} {rows ms:List (List Int)} {zs:List V} {f:FW} (hF:FamL ms S f) (hM:Mks ms S) (hf:Few ms S) (hl:H lf = some (.lst zs)) (np:lf ∉ [p]) (hz:AllR (zo K H) zs rows) (pm:rows.Perm (zu f)):SomeAt K H p lf S rows:=by
 have hO:=hF.ok
 have h60:=hO.le hf
 have lk:rows.length = f.length:=by rw [pm.length_eq]; unfold zu; rw [List.length_map]
 refine ⟨⟨zs,hl,hz⟩,np,?_,by omega,fun d hd=>(hO.good.wd d (pm.mem_iff.mp hd)).dd hM,fun a ha b hb=>pm.mem_iff.mpr (hO.closed hM h60 (pm.mem_iff.mp ha) (pm.mem_iff.mp hb))⟩
 have:0 < rows.length:=List.length_pos_of_mem (pm.mem_iff.mpr hO.idk)
 omega
def Xn (K:FG7) (H:Hp) (z:V):Prop:=∃ t y1 y2 y3 R M ds tab,z = .ref t /\ SqT K H t [y1,y2,y3] /\ DT K H R M ds tab y1 y2 /\ Z3 K H R ds tab y3
theorem Xn.grow {K:FG7} {m:List Addr} {H H':Hp} {z:V} (h:Xn K H z) (g:Grow m H H'):Xn K H' z:=by
 obtain ⟨t,y1,y2,y3,R,M,ds,tab,e,h1,h2,h3⟩:=h
 exact ⟨t,y1,y2,y3,R,M,ds,tab,e,g.sqT h1,h2.grow g,h3.grow g⟩
theorem Xo {K:FG7} {H:Hp} {xs:List V} {rows:List (List Int)} (h:AllR (zo K H) xs rows) {i:Nat} (h1:i < rows.length):∃ a,atI xs (i:Int) = some (V.ref a) /\ SqT K H a ((rows.getD i []).map V.int):=by
 have:=uT h (i:=(i:Int)) (Int.natCast_nonneg i) (by omega)
 rw [Int.toNat_natCast] at this
 exact this
section
variable {prog:Program} {w:World} {A:Around} {R:Result -> Shared -> Prop} {s:Shared}
theorem Z4 {kx vx target iter:Expr} {ifs:List Expr} {scope:Scope} {pos:Pos} {it:Value} {D:Addr} {env:Env} (I:Nat -> Shared -> Prop)
  (turn:∀ n s,I n s -> wpAny (model prog w) A (pyNext it) (fun r s₁=>match r with
   | none=>R (.ok .next) s₁
   | some v=>wpAny (model prog w) A (letOwnedTupleGo target it v) (fun _ s₂=>wpAny (model prog w) A (assign target env v) (fun _ s₃ =>
     wpAny (model prog w) A (forIn ifs true fun c r=>if r = true then do let ok ← isTrue c env (eval c env); pure (ForInStep.yield ok) else pure (ForInStep.yield r)) (fun ok s₄ =>
      if ok = true then wpAny (model prog w) A (eval kx env) (fun kv s₅=>wpAny (model prog w) A (eval vx env) (fun vv s₆ =>
       wpAny (model prog w) A (dictSet D kv vv) (fun _ s₇=>∃ m,m < n /\ I m s₇) (fun _ _=>False) s₆) (fun _ _=>False) s₅) (fun _ _=>False) s₄
      else ∃ m,m < n /\ I m s₄) (fun _ _=>False) s₃) (fun _ _=>False) s₂) (fun _ _=>False) s₁) (fun _ _=>False) s)
  (n:Nat) (h:I n s) :
  codeAny (model prog w) A (.compLoop (.DictComp kx vx [⟨target,iter,ifs,0⟩] scope pos) 0 it (.ref D) env) R s:=by
 refine codeAny_loop rfl I (fun n s hI=>?_) n h
 show wpAny _ A ((compTurn (.DictComp kx vx [⟨target,iter,ifs,0⟩] scope pos) 0 it (.ref D) env).onRaise (fun x=>do noteFrame x env; theTreesLotGoes x)) _ _ s
 refine wpAny_noted ?_
 rw [compTurn_dict]
 have no:∀ (E:VS7) (e:Value) (s:Shared),(fun (_:Value) (_:Shared)=>False) e s -> E e s:=fun _ _ _ f=>f.elim
 refine wpAny_bind (wpAny_standAt (wpAny_bind (wpAny_mono (turn n s hI) (fun r s₁ h₁=>?_) (no _))))
 cases r with
 | none=>exact wpAny_pure h₁
 | some v =>
  refine wpAny_bind (wpAny_mono h₁ (fun _ s₂ h₂=>?_) (no _))
  refine wpAny_bind (wpAny_mono h₂ (fun _ s₃ h₃=>wpAny_bind (wpAny_mono h₃ (fun ok s₄ h₄=>?_) (no _))) (no _))
  cases ok with
  | false=>exact wpAny_pure ⟨rfl,h₄⟩
  | true =>
   exact wpAny_bind (wpAny_bind (wpAny_mono h₄ (fun kv s₅ h₅=>wpAny_bind (wpAny_holding (wpAny_mono h₅ (fun vv s₆ h₆=>wpAny_bind (wpAny_standAt (wpAny_holding (wpAny_mono h₆ (fun _ s₇ h₇=>wpAny_pure ⟨rfl,h₇⟩) (no _))))) (no _)))) (no _)))
end
def DRaw (prog:Program) (w:World) (Hb:Hp) (h:Heap) (D:Addr) (o:Obj) (kvs:List (List Key × V)):Prop :=
 kvs.length <= sizeLine /\ (D == sysModules) = false /\ ∃ xs:List (List Key × Addr × Value),KT Hb kvs xs /\ ∃ es ep,h.get? D = some o /\ o.ExactDict /\ o.data = .dict es ep /\ es.toList = xs.map (entryOfKey (tupleKind (z7 prog w))) /\ (xs.map (·.1)).Nodup
theorem DRaw.at {prog:Program} {w:World} {Hb:Hp} {h h':Heap} {D:Addr} {o:Obj} {kvs:List (List Key × V)} (r:DRaw prog w Hb h D o kvs) (e:h'.get? D = some o):DRaw prog w Hb h' D o kvs :=
 let ⟨z,y,xs,k,es,ep,_,h2,h3,h4,h5⟩:=r; ⟨z,y,xs,k,es,ep,e,h2,h3,h4,h5⟩
theorem DRaw.obj {prog:Program} {w:World} {Hb H':Hp} {h:Heap} {D:Addr} {o:Obj} {kvs:List (List Key × V)} (r:DRaw prog w Hb h D o kvs) (hk:∀ b xs,Hb b = some (.tup xs) -> H' b = some (.tup xs)):yA prog w H' h D (.dT kvs) :=
 let ⟨z,y,xs,k,es,ep,h1,h2,h3,h4,h5⟩:=r; ⟨z,y,xs,k.keeps hk,o,es,ep,h1,h2,h3,h4,h5⟩
theorem DRaw.nocell {prog:Program} {w:World} {Hb:Hp} {h:Heap} {D:Addr} {o:Obj} {kvs:List (List Key × V)} (r:DRaw prog w Hb h D o kvs) (v:Option Value):o.data ≠ .cell v:=by
 obtain ⟨_,_,_,_,es,ep,_,_,h3,_⟩:=r
 rw [h3]; intro z; cases z
def Xp (J:It) (σ0:L2.St) (H1:Hp) (g:TG) (tt:TT) (tk tv:TE) (Q:VK):Prop :=
 ∃ W:Nat -> Nat -> List (List Key × V) -> L2.St -> Hp -> Prop,(∃ m,W 0 m [] σ0 H1) /\ ∀ i m kvs σ' H',W i m kvs σ' H' →
  (J.stop i H' /\ ∀ l,H' l = none -> Q (.ref l) (upd H' l (.dT kvs))) ∨
  (J.go i H' /\ ∃ Nn:List (List Key × V) -> L2.St -> Hp -> Prop,(∀ zs σ2 H2,Nn zs σ2 H2 -> ∃ m',m' < m /\ W (i + 1) m' zs σ2 H2) ∧
   ∀ x H2,J.yld i H' x H2 -> g x σ' H2 fun σ2 H3=>tt σ2 H3 fun b H4=>if b = true then tk σ2 H4 fun y H5=>tv σ2 H5 fun v H6=>kvs.length < sizeLine /\ ∃ b ks,y = .ref b /\ H1 b = some (.tup (ks.map kV)) /\ Nn (putK kvs ks v) σ2 H6 else Nn kvs σ2 H4)
def UV (wi:TI) (sub:List (Option Nat)) (g:TG) (tt:TT) (tk tv:TE):TE:=fun σ H Q=>wi σ H fun J H1=>Xp J (capt sub σ) H1 g tt tk tv Q
section
variable {X:Cx} {pins:List (Addr × Obj)} {σ:L2.St} {H2:Hp} {s₂:Shared} {it:Addr} {fp:List Addr} {tn:Nat -> Heap -> Prop} {J:It} {scope:Scope} {cl:List (Str × Addr)} {N':List Str} {sub:List (Option Nat)}
theorem Xq {C D:Addr} {s₀:Shared} {s':Shared} {σ':L2.St} {H':Hp} {kvs:List (List Key × V)} {o oC:Obj} (I:Inv X pins σ H2 s₂)
    (hs₀:∀ b o,s₂.heap.get? b = some o -> s₀.heap.get? b = some o) (hos:s₀.os = s₂.os) (hD:s₂.heap.objs.size <= D) (hC:s₂.heap.objs.size <= C) (hDC:D ≠ C) (f2:∀ b ∈ fp,FpOk X pins H2 b)
    (I':Inv (cxC X N' scope cl C D fp s₀ H2) pins σ' H' s') (hn:H' D = none) (rv:DRaw X.prog X.w H2 s'.heap D o kvs)
    (ho:s'.heap.get? C = some oC) (hd:∀ v,oC.data ≠ .cell v):Inv X (pins ++ [(C,oC)]) σ (upd H' D (.dT kvs)) s' /\ FpOk X pins (upd H' D (.dT kvs)) C:=by
  have neD:∀ b o,s₂.heap.get? b = some o -> b ≠ D:=fun b o e=>Nat.ne_of_lt (Nat.lt_of_lt_of_le (Heap.lt_size e) hD)
  have nm:∀ b o,s₂.heap.get? b = some o -> b ∉ fp -> b ∉ D :: fp:=fun b o e h z=>(List.mem_cons.mp z).elim (neD b o e) h
  have U:=I'.base
  have HC:upd H' D (.dT kvs) C = none:=by rw [zq (Ne.symm hDC)]; exact I'.free
  have fpc:FpOk X pins (upd H' D (.dT kvs)) C:=I.fpOk hC HC
  have tp:∀ b xs,H2 b = some (.tup xs) -> upd H' D (.dT kvs) b = some (.tup xs):=fun b xs e=>by have z:=U.tups b xs e; rw [zq (zt z hn)]; exact z
  have un:Un (frs X.stack) fp H2 (upd H' D (.dT kvs)) s₂.heap s'.heap :=
    { keep:=fun b o e n h1 h2=>U.keep b o (hs₀ b o e) n h1 (nm b o e h2)
      slot:=fun b o e n h1 h2=>U.slot b o (hs₀ b o e) n h1 (nm b o e h2)
      free:=fun b o e n h2=>by rw [zq (neD b o e)]; exact U.free b o (hs₀ b o e) n (nm b o e h2)
      there:=fun b o e h2=>U.there b o (hs₀ b o e) (nm b o e h2)
      tups:=tp
      frzs:=fun b o u e=>by have z:=U.frzs b o u e; rw [zq (zt z hn)]; exact z
      tbls:=fun b ps e=>by obtain ⟨more,z⟩:=U.tbls b ps e; exact ⟨more,by rw [zq (zt z hn)]; exact z⟩ }
  have hok:HOk X.prog X.w (upd H' D (.dT kvs)) s'.heap:=HOk.track I'.hok hn (rv.obj tp)
  have IX:Inv X pins σ (upd H' D (.dT kvs)) s':=I.call' (I'.os.trans hos) un hok I'.bare fun b hb=>⟨(f2 b hb).2.2.2.1,(f2 b hb).2.1,(f2 b hb).2.2.2.2.1,(f2 b hb).2.2.2.2.2⟩
  refine ⟨IX.pins_of fun p hp=>?_,fpc⟩
  rcases List.mem_append.mp hp with hp | hp
  · exact IX.pin p (List.mem_append_right _ hp)
  · rw [List.mem_singleton.mp hp]
    exact ⟨ho,HC,fpc.2.1,fpc.2.2.1,hd⟩
theorem Xr {C D:Addr} {s₀:Shared} {tg:Expr} {pos:Pos} {kx vx iter:Expr} {ifs:List Expr} {g:TG} {tt:TT} {tk tv:TE} {Q:VK} {RR:Value -> Addr -> Result -> Shared -> Prop} {W:Nat -> Nat -> List (List Key × V) -> L2.St -> Hp -> Prop}
  (hu:X.A.units + 1 < cLine) (I:Inv X pins σ H2 s₂) (hcalm:X.calm = true) (T:Turn X.prog X.w X.K tg J fp it tn) (f2:∀ b ∈ fp,FpOk X pins H2 b) (hfp:∀ b ∈ fp,b < s₂.heap.objs.size)
  (hs₀:∀ b o,s₂.heap.get? b = some o -> s₀.heap.get? b = some o) (hos:s₀.os = s₂.os) (hD:s₂.heap.objs.size <= D) (hC:s₂.heap.objs.size <= C) (hDC:D ≠ C)
  (hcl1:∀ x c,cl.lookup x = some c -> X.env.cells.lookup x = some c)
  (hg:PG (cxC X N' scope cl C D fp s₀ H2) tg g) (ht:PIfs (cxC X N' scope cl C D fp s₀ H2) ifs tt) (hk:PE (cxC X N' scope cl C D fp s₀ H2) kx tk) (he:PE (cxC X N' scope cl C D fp s₀ H2) vx tv)
  (turn:∀ i m kvs σ' H',W i m kvs σ' H' →
   (J.stop i H' /\ ∀ l,H' l = none -> Q (.ref l) (upd H' l (.dT kvs))) ∨
   (J.go i H' /\ ∃ Nn:List (List Key × V) -> L2.St -> Hp -> Prop,(∀ zs σ2 H2,Nn zs σ2 H2 -> ∃ m',m' < m /\ W (i + 1) m' zs σ2 H2) ∧
    ∀ x H3,J.yld i H' x H3 -> g x σ' H3 fun σ2 H3=>tt σ2 H3 fun b H4=>if b = true then tk σ2 H4 fun y H5=>tv σ2 H5 fun v H6=>kvs.length < sizeLine /\ ∃ b ks,y = .ref b /\ H2 b = some (.tup (ks.map kV)) /\ Nn (putK kvs ks v) σ2 H6 else Nn kvs σ2 H4))
  (hRR:∀ (D C:Addr) (oC:Obj) (m:Str -> Option Value) (s':Shared) (Hf:Hp),Inv X (pins ++ [(C,oC)]) σ Hf s' -> s'.heap.Ns C m -> FpOk X pins Hf C -> Q (.ref D) Hf -> RR (.ref D) C (.ok .next) s')
  (n:Nat) (s:Shared) (h:∃ i kvs o σ' H',Inv (cxC X N' scope cl C D fp s₀ H2) pins σ' H' s /\ tn i s.heap /\ (∀ b ∈ fp,H' b = none) /\ H' D = none ∧
   DRaw X.prog X.w H2 s.heap D o kvs /\ W i n kvs σ' H') :
  codeAny (model X.prog X.w) X.A (.compLoop (.DictComp kx vx [⟨tg,iter,ifs,0⟩] scope pos) 0 (.ref it) (.ref D) (compEnvC scope cl C X.env)) (RR (.ref D) C) s:=by
 have frsz:∀ b ∈ frs X.stack,b < s₂.heap.objs.size:=fun b hb=>by
  rcases List.mem_cons.mp (I.stkSub b hb) with z | z
  ·rw [z]; exact I.lt
  ·exact Nat.lt_of_not_le fun q=>I.nofs q z
 have cells:∀ x c,cl.lookup x = some c -> c < s₂.heap.objs.size:=fun x c e=>let ⟨v,q⟩:=I.cell x c (hcl1 x c e); q.lt
 have pinsz:∀ p ∈ X.pn ++ pins,p.1 < s₂.heap.objs.size:=fun p hp=>Heap.lt_size (I.pin p hp).1
 refine Z4 (fun n s=>∃ i kvs o σ' H',Inv (cxC X N' scope cl C D fp s₀ H2) pins σ' H' s /\ tn i s.heap /\ (∀ b ∈ fp,H' b = none) /\ H' D = none ∧
   DRaw X.prog X.w H2 s.heap D o kvs /\ W i n kvs σ' H') ?_ n h
 rintro n s ⟨i,kvs,o,σ',H',I',st',fr,hn,rv,w'⟩
 have hy:s.heap.get? D = some o:=let ⟨_,_,_,_,_,_,e,_⟩:=rv; e
 have pD:Inv (cxC X N' scope cl C D fp s₀ H2) (pins ++ [(D,o)]) σ' H' s:=I'.pins_of fun p hp=>by
  rcases List.mem_append.mp hp with hp | hp
  ·exact I'.pin p (List.mem_append_right _ hp)
  ·rw [List.mem_singleton.mp hp]
   exact ⟨hy,hn,hDC,fun z=>absurd (Nat.lt_of_lt_of_le (frsz _ z) hD) (Nat.lt_irrefl _),rv.nocell⟩
 have fpok:∀ {H'':Hp},(∀ b ∈ fp,H'' b = none) -> ∀ b ∈ fp,FpOk (cxC X N' scope cl C D fp s₀ H2) (pins ++ [(D,o)]) H'' b:=fun hz b hb=>by
  refine ⟨hz b hb,Nat.ne_of_lt (Nat.lt_of_lt_of_le (hfp b hb) hC),fun z=>?_,.inl (List.mem_cons_of_mem _ hb),fun x c e=>(f2 b hb).2.2.2.2.1 x c (hcl1 x c e),fun p hp=>?_⟩
  ·rcases List.mem_cons.mp (I.stkSub b z) with z | z
   ·exact (f2 b hb).2.1 z
   ·exact (f2 b hb).2.2.1 z
  ·rcases List.mem_append.mp hp with hp | hp
   ·exact (f2 b hb).2.2.2.2.2 p (List.mem_append_left _ hp)
   ·rcases List.mem_append.mp hp with hp | hp
    ·exact (f2 b hb).2.2.2.2.2 p (List.mem_append_right _ hp)
    ·rw [List.mem_singleton.mp hp]
     exact Nat.ne_of_gt (Nat.lt_of_lt_of_le (hfp b hb) hD)
 rcases turn i n kvs σ' H' w' with ⟨stop,q⟩ | ⟨go,Nn,hN,step⟩
 ·refine thn (T.done (cxC X N' scope cl C D fp s₀ H2) rfl rfl rfl hcalm i _ s σ' H' (fun _ _=>False) pD (fpok fr) st' stop) fun r s1 ⟨hr,I1⟩=>?_
  subst hr
  have hy1:=(I1.pin (D,o) (by simp)).1
  obtain ⟨m,hm,_⟩:=I1.loc
  obtain ⟨oC,es,ep,hoC,hdC,_⟩:=id hm
  obtain ⟨IX,fpc⟩:=Xq I hs₀ hos hD hC hDC f2 I1.unpinned hn (rv.at hy1) hoC (by intro v z; rw [hdC] at z; cases z)
  exact hRR D C oC m s1 _ IX hm fpc (q D hn)
 ·refine thn (T.item (cxC X N' scope cl C D fp s₀ H2) rfl rfl rfl hcalm i _ s σ' H' (fun _ _=>False) pD (fpok fr) st' go) fun r s1 ⟨u,hr,h4⟩=>?_
  subst hr
  refine thn h4 fun _ s2 ⟨x5,H5,I5,r5,y5,st5,fr5⟩=>?_
  have I5':=I5.pinned (fpok fr5) (T.obj _ _ st5)
  refine thn (hg _ s2 σ' H5 x5 u _ I5' r5 (step x5 H5 y5)) fun _ s3 ⟨σ6,H6,I6,q6⟩=>?_
  refine thn (ht _ s3 σ6 H6 _ I6 q6) fun ok s4 ⟨H7,I7,q7⟩=>?_
  have stay:∀ {σ7:L2.St} {H7:Hp} {s7:Shared},Inv (cxC X N' scope cl C D fp s₀ H2) (pins ++ [(D,o)] ++ uF fp s2.heap) σ7 H7 s7 →
    (∀ b ∈ fp,∀ o,s2.heap.get? b = some o -> s7.heap.get? b = some o) /\ (∀ b ∈ fp,H7 b = none) /\ H7 D = none /\ s7.heap.get? D = some o:=fun {σ7 H7 s7} I7=>by
   have d:=I7.pin (D,o) (by simp)
   refine ⟨fun b hb o e=>(I7.pin (b,o) (List.mem_append_right _ (List.mem_append_right _ (yE hb e)))).1,fun b hb=>?_,d.2.1,d.1⟩
   obtain ⟨o,e,_⟩:=T.obj _ _ st5 b hb
   exact (I7.pin (b,o) (List.mem_append_right _ (List.mem_append_right _ (yE hb e)))).2.1
  cases ok with
  | false =>
   rw [if_neg (by decide)] at q7 ⊢
   obtain ⟨k1,k2,k3,k4⟩:=stay I7
   obtain ⟨m',hm,w7⟩:=hN kvs σ6 H7 q7
   exact ⟨m',hm,i + 1,kvs,o,σ6,H7,I7.unpinned.unpinned,T.keep _ _ _ st5 k1,k2,k3,rv.at k4,w7⟩
  | true =>
   rw [if_pos rfl] at q7 ⊢
   refine thn (hk _ s4 σ6 H7 _ I7 q7) fun kv s5 ⟨y,H8,I8,ry,q8⟩=>?_
   refine thn (he _ s5 σ6 H8 _ I8 q8) fun vv s6 ⟨v,H9,I9,r9,hl9,b,ks,ey,eb,n9⟩=>?_
   subst ey
   cases (show kv = Value.ref b from ry)
   obtain ⟨k1,k2,k3,k4⟩:=stay I9
   have tp:∀ b xs,H2 b = some (.tup xs) -> H9 b = some (.tup xs):=I9.base.tups
   obtain ⟨z,hd,xs,rel,es,ep,h1,h2,h3,h4',h5⟩:=rv.at k4
   have dd:s6.heap.DictOfH (tupleKind (z7 X.prog X.w)) D xs:=by
    refine ⟨o,es,ep,h1,h2,h3,h4',fun x hx=>?_,h5⟩
    have all:∀ {l:List (List Key × V)} {m:List (List Key × Addr × Value)},KT H2 l m -> ∀ x ∈ m,(tupleKind (z7 X.prog X.w)).is s6.heap x.1 x.2.1:=by
     intro l m q
     induction q with
     | nil=>intro x hx; exact nomatch hx
     | @cons p q ps qs hq t ih =>
      intro x hx
      rcases List.mem_cons.mp hx with e | hx
      ·subst e
       exact u5 I9.hok (by rw [← hq.1]; exact tp _ _ hq.2.1)
      ·exact ih x hx
    exact all rel x hx
   have xl:xs.length <= sizeLine:=by rw [← Paired.length rel]; exact z
   refine wpAny_dictSet_heap (hsz:=xl) (show (tupleKind (z7 X.prog X.w)).room X.A from Nat.lt_of_succ_lt hu) (u5 I9.hok (tp _ _ eb)) dd fun h' dd' sb=>?_
   obtain ⟨o',es',ep',hq1,hq2,hq3,hq4,_,hq5⟩:=dd'
   obtain ⟨m',hm,w9⟩:=hN _ σ6 H9 n9
   have pl:=w5 kvs ks v
   refine ⟨m',hm,i + 1,putK kvs ks v,o',σ6,H9,?_,T.keep _ _ _ (T.keep _ _ _ st5 k1) fun b hb o e=>sb.extBut b o (Nat.ne_of_lt (Nat.lt_of_lt_of_le (hfp b hb) hD)) e,k2,k3,⟨by omega,hd,_,rel.put ks eb r9,es',ep',hq1,hq2,hq3,hq4,hq5⟩,w9⟩
   exact (I9.unpinned.unpinned).turned (it:=D) (t':=_) (h':=h') (fun b o hb e=>sb.extBut b o hb e) k3 hDC (.inl (by simp)) (fun x c e=>Nat.ne_of_lt (Nat.lt_of_lt_of_le (cells x c e) hD)) (fun p hp=>Nat.ne_of_lt (Nat.lt_of_lt_of_le (pinsz p hp) hD))
theorem jG {tg:Expr} {pos:Pos} {kx vx iter:Expr} {ifs:List Expr} {g:TG} {tt:TT} {tk tv:TE} {E:VS7} {Q:VK} {RR:Value -> Addr -> Result -> Shared -> Prop}
  (hu:X.A.units + 1 < cLine) (I:Inv X pins σ H2 s₂) (hcalm:X.calm = true) (T:Turn X.prog X.w X.K tg J fp it tn) (st:tn 0 s₂.heap) (f2:∀ b ∈ fp,FpOk X pins H2 b)
  (S:CSc X scope N' sub) (hcl1:∀ x c,cl.lookup x = some c -> X.env.cells.lookup x = some c) (hcl2:∀ y ∈ scope.names,y.2 = .free -> ∃ c,cl.lookup y.1 = some c)
  (hg:∀ C D fp s H,PG (cxC X N' scope cl C D fp s H) tg g) (ht:∀ C D fp s H,PIfs (cxC X N' scope cl C D fp s H) ifs tt) (hk:∀ C D fp s H,PE (cxC X N' scope cl C D fp s H) kx tk) (he:∀ C D fp s H,PE (cxC X N' scope cl C D fp s H) vx tv)
  (hW:Xp J (capt sub σ) H2 g tt tk tv Q)
  (hRR:∀ (D C:Addr) (oC:Obj) (m:Str -> Option Value) (s':Shared) (Hf:Hp),Inv X (pins ++ [(C,oC)]) σ Hf s' -> s'.heap.Ns C m -> FpOk X pins Hf C -> Q (.ref D) Hf -> RR (.ref D) C (.ok .next) s') :
  wpAny (model X.prog X.w) X.A newDict (fun acc s₃=>wpAny (model X.prog X.w) X.A (newFunctionEnv scope X.env.globals cl [] X.env.qual none .none (some X.env)) (fun cenv s₄ =>
   codeAny (model X.prog X.w) X.A (.compStart (.DictComp kx vx [⟨tg,iter,ifs,0⟩] scope pos) 0 (.ref it) acc { cenv with scope:=relabel scope X.env }) (RR acc cenv.locals) s₄) E s₃) E s₂:=by
 obtain ⟨W,⟨m0,w0⟩,turn⟩:=hW
 refine wpAny_newObj_type (wpAny_newFunctionEnv S.nocell (by intro y hy; simp at hy) (fun h₁ hns₁ hsb₁=>?_) S.kind)
 dsimp only at hns₁ hsb₁ ⊢
 have hC:(s₂.heap.push { cls:=.type "dict",dict:=none,data:=.dict #[] }).objs.size = s₂.heap.objs.size + 1:=Heap.size_push ..
 rw [hC] at hns₁ hsb₁ ⊢
 have hk1:∀ b o,(s₂.heap.push { cls:=.type "dict",dict:=none,data:=.dict #[] }).get? b = some o -> h₁.get? b = some o:=fun b o e =>
  hsb₁.extBut b o (by have:=Heap.lt_size e; rw [hC] at this; exact Nat.ne_of_lt this) (Heap.get?_push_of_some _ e)
 have hfp:∀ b ∈ fp,b < s₂.heap.objs.size:=fun b hb=>by
  obtain ⟨o,e,_⟩:=T.obj _ _ st b hb
  exact Heap.lt_size e
 have I0:=tM (tk:=s₂.toks + ([]:List (Str × Value)).length) I S hcl1 hcl2 f2 hfp hns₁ hk1
 have hD0:h₁.get? s₂.heap.objs.size = some { cls:=.type "dict",data:=.dict #[] }:=hk1 _ _ (Heap.get?_push_size _ rfl)
 obtain ⟨_,hd0,xs0,rel0,o0,es0,ep0,q1,q2,q3,q4,q5⟩:=(Zq (P:=X.prog) (w:=X.w) (H:=H2) s₂.heap I.big)
 rw [Heap.get?_push_size _ rfl] at q1
 cases q1
 have loop:codeAny (model X.prog X.w) X.A (.compLoop (.DictComp kx vx [⟨tg,iter,ifs,0⟩] scope pos) 0 (.ref it) (.ref s₂.heap.objs.size) (compEnvC scope cl (s₂.heap.objs.size + 1) X.env)) (RR (.ref s₂.heap.objs.size) (s₂.heap.objs.size + 1)) { s₂ with heap:=h₁,toks:=s₂.toks + ([]:List (Str × Value)).length } :=
  Xr (s₀:={ s₂ with heap:=s₂.heap.push { cls:=.type "dict",dict:=none,data:=.dict #[] } }) (C:=s₂.heap.objs.size + 1) (D:=s₂.heap.objs.size) hu I hcalm T f2 hfp (fun b o e=>Heap.get?_push_of_some _ e) rfl (Nat.le_refl _) (Nat.le_succ _) (Nat.ne_of_lt (Nat.lt_succ_self _)) hcl1 (hg _ _ _ _ _) (ht _ _ _ _ _) (hk _ _ _ _ _) (he _ _ _ _ _) turn hRR m0 _
   ⟨0,[],_,capt sub σ,H2,I0,T.keep _ _ _ st fun b hb o e=>hk1 b o (Heap.get?_push_of_some _ e),fun b hb=>(f2 b hb).1,I.hok.fresh (Nat.le_refl _),⟨Nat.zero_le _,hd0,[],.nil,es0,ep0,hD0,q2,q3,by cases rel0; exact q4,List.nodup_nil⟩,w0⟩
 exact codeAny_compStart_dict loop (T.self _ _ _ _ _ (T.keep _ _ _ st fun b hb o e=>hk1 b o (Heap.get?_push_of_some _ e)) loop)
end
section
variable {X:Cx} {scope:Scope} {N':List Str} {sub:List (Option Nat)} {tg:Expr} {pos:Pos} {kx vx iter:Expr} {ifs:List Expr} {wi:TI} {g:TG} {tt:TT} {tk tv:TE}
theorem WA (hu:X.A.units + 1 < cLine) (S:CSc X scope N' sub) (hcalm:X.calm = true) (hi:PI X tg iter wi)
  (hg:∀ cl C D fp s H,PG (cxC X N' scope cl C D fp s H) tg g) (ht:∀ cl C D fp s H,PIfs (cxC X N' scope cl C D fp s H) ifs tt) (hk:∀ cl C D fp s H,PE (cxC X N' scope cl C D fp s H) kx tk) (he:∀ cl C D fp s H,PE (cxC X N' scope cl C D fp s H) vx tv)
  (hs:∀ x,foldedSetIterable iter X.env x = pure x:=by intro _; rfl):PE X (.DictComp kx vx [⟨tg,iter,ifs,0⟩] scope pos) (UV wi sub g tt tk tv):=by
 intro pins s σ H Q I h
 obtain ⟨cl,hclos,hcl1,hcl2⟩:=S.clos I
 rw [arm_eval_DictComp]
 refine wpAny_comprehension_free (use:=none) rfl hs hclos S.kind S.names (thn (hi pins s σ H _ I h) fun v s1 h1=>thn h1 fun itv s2 h2=>?_)
 obtain ⟨it,fp,tn,J,H2,e,I2,T,st2,f2,hW⟩:=h2
 subst e
 refine jG (RR:=fun acc C=>compPost (model X.prog X.w) X.A X.xe none (EP X pins σ Q) acc C) hu I2 hcalm T st2 f2 S hcl1 hcl2 (hg cl) (ht cl) (hk cl) (he cl) hW ?_
 intro D C oC m s' Hf IX hm fpc q
 refine ⟨m,hm,fun h' sb=>⟨.ref D,Hf,?_,rfl,q⟩⟩
 exact (IX.unpinned).turned (it:=C) (t':=s'.toks) (h':=h') (fun b o hb e=>sb.extBut b o hb e) fpc.1 fpc.2.1 fpc.2.2.2.1 fpc.2.2.2.2.1 fpc.2.2.2.2.2
end
open PySem PySem.Spec PyProof.Rows L2 PySem.W
section
variable {prog:Program} {w:World} {A:Around} {E:VS7} {s:Shared} {T:String} {r d:Addr} {n:Nat} {P:Nat -> Value -> Prop} {OK:Heap -> Prop}
theorem jH {Q:List Value -> Shared -> Prop} (K:KdlSrc prog w T r d n P OK) (hh:A.handled = none) (hok:OK s.heap) (hn:n <= sizeLine)
  (hQ:∀ (h':Heap) tk acc',(∀ b o,s.heap.get? b = some o -> h'.get? b = some o) -> ItemsOf P acc' n -> Q acc'.toList { s with heap:=h',toks:=tk }) :
  wpAny (model prog w) A (collect (.ref r)) Q E s:=by
 unfold collect
 refine wpAny_bind (wpAny_runValue (codeAny_builtin F.entry_proto_collect ?_))
 rw [Around.under_plainId F.plain_proto_collect _]
 show wpAny _ A.in1 (newList [] >>= fun l=>again (.builtin "list.__iadd__" ⟨[l,.ref r],[]⟩)) _ _ s
 refine wpAny_bind (wpAny_newObj_type ?_)
 refine wpAny_pure ⟨plainId_quiet F.plain_list_iadd _,codeAny_builtin F.entry_list_iadd ?_⟩
 rw [Around.under_plainId F.plain_list_iadd _]
 show wpAny _ A.in1 (Builtin.List.listExtendWith (.ref s.heap.objs.size) (.ref r) (.ref s.heap.objs.size)) _ _ _
 have hS:(s.heap.push { cls:=.type "list",data:=.seq ([]:List Value).toArray }).get? s.heap.objs.size = some { cls:=.type "list",data:=.seq ([]:List Value).toArray }:=Heap.get?_push_size _ rfl
 have hok':OK (s.heap.push { cls:=.type "list",data:=.seq ([]:List Value).toArray }):=K.keep _ _ hok fun b _ o e=>Heap.get?_push_of_some _ e
 have fin:∀ (h':Heap) tk acc' c',(∀ b o,s.heap.get? b = some o -> h'.get? b = some o) -> h'.get? s.heap.objs.size = some { cls:=.type "list",dict:=none,data:=.seq acc' c',slots:=#[] } -> ItemsOf P acc' n →
   wpAny (model prog w) A (load s.heap.objs.size >>= fun o=>match o.data with | .seq xs _=>pure xs.toList | _=>unsupported "internal:collect") Q E { s with heap:=h',toks:=tk }:=fun h' tk acc' c' hk hS' hacc =>
  wpAny_bind (wpAny_load hS' (wpAny_pure (hQ h' tk acc' hk hacc)))
 refine wpAny_mono (kdl_extend (R:=fun r' s'=>∃ (h':Heap) (tk:Nat) (acc':Array Value) (c':Nat),r' = .ok (.ret (.ref s.heap.objs.size)) /\ s' = { s with heap:=h',toks:=tk } /\ (∀ b o,s.heap.get? b = some o -> h'.get? b = some o) /\ h'.get? s.heap.objs.size = some { cls:=.type "list",dict:=none,data:=.seq acc' c',slots:=#[] } /\ ItemsOf P acc' n)
   K hh (s:={ s with heap:=s.heap.push { cls:=.type "list",data:=.seq ([]:List Value).toArray } }) hok' s.heap.objs.size (Ne.symm (Nat.ne_of_lt (K.there _ hok).1)) (Ne.symm (Nat.ne_of_lt (K.there _ hok).2)) _ 0 hS (fun h' tk acc' c' hk hS hacc =>
  ⟨h',tk,acc',c',rfl,rfl,fun b o e=>hk b o (Nat.ne_of_lt (Heap.lt_size e)) (Heap.get?_push_of_some _ e),hS,hacc⟩) hn) (fun fn s' h=>?_) (fun e s' h=>?_)
 ·cases fn with
  | done f =>
   obtain ⟨h',tk,acc',c',e,rfl,hf,hl,hS'⟩:=h
   cases e
   exact fin h' tk acc' c' hf hl hS'
  | again c =>
   refine ⟨h.1,codeAny_mono h.2 fun r s'' hr=>?_⟩
   obtain ⟨h',tk,acc',c',e,rfl,hf,hl,hS'⟩:=hr
   subst e
   exact fin h' tk acc' c' hf hl hS'
 ·obtain ⟨h',tk,acc',c',e,_⟩:=h
  cases e
theorem wX {Q:VS7} (K:KdlSrc prog w T r d n P OK) (hh:A.handled = none) (hok:OK s.heap) (hn:n <= sizeLine)
  (hQ:∀ (h':Heap) tk acc',(∀ b o,s.heap.get? b = some o -> h'.get? b = some o) -> ItemsOf P acc' n -> Q (.ref h'.objs.size) { s with heap:=h'.push { cls:=.type "tuple",data:=.seq acc' },toks:=tk }) :
  wpAny (model prog w) A (call (.type "tuple") [.ref r]) Q E s:=by
 refine callType_codes (Q₁:=fun obj s₁=>s₁.TypeIs obj "tuple" /\ Q obj s₁) F.called_tuple (F.typeCall_tuple_1 _) F.entry_object_init ?_ fun obj s₁ h₁=>?_
 ·refine codeAny_of_tree ?_
  show wpAny _ A.in1.in1 (do checkBuiltinCall "tuple.__new__" ⟨[.type "tuple",.ref r],[]⟩; again (.builtin "tuple.__new__" ⟨[.type "tuple",.ref r],[]⟩)) _ _ s
  refine wpAny_bind (wpAny_of_eq (F.newCall_tuple_1 _) (wpAny_pure ⟨plainId_quiet F.plain_tuple_new _,codeAny_builtin F.entry_tuple_new ?_⟩))
  rw [Around.under_plainId F.plain_tuple_new _]
  have hsub:=sub_tuple_self
  have hinit:=init_tuple_lookup
  have hmh:=madeHere_tuple
  have hTI:=K.type s hok
  have hnt:=K.notTuple
  wp_walk using wpAny_typeOf hTI,jH (A:=A.in1.in1) K hh hok hn
  intro h' tk acc hf hacc
  show wpAny _ _ (Builtin.Tuple.tupleExact acc.toList.toArray >>= fun v=>ret v) _ _ _
  unfold Builtin.Tuple.tupleExact
  refine wpAny_bind (wpAny_newObj_type ?_ (by show acc.toList.toArray.size <= sizeLine; simp only [Array.toArray_toList]; rw [hacc.1]; exact hn))
  refine wpAny_pure ⟨⟨_,Heap.get?_push_size _ rfl,rfl⟩,?_⟩
  have e:acc.toList.toArray = acc:=by simp
  rw [e]
  exact hQ h' tk acc hf hacc
 ·exact ⟨h₁.1,F.args_object_init_2 obj _,object_init_meets F.called_tuple.init.lookup F.called_tuple.made (by decide) prog w A.in1 _ s₁ ⟨h₁.1,rfl,h₁.2⟩⟩
end
section
variable {X:Cx}
theorem qi {k:Nat} (hr:Room k X.A):vh X (.type "tuple") (fun xs H Q=>∃ a kvs,xs = [V.ref a] /\ H a = some (.dT kvs) /\ ∀ l zs,H l = none -> zs.length = kvs.length -> AllR (VU H) zs kvs -> Q (.ref l) (upd H l (.tup zs))):=by
 intro pins s σ H xs us Q I r h
 obtain ⟨a,kvs,rfl,ha,q⟩:=h
 obtain ⟨u,rfl,ru⟩:=sk r
 cases ru
 obtain ⟨z,hd,ys,rel,dd⟩:=Xb I.hok ha
 obtain ⟨o,es,ep,ho,hc,hdat,he,_,_⟩:=dd
 have hl:kvs.length = ys.length:=Paired.length rel
 have hes:es.size = ys.length:=size_of_entries he
 refine wX (VT (es:=es) (ep:=ep) hd) hr.hd ⟨o,ho,hc,hdat⟩ (by rw [hes,← hl]; exact z) fun h' tk acc' kp hI=>?_
 have hacc:acc'.toList = ys.map fun q=>Value.ref q.2.1:=by
  apply List.ext_getElem
  ·rw [Array.length_toList,hI.1,hes,List.length_map]
  ·intro j h1 h2
   rw [Array.length_toList] at h1
   obtain ⟨hj,ev⟩:=hI.2 j acc'[j] (Array.getElem?_eq_getElem h1)
   have hy:j < ys.length:=by omega
   have ee:=entry_at he j
   rw [Array.getElem?_eq_getElem hj,List.getElem?_eq_getElem hy,Option.map_some] at ee
   rw [Array.getElem_toList,ev,Option.some.inj ee,List.getElem_map]
   rfl
 have fr:H h'.objs.size = none:=(I.kept (t':=tk) kp).hok.fresh (Nat.le_refl _)
 refine ⟨.ref h'.objs.size,_,(I.kept (t':=tk) kp).laid (t':=tk) (o:=.tup (ys.map fun q=>V.ref q.2.1)) (fun b ob q=>Heap.get?_push_of_some _ q) (Nat.le_refl _) ⟨by rw [List.length_map,← hl]; exact z,acc'.toList,by rw [hacc]; exact qf ys,?_⟩,rfl,q _ _ fr (by rw [List.length_map,hl]) (Zr rel)⟩
 rw [Array.toArray_toList]
 exact IsTup.new _ _
end
def xW:Nat -> List (List Int) -> List (List Key × V)
 | _,[]=>[]
 | j,d :: r=>(kI d,V.int j) :: xW (j + 1) r
theorem qj:∀ (j:Nat) (a b:List (List Int)),xW j (a ++ b) = xW j a ++ xW (j + a.length) b
 | j,[],b=>rfl
 | j,d :: a,b=>by
  show (kI d,V.int j) :: xW (j + 1) (a ++ b) = (kI d,V.int j) :: (xW (j + 1) a ++ xW (j + (a.length + 1)) b)
  rw [qj (j + 1) a b,show j + 1 + a.length = j + (a.length + 1) by omega]
theorem qk:∀ (j:Nat) (a:List (List Int)),(xW j a).length = a.length
 | _,[]=>rfl
 | j,_ :: a=>congrArg (· + 1) (qk (j + 1) a)
theorem Zw {d:List Int}:∀ (j:Nat) {a:List (List Int)},d ∉ a -> valV (xW j a) (kI d) = none
 | _,[],_=>rfl
 | j,e :: a,h=>by
  show valV ((kI e,V.int j) :: xW (j + 1) a) (kI d) = none
  rw [wH (fun z=>h (List.mem_cons.mpr (.inl (Zv z).symm)))]
  exact Zw (j + 1) fun z=>h (List.mem_cons.mpr (.inr z))
def ixF:List (List Int) -> List Int -> Nat
 | [],_=>0
 | e :: a,d=>if e = d then 0 else ixF a d + 1
theorem ql {d:List Int}:∀ (j:Nat) {a:List (List Int)},d ∈ a -> valV (xW j a) (kI d) = some (V.int ((j + ixF a d:Nat):Int))
 | _,[],h=>nomatch h
 | j,e :: a,h=>by
  show valV ((kI e,V.int j) :: xW (j + 1) a) (kI d) = some (V.int ((j + (if e = d then 0 else ixF a d + 1):Nat):Int))
  by_cases c:e = d
  ·rw [vz (by rw [c]),if_pos c]; rfl
  ·rw [wH (fun z=>c (Zv z)),if_neg c]
   have h':d ∈ a:=(List.mem_cons.mp h).resolve_left fun z=>c z.symm
   rw [ql (j + 1) h',show j + 1 + ixF a d = j + (ixF a d + 1) by omega]
theorem Vc {d:List Int}:∀ {a:List (List Int)},d ∈ a -> ixF a d < a.length
 | [],h=>nomatch h
 | e :: a,h=>by
  show (if e = d then 0 else ixF a d + 1) < a.length + 1
  by_cases c:e = d
  ·rw [if_pos c]; omega
  ·rw [if_neg c]
   have:=Vc ((List.mem_cons.mp h).resolve_left fun z=>c z.symm)
   omega
theorem Xs {d:List Int}:∀ {a:List (List Int)},d ∈ a -> a.getD (ixF a d) [] = d
 | [],h=>nomatch h
 | e :: a,h=>by
  show (e :: a).getD (if e = d then 0 else ixF a d + 1) [] = d
  by_cases c:e = d
  ·rw [if_pos c]; exact c
  ·rw [if_neg c]
   exact Xs ((List.mem_cons.mp h).resolve_left fun z=>c z.symm)
def ownT (fam:List (List Int)):List (List Int):=fam.map fun a=>fam.map fun b=>(ixF fam (zC a b):Int)
theorem GoodF.le {ms:List (List Int)} {S:Nat} {f:FW} (h:GoodF ms S f) (hf:Few ms S):f.length <= 60:=by
 obtain ⟨l,hl,hw⟩:=hf
 have:=uA h.nd fun d hd=>hw d (h.wd d hd)
 unfold zu at this
 rw [List.length_map] at this
 omega
structure Fam (S:Nat) (fam:List (List Int)):Prop where
 nd:fam.Nodup
 dd:∀ d ∈ fam,Dd S d
 cl:∀ a ∈ fam,∀ b ∈ fam,zC a b ∈ fam
 hd:fam[0]? = some (idL S)
 l60:fam.length <= 60
theorem FamL.fam {ms:List (List Int)} {S:Nat} {f:FW} (h:FamL ms S f) (hM:Mks ms S) (hf:Few ms S):Fam S (zu f):=by
 have hO:=h.ok
 have h60:=hO.le hf
 refine ⟨hO.good.nd,fun d hd=>(hO.good.wd d hd).dd hM,fun a ha b hb=>hO.closed hM h60 ha hb,?_,by unfold zu; rw [List.length_map]; exact h60⟩
 have:=hO.hd
 cases f with
 | nil=>cases this
 | cons p f=>cases this; rfl
theorem Zx {S:Nat} {fam:List (List Int)} (h:Fam S fam):ue fam.length fam.length (ownT fam):=by
 refine ⟨by unfold ownT; rw [List.length_map],fun row hr=>?_⟩
 obtain ⟨a,ha,rfl⟩:=List.mem_map.mp hr
 refine ⟨by rw [List.length_map],fun v hv=>?_⟩
 obtain ⟨b,hb,rfl⟩:=List.mem_map.mp hv
 have:=Vc (h.cl a ha b hb)
 omega
theorem Xt {S:Nat} {fam:List (List Int)} (h:Fam S fam) {i j:Nat} (hi:i < fam.length) (hj:j < fam.length):qh (ownT fam) i j = (ixF fam (zC (fam.getD i []) (fam.getD j [])):Int):=by
 have e1:(ownT fam).getD i [] = fam.map fun b=>(ixF fam (zC (fam.getD i []) b):Int):=by
  unfold ownT
  rw [List.getD_eq_getElem?_getD,List.getElem?_map,List.getElem?_eq_getElem hi,Option.map_some,Option.getD_some,List.getD_eq_getElem?_getD,List.getElem?_eq_getElem hi,Option.getD_some]
 unfold qh
 rw [Int.toNat_natCast,Int.toNat_natCast,e1,List.getD_eq_getElem?_getD,List.getElem?_map,List.getElem?_eq_getElem hj,Option.map_some,Option.getD_some,List.getD_eq_getElem?_getD (l:=fam) (i:=j),List.getElem?_eq_getElem hj,Option.getD_some]
def yQ (K:FG7):Sp:=sp3 fun x y z H Q=>∃ (R M:Nat) (lo hi:Int) (rows:List (List Int)),yk K H x rows /\ y = .int lo /\ z = .int hi /\ lo <= R /\ R <= hi /\ 1 <= R /\ R <= 60 /\ 1 <= M /\ M <= 5 /\ ue R M rows /\ ∀ H',Grow [] H H' -> Q .non H'
structure MksAt (K:FG7) (H:Hp) (x:V) (ms:List (List Int)) (S:Nat):Prop where
 at':yk K H x ms
 ok:Mks ms S
 s1:1 <= S
 s5:S <= 5
 m1:1 <= ms.length
 m4:ms.length <= 4
 few:Few ms S
theorem MksAt.grow {K:FG7} {m:List Addr} {H H':Hp} {x:V} {ms:List (List Int)} {S:Nat} (h:MksAt K H x ms S) (g:Grow m H H'):MksAt K H' x ms S:=⟨g.rows h.at',h.ok,h.s1,h.s5,h.m1,h.m4,h.few⟩
def u9 (K:FG7):Sp:=sp1 fun x H Q=>∃ (ms:List (List Int)) (S:Nat),MksAt K H x ms S /\ ∀ y f H',Grow [] H H' -> FamW K H' y f -> FamL ms S f -> Q y H'
def Z5 (K:FG7) (H:Hp) (x:V) (rows:List (List Int)):Prop:=∃ r xs,x = .ref r /\ SqT K H r xs /\ AllR (KeyB H) xs rows
theorem Z5.rows {K:FG7} {H:Hp} {x:V} {rows:List (List Int)} (h:Z5 K H x rows):yk K H x rows:=let ⟨r,xs,e,h1,h2⟩:=h; ⟨r,xs,e,h1,h2.imp fun _ _ z=>z.board⟩
theorem Z5.grow {K:FG7} {m:List Addr} {H H':Hp} {x:V} {rows:List (List Int)} (h:Z5 K H x rows) (g:Grow m H H'):Z5 K H' x rows:=let ⟨r,xs,e,h1,h2⟩:=h; ⟨r,xs,e,g.sqT h1,h2.imp fun _ _ z=>z.grow g⟩
def sS (K:FG7):Sp:=sp1 fun x H Q=>∃ (ms:List (List Int)) (S:Nat),MksAt K H x ms S /\ ∀ y f H',Grow [] H H' -> Z5 K H' y (zu f) -> FamL ms S f -> Q y H'
def Xu (K:FG7):Sp:=sp1 fun x H Q=>∃ (ms:List (List Int)) (S:Nat),MksAt K H x ms S /\ ∀ y f H',Grow [] H H' -> FamL ms S f -> yk K H' y (ownT (zu f)) -> Q y H'
theorem qm {H:Hp}:∀ {zs:List V} {kvs:List (List Key × V)} {fam:List (List Int)},AllR (VU H) zs kvs -> kvs.map (·.1) = fam.map (List.map Sum.inl) -> AllR (KeyB H) zs fam
 | [],[],[],_,_=>trivial
 | [],[],_ :: _,_,e=>by cases e
 | _ :: _,_ :: _,[],_,e=>by cases e
 | z :: zs,p :: kvs,d :: fam,h,e=>by
  rw [List.map_cons,List.map_cons] at e
  injection e with e1 e2
  obtain ⟨⟨b,hb,hp⟩,ht⟩:=h
  refine ⟨⟨b,hb,?_⟩,qm ht e2⟩
  rw [hp,e1,jA]
 | [],_ :: _,_,h,_=>h.elim
 | _ :: _,[],_,h,_=>h.elim
section
variable {K:FG7} {a:Addr} {c:Bool} {xs:List V} {k:Nat} {g:TG} {tt:TT} {te tk tv:TE} {Q:VK} {σ:L2.St} {H:Hp}
theorem qp (Pv:Nat -> List V -> Hp -> Prop) (h0:Pv 0 [] H) (hl:∀ i ys H',Pv i ys H' -> SqT K H' a xs)
  (hs:∀ i x ys H',xs[i]? = some x -> Pv i ys H' -> te (σ.set k (some x)) H' fun y H5=>ys.length < sizeLine /\ Pv (i + 1) (ys ++ [y]) H5)
  (hd:∀ ys H',Pv xs.length ys H' -> ∀ l,H' l = none -> Q (.ref l) (upd H' l (.lst ys))):vk (Itt K a) σ H (uc k) qY te Q :=
 ZP (fun _=>true) Pv h0 hl (fun _ _ _ _ h=>h) (fun i x ys H' hx p _=>hs i x ys H' hx p) (fun _ _ _ _ _ _ z=>nomatch z) hd
theorem Z6 (Pv:Nat -> List (List Key × V) -> L2.St -> Hp -> Prop) (h0:Pv 0 [] σ H) (hl:∀ i zs σ H,Pv i zs σ H -> SqC c K H a xs)
  (hs:∀ i x zs σ H' T,xs[i]? = some x -> Pv i zs σ H' -> H' T = none -> g (.ref T) σ (upd H' T (.tup [.int i,x])) fun σ2 H3=>tt σ2 H3 fun b H4=>if b = true then tk σ2 H4 fun y H5=>tv σ2 H5 fun v H6=>zs.length < sizeLine /\ ∃ b ks,y = .ref b /\ H b = some (.tup (ks.map kV)) /\ Pv (i + 1) (putK zs ks v) σ2 H6 else Pv (i + 1) zs σ2 H4)
  (hd:∀ zs σ H,Pv xs.length zs σ H -> ∀ l,H l = none -> Q (.ref l) (upd H l (.dT zs))) :
  Xp (IteC c K a) σ H g tt tk tv Q:=by
 refine ⟨fun i m zs σ H=>m = xs.length - i /\ i <= xs.length /\ Pv i zs σ H,⟨xs.length,by simp,Nat.zero_le _,h0⟩,?_⟩
 rintro i m zs σ H' ⟨rfl,hi,p⟩
 have q:=hl i zs σ H' p
 by_cases hlt:i < xs.length
 ·refine .inr ⟨⟨xs,xs[i],q,by simp [hlt]⟩,Pv (i + 1),fun ws σ' H' p'=>⟨xs.length - (i + 1),by omega,rfl,hlt,p'⟩,fun x H'' y=>?_⟩
  obtain ⟨T,v,hT,rfl,rfl,y1⟩:=y
  exact hs i v zs σ H' T (y1 xs q) p hT
 ·have e:i = xs.length:=by omega
  subst e
  exact .inl ⟨⟨xs,q,Nat.le_refl _⟩,hd zs σ H' p⟩
end
def yJ (S:Nat) (fam:List (List Int)) (ns:List Int):Nat -> List Int
 | 0=>idL S
 | j + 1=>zC (yJ S fam ns j) (fam.getD (ns.getD j 0).toNat [])
section
variable {S:Nat} {fam:List (List Int)} {ns:List Int}
theorem memN (hR:Rng fam.length ns) {j:Nat} (hj:j < ns.length):fam.getD (ns.getD j 0).toNat [] ∈ fam:=by
 have h:=hR _ (show ns.getD j 0 ∈ ns by rw [List.getD_eq_getElem?_getD,List.getElem?_eq_getElem hj]; exact List.getElem_mem hj)
 exact yW (by omega)
theorem tf (hF:Fam S fam) (hR:Rng fam.length ns):∀ j,j <= ns.length -> Dd S (yJ S fam ns j)
 | 0,_=>Xk S
 | j + 1,h=>uz (tf hF hR j (by omega)) (hF.dd _ (memN hR (by omega)))
theorem sT (t:Tr):((t.count.toNat:Nat):Int) = t.count:=by have:=zz t; omega
theorem Zy (hF:Fam S fam) (hR:Rng fam.length ns):∀ {t:Tr} {f:Nat},Ordd t (f:Int) -> f + t.count.toNat <= ns.length -> fam.getD (numT (ownT fam) ns t).toNat [] ∈ fam /\ yJ S fam ns (f + t.count.toNat) = zC (yJ S fam ns f) (fam.getD (numT (ownT fam) ns t).toNat [])
 | .leaf n,f,o,h=>by
  cases (show n = (f:Int) from o)
  have h':f + 1 <= ns.length:=h
  show fam.getD (ns.getD ((f:Int)).toNat 0).toNat [] ∈ fam /\ yJ S fam ns (f + 1) = zC (yJ S fam ns f) (fam.getD (ns.getD ((f:Int)).toNat 0).toNat [])
  rw [Int.toNat_natCast]
  exact ⟨memN hR (by omega),rfl⟩
 | .node l r,f,o,h=>by
  have cl:=sT l
  have cr:=sT r
  have pl:=zz l
  have pr:=zz r
  have hc:(Tr.node l r).count.toNat = l.count.toNat + r.count.toNat:=by show (l.count + r.count).toNat = _; omega
  rw [hc] at h ⊢
  have o2:Ordd r ((f + l.count.toNat:Nat):Int):=by
   have e:((f + l.count.toNat:Nat):Int) = (f:Int) + l.count:=by omega
   rw [e]; exact o.2
  have a:=Zy hF hR (t:=l) (f:=f) o.1 (by omega)
  have b:=Zy hF hR (t:=r) (f:=f + l.count.toNat) o2 (by omega)
  have tok:Fd fam.length (ownT fam) ns:=⟨Zx hF,hR⟩
  have rl:=xg tok (t:=l) (f:=(f:Int)) o.1 (by omega) (by omega)
  have rr:=xg tok (t:=r) (f:=((f + l.count.toNat:Nat):Int)) o2 (by omega) (by omega)
  have key:numT (ownT fam) ns (.node l r) = (ixF fam (zC (fam.getD (numT (ownT fam) ns l).toNat []) (fam.getD (numT (ownT fam) ns r).toNat [])):Int):=by
   have:=Xt hF (i:=(numT (ownT fam) ns l).toNat) (j:=(numT (ownT fam) ns r).toNat) (by omega) (by omega)
   unfold qh at this
   rw [Int.toNat_natCast,Int.toNat_natCast] at this
   exact this
  have c:=hF.cl _ a.1 _ b.1
  rw [key,Int.toNat_natCast,Xs c]
  refine ⟨c,?_⟩
  rw [← Nat.add_assoc,b.2,a.2,u7 (tf hF hR f (by omega)) (hF.dd _ a.1).1]
def st65 (S:Nat) (fam:List (List Int)) (ns:List Int) (st:Int) (f n:Nat):List Int:=(List.range n).map fun j=>(yJ S fam ns (f + j)).getD st.toNat 0
theorem WB (st:Int) (f a b:Nat):st65 S fam ns st f a ++ st65 S fam ns st (f + a) b = st65 S fam ns st f (a + b):=by
 unfold st65
 rw [List.range_add,List.map_append,List.map_map]
 congr 1
 refine List.map_congr_left fun j _=>?_
 show _ = (yJ S fam ns (f + (a + j))).getD st.toNat 0
 rw [Nat.add_assoc]
theorem jI (hF:Fam S fam) (hR:Rng fam.length ns) {st:Int} (s0:0 <= st) (s1:st < S):∀ {t:Tr} {f:Nat},Ordd t (f:Int) -> f + t.count.toNat <= ns.length -> shT fam (ownT fam) ns t ((yJ S fam ns f).getD st.toNat 0) = st65 S fam ns st f t.count.toNat
 | .leaf n,f,_,_=>rfl
 | .node l r,f,o,h=>by
  have cl:=sT l
  have cr:=sT r
  have pl:=zz l
  have pr:=zz r
  have hc:(Tr.node l r).count.toNat = l.count.toNat + r.count.toNat:=by show (l.count + r.count).toNat = _; omega
  rw [hc] at h ⊢
  have o2:Ordd r ((f + l.count.toNat:Nat):Int):=by
   have e:((f + l.count.toNat:Nat):Int) = (f:Int) + l.count:=by omega
   rw [e]; exact o.2
  have a:=Zy hF hR (t:=l) (f:=f) o.1 (by omega)
  have d:=tf hF hR f (by omega)
  have e:(fam.getD (numT (ownT fam) ns l).toNat []).getD ((yJ S fam ns f).getD st.toNat 0).toNat 0 = (yJ S fam ns (f + l.count.toNat)).getD st.toNat 0:=by
   rw [a.2]
   unfold zC
   have hs:st.toNat < (yJ S fam ns f).length:=by rw [d.1]; omega
   rw [List.getD_eq_getElem?_getD (l:=(yJ S fam ns f).map _),List.getElem?_map,List.getElem?_eq_getElem hs,List.getD_eq_getElem?_getD (l:=yJ S fam ns f),List.getElem?_eq_getElem hs]
   rfl
  show shT fam (ownT fam) ns l _ ++ shT fam (ownT fam) ns r ((fam.getD (numT (ownT fam) ns l).toNat []).getD ((yJ S fam ns f).getD st.toNat 0).toNat 0) = _
  rw [e,jI hF hR s0 s1 (t:=l) o.1 (by omega),jI hF hR s0 s1 (t:=r) o2 (by omega),WB]
end
open PySem PySem.Spec PyProof.Rows L2 PySem.W
structure OrdB (n:Nat) (lt:Nat -> Nat -> Bool):Prop where
 tr:∀ {i j k:Nat},lt i j = true -> lt j k = true -> lt i k = true
 as:∀ {i j:Nat},lt i j = true -> lt j i = false
 to:∀ {i j:Nat},i < n -> j < n -> i ≠ j -> lt i j = false -> lt j i = true
structure PmA (n:Nat) (p:Array Nat):Prop where
 sz:p.size = n
 pm:p.toList.Perm (List.range n)
theorem PmA.lt {n:Nat} {p:Array Nat} (h:PmA n p) {i:Nat} (hi:i < n):p.getD i 0 < n:=by
 have hi':i < p.toList.length:=by rw [Array.length_toList,h.sz]; exact hi
 have e:p.getD i 0 = p.toList[i]:=by simp [Array.getD,h.sz,hi]
 rw [e]
 exact List.mem_range.mp (h.pm.mem_iff.mp (List.getElem_mem hi'))
theorem PmA.inj {n:Nat} {p:Array Nat} (h:PmA n p) {i j:Nat} (hi:i < n) (hj:j < n) (hne:i ≠ j):p.getD i 0 ≠ p.getD j 0:=by
 have hi':i < p.toList.length:=by rw [Array.length_toList,h.sz]; exact hi
 have hj':j < p.toList.length:=by rw [Array.length_toList,h.sz]; exact hj
 have e:p.getD i 0 = p.toList[i]:=by simp [Array.getD,h.sz,hi]
 have e':p.getD j 0 = p.toList[j]:=by simp [Array.getD,h.sz,hj]
 rw [e,e']
 intro z
 exact hne ((List.getElem_inj (h.pm.nodup_iff.mpr List.nodup_range)).mp z)
def Ups (lt:Nat -> Nat -> Bool) (p:Array Nat) (k:Nat):Prop:=∀ i j,i < j -> j < k -> lt (p.getD i 0) (p.getD j 0) = true
def VV (lt:Nat -> Nat -> Bool) (p:Array Nat) (k:Nat):Prop:=∀ i j,i < j -> j < k -> lt (p.getD j 0) (p.getD i 0) = true
section
variable {n:Nat} {lt:Nat -> Nat -> Bool} {cmp:Nat -> Nat -> (Bool -> Shared -> Prop) -> Shared -> Prop} {s:Shared}
theorem Ups.snoc {p:Array Nat} {m:Nat} (o:OrdB n lt) (h1:1 <= m) (u:Ups lt p m) (e:lt (p.getD (m - 1) 0) (p.getD m 0) = true):Ups lt p (m + 1):=by
 intro i j hij hj
 by_cases hjm:j < m
 ·exact u i j hij hjm
 ·obtain rfl:j = m:=by omega
  by_cases hi:i = j - 1
  ·subst hi; exact e
  ·exact o.tr (u i (j - 1) (by omega) (by omega)) e
theorem VV.snoc {p:Array Nat} {m:Nat} (o:OrdB n lt) (h1:1 <= m) (u:VV lt p m) (e:lt (p.getD m 0) (p.getD (m - 1) 0) = true):VV lt p (m + 1):=by
 intro i j hij hj
 by_cases hjm:j < m
 ·exact u i j hij hjm
 ·obtain rfl:j = m:=by omega
  by_cases hi:i = j - 1
  ·subst hi; exact e
  ·exact o.tr e (u i (j - 1) (by omega) (by omega))
end
open PySem PySem.Spec PyProof.Rows L2 PySem.W
open PySem PySem.Spec PyProof.Rows L2 PySem.W
section
variable {prog:Program} {w:World} {A:Around} {E:VS7} {s:Shared} {b fin:Bool} {Q:Bool -> Shared -> Prop}
structure RowAt (h:Heap) (v:Value) (row:List Int) (x:Addr) (ob:Obj) (its:Array Value) (n:Nat):Prop where
 e:v = .ref x
 g:h.get? x = some ob
 c:ob.cls = .type "tuple"
 d:ob.data = .seq its n
 i:IntsAre its.toList row
def Row1 (h:Heap) (v:Value) (row:List Int):Prop:=∃ x ob its n,RowAt h v row x ob its n
inductive Rows (h:Heap):List Value -> List (List Int) -> Prop
 | nil:Rows h [] []
 | cons {v vs row rows}:Row1 h v row -> Rows h vs rows -> Rows h (v :: vs) (row :: rows)
theorem Rows.len {h:Heap}:∀ {vs rows},Rows h vs rows -> vs.length = rows.length
 | _,_,.nil=>rfl
 | _,_,.cons _ t=>congrArg (· + 1) t.len
theorem Rows.get {h:Heap}:∀ {vs rows} {i:Nat},Rows h vs rows -> i < vs.length -> Row1 h (vs.getD i Value.none) (rows.getD i [])
 | _,_,_,.nil,hi=>absurd hi (by simp)
 | _,_,0,.cons r _,_=>r
 | _,_,i + 1,.cons _ t,hi=>by
  have:=t.get (i:=i) (by simpa using hi)
  exact this
theorem Rows.old {h h':Heap} (k:∀ x ob,h.get? x = some ob -> h'.get? x = some ob):∀ {vs rows},Rows h vs rows -> Rows h' vs rows
 | _,_,.nil=>.nil
 | _,_,.cons ⟨x,ob,its,n,r⟩ t=>.cons ⟨x,ob,its,n,r.e,k _ _ r.g,r.c,r.d,r.i⟩ (t.old k)
theorem Rows.tups {h:Heap}:∀ {vs rows},Rows h vs rows -> (∀ r ∈ rows,r ≠ []) -> ∃ fs,KatTups h vs fs /\ fs.length = vs.length /\ ∀ f ∈ fs,∃ n t,f = Value.int n t
 | _,_,.nil,_=>⟨[],.nil,rfl,fun f hf=>absurd hf (by simp)⟩
 | _,_,.cons ⟨x,ob,its,n,r⟩ t,ne=>by
  rename_i v vs row rows
  obtain ⟨fs,k,l,a⟩:=t.tups fun r hr=>ne r (List.mem_cons_of_mem _ hr)
  have hne:=ne row List.mem_cons_self
  obtain ⟨f,hf,n',t',rfl⟩:∃ f,its[0]? = some f /\ ∃ n t,f = Value.int n t:=by
   have hi:=r.i
   rw [← Array.getElem?_toList]
   revert hi
   generalize its.toList = us
   intro hi
   cases hi with
   | nil=>exact absurd rfl hne
   | cons n t _=>exact ⟨_,rfl,n,t,rfl⟩
  obtain rfl:=r.e
  exact ⟨Value.int n' t' :: fs,.cons r.g r.c r.d hf k,congrArg (· + 1) l,fun f hf=>by
   rcases List.mem_cons.mp hf with rfl | hf
   ·exact ⟨n',t',rfl⟩
   ·exact a f hf⟩
end
open PySem PySem.Spec PyProof.Rows L2 PySem.W
section
variable {prog:Program} {w:World} {A:Around} {E:VS7} {s:Shared} {es:Array DictEntry} {d it r:Addr} {ep i:Nat}
theorem WC {Q:VS7} (lo:(d == sysModules) = false) (hm:we es d ep s.heap) (q:Q (.ref s.heap.objs.size) { s with heap:=s.heap.push { cls:=.type "dict_values",data:=.fields #[.ref d] } }) :
  wpAny (model prog w) A (call (.builtin "dict.values") [.ref d]) Q E s:=by
 have hT:s.TypeIs (.ref d) "dict":=hm.typeIs
 refine wpAny_call_entry PySem.F.slot_dict_values hT PySem.F.entry_dict_values ?_ (PySem.F.args_dict_values_1 _)
 unfold Builtin.«dict.values»
 refine wpAny_bind ?_
 unfold Builtin.Dict.noArgs
 refine wpAny_bind (wpAny_notOrdered_dict hT (show wpAny _ _ (pure d) _ _ s from wpAny_pure ?_))
 show wpAny _ _ (Builtin.Dict.showsAll d >>= _) _ _ s
 unfold Builtin.Dict.showsAll
 rw [if_neg (by rw [lo]; exact Bool.false_ne_true)]
 exact wpAny_bind (wpAny_pure (wpAny_bind (wpAny_newObj_type (wpAny_pure ⟨_,rfl,q⟩))))
theorem WD {Q:VS7} (hv:s.heap.IsValuesView r d) (hm:we es d ep s.heap)
  (hQ:Q (.ref s.heap.objs.size) { s with heap:=s.heap.push { cls:=.type "dict_valueiterator",data:=.fields #[.ref d,.int 0 0,.int es.size 0,.int ep 0] } }) :
  wpAny (model prog w) A (pyIter (.ref r)) Q E s:=by
 obtain ⟨ov,hov,hcv,hdv⟩:=id hv
 obtain ⟨o,ho,hc,hdat⟩:=id hm
 refine wpAny_pyIter_slot hv.typeIs PySem.F.slot_dict_values_iter (wpAny_call_entry PySem.F.slot_dict_values_iter hv.typeIs PySem.F.entry_dict_values_iter ?_ (PySem.F.args_dict_values_iter_1 _))
 unfold Builtin.«dict_values.__iter__»
 refine wpAny_bind (wpAny_pure (wpAny_bind ?_))
 unfold Builtin.Dict_items.dictOf
 refine wpAny_bind (wpAny_field hov hdv (x:=.ref d) rfl (wpAny_pure (wpAny_bind ?_)))
 unfold Builtin.Dict_items.newIterator
 refine wpAny_bind (wpAny_dictEntries ho hdat (wpAny_bind (wpAny_dictEpoch ho hdat ?_)))
 have own:Builtin.Dict_items.ownsTuple "dict_valueiterator" = false:=by decide
 simp only [own,Bool.false_eq_true,if_false]
 refine wpAny_newObj_type (wpAny_pure ⟨_,rfl,"dict_valueiterator",_,⟨_,Heap.get?_push_size _ rfl,rfl⟩,PySem.F.slot_dict_valueiterator_next.lookup,?_⟩)
 simpa [rawInt] using hQ
theorem WE {Q:Option Value -> Shared -> Prop} (hit:s.heap.IsValIter it d i es.size ep) (hm:we es d ep s.heap) (hlt:i < es.size)
  (hQ:∀ h',h'.IsValIter it d (i + 1) es.size ep -> Heap.SameBut it s.heap h' -> Q (some es[i].val) { s with heap:=h' }) :
  wpAny (model prog w) A (pyNext (.ref it)) Q E s:=by
 obtain ⟨o,ho,hc,hd⟩:=id hit
 obtain ⟨od,hod,hcd,hdd⟩:=id hm
 unfold pyNext
 refine wpAny_bind (wpAny_attempt (wpAny_callSpecial?_slot (name:=Str.ofString "__next__") hit.typeIs PySem.F.slot_dict_valueiterator_next
  (wpAny_call_entry PySem.F.slot_dict_valueiterator_next hit.typeIs PySem.F.entry_dict_valueiterator_next ?_ (PySem.F.args_dict_valueiterator_next_1 _))))
 refine wpAny_bind (wpAny_pure ?_)
 refine wpAny_bind ?_
 refine wpAny_bind ?_
 first | refine wpAny_bind (wpAny_typeNameOfWhole_valiter hit.typeIs (wpAny_pure ?_)) | refine wpAny_bind (wpAny_typeNameOf_valiter hit.typeIs (wpAny_pure ?_))
 refine wpAny_bind (wpAny_fieldsOf ho hd ?_)
 have hown:Builtin.Dict_items.ownsTuple "dict_valueiterator" = false:=by decide
 simp only [hown,Bool.false_eq_true,if_false]
 show wpAny _ _ (if (Value.ref d == Value.none) = true then _ else _) _ _ s
 rw [if_neg (show ¬ ((Value.ref d == Value.none) = true) from Bool.false_ne_true)]
 refine wpAny_bind (wpAny_pure ?_)
 refine wpAny_bind (wpAny_dictEntries hod hdd ?_)
 rw [if_neg (by simp)]
 refine wpAny_bind (wpAny_pure ?_)
 refine wpAny_bind (wpAny_dictEpoch hod hdd ?_)
 rw [if_neg (by simp)]
 refine wpAny_pure ?_
 simp only [show ¬ ((i:Int) < 0) from by omega,if_false,Int.toNat_natCast,Array.getElem?_eq_getElem hlt]
 refine wpAny_bind ?_
 first | refine wpAny_bind (wpAny_typeNameOfWhole_valiter hit.typeIs (wpAny_pure ?_)) | refine wpAny_bind (wpAny_typeNameOf_valiter hit.typeIs (wpAny_pure ?_))
 refine wpAny_bind (wpAny_isOneOf_valiter hit.typeIs ?_)
 show wpAny _ _ (setField (.ref it) 1 (rawInt ((i:Int) + 1)) >>= _) _ _ s
 refine wpAny_bind (wpAny_setField ho hd (by simp) ?_)
 have hit':(s.heap.update it (Obj.mapFields (·.setIfInBounds 1 (rawInt ((i:Int) + 1))))).IsValIter it d (i + 1) es.size ep :=
  ⟨_,Heap.get?_update_self _ ho (Obj.isFreed_of_fields (Obj.data_mapFields hd _)),(Obj.cls_mapFields ..).trans hc,by rw [Obj.data_mapFields hd]; simp [rawInt]⟩
 refine wpAny_bind (wpAny_holding ?_)
 refine wpAny_bind (wpAny_isOneOf_valiter (s:={ s with heap:=s.heap.update it (Obj.mapFields (·.setIfInBounds 1 (rawInt ((i:Int) + 1)))) }) hit'.typeIs ?_)
 refine wpAny_bind (wpAny_isOneOf_valiter (s:={ s with heap:=s.heap.update it (Obj.mapFields (·.setIfInBounds 1 (rawInt ((i:Int) + 1)))) }) hit'.typeIs ?_)
 show wpAny _ _ (pure es[i].val) _ _ _
 exact wpAny_pure (wpAny_pure ⟨_,rfl,wpAny_pure (hQ _ hit' (Heap.SameBut.update ..))⟩)
theorem VW {Q:Option Value -> Shared -> Prop} (hh:A.handled = none) (hit:s.heap.IsValIter it d es.size es.size ep) (hm:we es d ep s.heap)
  (hQ:∀ h',Heap.ExtBut it s.heap h' -> Q none { s with heap:=h' }):wpAny (model prog w) A (pyNext (.ref it)) Q E s:=by
 obtain ⟨o,ho,hc,hd⟩:=id hit
 obtain ⟨od,hod,hcd,hdd⟩:=id hm
 unfold pyNext
 refine wpAny_bind (wpAny_attempt (wpAny_callSpecial?_slot (name:=Str.ofString "__next__") hit.typeIs PySem.F.slot_dict_valueiterator_next
  (wpAny_call_entry PySem.F.slot_dict_valueiterator_next hit.typeIs PySem.F.entry_dict_valueiterator_next ?_ (PySem.F.args_dict_valueiterator_next_1 _))))
 refine wpAny_bind (wpAny_pure ?_)
 refine wpAny_bind ?_
 refine wpAny_bind ?_
 first | refine wpAny_bind (wpAny_typeNameOfWhole_valiter hit.typeIs (wpAny_pure ?_)) | refine wpAny_bind (wpAny_typeNameOf_valiter hit.typeIs (wpAny_pure ?_))
 refine wpAny_bind (wpAny_fieldsOf ho hd ?_)
 have hown:Builtin.Dict_items.ownsTuple "dict_valueiterator" = false:=by decide
 simp only [hown,Bool.false_eq_true,if_false]
 show wpAny _ _ (if (Value.ref d == Value.none) = true then _ else _) _ _ s
 rw [if_neg (show ¬ ((Value.ref d == Value.none) = true) from Bool.false_ne_true)]
 refine wpAny_bind (wpAny_pure ?_)
 refine wpAny_bind (wpAny_dictEntries hod hdd ?_)
 rw [if_neg (by simp)]
 refine wpAny_bind (wpAny_pure ?_)
 refine wpAny_bind (wpAny_dictEpoch hod hdd ?_)
 rw [if_neg (by simp)]
 refine wpAny_pure ?_
 simp only [show ¬ ((es.size:Int) < 0) from by omega,if_false,Int.toNat_natCast,Array.getElem?_eq_none (Nat.le_refl es.size)]
 refine wpAny_bind ?_
 first | refine wpAny_bind (wpAny_typeNameOfWhole_valiter hit.typeIs (wpAny_pure ?_)) | refine wpAny_bind (wpAny_typeNameOf_valiter hit.typeIs (wpAny_pure ?_))
 show wpAny _ _ (setField (.ref it) 0 .none >>= _) _ _ s
 refine wpAny_bind (wpAny_setField ho hd (by simp) ?_)
 show wpAny _ _ (newExc (.type "StopIteration") [] >>= _) _ _ _
 refine wpAny_bind ?_
 simp only [newExc,newTuple]
 refine wpAny_bind (wpAny_newObj_type ?_ (by size_fits))
 refine wpAny_bind (m:=firstArgMember _ _) (wpAny_of_eq (a:=Value.none) (by first | rfl | (simp only [firstArgMember]; rfl)) ?_)
 refine wpAny_newObj_type ?_ (by size_fits)
 simp only [raiseNew]
 refine wpAny_bind (wpAny_handled ?_)
 rw [show A.in1.handled = none from hh]
 refine wpAny_bind (wpAny_pure (wpAny_throw ?_))
 refine wpAny_bind (wpAny_isInstance (T:="StopIteration") (b:=true) ⟨_,Heap.get?_push_size _ rfl,rfl⟩ isSubtype_stop ?_)
 exact wpAny_pure (hQ _ (((Heap.SameBut.update ..).extBut.push _).push _))
theorem Xv (hh:A.handled = none) (I d:Addr) (hne:d ≠ I) (es:Array DictEntry) (ep:Nat) :
  Walks prog w A I [I,d] [I] es.size (fun i v=>∃ h:i < es.size,v = es[i].val) (fun i h=>h.IsValIter I d i es.size ep /\ we es d ep h) where
 sub:=fun b hb=>by simp at hb; simp [hb]
 frame:=fun _ _ _ st hk=>⟨st.1.at fun o e=>hk I (by simp) o e,st.2.keep fun o e=>hk d (by simp) o e⟩
 item:=fun i s Q E hi st hQ=>by
  refine WE st.1 st.2 hi fun h' hit' hs'=>?_
  exact hQ _ h' s.toks ⟨hi,rfl⟩ ⟨hit',st.2.keep fun o e=>hs'.extBut d o hne e⟩ fun b o hb e=>hs'.extBut b o (fun h=>hb (by simp [h])) e
 done:=fun s Q E st hQ=>VW hh st.1 st.2 fun h' he'=>hQ h' s.toks fun b o hb e=>he' b o (fun h=>hb (by simp [h])) e
 self:=fun _ _ _ _ st hQ=>wpAny_pyIter_valiter st.1 hQ
theorem VX:KdlSrc prog w "dict_values" r d es.size (fun i v=>∃ h:i < es.size,v = es[i].val) (fun h=>h.IsValuesView r d /\ we es d ep h) where
 type:=fun _ hm=>hm.1.typeIs
 there:=fun _ hm=>⟨let ⟨_,ho,_⟩:=hm.1; Heap.lt_size ho,let ⟨_,ho,_⟩:=hm.2; Heap.lt_size ho⟩
 keep:=fun _ _ hm hk=>⟨let ⟨o,ho,x⟩:=hm.1; ⟨o,hk r (.inl rfl) o ho,x⟩,hm.2.keep fun o e=>hk d (.inr rfl) o e⟩
 notList:=by decide
 notTuple:=by decide
 hint:=fun _ _ _ _ hm hq=>kdl_hint_values hm.1.typeIs hq
 iter:=fun _ _ hh hm=>⟨_,_,(fun _ _ hq=>WD hm.1 hm.2 hq),Xv hh _ d (let ⟨_,ho,_⟩:=hm.2; Nat.ne_of_lt (Heap.lt_size ho)) es ep,⟨⟨_,Heap.get?_push_size _ rfl,rfl,rfl⟩,hm.2.keep fun o e=>Heap.get?_push_of_some _ e⟩⟩
end
theorem Xw {H:Hp}:∀ {kvs:List (List Key × V)} {ys:List (List Key × Addr × Value)},KT H kvs ys -> Vals (kvs.map (·.2)) (ys.map fun q=>q.2.2)
 | _,_,.nil=>.nil
 | _,_,.cons h t=>.cons h.2.2 (Xw t)
section
variable {X:Cx} {o:Expr} {to:TE} {p pos apos cpos:Pos}
def WF (to:TE):TE:=fun σ H Q=>to σ H fun x H1=>∃ a kvs,x = V.ref a /\ H1 a = some (.dT kvs) /\ ∀ l,H1 l = none -> Q (.ref l) (upd H1 l (.tup (kvs.map (·.2))))
theorem Z7 {k:Nat} (hr:Room k X.A) (hgl:Gl X "tuple") (hmt:X.mg "tuple" = none) (ho:PE X o to)
  (hbase:attributeBase o "values" X.env (eval o X.env) = eval o X.env:=by rfl) (hline:(apos.endLine == cpos.line) = true:=by rfl)
  (hs2:starEach [(.Call (.Attribute o "values" apos) [] [] cpos:Expr)] X.env = [(false,eval (.Call (.Attribute o "values" apos) [] [] cpos) X.env)]:=by rfl) :
  PE X (.Call (.Name "tuple" p) [.Call (.Attribute o "values" apos) [] [] cpos] [] pos) (WF to):=by
 intro pins s σ H Q I h
 refine wpAny_Call_Name_kw (wP I hgl hmt zH (PyProof.Rows.callWith_type1 ?_ hs2 rfl))
 rw [hs2]
 show wpAny _ _ (spliced [(false,eval (.Call (.Attribute o "values" apos) [] [] cpos) X.env)]) _ _ s
 refine Calls.spliced_cons ?_
 refine wpAny_Call_method0_late hbase hline (thn (ho pins s σ H _ I h) fun v s1 ⟨x,H1,I1,r1,a,kvs,ex,ha,q⟩=>?_)
 subst ex
 obtain rfl:v = Value.ref a:=r1
 obtain ⟨z,hd,ys,rel,dd⟩:=Xb I1.hok ha
 obtain ⟨ob,es,ep,e0,hc,hdat,he,_,_⟩:=dd
 have hl:kvs.length = ys.length:=Paired.length rel
 have hes:es.size = ys.length:=size_of_entries he
 have em:we es a ep s1.heap:=⟨ob,e0,hc,hdat⟩
 refine ⟨"dict","dict.values",PySem.F.plainAttrs_dict,PySem.F.slot_dict_values,PySem.F.type_dict_values,em.typeIs,fun b e=>by cases e; exact ⟨ob,e0,hc.2.1⟩,Calls.callWith_builtin rfl (PySem.evalArgs_none (WC hd em (Calls.spliced_nil ?_)))⟩
 have em':we es a ep (s1.heap.push { cls:=.type "dict_values",data:=.fields #[.ref a] }):=em.keep fun o e=>Heap.get?_push_of_some _ e
 have I2:Inv X pins σ H1 { s1 with heap:=s1.heap.push { cls:=.type "dict_values",data:=.fields #[.ref a] } }:=I1.kept (t':=s1.toks) fun b o e=>Heap.get?_push_of_some _ e
 refine wX (s:={ s1 with heap:=s1.heap.push { cls:=.type "dict_values",data:=.fields #[.ref a] } }) (VX (es:=es) (ep:=ep) (d:=a) (r:=s1.heap.objs.size)) hr.hd ⟨⟨_,Heap.get?_push_size _ rfl,rfl,rfl⟩,em'⟩ (by rw [hes,← hl]; exact z) fun h' tk acc' kp hI=>?_
 have hacc:acc'.toList = ys.map fun q=>q.2.2:=by
  apply List.ext_getElem
  ·rw [Array.length_toList,hI.1,hes,List.length_map]
  ·intro j h1 h2
   rw [Array.length_toList] at h1
   obtain ⟨hj,ev⟩:=hI.2 j acc'[j] (Array.getElem?_eq_getElem h1)
   have hy:j < ys.length:=by omega
   have ee:=entry_at he j
   rw [Array.getElem?_eq_getElem hj,List.getElem?_eq_getElem hy,Option.map_some] at ee
   rw [Array.getElem_toList,ev,Option.some.inj ee,List.getElem_map]
   rfl
 have fr:H1 h'.objs.size = none:=(I2.kept (t':=tk) kp).hok.fresh (Nat.le_refl _)
 refine ⟨.ref h'.objs.size,_,(I2.kept (t':=tk) kp).laid (t':=tk) (o:=.tup (kvs.map (·.2))) (fun b ob q=>Heap.get?_push_of_some _ q) (Nat.le_refl _) ⟨by rw [List.length_map]; exact z,acc'.toList,by rw [hacc]; exact Xw rel,?_⟩,rfl,q _ fr⟩
 rw [Array.toArray_toList]
 exact IsTup.new _ _
end
structure Nm (S:Nat) (π:List Int):Prop where
 l:π.length = S
 pm:π.Perm (idL S)
def ap (π:List Int) (i:Int):Int:=π.getD i.toNat 0
theorem qq {l:List Int} {i:Nat} (h:i < l.length):l.getD i 0 ∈ l:=by
 rw [List.getD_eq_getElem?_getD,List.getElem?_eq_getElem h]; exact List.getElem_mem h
theorem jJ {S:Nat} {i:Int}:i ∈ idL S ↔ 0 <= i /\ i < S:=by
 unfold idL
 rw [List.mem_map]
 constructor
 ·rintro ⟨k,hk,rfl⟩
  have:=List.mem_range.mp hk
  omega
 ·rintro ⟨h0,h1⟩
  exact ⟨i.toNat,List.mem_range.mpr (by omega),by omega⟩
theorem Xx (S:Nat):(idL S).Nodup:=by
 unfold idL
 exact List.Pairwise.map _ (fun a b h z=>h (by omega)) (List.nodup_range (n:=S))
section
variable {S:Nat} {π:List Int}
theorem Nm.rng (h:Nm S π) {i:Int} (h0:0 <= i) (h1:i < S):0 <= ap π i /\ ap π i < S:=jJ.mp (h.pm.mem_iff.mp (qq (by rw [h.l]; omega)))
theorem Nm.inj (h:Nm S π) {i j:Int} (i0:0 <= i) (i1:i < S) (j0:0 <= j) (j1:j < S) (e:ap π i = ap π j):i = j:=by
 have hi:i.toNat < π.length:=by rw [h.l]; omega
 have hj:j.toNat < π.length:=by rw [h.l]; omega
 have e':π[i.toNat] = π[j.toNat]:=by
  unfold ap at e
  rwa [List.getD_eq_getElem?_getD,List.getD_eq_getElem?_getD,List.getElem?_eq_getElem hi,List.getElem?_eq_getElem hj] at e
 have:=(List.getElem_inj (h.pm.nodup_iff.mpr (Xx S))).mp e'
 omega
def un (π:List Int) (j:Int):Int:=(π.idxOf j:Nat)
theorem Nm.un (h:Nm S π) {j:Int} (j0:0 <= j) (j1:j < S):0 <= L3.un π j /\ L3.un π j < S /\ ap π (L3.un π j) = j:=by
 have hm:j ∈ π:=h.pm.mem_iff.mpr (jJ.mpr ⟨j0,j1⟩)
 have hl:π.idxOf j < π.length:=List.idxOf_lt_length_of_mem hm
 have hS:=h.l
 refine ⟨Int.natCast_nonneg _,by show ((π.idxOf j:Nat):Int) < S; omega,?_⟩
 show π.getD ((π.idxOf j:Nat):Int).toNat 0 = j
 rw [Int.toNat_natCast,List.getD_eq_getElem?_getD,List.getElem?_eq_getElem hl]
 exact List.getElem_idxOf hl
theorem Nm.un_ap (h:Nm S π) {i:Int} (i0:0 <= i) (i1:i < S):L3.un π (ap π i) = i:=by
 obtain ⟨a,b⟩:=h.rng i0 i1
 obtain ⟨c,d,e⟩:=h.un a b
 exact h.inj c d i0 i1 e
def ren (π d:List Int):List Int:=(idL π.length).map fun j=>ap π (ap d (un π j))
theorem jK:(ren π d).length = π.length:=by unfold ren idL; rw [List.length_map,List.length_map,List.length_range]
theorem UW {f:Int -> Int} {i:Int} (h0:0 <= i) (h1:i < S):ap ((idL S).map f) i = f i:=by
 unfold ap
 have hl:i.toNat < (idL S).length:=by unfold idL; rw [List.length_map,List.length_range]; omega
 rw [List.getD_eq_getElem?_getD,List.getElem?_map,List.getElem?_eq_getElem hl]
 show f ((idL S)[i.toNat]) = f i
 congr 1
 have e:=sP h0 h1
 rwa [List.getD_eq_getElem?_getD,List.getElem?_eq_getElem hl] at e
theorem Nm.ren_ap (h:Nm S π) {d:List Int} {j:Int} (j0:0 <= j) (j1:j < S):ap (ren π d) j = ap π (ap d (L3.un π j)):=by
 unfold ren; rw [h.l]; exact UW j0 j1
theorem WG {d:List Int} (hd:Dd S d) {i:Int} (h0:0 <= i) (h1:i < S):0 <= ap d i /\ ap d i < S:=hd.2 _ (qq (by rw [hd.1]; omega))
theorem Nm.ren_dd (h:Nm S π) {d:List Int} (hd:Dd S d):Dd S (ren π d):=by
 refine ⟨jK.trans h.l,fun v hv=>?_⟩
 unfold ren at hv
 obtain ⟨j,hj,rfl⟩:=List.mem_map.mp hv
 rw [h.l] at hj
 obtain ⟨j0,j1⟩:=jJ.mp hj
 obtain ⟨c,e,_⟩:=h.un j0 j1
 obtain ⟨x,y⟩:=WG hd c e
 exact h.rng x y
theorem Xy {a b:List Int} (ha:a.length = S) (hb:b.length = S) (h:∀ i:Int,0 <= i -> i < S -> ap a i = ap b i):a = b:=by
 refine List.ext_getElem (by rw [ha,hb]) fun i h1 h2=>?_
 have:=h (i:Int) (by omega) (by omega)
 unfold ap at this
 rwa [Int.toNat_natCast,List.getD_eq_getElem?_getD,List.getD_eq_getElem?_getD,List.getElem?_eq_getElem h1,List.getElem?_eq_getElem h2] at this
theorem Xz {a b:List Int} (ha:Dd S a) {i:Int} (h0:0 <= i) (h1:i < S):ap (zC a b) i = ap b (ap a i):=by
 unfold ap zC
 have hl:i.toNat < a.length:=by rw [ha.1]; omega
 rw [List.getD_eq_getElem?_getD,List.getElem?_map,List.getD_eq_getElem?_getD (l:=a),List.getElem?_eq_getElem hl]; rfl
theorem Nm.ren_then (h:Nm S π) {a b:List Int} (ha:Dd S a) (hb:Dd S b):zC (ren π a) (ren π b) = ren π (zC a b):=by
 refine Xy (S:=S) (qg.trans (h.ren_dd ha).1) (jK.trans h.l) fun j j0 j1=>?_
 obtain ⟨c,e,_⟩:=h.un j0 j1
 obtain ⟨x,y⟩:=WG ha c e
 obtain ⟨p,q⟩:=h.rng x y
 rw [Xz (h.ren_dd ha) j0 j1,h.ren_ap j0 j1,h.ren_ap p q,h.un_ap x y,h.ren_ap j0 j1,Xz ha c e]
theorem UX {i:Int} (h0:0 <= i) (h1:i < S):ap (idL S) i = i:=sP h0 h1
theorem Nm.ren_id (h:Nm S π):ren π (idL S) = idL S:=by
 refine Xy (S:=S) (jK.trans h.l) (Xk S).1 fun j j0 j1=>?_
 obtain ⟨c,e,f⟩:=h.un j0 j1
 rw [h.ren_ap j0 j1,UX c e,f,UX j0 j1]
theorem Nm.ren_inj (h:Nm S π) {a b:List Int} (ha:Dd S a) (hb:Dd S b) (e:ren π a = ren π b):a = b:=by
 refine Xy ha.1 hb.1 fun i i0 i1=>?_
 obtain ⟨p,q⟩:=h.rng i0 i1
 have z:ap (ren π a) (ap π i) = ap (ren π b) (ap π i):=by rw [e]
 rw [h.ren_ap p q,h.ren_ap p q,h.un_ap i0 i1] at z
 obtain ⟨x,y⟩:=WG ha i0 i1
 obtain ⟨x',y'⟩:=WG hb i0 i1
 exact h.inj x y x' y' z
def rnF (π:List Int) (f:FW):FW:=f.map fun p=>(ren π p.1,p.2)
theorem Nm.word (h:Nm S π) {d:List Int} (hd:Dd S d):∀ {f:FW},(∀ k ∈ zu f,Dd S k) -> yh (rnF π f) (ren π d) = yh f d
 | [],_=>rfl
 | p :: f,hf=>by
  have hp:=hf p.1 List.mem_cons_self
  have ih:=h.word hd (f:=f) fun k hk=>hf k (List.mem_cons_of_mem _ hk)
  unfold yh rnF at ih ⊢
  rw [List.map_cons,List.find?_cons,List.find?_cons]
  by_cases e:p.1 = d
  ·have e':ren π p.1 = ren π d:=by rw [e]
   simp only [decide_eq_true e,decide_eq_true e']; rfl
  ·have e':¬ ren π p.1 = ren π d:=fun z=>e (h.ren_inj hp hd z)
   simp only [decide_eq_false e,decide_eq_false e']
   exact ih
def rnP (π:List Int) (fm:FW × List (List Int)):FW × List (List Int):=(rnF π fm.1,fm.2.map (ren π))
theorem Nm.step (h:Nm S π) {d m:List Int} {n:Nat} {fm:FW × List (List Int)} (hd:Dd S d) (hm:Dd S m) (hf:∀ k ∈ zu fm.1,Dd S k):xv (ren π d) (rnP π fm) n (ren π m) = rnP π (xv d fm n m):=by
 have e1:=h.word (uz hd hm) hf
 have e2:=h.word hd hf
 unfold xv
 rw [h.ren_then hd hm]
 show (if (yh (rnF π fm.1) (ren π (zC d m))).isSome = true then rnP π fm else _) = _
 rw [e1]
 by_cases c:(yh fm.1 (zC d m)).isSome = true
 ·rw [if_pos c,if_pos c]
 ·rw [if_neg c,if_neg c]
  unfold rnP rnF
  show (_ ++ [(_,(yh (rnF π fm.1) (ren π d)).getD [] ++ [(n:Int)])],_) = _
  rw [e2]
  simp only [List.map_append,List.map_cons,List.map_nil]
theorem Zz {ms:List (List Int)} {i:Nat} (hi:i < ms.length):(ms.map (ren π)).getD i [] = ren π (ms.getD i []):=by
 rw [List.getD_eq_getElem?_getD,List.getD_eq_getElem?_getD,List.getElem?_map,List.getElem?_eq_getElem hi]; rfl
variable {ms:List (List Int)}
theorem Nm.row (h:Nm S π) (hM:Mks ms S) {d:List Int} {fm:FW × List (List Int)} (hd:Word ms S d) (hf:GoodF ms S fm.1):∀ i,i <= ms.length -> fRow (ms.map (ren π)) (ren π d) i (rnP π fm) = rnP π (fRow ms d i fm)
 | 0,_=>rfl
 | i + 1,hi=>by
  have ih:=h.row hM hd hf i (by omega)
  show xv (ren π d) (fRow (ms.map (ren π)) (ren π d) i (rnP π fm)) i ((ms.map (ren π)).getD i []) = rnP π (xv d (fRow ms d i fm) i (ms.getD i []))
  rw [ih,Zz (by omega)]
  exact h.step (hd.dd hM) (hM _ (yW (by omega))) fun k hk=>((u8 hf hd i (by omega)).wd k hk).dd hM
theorem Nm.pass (h:Nm S π) (hM:Mks ms S) {last:List (List Int)} {fm:FW × List (List Int)} (hd:∀ d ∈ last,Word ms S d) (hf:GoodF ms S fm.1):∀ j,j <= last.length -> yD (ms.map (ren π)) (last.map (ren π)) j (rnP π fm) = rnP π (yD ms last j fm)
 | 0,_=>rfl
 | j + 1,hj=>by
  have ih:=h.pass hM hd hf j (by omega)
  show fRow (ms.map (ren π)) ((last.map (ren π)).getD j []) (ms.map (ren π)).length (yD (ms.map (ren π)) (last.map (ren π)) j (rnP π fm)) = rnP π (fRow ms (last.getD j []) ms.length (yD ms last j fm))
  rw [ih,Zz (by omega),List.length_map]
  exact h.row hM (hd _ (yW (by omega))) (vU hf hd j (by omega)) _ (Nat.le_refl _)
theorem Nm.few (h:Nm S π) (hM:Mks ms S) (hf:Few ms S):Few (ms.map (ren π)) S:=by
 obtain ⟨l,hl,ha⟩:=hf
 refine ⟨l.map (ren π),by rw [List.length_map]; exact hl,fun d hd=>?_⟩
 have key:∃ d',Word ms S d' /\ ren π d' = d:=by
  induction hd with
  | id=>exact ⟨_,.id,h.ren_id⟩
  | more _ hm ih =>
   obtain ⟨d',hd',rfl⟩:=ih
   obtain ⟨m',hm',rfl⟩:=List.mem_map.mp hm
   exact ⟨_,.more hd' hm',(h.ren_then (hd'.dd hM) (hM m' hm')).symm⟩
 obtain ⟨d',hd',rfl⟩:=key
 exact List.mem_map.mpr ⟨d',ha d' hd',rfl⟩
theorem Nm.ixF (h:Nm S π) {d:List Int} (hd:Dd S d):∀ {fam:List (List Int)},(∀ k ∈ fam,Dd S k) -> ixF (fam.map (ren π)) (ren π d) = L3.ixF fam d
 | [],_=>rfl
 | k :: fam,hf=>by
  have ih:=h.ixF hd (fam:=fam) fun k hk=>hf k (List.mem_cons_of_mem _ hk)
  rw [List.map_cons]
  unfold L3.ixF
  by_cases e:k = d
  ·rw [if_pos e,if_pos (by rw [e])]
  ·rw [if_neg e,if_neg (fun z=>e (h.ren_inj (hf k List.mem_cons_self) hd z)),ih]
theorem Nm.own (h:Nm S π) {fam:List (List Int)} (hF:Fam S fam):ownT (fam.map (ren π)) = ownT fam:=by
 unfold ownT
 rw [List.map_map]
 refine List.map_congr_left fun a ha=>?_
 show (fam.map (ren π)).map (fun b=>(L3.ixF (fam.map (ren π)) (zC (ren π a) b):Int)) = _
 rw [List.map_map]
 refine List.map_congr_left fun b hb=>?_
 show ((L3.ixF (fam.map (ren π)) (zC (ren π a) (ren π b)):Nat):Int) = _
 rw [h.ren_then (hF.dd a ha) (hF.dd b hb),h.ixF (uz (hF.dd a ha) (hF.dd b hb)) hF.dd]
end
theorem Word.sub {ms ms':List (List Int)} {S:Nat} (hM:Mks ms' S) (h:∀ m ∈ ms,Word ms' S m) {d:List Int} (hd:Word ms S d):Word ms' S d:=by
 induction hd with
 | id=>exact .id
 | more _ hm ih=>exact ih.mul hM (h _ hm)
theorem Few.sub {ms ms':List (List Int)} {S:Nat} (hM:Mks ms S) (h2:∀ m ∈ ms',Word ms S m) (hf:Few ms S):Few ms' S:=by
 obtain ⟨l,hl,ha⟩:=hf
 exact ⟨l,hl,fun d hd=>ha d (hd.sub hM h2)⟩
theorem KvF.vals {K:FG7} {H:Hp}:∀ {kvs:List (List Key × V)} {f:FW},KvF K H kvs f -> AllR (zo K H) (kvs.map (·.2)) (f.map (·.2))
 | [],[],_=>trivial
 | _ :: _,_ :: _,⟨h,t⟩=>⟨h.2,t.vals⟩
 | [],_ :: _,h=>h.elim
 | _ :: _,[],h=>h.elim
def t3 (K:FG7):Sp:=sp1 fun x H Q=>∃ (ms:List (List Int)) (S:Nat),MksAt K H x ms S /\ ∀ y f H',Grow [] H H' -> yk K H' y (f.map (·.2)) -> FamL ms S f -> Q y H'
section
variable {K:FG7} {H H':Hp} {x:V} {rows:List (List Int)}
theorem XA:(PyData.list (rows.map rowD)).depth <= 100:=Nat.le_trans (Nat.succ_le_succ (Zn rows)) (by decide)
end
theorem MksAt.turn {K:FG7} {H H':Hp} {x y:V} {ms ms':List (List Int)} {S:Nat} (h:MksAt K H x ms S) (r:yk K H' y ms') (w:∀ m ∈ ms',Word ms S m) (m1:1 <= ms'.length) (m4:ms'.length <= 4):MksAt K H' y ms' S :=
 ⟨r,fun m hm=>(w m hm).dd h.ok,h.s1,h.s5,m1,m4,Few.sub h.ok w h.few⟩
theorem XB {d:Deed} (ok:d.Ok) (v:Int):d.mk' v <= d.mk' (v + 1) /\ d.mk' (v + 1) <= d.mk' v + 1:=by
 refine ⟨wp (by omega),?_⟩
 obtain ⟨a,lo,hi⟩:=d
 show zX hi (zW lo (v + 1 + a)) <= zX hi (zW lo (v + a)) + 1
 cases lo with
 | none =>
  cases hi with
  | none=>show v + 1 + a <= v + a + 1; omega
  | some h=>show (if h < v + 1 + a then h else v + 1 + a) <= (if h < v + a then h else v + a) + 1; split <;> split <;> omega
 | some l =>
  cases hi with
  | none=>show (if l > v + 1 + a then l else v + 1 + a) <= (if l > v + a then l else v + a) + 1; split <;> split <;> omega
  | some h =>
   have o:l < h \/ (l = h /\ a = 0):=ok l h rfl rfl
   show (if h < (if l > v + 1 + a then l else v + 1 + a) then h else (if l > v + 1 + a then l else v + 1 + a)) <= (if h < (if l > v + a then l else v + a) then h else (if l > v + a then l else v + a)) + 1
   repeat' split
   all_goals omega
theorem VY {d:Deed} (ok:d.Ok) (v:Int):d.mk' (v + 1) = d.mk' v + 1 ↔ (∀ l,d.lo = some l -> l <= v + d.add) /\ ∀ h,d.hi = some h -> v + d.add < h:=by
 obtain ⟨a,lo,hi⟩:=d
 show zX hi (zW lo (v + 1 + a)) = zX hi (zW lo (v + a)) + 1 ↔ (∀ l,lo = some l -> l <= v + a) /\ ∀ h,hi = some h -> v + a < h
 cases lo with
 | none =>
  cases hi with
  | none=>exact ⟨fun _=>⟨(fun _ z=>nomatch z),(fun _ z=>nomatch z)⟩,fun _=>by show v + 1 + a = v + a + 1; omega⟩
  | some h =>
   refine ⟨fun e=>⟨(fun _ z=>nomatch z),fun h' z=>?_⟩,fun e=>?_⟩
   ·cases z
    have e':(if h < v + 1 + a then h else v + 1 + a) = (if h < v + a then h else v + a) + 1:=e
    split at e' <;> split at e' <;> omega
   ·have:=e.2 h rfl
    show (if h < v + 1 + a then h else v + 1 + a) = (if h < v + a then h else v + a) + 1
    split <;> split <;> omega
 | some l =>
  cases hi with
  | none =>
   refine ⟨fun e=>⟨fun l' z=>?_,(fun _ z=>nomatch z)⟩,fun e=>?_⟩
   ·cases z
    have e':(if l > v + 1 + a then l else v + 1 + a) = (if l > v + a then l else v + a) + 1:=e
    split at e' <;> split at e' <;> omega
   ·have:=e.1 l rfl
    show (if l > v + 1 + a then l else v + 1 + a) = (if l > v + a then l else v + a) + 1
    split <;> split <;> omega
  | some h =>
   have o:l < h \/ (l = h /\ a = 0):=ok l h rfl rfl
   have key:((if h < (if l > v + 1 + a then l else v + 1 + a) then h else (if l > v + 1 + a then l else v + 1 + a)) = (if h < (if l > v + a then l else v + a) then h else (if l > v + a then l else v + a)) + 1) ↔ l <= v + a /\ v + a < h:=by
    constructor
    ·intro e
     repeat' (split at e)
     all_goals omega
    ·intro e
     repeat' split
     all_goals omega
   refine ⟨fun e=>?_,fun e=>key.mpr ⟨e.1 l rfl,e.2 h rfl⟩⟩
   obtain ⟨h1,h2⟩:=key.mp e
   exact ⟨fun l' z=>by cases z; exact h1,fun h' z=>by cases z; exact h2⟩
theorem Tz {d:Deed} (ok:d.Ok) {i j k:Int} (h1:i <= j) (h2:j <= k) (e1:d.mk' (i + 1) = d.mk' i + 1) (e2:d.mk' (k + 1) = d.mk' k + 1):d.mk' (j + 1) = d.mk' j + 1:=by
 obtain ⟨a1,_⟩:=(VY ok i).mp e1
 obtain ⟨_,b2⟩:=(VY ok k).mp e2
 exact (VY ok j).mpr ⟨fun l z=>by have:=a1 l z; omega,fun h z=>by have:=b2 h z; omega⟩
def tabD (S:Nat) (d:Deed):List Int:=(List.range S).map fun i:Nat=>d.mk' (i:Int)
def Kp68 (S:Nat) (d:Deed):Prop:=d.Ok /\ ∀ i:Int,0 <= i -> i < S -> 0 <= d.mk' i /\ d.mk' i < S
theorem xy {S:Nat} {d:Deed} {i:Nat} (h:i < S):(tabD S d)[i]? = some (d.mk' (i:Int)):=by
 unfold tabD; rw [List.getElem?_map,List.getElem?_range h]; rfl
theorem t5 {S:Nat} {d:Deed} {i:Int} (h0:0 <= i) (h:i < S):(tabD S d).getD i.toNat 0 = d.mk' i:=by
 rw [List.getD_eq_getElem?_getD,xy (by omega)]
 show d.mk' ((i.toNat:Nat):Int) = _
 rw [Int.toNat_of_nonneg h0]
theorem yr {S:Nat} {d:Deed}:(tabD S d).length = S:=by unfold tabD; rw [List.length_map,List.length_range]
theorem sU {S:Nat} {d:Deed} (h:Kp68 S d):Dd S (tabD S d):=by
 refine ⟨yr,fun v hv=>?_⟩
 obtain ⟨i,hi,rfl⟩:=List.mem_map.mp hv
 exact h.2 i (by omega) (by have:=List.mem_range.mp hi; omega)
theorem XC {S:Nat}:Kp68 S look:=⟨(fun _ _ z=>nomatch z),fun i h0 h1=>by
 have e:look.mk' i = i:=w4 i
 rw [e]; exact ⟨h0,h1⟩⟩
theorem vW {S:Nat}:tabD S look = idL S:=by
 unfold tabD idL
 exact List.map_congr_left fun i _=>w4 _
theorem Kp68.join {S:Nat} {a b:Deed} (ha:Kp68 S a) (hb:Kp68 S b):Kp68 S (zV a b):=⟨yu ha.1 hb.1,fun i h0 h1=>by
 rw [yV ha.1 hb.1]
 exact hb.2 _ (ha.2 i h0 h1).1 (ha.2 i h0 h1).2⟩
theorem vX {S:Nat} {a b:Deed} (ha:Kp68 S a) (hb:b.Ok):tabD S (zV a b) = zC (tabD S a) (tabD S b):=by
 unfold zC
 conv=>rhs; unfold tabD
 rw [List.map_map]
 refine List.map_congr_left fun i hi=>?_
 have hi':=List.mem_range.mp hi
 have h:=ha.2 i (by omega) (by omega)
 show (zV a b).mk' i = (tabD S b).getD (a.mk' i).toNat 0
 rw [yV ha.1 hb,t5 h.1 h.2]
def allT (S:Nat):Nat -> List (List Int)
 | 0=>[[]]
 | n + 1=>(List.range S).flatMap fun v:Nat=>(allT S n).map fun t=>(v:Int) :: t
theorem tj {S:Nat}:∀ {t:List Int},Rng S t -> t ∈ allT S t.length
 | [],_=>List.mem_singleton.mpr rfl
 | v :: t,h=>by
  have hv:=h v (List.mem_cons_self ..)
  refine List.mem_flatMap.mpr ⟨v.toNat,List.mem_range.mpr (by omega),List.mem_map.mpr ⟨t,tj fun x hx=>h x (List.mem_cons_of_mem _ hx),?_⟩⟩
  rw [Int.toNat_of_nonneg hv.1]
def UY (t:List Int) (i:Nat):Bool:=decide (t.getD i 0 <= t.getD (i + 1) 0) && decide (t.getD (i + 1) 0 <= t.getD i 0 + 1)
def ZA (t:List Int) (i:Nat):Bool:=decide (t.getD (i + 1) 0 = t.getD i 0 + 1)
def Z8 (t:List Int):Bool:=(List.range (t.length - 1)).all (UY t) && (List.range (t.length - 1)).all fun i=>(List.range (t.length - 1)).all fun j=>(List.range (t.length - 1)).all fun k=>!(decide (i <= j) && decide (j <= k) && ZA t i && ZA t k) || ZA t j
theorem TB:∀ S:Fin 6,((allT S.val S.val).filter Z8).length <= 60:=by decide +kernel
theorem qr {S:Nat} {d:Deed} (ok:d.Ok):Z8 (tabD S d) = true:=by
 have g:∀ i:Nat,i < S -> (tabD S d).getD i 0 = d.mk' (i:Int):=fun i hi=>by rw [List.getD_eq_getElem?_getD,xy hi]; rfl
 unfold Z8
 rw [yr,Bool.and_eq_true]
 refine ⟨List.all_eq_true.mpr fun i hi=>?_,List.all_eq_true.mpr fun i hi=>List.all_eq_true.mpr fun j hj=>List.all_eq_true.mpr fun k hk=>?_⟩
 ·have:=List.mem_range.mp hi
  unfold UY
  rw [g i (by omega),g (i + 1) (by omega),Bool.and_eq_true,decide_eq_true_iff,decide_eq_true_iff]
  exact XB ok i
 ·have:=List.mem_range.mp hi
  have:=List.mem_range.mp hj
  have:=List.mem_range.mp hk
  unfold ZA
  rw [g i (by omega),g (i + 1) (by omega),g j (by omega),g (j + 1) (by omega),g k (by omega),g (k + 1) (by omega)]
  by_cases c:d.mk' ((j + 1:Nat):Int) = d.mk' (j:Int) + 1
  ·rw [decide_eq_true c,Bool.or_true]
  ·rw [Bool.or_eq_true]
   refine .inl ?_
   rw [Bool.not_eq_true']
   rw [Bool.eq_false_iff]
   intro z
   simp only [Bool.and_eq_true,decide_eq_true_iff] at z
   exact c (Tz ok (i:=i) (j:=j) (k:=k) (by omega) (by omega) z.1.2 z.2)
theorem t6 {S:Nat} {ds:List Deed} (hd:∀ d ∈ ds,Kp68 S d) {t:List Int} (h:Word (ds.map (tabD S)) S t):∃ x,Kp68 S x /\ t = tabD S x:=by
 induction h with
 | id=>exact ⟨look,XC,vW.symm⟩
 | more _ hm ih =>
  obtain ⟨x,hx,rfl⟩:=ih
  obtain ⟨d,hdm,rfl⟩:=List.mem_map.mp hm
  exact ⟨zV x d,hx.join (hd d hdm),(vX hx (hd d hdm).1).symm⟩
theorem XD {S:Nat} (s5:S <= 5) {ds:List Deed} (hd:∀ d ∈ ds,Kp68 S d):Few (ds.map (tabD S)) S:=by
 refine ⟨(allT S S).filter Z8,TB ⟨S,by omega⟩,fun t ht=>?_⟩
 obtain ⟨x,hx,rfl⟩:=t6 hd ht
 refine List.mem_filter.mpr ⟨?_,qr hx.1⟩
 have:=tj (sU hx).2
 rw [yr] at this; exact this
def VZ (ms:List (List Int)) (S:Nat) (w:List Int):List Int:=w.foldl (fun acc n=>zC acc (ms.getD n.toNat [])) (idL S)
def WM (ms:List (List Int)) (S:Nat) (f:FW):Prop:=∀ p ∈ f,p.1 = VZ ms S p.2 /\ ∀ n ∈ p.2,0 <= n /\ n < (ms.length:Int)
theorem WH {ms:List (List Int)} {S:Nat} {d:List Int} {fm:FW × List (List Int)} {n:Nat} (h:WM ms S fm.1) (hd:d ∈ zu fm.1) (hn:n < ms.length):WM ms S (xv d fm n (ms.getD n [])).1:=by
 unfold xv
 split
 ·exact h
 ·intro p hp
  rcases List.mem_append.mp hp with z | z
  ·exact h p z
  ·rw [List.mem_singleton.mp z]
   obtain ⟨w,hw⟩:=xU hd
   obtain ⟨e1,e2⟩:=h _ (wy hw)
   rw [hw]
   refine ⟨?_,fun m hm=>?_⟩
   ·show zC d (ms.getD n []) = VZ ms S (w ++ [(n:Int)])
    unfold VZ
    rw [List.foldl_append,List.foldl_cons,List.foldl_nil,Int.toNat_natCast]
    exact congrArg (fun z=>zC z (ms.getD n [])) e1
   ·rcases List.mem_append.mp hm with z | z
    ·exact e2 m z
    ·rw [List.mem_singleton.mp z]; omega
theorem XE {ms:List (List Int)} {S:Nat} {d:List Int} {fm:FW × List (List Int)} (h:WM ms S fm.1) (hd:d ∈ zu fm.1):∀ i,i <= ms.length -> WM ms S (fRow ms d i fm).1
 | 0,_=>h
 | i + 1,hi=>WH (XE h hd i (by omega)) ((vT i).keys hd) (by omega)
theorem ZB {ms last:List (List Int)} {S:Nat} {fm:FW × List (List Int)} (h:WM ms S fm.1) (hd:∀ d ∈ last,d ∈ zu fm.1):∀ j,j <= last.length -> WM ms S (yD ms last j fm).1
 | 0,_=>h
 | j + 1,hj=>XE (ZB h hd j (by omega)) ((xD j).keys (hd _ (yW (by omega)))) _ (Nat.le_refl _)
theorem FamR.wm {ms last:List (List Int)} {S:Nat} {f r:FW} (a:FamR ms f last r) (hl:∀ d ∈ last,d ∈ zu f) (h:WM ms S f):WM ms S r:=by
 induction a with
 | done _=>exact h
 | @step f r last _ _ _ ih =>
  refine ih (fun d hd=>?_) (ZB h hl _ (Nat.le_refl _))
  obtain ⟨g,e1,e2⟩:Ex (f,[]) (yD ms last last.length (f,[])):=xD _
  rw [e2,List.nil_append] at hd
  rw [e1]; unfold zu at *
  rw [List.map_append]
  exact List.mem_append.mpr (.inr hd)
theorem FamL.wm {ms:List (List Int)} {S:Nat} {f:FW} (a:FamL ms S f):WM ms S f:=FamR.wm a (fun d hd=>hd) fun p hp=>by
 rw [List.mem_singleton.mp hp]
 exact ⟨rfl,(fun n hn=>nomatch hn)⟩
def w6 (ds:List Deed) (w:List Int):Deed:=w.foldl (fun acc n=>zV acc (ds.getD n.toNat look)) look
theorem t7 {S:Nat} {ds:List Deed} (hd:∀ d ∈ ds,Kp68 S d):∀ (w:List Int) (x:Deed),(∀ n ∈ w,0 <= n /\ n < (ds.length:Int)) -> Kp68 S x -> Kp68 S (w.foldl (fun acc n=>zV acc (ds.getD n.toNat look)) x) /\ tabD S (w.foldl (fun acc n=>zV acc (ds.getD n.toNat look)) x) = w.foldl (fun acc n=>zC acc ((ds.map (tabD S)).getD n.toNat [])) (tabD S x)
 | [],x,_,hx=>⟨hx,rfl⟩
 | n :: w,x,hn,hx=>by
  have h:=hn n (List.mem_cons_self ..)
  have hl:n.toNat < ds.length:=by omega
  have e:ds.getD n.toNat look = ds[n.toNat]:=by rw [List.getD_eq_getElem?_getD,List.getElem?_eq_getElem hl]; rfl
  have e2:(ds.map (tabD S)).getD n.toNat [] = tabD S ds[n.toNat]:=by rw [List.getD_eq_getElem?_getD,List.getElem?_map,List.getElem?_eq_getElem hl]; rfl
  have hk:=hd _ (List.getElem_mem hl)
  rw [List.foldl_cons,List.foldl_cons,e,e2,← vX hx hk.1]
  exact t7 hd w _ (fun m hm=>hn m (List.mem_cons_of_mem _ hm)) (hx.join hk)
theorem Vd {S:Nat} {ds:List Deed} (hd:∀ d ∈ ds,Kp68 S d) {f:FW} (a:FamL (ds.map (tabD S)) S f):∀ p ∈ f,Kp68 S (w6 ds p.2) /\ tabD S (w6 ds p.2) = p.1:=fun p hp=>by
 obtain ⟨e1,e2⟩:=a.wm p hp
 obtain ⟨h1,h2⟩:=t7 hd p.2 look (fun n hn=>by have:=e2 n hn; rw [List.length_map] at this; exact this) XC
 refine ⟨h1,?_⟩
 rw [vW] at h2
 exact h2.trans e1.symm
theorem yR {n:Nat} (h:n <= 1000):n < sizeLine:=Nat.lt_of_le_of_lt h (by decide)
theorem vA {xs:List V} {j:Nat} {v:V} (h:xs[j]? = some v):atI xs (j:Int) = some v:=uO (wq (by omega) (List.getElem?_eq_some_iff.mp h).1) h
def sV (K:FG7):Sp:=sp2 fun x y H Q=>∃ (d:Deed) (S:Nat),zE K H x d /\ d.Ok /\ y = .int S /\ S <= 5 /\ ∀ y' H',Grow [] H H' -> zo K H' y' (tabD S d) -> Q y' H'
theorem sW {S:Nat} {ad lo hi:Int} (h0:0 <= lo) (h1:lo < hi \/ (lo = hi /\ ad = 0)) (h2:hi < S):Kp68 S ⟨ad,some lo,some hi⟩:=by
 refine ⟨fun l h e1 e2=>?_,fun v _ _=>?_⟩
 ·cases e1; cases e2; exact h1
 ·show 0 <= (if hi < (if lo > v + ad then lo else v + ad) then hi else (if lo > v + ad then lo else v + ad)) /\ (if hi < (if lo > v + ad then lo else v + ad) then hi else (if lo > v + ad then lo else v + ad)) < (S:Int)
  repeat' split
  all_goals omega
theorem AllR.okD68 {α:Type} {K:FG7} {H:Hp} {xs:List V} {ds:List Deed} (h:AllR (zE K H) xs ds) {i:Nat} (hi:i < ds.length):∃ x,xs[i]? = some x /\ zE K H x (ds.getD i look):=by
 obtain ⟨x,h1,h2⟩:=h.getR (List.getElem?_eq_getElem hi)
 refine ⟨x,h1,?_⟩
 rw [List.getD_eq_getElem?_getD,List.getElem?_eq_getElem hi]; exact h2
theorem v9 {K:FG7} {a:Addr} {xs:List V} {g:TG} {te:TE} {Q:VK} {σ:L2.St} {H:Hp} (Pv:Nat -> List V -> L2.St -> Hp -> Prop) (h0:Pv 0 [] σ H) (hl:∀ i ys σ H,i <= xs.length -> Pv i ys σ H -> SqL K H a xs)
  (hs:∀ i x ys σ H,xs[i]? = some x -> Pv i ys σ H -> g x σ H fun σ2 H3=>te σ2 H3 fun y H5=>ys.length < sizeLine /\ Pv (i + 1) (ys ++ [y]) σ2 H5)
  (hd:∀ ys σ H,Pv xs.length ys σ H -> ∀ l,H l = none -> Q (.ref l) (upd H l (.lst ys))):vk (Itl K a) σ H g qY te Q:=YF Pv h0 hl (fun i x ys σ H hx hp=>hs i x ys σ H hx hp) hd
theorem xX {K:FG7} {a:Addr} {xs:List V} {g:TG} {te:TE} {Q:VK} {σ:L2.St} {H:Hp} (Pv:Nat -> List V -> L2.St -> Hp -> Prop) (h0:Pv 0 [] σ H) (hl:∀ i ys σ H,i <= xs.length -> Pv i ys σ H -> SqT K H a xs)
  (hs:∀ i x ys σ H,xs[i]? = some x -> Pv i ys σ H -> g x σ H fun σ2 H3=>te σ2 H3 fun y H5=>ys.length < sizeLine /\ Pv (i + 1) (ys ++ [y]) σ2 H5)
  (hd:∀ ys σ H,Pv xs.length ys σ H -> ∀ l,H l = none -> Q (.ref l) (upd H l (.lst ys))):vk (Itt K a) σ H g qY te Q:=sy Pv h0 hl (fun i x ys σ H hx hp=>hs i x ys σ H hx hp) hd
theorem t8:∀ (ds:List Deed) (v:Int),runA ds v = (List.range ds.length).map fun j=>runV (ds.take j) v
 | [],_=>rfl
 | d :: ds,v=>by
  show v :: runA ds (d.mk' v) = _
  rw [t8 ds,List.length_cons,List.range_succ_eq_map,List.map_cons,List.map_map]
  rfl
section
variable {S:Nat} {fam:List (List Int)} {ns:List Int} {W:List Deed}
theorem vc (hW:∀ n:Nat,n < fam.length -> Kp68 S (W.getD n look) /\ tabD S (W.getD n look) = fam.getD n []) (hR:Rng fam.length ns):∀ j,j <= ns.length -> Kp68 S (runD ((ns.map fun n=>W.getD n.toNat look).take j)) /\ yJ S fam ns j = tabD S (runD ((ns.map fun n=>W.getD n.toNat look).take j))
 | 0,_=>⟨XC,vW.symm⟩
 | j + 1,hj=>by
  obtain ⟨h1,h2⟩:=vc hW hR j (by omega)
  have hjl:j < ns.length:=by omega
  have e:(ns.map fun n=>W.getD n.toNat look).take (j + 1) = (ns.map fun n=>W.getD n.toNat look).take j ++ [W.getD ns[j].toNat look]:=by
   rw [List.take_succ,List.getElem?_map,List.getElem?_eq_getElem hjl]; rfl
  have hr:=hR _ (List.getElem_mem hjl)
  obtain ⟨k1,k2⟩:=hW ns[j].toNat (by omega)
  have ed:runD ((ns.map fun n=>W.getD n.toNat look).take (j + 1)) = zV (runD ((ns.map fun n=>W.getD n.toNat look).take j)) (W.getD ns[j].toNat look):=by
   unfold runD; rw [e,List.foldl_append]; rfl
  rw [ed]
  refine ⟨h1.join k1,?_⟩
  show zC (yJ S fam ns j) (fam.getD (ns.getD j 0).toNat []) = _
  rw [vX h1 k1.1,← h2,k2,List.getD_eq_getElem?_getD (l:=ns),List.getElem?_eq_getElem hjl]
  rfl
theorem TC (hW:∀ n:Nat,n < fam.length -> Kp68 S (W.getD n look) /\ tabD S (W.getD n look) = fam.getD n []) (hR:Rng fam.length ns) {st:Int} (s0:0 <= st) (s1:st < S):runA (ns.map fun n=>W.getD n.toNat look) st = st65 S fam ns st 0 ns.length:=by
 have ok:yO (ns.map fun n=>W.getD n.toNat look):=fun d hd=>by
  obtain ⟨n,hn,rfl⟩:=List.mem_map.mp hd
  have:=hR n hn
  exact (hW n.toNat (by omega)).1.1
 rw [t8,List.length_map]
 unfold st65
 refine List.map_congr_left fun j hj=>?_
 have hj':=List.mem_range.mp hj
 obtain ⟨h1,h2⟩:=vc hW hR j (by omega)
 rw [Nat.zero_add,h2,t5 s0 s1,sG fun d hd=>ok d (List.mem_of_mem_take hd)]
theorem Z9 {f:FW} {ds:List Deed} {n:Nat} (h:n < f.length):(f.map fun p=>w6 ds p.2).getD n look = w6 ds f[n].2:=by
 rw [List.getD_eq_getElem?_getD,List.getElem?_map,List.getElem?_eq_getElem h]; rfl
theorem ZC {ds:List Deed} (hd:∀ d ∈ ds,Kp68 S d) {f:FW} (a:FamL (ds.map (tabD S)) S f):∀ n:Nat,n < (zu f).length -> Kp68 S ((f.map fun p=>w6 ds p.2).getD n look) /\ tabD S ((f.map fun p=>w6 ds p.2).getD n look) = (zu f).getD n []:=fun n hn=>by
 have hn':n < f.length:=by unfold zu at hn; rw [List.length_map] at hn; exact hn
 have h:=Vd hd a _ (List.getElem_mem hn')
 rw [Z9 hn']
 refine ⟨h.1,?_⟩
 rw [h.2]; unfold zu
 rw [List.getD_eq_getElem?_getD,List.getElem?_map,List.getElem?_eq_getElem hn']; rfl
theorem qt {ds:List Deed} (hd:∀ d ∈ ds,Kp68 S d) {f:FW} (a:FamL (ds.map (tabD S)) S f):(f.map fun p=>w6 ds p.2).map (tabD S) = zu f:=by
 unfold zu; rw [List.map_map]
 exact List.map_congr_left fun p hp=>(Vd hd a p hp).2
end
theorem TD:∀ S:Fin 6,((allT S.val S.val).filter Z8).length <= 40:=by decide +kernel
theorem WI {S:Nat} (s5:S <= 5) {ds:List Deed} (hd:∀ d ∈ ds,Kp68 S d) {f:FW} (a:FamL (ds.map (tabD S)) S f):f.length <= 40:=by
 have h:=uA a.ok.good.nd (l':=(allT S S).filter Z8) fun t ht=>?_
 ·unfold zu at h
  rw [List.length_map] at h
  exact Nat.le_trans h (TD ⟨S,by omega⟩)
 ·obtain ⟨x,hx,rfl⟩:=t6 hd (a.ok.good.wd t ht)
  refine List.mem_filter.mpr ⟨?_,qr hx.1⟩
  have:=tj (sU hx).2
  rw [yr] at this; exact this
theorem FamR.wl96 {ms last:List (List Int)} {f r:FW} (a:FamR ms f last r) (h:WL f):WL r:=by
 induction a with
 | done _=>exact h
 | step _ _ _ ih=>exact ih (uC h _)
theorem FamL.wl96 {ms:List (List Int)} {S:Nat} {f:FW} (a:FamL ms S f):WL f:=FamR.wl96 a ⟨Nat.zero_lt_one,fun q hq=>by rw [List.mem_singleton.mp hq]; exact Nat.zero_lt_one⟩
theorem jL {ds:List Deed} {w:List Int}:w6 ds w = runD (w.map fun n=>ds.getD n.toNat look):=by
 unfold w6 runD; rw [List.foldl_map]
theorem Kp68.pow {S:Nat} {d:Deed} (h:Kp68 S d):∀ k:Nat,∀ i:Int,0 <= i -> i < S -> 0 <= (powD d k).mk' i /\ (powD d k).mk' i < S
 | 0,i,h0,h1=>by
  have e:(powD d 0).mk' i = i:=w4 i
  rw [e]; exact ⟨h0,h1⟩
 | k + 1,i,h0,h1=>by
  rw [sA h.1]
  exact h.2 _ (h.pow k i h0 h1).1 (h.pow k i h0 h1).2
theorem UZ {S:Nat} (s5:S <= 5) {d:Deed} (h:Kp68 S d) {i:Int} (h0:0 <= i) (h1:i < S):∀ n:Nat,4 <= n -> (powD d (n + 1)).mk' i = (powD d n).mk' i:=by
 have st:∀ k:Nat,(powD d (k + 1)).mk' i = d.mk' ((powD d k).mk' i):=fun k=>sA h.1 k i
 have up:∀ k:Nat,(powD d k).mk' i <= (powD d (k + 1)).mk' i -> (powD d (k + 1)).mk' i <= (powD d (k + 2)).mk' i:=fun k z=>by
  rw [st (k + 1)]
  conv=>lhs; rw [st k]
  exact wp z
 have dn:∀ k:Nat,(powD d (k + 1)).mk' i <= (powD d k).mk' i -> (powD d (k + 2)).mk' i <= (powD d (k + 1)).mk' i:=fun k z=>by
  rw [st (k + 1)]
  conv=>rhs; rw [st k]
  exact wp z
 have b:=fun k=>h.pow k i h0 h1
 have e5:(powD d 5).mk' i = (powD d 4).mk' i:=by
  have u0:=up 0; have u1:=up 1; have u2:=up 2; have u3:=up 3
  have d0:=dn 0; have d1:=dn 1; have d2:=dn 2; have d3:=dn 3
  have b0:=b 0; have b1:=b 1; have b2:=b 2; have b3:=b 3; have b4:=b 4; have b5:=b 5
  simp only [Nat.reduceAdd] at u0 u1 u2 u3 d0 d1 d2 d3
  generalize (powD d 0).mk' i = x0 at *
  generalize (powD d 1).mk' i = x1 at *
  generalize (powD d 2).mk' i = x2 at *
  generalize (powD d 3).mk' i = x3 at *
  generalize (powD d 4).mk' i = x4 at *
  generalize (powD d 5).mk' i = x5 at *
  rcases Int.le_total x0 x1 with z | z
  ·have z1:=u0 z; have z2:=u1 z1; have z3:=u2 z2; have z4:=u3 z3
   by_cases c4:x4 = x5
   ·exact c4.symm
   by_cases c3:x3 = x4
   ·have:=d3 (by omega); omega
   by_cases c2:x2 = x3
   ·have:=d2 (by omega); omega
   by_cases c1:x1 = x2
   ·have:=d1 (by omega); omega
   by_cases c0:x0 = x1
   ·have:=d0 (by omega); omega
   omega
  ·have z1:=d0 z; have z2:=d1 z1; have z3:=d2 z2; have z4:=d3 z3
   by_cases c4:x4 = x5
   ·exact c4.symm
   by_cases c3:x3 = x4
   ·have:=u3 (by omega); omega
   by_cases c2:x2 = x3
   ·have:=u2 (by omega); omega
   by_cases c1:x1 = x2
   ·have:=u1 (by omega); omega
   by_cases c0:x0 = x1
   ·have:=u0 (by omega); omega
   omega
 intro n hn
 induction n with
 | zero=>cases hn
 | succ n ih =>
  by_cases c:n = 3
  ·subst c; exact e5
  ·have:=ih (by omega)
   rw [st (n + 1),this]
   exact (st n).symm.trans this
theorem t9 {S:Nat} (s5:S <= 5) {d:Deed} (h:Kp68 S d):∀ m n:Nat,4 <= n -> tabD S (powD d (n + m)) = tabD S (powD d n)
 | 0,_,_=>rfl
 | m + 1,n,hn=>by
  rw [← t9 s5 h m n hn]
  unfold tabD
  refine List.map_congr_left fun i hi=>?_
  have hi':=List.mem_range.mp hi
  exact UZ s5 h (by omega) (by omega) (n + m) (by omega)
theorem jM {S:Nat} {d:Deed} (ok:d.Ok) (n:Nat):tabD S (xp d (n:Int)) = tabD S (powD d n):=by rw [tQ ok]
theorem V0 {S:Nat} {d:Deed}:tabD S (powD d 0) = idL S:=by
 unfold tabD idL
 exact List.map_congr_left fun i _=>w4 _
def qu (K:FG7):Sp:=sp2 fun x y H Q=>∃ (l:Addr) (xs:List V) (ds:List Deed) (w:List Int),x = .ref l /\ H l = some (.lst xs) /\ AllR (zE K H) xs ds /\ yO ds /\ zo K H y w /\ w.length <= 40 /\ (∀ n ∈ w,0 <= n /\ n < (ds.length:Int)) /\ ∀ y' H',Grow [] H H' -> zE K H' y' (w6 ds w) -> Q y' H'
def ZD (K:FG7):Sp:=sp2 fun x y H Q=>∃ (S:Nat) (d:Deed) (n:Nat),zo K H x (tabD S d) /\ S <= 5 /\ 1 <= S /\ Kp68 S d /\ y = .int n /\ ∀ y' H',Grow [] H H' -> zo K H' y' (tabD S (powD d n)) -> Q y' H'
def tm (K:FG7):Sp:=sp2 fun x y H Q=>∃ (sp:Span) (v:Int),rQ K H x sp /\ y = .int v /\ Q (.bl (inS sp v)) H
def sd (K:FG7):Sp:=sp2 fun x y H Q=>∃ (S:Nat) (d:Deed),zE K H x d /\ d.Ok /\ S <= 5 /\ zo K H y (tabD S d) /\ ∀ H',Grow [] H H' -> Q (.bl true) H'
def se (K:FG7):Sp:=sp5 fun x y z u v H Q=>∃ (S:Nat) (ds:List Deed) (f:FW) (lW:Addr) (zs:List V) (ns:List Int) (t:Tr) (st:Int),x = .ref lW /\ H lW = some (.lst zs) /\ AllR (zE K H) zs (f.map fun p=>w6 ds p.2) /\ MksAt K H y (ds.map (tabD S)) S /\ (∀ d ∈ ds,Kp68 S d) /\ FamL (ds.map (tabD S)) S f /\ zo K H z ns /\ Rng f.length ns /\ 1 <= ns.length /\ ns.length <= 20 /\ zY K H u t /\ Ordd t 0 /\ t.count = (ns.length:Int) /\ t.ht < 41 /\ v = .int st /\ 0 <= st /\ st < S /\ ∀ H',Grow [] H H' -> Q (.bl true) H'
section
variable {X:Cx} {K:FG7}
theorem XF {k:Nat} (h:X.K = K) (hr:Room k X.A):OpR X (compareOp .Eq) (rEqT K false):=by subst h; exact W0 hr
end
theorem jN {lo:Int} {n k:Nat} {tt:TT} {te:TE} {Q:VK} {σ:L2.St} {H:Hp} (Pv:Nat -> List V -> Hp -> Prop) (h0:Pv 0 [] H)
  (hs:∀ i ys H',i < n -> Pv i ys H' -> tt (σ.set k (some (.int (lo + i)))) H' fun b H4=>if b = true then te (σ.set k (some (.int (lo + i)))) H4 fun y H5=>ys.length < sizeLine /\ Pv (i + 1) (ys ++ [y]) H5 else Pv (i + 1) ys H4)
  (hd:∀ ys H',Pv n ys H' -> ∀ l,H' l = none -> Q (.ref l) (upd H' l (.lst ys))):vk (Itr lo n) σ H (uc k) tt te Q:=by
 refine ⟨fun i m ys σ' H'=>m = n - i /\ i <= n /\ (σ' = σ \/ ∃ e,σ' = σ.set k e) /\ Pv i ys H',⟨n,by simp,Nat.zero_le _,.inl rfl,h0⟩,?_⟩
 rintro i m ys σ' H' ⟨rfl,hi,hσ,p⟩
 by_cases hlt:i < n
 ·refine .inr ⟨hlt,fun zs σ2 H2=>(σ2 = σ \/ ∃ e,σ2 = σ.set k e) /\ Pv (i + 1) zs H2,fun zs σ2 H2 p'=>⟨n - (i + 1),by omega,rfl,hlt,p'.1,p'.2⟩,fun x H2 y=>?_⟩
  obtain ⟨e,y⟩:=y
  subst e y
  have e:σ'.set k (some (V.int (lo + i))) = σ.set k (some (V.int (lo + i))):=by
   rcases hσ with rfl | ⟨e,rfl⟩
   ·rfl
   ·rw [List.set_set]
  show tt (σ'.set k (some (V.int (lo + i)))) H2 fun b H4=>if b = true then te (σ'.set k (some (V.int (lo + i)))) H4 (fun y H5=>ys.length < sizeLine /\ ((σ'.set k (some (V.int (lo + i))) = σ \/ ∃ e,σ'.set k (some (V.int (lo + i))) = σ.set k e) /\ Pv (i + 1) (ys ++ [y]) H5)) else ((σ'.set k (some (V.int (lo + i))) = σ \/ ∃ e,σ'.set k (some (V.int (lo + i))) = σ.set k e) /\ Pv (i + 1) ys H4)
  rw [e]
  have e2:(fun (y:V) (H5:Hp)=>ys.length < sizeLine /\ ((σ.set k (some (V.int (lo + i))) = σ \/ ∃ e,σ.set k (some (V.int (lo + i))) = σ.set k e) /\ Pv (i + 1) (ys ++ [y]) H5)) = fun y H5=>ys.length < sizeLine /\ Pv (i + 1) (ys ++ [y]) H5:=by
   funext y H5
   exact propext ⟨fun z=>⟨z.1,z.2.2⟩,fun z=>⟨z.1,.inr ⟨_,rfl⟩,z.2⟩⟩
  have e3:(fun (b:Bool) (H4:Hp)=>if b = true then te (σ.set k (some (V.int (lo + i)))) H4 (fun y H5=>ys.length < sizeLine /\ ((σ.set k (some (V.int (lo + i))) = σ \/ ∃ e,σ.set k (some (V.int (lo + i))) = σ.set k e) /\ Pv (i + 1) (ys ++ [y]) H5)) else ((σ.set k (some (V.int (lo + i))) = σ \/ ∃ e,σ.set k (some (V.int (lo + i))) = σ.set k e) /\ Pv (i + 1) ys H4)) = fun b H4=>if b = true then te (σ.set k (some (V.int (lo + i)))) H4 fun y H5=>ys.length < sizeLine /\ Pv (i + 1) (ys ++ [y]) H5 else Pv (i + 1) ys H4:=by
   funext b H4
   rw [e2]
   cases b
   ·exact propext ⟨fun z=>z.2,fun z=>⟨.inr ⟨_,rfl⟩,z⟩⟩
   ·rfl
  rw [e3]
  exact hs i ys H2 hlt p
 ·have e:i = n:=by omega
  subst e
  exact .inl ⟨Nat.le_refl _,hd ys H' p⟩
theorem sf {xs:List V} {v:V} {n:Nat} (hl:xs.length = n + 1) (h:xs[n]? = some v):atI xs (-1) = some v:=uO (j:=n) (by unfold ixN; rw [if_neg (by decide),if_pos (by omega)]; congr 1; omega) h
theorem si:∀ (ds:List Deed) (d:Deed) (v:Int),runV (ds ++ [d]) v = d.mk' (runV ds v)
 | [],_,_=>rfl
 | e :: ds,d,v=>si ds d (e.mk' v)
def XG (i:Nat) (d:Deed):Ask:=⟨((i:Nat):Int) % 16,1,d⟩
def yS (ds:List Deed):List Ask:=(List.range ds.length).map fun i=>XG i (ds.getD i look)
theorem vY {ds:List Deed} {i:Nat} {d:Deed} (h:ds[i]? = some d):(yS ds)[i]? = some (XG i d):=by
 have hi:=(List.getElem?_eq_some_iff.mp h).1
 unfold yS
 rw [List.getElem?_map,List.getElem?_range hi]
 show some (XG i (ds.getD i look)) = _
 rw [List.getD_eq_getElem?_getD,h]; rfl
theorem wI {ds:List Deed}:(yS ds).length = ds.length:=by unfold yS; rw [List.length_map,List.length_range]
theorem XH {ds:List Deed} (h:yO ds):∀ a ∈ yS ds,jd 2 a:=fun a ha=>by
 obtain ⟨i,_,rfl⟩:=List.mem_map.mp ha
 show (0:Int) <= ((i:Nat):Int) % 16 /\ ((i:Nat):Int) % 16 <= 15 /\ (0:Int) <= 1 /\ (1:Int) < ((2:Nat):Int) /\ (ds.getD i look).Ok
 exact ⟨by omega,by omega,by decide,by decide,sE h i⟩
theorem Ve {ds:List Deed} (h:yO ds) {st:Int}:∀ n,n <= ds.length -> wN [9,st] ((yS ds).take n) = (runA (ds.take n) st,[9,runV (ds.take n) st])
 | 0,_=>rfl
 | n + 1,hn=>by
  have e:ds[n]? = some ds[n]:=List.getElem?_eq_getElem (by omega)
  rw [tR (vY e),Ve h n (by omega),List.take_succ,e]
  show ((runA (ds.take n) st) ++ [runV (ds.take n) st],[9,ds[n].mk' (runV (ds.take n) st)]) = (runA (ds.take n ++ [ds[n]]) st,[9,runV (ds.take n ++ [ds[n]]) st])
  rw [sH,show runV (ds.take n ++ [ds[n]]) st = ds[n].mk' (runV (ds.take n) st) from si _ _ _]
  rfl
theorem Vf {ds:List Deed} (h:yO ds):∀ n,n <= ds.length -> (vP 2 ((yS ds).take n)).1 = [look,runD (ds.take n)]
 | 0,_=>rfl
 | n + 1,hn=>by
  have e:ds[n]? = some ds[n]:=List.getElem?_eq_getElem (by omega)
  rw [tW (vY e),List.take_succ,e]
  unfold qa
  rw [Vf h n (by omega)]
  show [look,zV (runD (ds.take n)) ds[n]] = [look,runD (ds.take n ++ [ds[n]])]
  unfold runD; rw [List.foldl_append]; rfl
def qv (K:FG7):Sp:=sp2 fun x y H Q=>∃ (a:Addr) (S:Nat),x = .ref a /\ y = .int S /\ 1 <= S /\ S <= 5 /\ Pot H a /\ ∀ d y' H',Grow [a] H H' -> Pot H' a -> zE K H' y' d -> Kp68 S d -> (-5 <= d.add /\ d.add <= 5) -> Q y' H'
end L3
namespace My
open PySem PySem.Spec PyProof.Rows L2 L3
def top (i:Nat):Stmt:=PySem.Challenge.pw_joinedasks_k96_whole_deeds_of_few_states.main.body.getD i (.Pass ⟨0,0,0,0⟩)
section
variable {P:Program} {w:World} {K:FG7} {mg:Str -> Option Value} {base:Heap} {n:Nat} {f:Addr} {fd:FuncData}
theorem V1:FnScope ["add","low","high"] ["add","low","high"] (zh (top 30)):=⟨rfl,rfl,rfl,by decide +kernel,rfl,by decide +kernel,by decide +kernel⟩
theorem qZ (F:Fun K "tidy" "tidy" (top 30) f fd) (B:Blt mg)     :
  FnOk P w K mg base CX0 (n + 1) f fd ["add","low","high"] (jb K):=by
 refine F.ok V1 wY (fun cdv A outer s H vs Q E hr h=>?_)
 obtain ⟨x,y,z,rfl,a,lo,hi,rfl,rfl,rfl,q⟩:=h
 refine ⟨_,(zc (zO (PW.pt (wQ (xz (uD (pv 1))) (xP (zB xF (pv 1) (pv 2) (zA _))))) (zg (zn (yg (za zi (za (pv 1) (za (pv 2) zb)))))) zp) (zg (zn (yg (za (pv 0) (za (pv 1) (za (pv 2) zb))))))),?_⟩
 cases lo with
 | none =>
  refine ⟨_,rfl,_,rfl,iteF (iteF ⟨_,rfl,_,rfl,_,rfl,szl rfl,fun t ht=>?_⟩)⟩
  have:=q t ht
  rw [Uy] at this; exact this
 | some l =>
  cases hi with
  | none =>
   refine ⟨_,rfl,_,rfl,iteT ⟨_,rfl,_,rfl,rfl,_,rfl,iteF ⟨_,rfl,_,rfl,_,rfl,szl rfl,fun t ht=>?_⟩⟩⟩
   have:=q t ht
   rw [W6 (by simp)] at this; exact this
  | some u =>
   refine ⟨_,rfl,_,rfl,iteT ⟨_,rfl,_,rfl,rfl,_,rfl,?_⟩⟩
   refine ite2 (fun c=>?_) (fun c=>?_)
   ·have c':l = u:=V.int.inj (of_decide_eq_true c)
    subst c'
    refine ⟨_,rfl,_,rfl,szl rfl,fun t ht=>?_⟩
    have:=q t ht
    rw [Uz] at this; exact this
   ·have c':l ≠ u:=fun z=>c (by rw [z]; simp)
    refine ⟨_,rfl,_,rfl,_,rfl,szl rfl,fun t ht=>?_⟩
    have:=q t ht
    rw [W6 (fun z=>c' (Option.some.inj z))] at this; exact this
theorem vd:FnScope ["deed","value","add","low","high","result"] ["deed","value"] (zh (top 28)):=⟨rfl,rfl,rfl,by decide +kernel,rfl,by decide +kernel,by decide +kernel⟩
theorem V2 (F:Fun K "made" "made" (top 28) f fd) (B:Blt mg)     :
  FnOk P w K mg base CX0 (n + 1) f fd ["deed","value"] (vJ K):=by
 refine F.ok vd zM (fun cdv A outer s H vs Q E hr h=>?_)
 obtain ⟨x,y,rfl,d,v,⟨a,rfl,hs⟩,rfl,q⟩:=h
 refine ⟨_,(zc (wS (pv 0) (x6 rfl (zw (zm (i:=2) vd.nd rfl (Or.inl rfl)) (zw (zm (i:=3) vd.nd rfl (Or.inl rfl)) (zw (zm (i:=4) vd.nd rfl (Or.inl rfl)) yM))))) (zc (zr (i:=5) vd.nd rfl (Or.inl rfl) (zS xB (pv 1) (pv 2))) (zc (zO (PW.pt (wQ (xz (uD (pv 3))) (xP (zB Ys (pv 3) (pv 5) (zA _))))) (zg (zr (i:=5) vd.nd rfl (Or.inl rfl) (pv 3))) zp) (zc (zO (PW.pt (wQ (xz (uD (pv 4))) (xP (zB ZH (pv 4) (pv 5) (zA _))))) (zg (zr (i:=5) vd.nd rfl (Or.inl rfl) (pv 4))) zp) (zg (zn (pv 5))))))),?_⟩
 obtain ⟨ad,lo,hi⟩:=d
 refine ⟨_,rfl,a,_,rfl,hs,rfl,_,_,rfl,_,_,rfl,_,_,rfl,rfl,?_⟩
 refine ⟨_,rfl,_,rfl,_,_,rfl,rfl,?_⟩
 cases lo with
 | none =>
  refine ⟨_,rfl,_,rfl,iteF (iteF ?_)⟩
  cases hi with
  | none=>exact ⟨_,rfl,_,rfl,iteF (iteF ⟨_,rfl,q⟩)⟩
  | some u =>
   refine ⟨_,rfl,_,rfl,iteT ⟨_,rfl,_,rfl,_,_,rfl,rfl,_,rfl,?_⟩⟩
   have q':Q (.int (if u < v + ad then u else v + ad)) H:=q
   refine ite2 (fun c=>?_) (fun c=>?_)
   ·have c':u < v + ad:=of_decide_eq_true c
    rw [if_pos c'] at q'
    exact ⟨_,rfl,_,rfl,q'⟩
   ·have c':¬ u < v + ad:=fun z=>c (decide_eq_true z)
    rw [if_neg c'] at q'
    exact ⟨_,rfl,q'⟩
 | some l =>
  refine ⟨_,rfl,_,rfl,iteT ⟨_,rfl,_,rfl,_,_,rfl,rfl,_,rfl,?_⟩⟩
  have q0:Q (.int (zX hi (if l > v + ad then l else v + ad))) H:=q
  clear q
  refine ite2 (fun c=>?_) (fun c=>?_)
  ·have c':l > v + ad:=of_decide_eq_true c
   rw [if_pos c'] at q0
   have q:=q0
   refine ⟨_,rfl,?_⟩
   cases hi with
   | none=>exact ⟨_,rfl,_,rfl,iteF (iteF ⟨_,rfl,q⟩)⟩
   | some u =>
    refine ⟨_,rfl,_,rfl,iteT ⟨_,rfl,_,rfl,_,_,rfl,rfl,_,rfl,?_⟩⟩
    have q':Q (.int (if u < l then u else l)) H:=q
    refine ite2 (fun c=>?_) (fun c=>?_)
    ·have c':u < l:=of_decide_eq_true c
     rw [if_pos c'] at q'
     exact ⟨_,rfl,_,rfl,q'⟩
    ·have c':¬ u < l:=fun z=>c (decide_eq_true z)
     rw [if_neg c'] at q'
     exact ⟨_,rfl,q'⟩
  ·have c':¬ l > v + ad:=fun z=>c (decide_eq_true z)
   rw [if_neg c'] at q0
   have q:=q0
   cases hi with
   | none=>exact ⟨_,rfl,_,rfl,iteF (iteF ⟨_,rfl,q⟩)⟩
   | some u =>
    refine ⟨_,rfl,_,rfl,iteT ⟨_,rfl,_,rfl,_,_,rfl,rfl,_,rfl,?_⟩⟩
    have q':Q (.int (if u < v + ad then u else v + ad)) H:=q
    refine ite2 (fun c=>?_) (fun c=>?_)
    ·have c':u < v + ad:=of_decide_eq_true c
     rw [if_pos c'] at q'
     exact ⟨_,rfl,_,rfl,q'⟩
    ·have c':¬ u < v + ad:=fun z=>c (decide_eq_true z)
     rw [if_neg c'] at q'
     exact ⟨_,rfl,q'⟩
theorem tq:FnScope ["one","other","low","high"] ["one","other"] (zh (top 31)):=⟨rfl,rfl,rfl,by decide +kernel,rfl,by decide +kernel,by decide +kernel⟩
theorem XI (F:Fun K "joined" "joined" (top 31) f fd) (B:Blt mg) (qc0:zf P w K mg base n "tidy" ["add","low","high"] (jb K)) (qc1:zf P w K mg base n "made" ["deed","value"] (vJ K))    :
  FnOk P w K mg base CX0 (n + 1) f fd ["one","other"] (vm K):=by
 refine F.ok tq zM (fun cdv A outer s H vs Q E hr h=>?_)
 obtain ⟨x,y,rfl,d,e,⟨a,rfl,hsa⟩,⟨b,rfl,hsb⟩,q⟩:=h
 refine ⟨_,(zc (zr (i:=2) tq.nd rfl (Or.inl rfl) (xA (xz (wg (zG zJ (pv 0) zi (fun _ _=>rfl)))) (zG zJ (pv 1) zi (fun _ _=>rfl)) (zd qc1 hr rfl (za (pv 1) (za (zG zJ (pv 0) zi (fun _ _=>rfl)) zb))))) (zc (zr (i:=3) tq.nd rfl (Or.inl rfl) (xA (xz (wg (zG zJ (pv 0) zi (fun _ _=>rfl)))) (zG zJ (pv 1) zi (fun _ _=>rfl)) (zd qc1 hr rfl (za (pv 1) (za (zG zJ (pv 0) zi (fun _ _=>rfl)) zb))))) (zg (zn (zd qc0 hr rfl (za (zS xB (zG zJ (pv 0) zi (fun _ _=>rfl)) (zG zJ (pv 1) zi (fun _ _=>rfl))) (za (pv 2) (za (pv 3) zb)))))))),?_⟩
 obtain ⟨da,lo,hi⟩:=d
 obtain ⟨ea,elo,ehi⟩:=e
 refine ⟨_,rfl,a,_,_,_,rfl,rfl,hsa,rfl,_,rfl,?_⟩
 cases lo with
 | none =>
  refine iteT ⟨_,rfl,b,_,_,_,rfl,rfl,hsb,rfl,?_⟩
  refine ⟨_,rfl,a,_,_,_,rfl,rfl,hsa,rfl,_,rfl,?_⟩
  cases hi with
  | none =>
   refine iteT ⟨_,rfl,b,_,_,_,rfl,rfl,hsb,rfl,?_⟩
   exact ⟨_,rfl,a,_,_,_,rfl,rfl,hsa,rfl,_,rfl,b,_,_,_,rfl,rfl,hsb,rfl,_,_,rfl,rfl,_,rfl,_,rfl,_,_,_,rfl,_,elo,ehi,rfl,rfl,rfl,q⟩
  | some u =>
   refine iteF ⟨_,rfl,_,rfl,a,_,_,_,rfl,rfl,hsa,rfl,_,_,rfl,⟨ea,elo,ehi⟩,u,⟨b,rfl,hsb⟩,rfl,?_⟩
   exact ⟨_,rfl,a,_,_,_,rfl,rfl,hsa,rfl,_,rfl,b,_,_,_,rfl,rfl,hsb,rfl,_,_,rfl,rfl,_,rfl,_,rfl,_,_,_,rfl,_,elo,some ((Deed.mk ea elo ehi).mk' u),rfl,rfl,rfl,q⟩
 | some l =>
  refine iteF ⟨_,rfl,_,rfl,a,_,_,_,rfl,rfl,hsa,rfl,_,_,rfl,⟨ea,elo,ehi⟩,l,⟨b,rfl,hsb⟩,rfl,?_⟩
  refine ⟨_,rfl,a,_,_,_,rfl,rfl,hsa,rfl,_,rfl,?_⟩
  cases hi with
  | none =>
   refine iteT ⟨_,rfl,b,_,_,_,rfl,rfl,hsb,rfl,?_⟩
   exact ⟨_,rfl,a,_,_,_,rfl,rfl,hsa,rfl,_,rfl,b,_,_,_,rfl,rfl,hsb,rfl,_,_,rfl,rfl,_,rfl,_,rfl,_,_,_,rfl,_,(some ((Deed.mk ea elo ehi).mk' l)),ehi,rfl,rfl,rfl,q⟩
  | some u =>
   refine iteF ⟨_,rfl,_,rfl,a,_,_,_,rfl,rfl,hsa,rfl,_,_,rfl,⟨ea,elo,ehi⟩,u,⟨b,rfl,hsb⟩,rfl,?_⟩
   exact ⟨_,rfl,a,_,_,_,rfl,rfl,hsa,rfl,_,rfl,b,_,_,_,rfl,rfl,hsb,rfl,_,_,rfl,rfl,_,rfl,_,rfl,_,_,_,rfl,_,(some ((Deed.mk ea elo ehi).mk' l)),some ((Deed.mk ea elo ehi).mk' u),rfl,rfl,rfl,q⟩
theorem yT:FnScope ["board","asks","together","ahead","hand","box","deed"] ["board","asks"] (zh (top 42)):=⟨rfl,rfl,rfl,by decide +kernel,rfl,by decide +kernel,by decide +kernel⟩
theorem jO (F:Fun K "gathered" "gathered" (top 42) f fd) (B:Blt mg) (qc0:zf P w K mg base n "joined" ["one","other"] (vm K))   {a_LOOK:Addr} (g_LOOK:mg "LOOK" = some (.ref a_LOOK)) (s_LOOK:∀ H,SqT K H a_LOOK ([V.int 0,V.non,V.non])) :
  FnOk P w K mg base CX0 (n + 1) f fd ["board","asks"] (uU K):=by
 refine F.ok yT zM (fun cdv A outer s H vs Q E hr h=>?_)
 obtain ⟨x,y,rfl,b,ks,⟨br,rfl,hbs⟩,b1,b2,⟨ar,xs,rfl,hs,hall⟩,hk,hok,q⟩:=h
 refine ⟨_,(zc (Wf (i:=2) yT.nd rfl rfl (CSc.of (N':=["value"]) (sub:=[none]) (zh (top 42)) ["board","asks","together","ahead","hand","box","deed"] rfl rfl (by decide +kernel) rfl) rfl (yL (pv 0)) (fun _ _ _ _ _ _=>zm (i:=0) (show (["value"]:List Str).Nodup by decide +kernel) rfl (Or.inl rfl)) (fun _ _ _ _ _ _=>zD) (fun _ _ _ _ _ _=>(xk rfl g_LOOK (show RelV (.ref a_LOOK) (.ref a_LOOK) from rfl)))) (zc (zr (i:=3) yT.nd rfl (Or.inl rfl) (wT zb)) (zc (vg PassesOwn.never rfl (yL (pv 1)) (x6 rfl (zw (zm (i:=4) yT.nd rfl (Or.inl rfl)) (zw (zm (i:=5) yT.nd rfl (Or.inl rfl)) (zw (zm (i:=6) yT.nd rfl (Or.inl rfl)) yM)))) (zc (zy (rJ PySem.F.plainAttrs_list PySem.F.slot_list_append PySem.F.type_list_append yY (pv 3) (za (zG yy (pv 2) (pv 5) (fun _ _=>rfl)) zb))) (zg (wS (zd qc0 hr rfl (za (zG yy (pv 2) (pv 5) (fun _ _=>rfl)) (za (pv 6) zb))) (jY (pv 2) (pv 5) uq))))) (zg (zn (yg (za (zF zx rfl B.tuple zH (za (pv 2) zb)) (za (zF zx rfl B.tuple zH (za (pv 3) zb)) zb)))))))),?_⟩
 have glen:∀ {i:Nat},(vP b.length (ks.take i)).1.length = b.length /\ (vP b.length (ks.take i)).2.length = (ks.take i).length:=by
  intro i
  have key:∀ (ks:List Ask) (st:List Deed × List Deed),(ks.foldl qa st).1.length = st.1.length /\ (ks.foldl qa st).2.length = st.2.length + ks.length:=by
   intro ks
   induction ks with
   | nil=>intro st; exact ⟨rfl,rfl⟩
   | cons k ks ih =>
    intro st
    have:=ih (qa st k)
    refine ⟨this.1.trans (by simp [qa]),this.2.trans ?_⟩
    simp [qa]; omega
  have:=key (ks.take i) (List.replicate b.length look,[])
  exact ⟨this.1.trans (by simp),this.2.trans (Nat.zero_add _)⟩
 refine ⟨_,rfl,br,rfl,⟨_,hbs⟩,yB (fun _=>V.ref a_LOOK) hbs (by rw [List.length_map]; omega) (fun x H' R _ _ k=>k _ (Grow.refl _ _)) ?_⟩
 intro H1 lt g1 hlt
 refine ⟨szl rfl,fun la hla=>?_⟩
 have nta:lt ≠ la:=fun z=>by rw [← z,ze] at hla; cases hla
 have gv:Grow [lt,la] H1 (upd (upd H1 lt (.lst ((b.map V.int).map fun _=>V.ref a_LOOK))) la (.lst [])):=(Grow.new hlt _).trans (Grow.new hla _)
 have laf:H1 la = none:=by rw [zq (Ne.symm nta)] at hla; exact hla
 have hs1:=g1.sqT hs
 have hall1:=g1.allA hall
 have hrep:AllR (zE K (upd (upd H1 lt (.lst ((b.map V.int).map fun _=>V.ref a_LOOK))) la (.lst []))) ((b.map V.int).map fun _=>V.ref a_LOOK) (List.replicate b.length look):=by
  have z:=Zl (R:=zE K (upd (upd H1 lt (.lst ((b.map V.int).map fun _=>V.ref a_LOOK))) la (.lst []))) (x:=V.ref a_LOOK) (k:=look) ⟨a_LOOK,rfl,s_LOOK _⟩ (b.map V.int)
  rw [List.length_map] at z
  exact z
 refine ⟨_,rfl,ar,rfl,⟨_,gv.sqT hs1⟩,Yo (xs:=xs) (fun i σ H'=>∃ e4 e5 e6,σ = [some (.ref br),some (.ref ar),some (.ref lt),some (.ref la),e4,e5,e6] /\ Grow [lt,la] H1 H' /\ ∃ ys zs,H' lt = some (.lst ys) /\ AllR (zE K H') ys (vP b.length (ks.take i)).1 /\ H' la = some (.lst zs) /\ AllR (zE K H') zs (vP b.length (ks.take i)).2) ⟨_,_,_,rfl,gv,_,[],by rw [zq nta,ze],hrep,ze,trivial⟩ ?_ ?_ ?_⟩
 ·rintro i σ H' _ ⟨e4,e5,e6,_,g,_⟩
  exact g.sqT hs1
 ·rintro i x σ H' hx ⟨e4,e5,e6,rfl,g,ys,zs,h1,a1,h2,a2⟩
  obtain ⟨k,hk',hak⟩:=hall1.get hx
  obtain ⟨r,rd,rfl,hr1,hr2⟩:=g.ask hak
  obtain ⟨o1,o2,o3,o4,o5⟩:=hok k (List.mem_of_getElem? hk')
  have hst:=tW (n:=b.length) hk'
  have hlg:(vP b.length (ks.take i)).1.length = b.length /\ (vP b.length (ks.take i)).2.length = (ks.take i).length:=glen
  generalize vP b.length (ks.take i) = st at a1 a2 hst hlg
  obtain ⟨g1,g2⟩:=st
  have hj:k.box.toNat < g1.length:=by rw [hlg.1]; omega
  obtain ⟨xd,hxd,hdx⟩:=a1.getR (UD hj)
  have hix:ixN ys.length k.box = some k.box.toNat:=wq o3 (by rw [a1.len]; exact hj)
  have hti:(ks.take i).length <= 900:=by rw [List.length_take]; omega
  have hz:zs.length = (ks.take i).length:=by rw [a2.len]; exact hlg.2
  refine ⟨r,_,rfl,hr1,rfl,_,_,rfl,_,_,rfl,_,_,rfl,rfl,?_⟩
  refine ⟨_,rfl,.inl ⟨rfl,_,SqL.of h2⟩,?_⟩
  refine ⟨_,rfl,_,rfl,lt,_,_,_,rfl,rfl,SqL.of h1,uO hix hxd,?_⟩
  refine ⟨la,_,_,rfl,rfl,h2,zQ (by omega),?_⟩
  have hlt2:upd H' la (.lst (zs ++ [xd])) lt = some (.lst ys):=by rw [zq nta]; exact h1
  have gla:Grow [lt,la] H' (upd H' la (.lst (zs ++ [xd]))):=Grow.set h2 (by simp) _
  refine ⟨_,rfl,_,rfl,lt,_,_,_,rfl,rfl,SqL.of hlt2,uO hix hxd,_,rfl,_,_,rfl,g1.getD k.box.toNat look,k.deed,gla.deed hdx,⟨rd,rfl,gla.sqT hr2⟩,fun t ht=>?_⟩
  have gt:Grow [lt,la] (upd H' la (.lst (zs ++ [xd]))) (upd (upd H' la (.lst (zs ++ [xd]))) t (.tup (zV (g1.getD k.box.toNat look) k.deed).vs)):=Grow.new ht _
  have hlt3:upd (upd H' la (.lst (zs ++ [xd]))) t (.tup (zV (g1.getD k.box.toNat look) k.deed).vs) lt = some (.lst ys):=by rw [zq (zt hlt2 ht)]; exact hlt2
  have hla3:upd (upd H' la (.lst (zs ++ [xd]))) t (.tup (zV (g1.getD k.box.toNat look) k.deed).vs) la = some (.lst (zs ++ [xd])):=by rw [zq (zt ze ht)]; exact ze
  refine ⟨_,rfl,_,rfl,lt,_,_,_,rfl,rfl,hlt3,hix,?_⟩
  have gs:Grow [lt,la] (upd (upd H' la (.lst (zs ++ [xd]))) t (.tup (zV (g1.getD k.box.toNat look) k.deed).vs)) (upd (upd (upd H' la (.lst (zs ++ [xd]))) t (.tup (zV (g1.getD k.box.toNat look) k.deed).vs)) lt (.lst (ys.set k.box.toNat (.ref t)))):=Grow.set hlt3 (by simp) _
  have gall:=gla.trans (gt.trans gs)
  rw [hst]
  refine ⟨_,_,_,rfl,g.trans gall,ys.set k.box.toNat (.ref t),zs ++ [xd],ze,(gall.deedsR a1).set ⟨t,rfl,gs.sqT (SqT.of ze)⟩,by rw [zq (Ne.symm nta)]; exact hla3,(gall.deedsR a2).app (.one (gall.deed hdx))⟩

 rintro σ H' ⟨e4,e5,e6,rfl,g,ys,zs,h1,a1,h2,a2⟩
 rw [hall1.len,List.take_length] at a1 a2
 refine ⟨_,rfl,lt,_,rfl,.inl ⟨SqL.of h1,fun ra hra=>?_⟩⟩
 have ga:Grow [] H' (upd H' ra (.tup ys)):=Grow.new hra _
 refine ⟨_,rfl,la,_,rfl,.inl ⟨SqL.of (ga.keep _ _ (by simp) h2),fun rv hrv=>⟨szl rfl,fun rt hrt=>?_⟩⟩⟩
 have gb:Grow [] (upd H' ra (.tup ys)) (upd (upd H' ra (.tup ys)) rv (.tup zs)):=Grow.new hrv _
 have gc:=Grow.new (m:=[]) hrt (.tup [.ref ra,.ref rv])
 have gabc:=ga.trans (gb.trans gc)
 refine q _ _ (g1.trans ((Grow.fresh (m:=[lt,la]) (fun z hz=>by
  simp only [List.mem_cons,List.mem_nil_iff,or_false] at hz
  rcases hz with rfl | rfl
  ·exact hlt
  ·exact laf) g).trans gabc)) ⟨rt,ra,rv,rfl,SqT.of ze,⟨ra,ys,rfl,gc.sqT (gb.sqT (SqT.of ze)),gabc.deedsR a1⟩,⟨rv,zs,rfl,gc.sqT (SqT.of ze),gabc.deedsR a2⟩⟩
theorem jP:FnScope ["thing"] ["thing"] (zh (top 10)):=⟨rfl,rfl,rfl,by decide +kernel,rfl,by decide +kernel,by decide +kernel⟩
theorem jQ (F:Fun K "is_whole" "is_whole" (top 10) f fd) (B:Blt mg)     :
  FnOk P w K mg base CX0 (n + 1) f fd ["thing"] (zP K):=by
 refine F.ok jP z8 (fun cdv A outer s H vs Q E hr h=>?_)
 obtain ⟨x,rfl,⟨T,ty⟩,q⟩:=h
 refine ⟨_,(zg (zn (wR (zj yC rfl B.isinstance zK (za (pv 0) (za (x8 rfl B.int Tg) zb))) (xH (Ud (zj yC rfl B.isinstance zK (za (pv 0) (za (x8 rfl B.bool Ut) zb)))))))),?_⟩
 cases x with
 | non=>cases (show T = "NoneType" from ty); exact ⟨_,rfl,_,_,_,false,rfl,rfl,rfl,_,rfl,iteF q⟩
 | bl y=>cases (show T = "bool" from ty); exact ⟨_,rfl,_,_,_,true,rfl,rfl,rfl,_,rfl,iteT ⟨_,rfl,_,_,_,true,rfl,rfl,rfl,_,rfl,q⟩⟩
 | int i=>cases (show T = "int" from ty); exact ⟨_,rfl,_,_,_,true,rfl,rfl,rfl,_,rfl,iteT ⟨_,rfl,_,_,_,false,rfl,rfl,rfl,_,rfl,q⟩⟩
 | str y=>cases (show T = "str" from ty); exact ⟨_,rfl,_,_,_,false,rfl,rfl,rfl,_,rfl,iteF q⟩
 | byt y=>exact ty.elim
 | flt y=>exact ty.elim
 | ty y=>exact ty.elim
 | ref a =>
  rcases ty with ⟨rfl,xs,hq⟩ | ⟨rfl,xs,hq⟩ | ⟨rfl,kvs,hq⟩
  ·exact ⟨_,rfl,_,_,_,false,rfl,.inl ⟨rfl,xs,hq⟩,rfl,_,rfl,iteF q⟩
  ·exact ⟨_,rfl,_,_,_,false,rfl,.inr (.inl ⟨rfl,xs,hq⟩),rfl,_,rfl,iteF q⟩
  ·exact ⟨_,rfl,_,_,_,false,rfl,.inr (.inr ⟨rfl,kvs,hq⟩),rfl,_,rfl,iteF q⟩
theorem XJ:FnScope ["thing"] ["thing"] (zh (top 24)):=⟨rfl,rfl,rfl,by decide +kernel,rfl,by decide +kernel,by decide +kernel⟩
theorem XL (F:Fun K "is_end" "is_end" (top 24) f fd) (B:Blt mg) (qc0:zf P w K mg base n "is_whole" ["thing"] (zP K))    :
  FnOk P w K mg base CX0 (n + 1) f fd ["thing"] (rL K):=by
 refine F.ok XJ z8 (fun cdv A outer s H vs Q E hr h=>?_)
 obtain ⟨x,rfl,kn,q⟩:=h
 refine ⟨_,(zg (zn (XX (Yk (wg (pv 0))) (xH (zd qc0 hr rfl (za (pv 0) zb)))))),?_⟩
 refine ⟨x,rfl,_,rfl,?_⟩
 cases x with
 | non=>exact iteT q
 | _=>exact iteF ⟨_,rfl,_,rfl,kn,q⟩
theorem wJ:FnScope ["thing","add","low","high"] ["thing"] (zh (top 25)):=⟨rfl,rfl,rfl,by decide +kernel,rfl,by decide +kernel,by decide +kernel⟩
theorem Ya (F:Fun K "is_deed" "is_deed" (top 25) f fd) (B:Blt mg) (qc0:zf P w K mg base n "is_end" ["thing"] (rL K)) (qc1:zf P w K mg base n "is_whole" ["thing"] (zP K))    :
  FnOk P w K mg base CX0 (n + 1) f fd ["thing"] (wB K):=by
 refine F.ok wJ z8 (fun cdv A outer s H vs Q E hr h=>?_)
 obtain ⟨x,rfl,h⟩:=h
 refine ⟨_,(zc (zO (PW.pt (uE (zU (zR (zj yC rfl B.isinstance zK (za (pv 0) (za (x8 rfl B.tuple zH) zb))))) (wj (zB Vl (zj zk rfl B.len yz (za (pv 0) zb)) zi (zA _))))) (zg (zn xO)) zp) (zc (wS (pv 0) (x6 rfl (zw (zm (i:=1) wJ.nd rfl (Or.inl rfl)) (zw (zm (i:=2) wJ.nd rfl (Or.inl rfl)) (zw (zm (i:=3) wJ.nd rfl (Or.inl rfl)) yM))))) (zc (zO (zU (PW.pt (wQ (zR (zd qc1 hr rfl (za (pv 1) zb))) (wQ (zR (zd qc0 hr rfl (za (pv 2) zb))) (xP (zR (zd qc0 hr rfl (za (pv 3) zb)))))))) (zg (zn xO)) zp) (zc (zO (PW.pt (uE (xz (wg (pv 2))) (wj (xz (wg (pv 3)))))) (zg (zn xO)) zp) (zg (zn (XX (xa ZH (pv 2) (pv 3) (zA _)) (xH (wR (xa xF (pv 2) (pv 3) (zA _)) (xH (xa xF (pv 1) zi (zA _)))))))))))),?_⟩
 rcases h with ⟨T,hT,ty,q⟩ | ⟨a,xs,rfl,hs,hk,q⟩
 ·have kt:PySem.W.kitOne K (.type T) (.type "tuple") = some false:=by
   cases x with
   | non=>cases (show T = "NoneType" from ty); rfl
   | bl y=>cases (show T = "bool" from ty); rfl
   | int i=>cases (show T = "int" from ty); rfl
   | str y=>cases (show T = "str" from ty); rfl
   | byt y=>exact ty.elim
   | flt y=>exact ty.elim
   | ty y=>exact ty.elim
   | ref a =>
    rcases ty with ⟨rfl,xs,hq⟩ | ⟨rfl,xs,hq⟩ | ⟨rfl,kvs,hq⟩
    ·exact absurd rfl hT
    ·rfl
    ·rfl
  exact ⟨_,rfl,_,_,_,false,rfl,ty,kt,_,rfl,iteT (iteT q)⟩
 ·refine ⟨_,rfl,_,_,_,true,rfl,.inl ⟨rfl,xs,hs⟩,rfl,_,rfl,iteF ⟨_,rfl,a,xs,rfl,.inr hs,rfl,_,rfl,?_⟩⟩
  by_cases hl:xs.length = 3
  ·obtain ⟨y1,y2,y3,rfl⟩:=len3 hl
   refine iteF ⟨_,rfl,a,_,rfl,hs,rfl,_,_,rfl,_,_,rfl,_,_,rfl,rfl,?_⟩
   refine ⟨_,rfl,_,rfl,hk y1 (by simp),_,rfl,?_⟩
   refine ite2 (fun c1=>?_) (fun c1=>?_)
   ·obtain ⟨i1,rfl⟩:=YB c1
    refine ⟨_,rfl,_,rfl,hk y2 (by simp),_,rfl,?_⟩
    refine ite2 (fun c2=>?_) (fun c2=>?_)
    ·obtain ⟨o2,rfl⟩:=WX c2
     refine ⟨_,rfl,_,rfl,hk y3 (by simp),_,rfl,?_⟩
     by_cases c3:endV y3 = true
     ·obtain ⟨o3,rfl⟩:=WX c3
      rw [c3]
      refine iteF ?_
      cases o2 with
      | none=>exact ⟨_,rfl,_,rfl,iteT (iteT (by cases o3 <;> exact q))⟩
      | some l =>
       cases o3 with
       | none=>exact ⟨_,rfl,_,rfl,iteF ⟨_,rfl,_,rfl,iteT q⟩⟩
       | some u =>
        refine ⟨_,rfl,_,rfl,iteF ⟨_,rfl,_,rfl,iteF ?_⟩⟩
        refine ⟨_,rfl,_,rfl,_,_,rfl,rfl,_,rfl,?_⟩
        have q':Q (.bl (decide (l < u) || (decide (l = u) && decide (i1 = 0)))) H:=q
        refine ite2 (fun c=>?_) (fun c=>?_)
        ·rw [c] at q'; exact q'
        ·rw [Bool.eq_false_iff.mpr c] at q'
         refine ⟨_,rfl,_,rfl,rfl,_,rfl,?_⟩
         refine ite2 (fun d=>?_) (fun d=>?_)
         ·have d':l = u:=V.int.inj (of_decide_eq_true d)
          refine ⟨_,rfl,rfl,?_⟩
          rw [decide_eq_true d'] at q'
          have e:decide (V.int i1 = V.int 0) = decide (i1 = 0):=by simp
          rw [e]; exact q'
         ·have d':¬ l = u:=fun z=>d (by rw [z]; simp)
          rw [decide_eq_false d'] at q'
          exact q'
     ·have e:endV y3 = false:=Bool.eq_false_iff.mpr c3
      rw [e]
      refine iteT ?_
      have z:vH [V.int i1,ov o2,y3] = false:=by show (true && (endV (ov o2) && (endV y3 && _))) = false; rw [e]; simp
      rw [z] at q; exact q
    ·have e:endV y2 = false:=Bool.eq_false_iff.mpr c2
     refine iteT ?_
     have z:vH [V.int i1,y2,y3] = false:=by show (true && (endV y2 && (endV y3 && _))) = false; rw [e]; simp
     rw [z] at q; exact q
   ·have e:rK y1 = false:=Bool.eq_false_iff.mpr c1
    refine iteT ?_
    have z:vH [y1,y2,y3] = false:=by show (rK y1 && (endV y2 && (endV y3 && _))) = false; rw [e]; simp
    rw [z] at q; exact q
  ·have e:decide (V.int (xs.length:Int) = V.int 3) = false:=decide_eq_false fun z=>hl (by have:=V.int.inj z; omega)
   rw [e]
   refine iteT ?_
   rw [qV hl] at q; exact q
theorem qw:FnScope ["thing","least","greatest"] ["thing","least","greatest"] (zh (top 11)):=⟨rfl,rfl,rfl,by decide +kernel,rfl,by decide +kernel,by decide +kernel⟩
theorem qz (F:Fun K "is_within" "is_within" (top 11) f fd) (B:Blt mg) (qc0:zf P w K mg base n "is_whole" ["thing"] (zP K))    :
  FnOk P w K mg base CX0 (n + 1) f fd ["thing","least","greatest"] (yF K):=by
 refine F.ok qw wY (fun cdv A outer s H vs Q E hr h=>?_)
 obtain ⟨x,y,z,rfl,i,l,u,rfl,rfl,rfl,q⟩:=h
 refine ⟨_,(zg (zn (wR (zd qc0 hr rfl (za (pv 0) zb)) (xH (j4 wM wM (pv 1) (pv 0) (pv 2)))))),?_⟩
 refine ⟨_,rfl,_,rfl,xC,_,rfl,iteT ⟨_,rfl,_,rfl,_,_,rfl,rfl,_,rfl,?_⟩⟩
 by_cases c:l <= i
 ·refine yq (decide_eq_true c) ⟨_,rfl,_,_,rfl,rfl,?_⟩
  rw [decide_eq_true c] at q; exact q
 ·refine z9 (decide_eq_false c) ?_
  rw [decide_eq_false c] at q; exact q
theorem vB:FnScope ["board","thing","hand","box","deed"] ["board","thing"] (zh (top 38)):=⟨rfl,rfl,rfl,by decide +kernel,rfl,by decide +kernel,by decide +kernel⟩
theorem XM (F:Fun K "is_ask" "is_ask" (top 38) f fd) (B:Blt mg) (qc0:zf P w K mg base n "is_deed" ["thing"] (wB K)) (qc1:zf P w K mg base n "is_within" ["thing","least","greatest"] (yF K))  {t_LAST_HAND:Tok} (g_LAST_HAND:mg "LAST_HAND" = some (.int 15 t_LAST_HAND))  :
  FnOk P w K mg base CX0 (n + 1) f fd ["board","thing"] (rV K):=by
 refine F.ok vB zM (fun cdv A outer s H vs Q E hr h=>?_)
 obtain ⟨x,y,rfl,b,k,⟨rb,rfl,hb⟩,⟨r,rd,rfl,h1,h2⟩,⟨k1,k2,k3,k4,k5⟩,q⟩:=h
 refine ⟨_,(zc (zO (PW.pt (uE (zU (zR (zj yC rfl B.isinstance zK (za (pv 1) (za (x8 rfl B.tuple zH) zb))))) (wj (zB Vl (zj zk rfl B.len yz (za (pv 1) zb)) zi (zA _))))) (zg (zn xO)) zp) (zc (wS (pv 1) (x6 rfl (zw (zm (i:=2) vB.nd rfl (Or.inl rfl)) (zw (zm (i:=3) vB.nd rfl (Or.inl rfl)) (zw (zm (i:=4) vB.nd rfl (Or.inl rfl)) yM))))) (zg (zn (wR (zd qc1 hr rfl (za (pv 2) (za zi (za (xk rfl g_LAST_HAND (show RelV (.int 15) (.int 15 t_LAST_HAND) from ⟨_,rfl⟩)) zb)))) (wR (zd qc1 hr rfl (za (pv 3) (za zi (za (zS xo (zj zk rfl B.len yz (za (pv 0) zb)) zi) zb)))) (xH (zd qc0 hr rfl (za (pv 4) zb))))))))),?_⟩
 have hl:(b.map V.int).length = b.length:=List.length_map ..
 refine ⟨_,rfl,_,_,_,true,rfl,.inl ⟨rfl,_,h1⟩,rfl,_,rfl,iteF ⟨_,rfl,r,_,rfl,.inr h1,rfl,_,rfl,iteF ?_⟩⟩
 refine ⟨_,rfl,r,_,rfl,h1,rfl,_,_,rfl,_,_,rfl,_,_,rfl,rfl,?_⟩
 refine ⟨_,rfl,_,_,_,rfl,_,_,_,rfl,rfl,rfl,_,rfl,yq (by rw [decide_eq_true k1,decide_eq_true k2]; rfl) ?_⟩
 refine ⟨_,rfl,_,rfl,rb,_,rfl,.inr hb,_,_,rfl,rfl,_,_,_,rfl,_,_,_,rfl,rfl,rfl,_,rfl,yq (by rw [decide_eq_true k3,decide_eq_true (show k.box <= ((b.map V.int).length:Int) - 1 by rw [hl]; omega)]; rfl) ?_⟩
 refine ⟨_,rfl,_,rfl,.inr ⟨rd,_,rfl,h2,?_,?_⟩⟩
 ·intro v hv
  simp only [Deed.vs,List.mem_cons,List.mem_nil_iff,or_false] at hv
  rcases hv with rfl | rfl | rfl
  ·exact xC
  ·exact ZL _
  ·exact ZL _
 ·rw [vI k5]; exact q
theorem jR:FnScope ["thing"] ["thing"] (zh (top 36)):=⟨rfl,rfl,rfl,by decide +kernel,rfl,by decide +kernel,by decide +kernel⟩
theorem jS (F:Fun K "is_board" "is_board" (top 36) f fd) (B:Blt mg) (qc0:zf P w K mg base n "is_whole" ["thing"] (zP K))  {t_MOST_BOXES:Tok} (g_MOST_BOXES:mg "MOST_BOXES" = some (.int 16 t_MOST_BOXES))  :
  FnOk P w K mg base CX0 (n + 1) f fd ["thing"] (uQ K):=by
 refine F.ok jR z8 (fun cdv A outer s H vs Q E hr h=>?_)
 obtain ⟨x,rfl,b,⟨r,rfl,hs⟩,b1,b2,q⟩:=h
 refine ⟨_,(zc (zO (PW.pt (uE (zU (zR (zj yC rfl B.isinstance zK (za (pv 0) (za (x8 rfl B.tuple zH) zb))))) (wj (zU (vj wM wM zi (zj zk rfl B.len yz (za (pv 0) zb)) (xk rfl g_MOST_BOXES (show RelV (.int 16) (.int 16 t_MOST_BOXES) from ⟨_,rfl⟩))))))) (zg (zn xO)) zp) (zg (zn (zj (yH rfl) rfl B.all ss (za (zL (CSc.of (N':=["value"]) (sub:=[none]) (zh (top 36)) ["thing"] rfl rfl (by decide +kernel) rfl) rfl (yL (pv 0)) (fun _ _ _ _ _ _=>zm (i:=0) (show (["value"]:List Str).Nodup by decide +kernel) rfl (Or.inl rfl)) (fun _ _ _ _ _ _=>zD) (fun _ _ _ _ _ _=>(zd qc0 hr rfl (za (pv 0) zb)))) zb))))),?_⟩
 have hl:(b.map V.int).length = b.length:=List.length_map ..
 refine ⟨_,rfl,_,_,_,true,rfl,.inl ⟨rfl,_,hs⟩,rfl,_,rfl,iteF ?_⟩
 refine ⟨_,rfl,r,_,rfl,.inr hs,_,_,rfl,rfl,_,rfl,yq (decide_eq_true (by rw [hl]; omega)) ⟨_,_,rfl,rfl,_,rfl,z9 (by rw [decide_eq_true (show ((b.map V.int).length:Int) <= 16 by rw [hl]; omega)]; rfl) ?_⟩⟩
 refine ⟨_,rfl,r,rfl,⟨_,hs⟩,yB (fun _=>V.bl true) hs (by rw [hl]; omega) ?_ ?_⟩
 ·intro x H1 R hx g k
  obtain ⟨i,_,rfl⟩:=List.mem_map.mp hx
  exact ⟨_,rfl,_,rfl,xC,k _ (Grow.refl _ _)⟩
 ·intro H1 p g hp
  refine ⟨p,b.map (fun _=>true),rfl,SqL.of (by rw [ze,sB]),?_⟩
  rw [y7]
  exact q _ (g.trans (Grow.new hp _))
theorem sX:FnScope ["thing"] ["thing"] (zh (top 37)):=⟨rfl,rfl,rfl,by decide +kernel,rfl,by decide +kernel,by decide +kernel⟩
theorem sY (F:Fun K "need_board" "need_board" (top 37) f fd) (B:Blt mg) (qc0:zf P w K mg base n "is_board" ["thing"] (uQ K))    :
  FnOk P w K mg base CX0 (n + 1) f fd ["thing"] (vo K):=by
 refine F.ok sX z8 (fun cdv A outer s H vs Q E hr h=>?_)
 obtain ⟨x,rfl,b,hb,b1,b2,q⟩:=h
 refine ⟨_,(zg (zO (zU (zR (zd qc0 hr rfl (za (pv 0) zb)))) (zg zZ) zp)),?_⟩
 exact ⟨_,rfl,_,rfl,b,hb,b1,b2,fun H1 g1=>⟨_,rfl,iteF (q _ g1)⟩⟩
theorem jT:FnScope ["board","thing"] ["board","thing"] (zh (top 39)):=⟨rfl,rfl,rfl,by decide +kernel,rfl,by decide +kernel,by decide +kernel⟩
theorem jU (F:Fun K "are_asks" "are_asks" (top 39) f fd) (B:Blt mg) (qc0:zf P w K mg base n "is_ask" ["board","thing"] (rV K)) (qc1:zf P w K mg base n "need_board" ["thing"] (vo K))    :
  FnOk P w K mg base CX0 (n + 1) f fd ["board","thing"] (uR K):=by
 refine F.ok jT zM (fun cdv A outer s H vs Q E hr h=>?_)
 obtain ⟨x,y,rfl,b,ks,hb,b1,b2,ha,hk,hok,q⟩:=h
 refine ⟨_,(zc (zy (zd qc1 hr rfl (za (pv 0) zb))) (zg (zn (wR (zj yC rfl B.isinstance zK (za (pv 1) (za (x8 rfl B.tuple zH) zb))) (xH (zj (yH rfl) rfl B.all ss (za (zL (CSc.of (N':=["ask","board"]) (sub:=[none,some 0]) (zh (top 39)) ["board","thing"] rfl rfl (by decide +kernel) rfl) rfl (yL (pv 1)) (fun _ _ _ _ _ _=>zm (i:=0) (show (["ask","board"]:List Str).Nodup by decide +kernel) rfl (Or.inl rfl)) (fun _ _ _ _ _ _=>zD) (fun _ _ _ _ _ _=>(zd qc0 hr rfl (za (pv 1) (za (pv 0) zb))))) zb))))))),?_⟩
 refine ⟨_,rfl,_,rfl,b,hb,b1,b2,fun H1 g1=>?_⟩
 obtain ⟨r,xs,rfl,hs,hall⟩:=g1.asks ha
 refine ⟨_,rfl,_,_,_,true,rfl,.inl ⟨rfl,_,hs⟩,rfl,_,rfl,iteT ?_⟩
 have hl:=hall.len
 refine ⟨_,rfl,r,rfl,⟨_,hs⟩,yB (fun _=>V.bl true) hs (by omega) ?_ ?_⟩
 ·intro v H2 R hv g k
  obtain ⟨i,hi⟩:=List.getElem?_of_mem hv
  obtain ⟨kk,hkk,hak⟩:=hall.get hi
  exact ⟨_,rfl,_,rfl,_,_,rfl,b,kk,(g1.trans g).board hb,g.ask hak,hok kk (List.mem_of_getElem? hkk),k _ (Grow.refl _ _)⟩
 ·intro H2 p g hp
  refine ⟨p,xs.map (fun _=>true),rfl,SqL.of (by rw [ze,List.map_map]; rfl),?_⟩
  rw [y7]
  exact q _ (g1.trans (g.trans (Grow.new hp _)))
theorem qA:FnScope ["board","thing"] ["board","thing"] (zh (top 40)):=⟨rfl,rfl,rfl,by decide +kernel,rfl,by decide +kernel,by decide +kernel⟩
theorem qB (F:Fun K "need_asks" "need_asks" (top 40) f fd) (B:Blt mg) (qc0:zf P w K mg base n "are_asks" ["board","thing"] (uR K))    :
  FnOk P w K mg base CX0 (n + 1) f fd ["board","thing"] (wu K):=by
 refine F.ok qA zM (fun cdv A outer s H vs Q E hr h=>?_)
 obtain ⟨x,y,rfl,b,ks,hb,b1,b2,ha,hk,hok,q⟩:=h
 refine ⟨_,(zg (zO (zU (zR (zd qc0 hr rfl (za (pv 0) (za (pv 1) zb))))) (zg zZ) zp)),?_⟩
 exact ⟨_,rfl,_,rfl,_,_,rfl,b,ks,hb,b1,b2,ha,hk,hok,fun H1 g1=>⟨_,rfl,iteF (q _ g1)⟩⟩
theorem XN:FnScope ["board","asks"] ["board","asks"] (zh (top 43)):=⟨rfl,rfl,rfl,by decide +kernel,rfl,by decide +kernel,by decide +kernel⟩
theorem XO (F:Fun K "all_of" "all_of" (top 43) f fd) (B:Blt mg) (qc0:zf P w K mg base n "gathered" ["board","asks"] (uU K)) (qc1:zf P w K mg base n "need_asks" ["board","thing"] (wu K))    :
  FnOk P w K mg base CX0 (n + 1) f fd ["board","asks"] (qb K):=by
 refine F.ok XN zM (fun cdv A outer s H vs Q E hr h=>?_)
 obtain ⟨x,y,rfl,b,ks,hb,b1,b2,ha,hk,hok,q⟩:=h
 refine ⟨_,(zc (zy (zd qc1 hr rfl (za (pv 0) (za (pv 1) zb)))) (zg (zn (zG zJ (zd qc0 hr rfl (za (pv 0) (za (pv 1) zb))) zi (fun _ _=>rfl))))),?_⟩
 refine ⟨_,rfl,_,rfl,_,_,rfl,b,ks,hb,b1,b2,ha,by omega,hok,fun H1 g1=>?_⟩
 refine ⟨_,rfl,_,rfl,_,_,rfl,b,ks,g1.board hb,b1,b2,g1.asks ha,hk,hok,fun y2 H2 g2 h2=>?_⟩
 obtain ⟨r,r1,r2,rfl,h0,d1,d2⟩:=h2
 exact ⟨r,_,_,_,rfl,rfl,h0,rfl,q _ _ (g1.trans g2) d1⟩
theorem Yb:FnScope ["deeds","tree"] ["deeds","tree"] (zh (top 50)):=⟨rfl,rfl,rfl,by decide +kernel,rfl,by decide +kernel,by decide +kernel⟩
theorem Yc (F:Fun K "deed_of" "deed_of" (top 50) f fd) (B:Blt mg) {N:Nat} (qc0:zf P w K mg base n "joined" ["one","other"] (vm K)) (qc1:zf P w K mg base n "deed_of" ["deeds","tree"] (xj N K)) (qc2:zf P w K mg base n "is_whole" ["thing"] (zP K))    :
  FnOk P w K mg base CX0 (n + 1) f fd ["deeds","tree"] (xj (N + 1) K):=by
 refine F.ok Yb zM (fun cdv A outer s H vs Q E hr h=>?_)
 obtain ⟨x,y,rfl,ds,t,f0,hd,ht,ho,f1,f2,hN,q⟩:=h
 refine ⟨_,(zc (zO (zR (zd qc2 hr rfl (za (pv 1) zb))) (zg (zn (zG zJ (pv 0) (pv 1) (fun _ _=>rfl)))) zp) (zg (zn (zd qc0 hr rfl (za (zd qc1 hr rfl (za (pv 0) (za (zG zJ (pv 1) zi (fun _ _=>rfl)) zb))) (za (zd qc1 hr rfl (za (pv 0) (za (zG zJ (pv 1) zi (fun _ _=>rfl)) zb))) zb)))))),?_⟩
 have hd0:=hd
 obtain ⟨r,xs,rfl,hs,hall⟩:=hd0
 cases t with
 | leaf v =>
  cases (show y = V.int v from ht)
  cases (show v = f0 from ho)
  have f2':f0 + 1 <= ds.length:=f2
  have hj:f0.toNat < ds.length:=by omega
  obtain ⟨xx,hxx,hdx⟩:=hall.getR (List.getElem?_eq_getElem hj)
  refine ⟨_,rfl,_,rfl,xC,_,rfl,iteT ⟨_,rfl,_,rfl,r,_,_,_,rfl,rfl,hs,uO (wq f1 (by rw [hall.len]; exact hj)) hxx,q _ _ (Grow.refl _ _) ?_⟩⟩
  show zE K H xx (ds.getD f0.toNat look)
  rw [List.getD_eq_getElem?_getD,List.getElem?_eq_getElem hj]; exact hdx
 | node tl tr =>
  have hh:max tl.ht tr.ht + 1 < N + 1:=hN
  have f2':f0 + (tl.count + tr.count) <= ds.length:=f2
  have c1:=zz tl
  have c2:=zz tr
  have kn:=sD ht
  obtain ⟨a,xl,xr,rfl,hs2,h1,h2⟩:=ht
  refine ⟨_,rfl,_,rfl,kn,_,rfl,iteF ?_⟩
  refine ⟨_,rfl,_,rfl,a,_,_,_,rfl,rfl,hs2,rfl,_,_,rfl,ds,tl,f0,hd,h1,ho.1,f1,by omega,by omega,fun y1 H1 g1 hy1=>?_⟩
  refine ⟨_,rfl,_,rfl,a,_,_,_,rfl,rfl,g1.sqT hs2,rfl,_,_,rfl,ds,tr,f0 + tl.count,g1.deedsT hd,g1.tree h2,ho.2,by omega,by omega,by omega,fun y2 H2 g2 hy2=>?_⟩
  exact ⟨_,_,rfl,vq ds tl,vq ds tr,g2.deed hy1,hy2,fun t ht=>q _ _ (g1.trans (g2.trans (Grow.new ht _))) ⟨t,rfl,SqT.of ze⟩⟩
theorem qC:FnScope ["thing"] ["thing"] (zh (top 46)):=⟨rfl,rfl,rfl,by decide +kernel,rfl,by decide +kernel,by decide +kernel⟩
theorem qD (F:Fun K "need_many" "need_many" (top 46) f fd) (B:Blt mg) (qc0:zf P w K mg base n "is_within" ["thing","least","greatest"] (yF K))  {t_MOST_DEEDS:Tok} (g_MOST_DEEDS:mg "MOST_DEEDS" = some (.int 40 t_MOST_DEEDS))  :
  FnOk P w K mg base CX0 (n + 1) f fd ["thing"] (wv K):=by
 refine F.ok qC z8 (fun cdv A outer s H vs Q E hr h=>?_)
 obtain ⟨x,rfl,m,rfl,m0,m1,q⟩:=h
 refine ⟨_,(zg (zO (zU (zR (zd qc0 hr rfl (za (pv 0) (za zi (za (xk rfl g_MOST_DEEDS (show RelV (.int 40) (.int 40 t_MOST_DEEDS) from ⟨_,rfl⟩)) zb)))))) (zg zZ) zp)),?_⟩
 exact ⟨_,rfl,_,_,_,rfl,_,_,_,rfl,rfl,rfl,_,rfl,z9 (by rw [decide_eq_true m0,decide_eq_true m1]; rfl) q⟩
theorem xL:FnScope ["thing","many","todo","reached","part"] ["thing","many"] (zh (top 47)):=⟨rfl,rfl,rfl,by decide +kernel,rfl,by decide +kernel,by decide +kernel⟩
theorem Yd (F:Fun K "is_tree" "is_tree" (top 47) f fd) (B:Blt mg) (qc0:zf P w K mg base n "is_whole" ["thing"] (zP K)) (qc1:zf P w K mg base n "need_many" ["thing"] (wv K))    :
  FnOk P w K mg base CX0 (n + 1) f fd ["thing","many"] (tU K):=by
 refine F.ok xL zM (fun cdv A outer s H vs Q E hr h=>?_)
 obtain ⟨x,y,rfl,t,m,ht,rfl,ho,hc,m0,m1,q⟩:=h
 refine ⟨_,(zc (zy (zd qc1 hr rfl (za (pv 1) zb))) (zc (zr (i:=2) xL.nd rfl (Or.inl rfl) (wT (za (pv 0) zb))) (zc (zr (i:=3) xL.nd rfl (Or.inl rfl) zi) (zc (jZ PassesOwn.never (j5 (pv 2) (fun _=>rfl)) (zc (zr (i:=4) xL.nd rfl (Or.inl rfl) (Uq PySem.F.plainAttrs_list PySem.F.slot_list_pop PySem.F.type_list_pop Ur (pv 2))) (zg (zO (PW.pt (wQ (zR (zj yC rfl B.isinstance zK (za (pv 4) (za (x8 rfl B.tuple zH) zb)))) (xP (zB xF (zj zk rfl B.len yz (za (pv 4) zb)) zi (zA _))))) (zc (zy (rJ PySem.F.plainAttrs_list PySem.F.slot_list_append PySem.F.type_list_append yY (pv 2) (za (zG zJ (pv 4) zi (fun _ _=>rfl)) zb))) (zg (zy (rJ PySem.F.plainAttrs_list PySem.F.slot_list_append PySem.F.type_list_append yY (pv 2) (za (zG zJ (pv 4) zi (fun _ _=>rfl)) zb))))) (zg (zO (PW.pt (wQ (zR (zd qc0 hr rfl (za (pv 4) zb))) (xP (zB xF (pv 4) (pv 3) (zA _))))) (zg (Ug (i:=3) xL.nd rfl (Or.inl rfl) zi Uh)) (zg (zn xO)))))))) (zg (zn (xa xF (pv 3) (pv 1) (zA _)))))))),?_⟩
 refine ⟨_,rfl,_,rfl,m,rfl,m0,m1,?_⟩
 refine ⟨_,rfl,szl rfl,fun l hl=>?_⟩
 have gl:Grow [l] H (upd H l (.lst [x])):=Grow.new hl _
 have hw:=uw t
 refine ⟨fun μ σ' H'=>∃ xs ts k e,σ' = [some x,some (V.int m),some (V.ref l),some (V.int k),e] /\ Grow [l] H H' /\ H' l = some (.lst xs) /\ AllR (zY K H') xs ts /\ OrdR ts.reverse k m /\ wsum ts = μ /\ μ <= 200,⟨t.wt,[x],[t],0,_,rfl,gl,ze,⟨gl.tree ht,trivial⟩,⟨ho,by show 0 + t.count = m; omega⟩,by simp [wsum],by omega⟩,?_⟩
 rintro μ σ' H1 ⟨xs,ts,k,e,rfl,g1,hl1,ha1,hO,rfl,hμ⟩
 refine ⟨_,rfl,!xs.isEmpty,.inl ⟨xs,SqL.of hl1,rfl⟩,?_⟩
 by_cases hx:xs = []
 ·subst hx
  have:ts = []:=by have:=ha1.len; cases ts with | nil=>rfl | cons _ _=>cases this
  subst this
  have hk:k = m:=hO
  refine z9 rfl ⟨_,rfl,_,rfl,rfl,?_⟩
  rw [decide_eq_true (congrArg V.int hk)]
  exact q _ (g1.shrink hl)
 obtain ⟨ys,y,rfl⟩:=VE hx
 obtain ⟨js,j,rfl,hjs,hj⟩:=ha1.snocE
 rw [xt] at hμ
 refine yq (by simp) ⟨fun σ' H'=>∃ μ,μ < wsum (js ++ [j]) /\ ∃ xs ts k e,σ' = [some x,some (V.int m),some (V.ref l),some (V.int k),e] /\ Grow [l] H H' /\ H' l = some (.lst xs) /\ AllR (zY K H') xs ts /\ OrdR ts.reverse k m /\ wsum ts = μ /\ μ <= 200,fun _ _ z=>z,?_⟩
 rw [List.reverse_append] at hO
 have hO2:Ordd j k /\ OrdR js.reverse (k + j.count) m:=hO
 refine ⟨_,rfl,.inl ⟨rfl,_,SqL.of hl1⟩,l,_,y,rfl,rfl,hl1,by simp,?_⟩
 rw [List.dropLast_concat]
 have g2:Grow [l] H1 (upd H1 l (.lst ys)):=Grow.set hl1 (by simp) _
 have hjs2:=g2.treesR hjs
 have hj2:=g2.tree hj
 cases j with
 | leaf v =>
  cases (show y = V.int v from hj)
  cases (show v = k from hO2.1)
  refine ⟨_,rfl,_,_,_,false,rfl,rfl,rfl,_,rfl,iteF (iteF ?_)⟩
  refine ⟨_,rfl,_,rfl,xC,_,rfl,iteT ⟨_,rfl,_,rfl,rfl,_,rfl,yq (by simp) ?_⟩⟩
  refine ⟨_,rfl,_,_,rfl,rfl,wsum js,?_,ys,js,_,_,rfl,g1.trans g2,ze,hjs2,hO2.2,rfl,by omega⟩
  rw [xt]; show wsum js < wsum js + 1; omega
 | node tl tr =>
  obtain ⟨a,xl,xr,rfl,hs,h1,h2⟩:=hj2
  have hw2:Tr.wt (.node tl tr) = tl.wt + tr.wt + 1:=rfl
  rw [hw2] at hμ
  have hlen:ys.length <= wsum js:=by rw [hjs.len]; exact Zj js
  refine ⟨_,rfl,_,_,_,true,rfl,.inl ⟨rfl,_,hs⟩,rfl,_,rfl,iteT ⟨_,rfl,a,_,rfl,.inr hs,rfl,_,rfl,yq rfl ?_⟩⟩
  refine ⟨_,rfl,.inl ⟨rfl,_,SqL.of ze⟩,_,rfl,a,_,_,_,rfl,rfl,hs,rfl,l,ys,_,rfl,rfl,ze,zQ (by omega),?_⟩
  have g3:Grow [l] (upd H1 l (.lst ys)) (upd (upd H1 l (.lst ys)) l (.lst (ys ++ [xr]))):=Grow.set ze (by simp) _
  have hs3:=g3.sqT hs
  refine ⟨_,rfl,.inl ⟨rfl,_,SqL.of ze⟩,_,rfl,a,_,_,_,rfl,rfl,hs3,rfl,l,ys ++ [xr],_,rfl,rfl,ze,zQ (by rw [List.length_append]; show ys.length + 1 <= 1000; omega),?_⟩
  have g4:Grow [l] (upd (upd H1 l (.lst ys)) l (.lst (ys ++ [xr]))) (upd (upd (upd H1 l (.lst ys)) l (.lst (ys ++ [xr]))) l (.lst (ys ++ [xr] ++ [xl]))):=Grow.set ze (by simp) _
  have g34:=g3.trans g4
  refine ⟨wsum (js ++ [tr] ++ [tl]),?_,ys ++ [xr] ++ [xl],js ++ [tr] ++ [tl],k,_,rfl,g1.trans (g2.trans g34),ze,((g34.treesR hjs2).app (.one (g34.tree h2))).app (.one (g34.tree h1)),?_,rfl,?_⟩
  ·rw [xt,xt,xt,hw2]; omega
  ·rw [List.reverse_append,List.reverse_append]
   obtain ⟨⟨o1,o2⟩,o3⟩:=hO2
   refine ⟨o1,o2,?_⟩
   have:k + tl.count + tr.count = k + Tr.count (.node tl tr):=by show k + tl.count + tr.count = k + (tl.count + tr.count); omega
   rw [this]; exact o3
  ·rw [xt,xt]; omega
theorem qE:FnScope ["thing","many"] ["thing","many"] (zh (top 49)):=⟨rfl,rfl,rfl,by decide +kernel,rfl,by decide +kernel,by decide +kernel⟩
theorem qF (F:Fun K "need_tree" "need_tree" (top 49) f fd) (B:Blt mg) (qc0:zf P w K mg base n "is_tree" ["thing","many"] (tU K))    :
  FnOk P w K mg base CX0 (n + 1) f fd ["thing","many"] (y8 K):=by
 refine F.ok qE zM (fun cdv A outer s H vs Q E hr h=>?_)
 obtain ⟨x,y,rfl,t,m,ht,rfl,ho,hc,m0,m1,q⟩:=h
 refine ⟨_,(zg (zO (zU (zR (zd qc0 hr rfl (za (pv 0) (za (pv 1) zb))))) (zg zZ) zp)),?_⟩
 exact ⟨_,rfl,_,rfl,_,_,rfl,t,m,ht,rfl,ho,hc,m0,m1,fun H1 g1=>⟨_,rfl,iteF (q _ g1)⟩⟩
theorem vC:FnScope ["thing","row"] ["thing"] (zh (top 48)):=⟨rfl,rfl,rfl,by decide +kernel,rfl,by decide +kernel,by decide +kernel⟩
theorem sZ (F:Fun K "need_deeds" "need_deeds" (top 48) f fd) (B:Blt mg) (qc0:zf P w K mg base n "is_deed" ["thing"] (wB K))  {t_MOST_DEEDS:Tok} (g_MOST_DEEDS:mg "MOST_DEEDS" = some (.int 40 t_MOST_DEEDS))  :
  FnOk P w K mg base CX0 (n + 1) f fd ["thing"] (xR K):=by
 refine F.ok vC z8 (fun cdv A outer s H vs Q E hr h=>?_)
 obtain ⟨x,rfl,ds,⟨r,xs,rfl,hs,hall⟩,l1,l2,hok,q⟩:=h
 refine ⟨_,(zc (zr (i:=1) vC.nd rfl (Or.inl rfl) (wR (zj yC rfl B.isinstance zK (za (pv 0) (za (x8 rfl B.tuple zH) zb))) (xH (j4 wM wM zi (zj zk rfl B.len yz (za (pv 0) zb)) (xk rfl g_MOST_DEEDS (show RelV (.int 40) (.int 40 t_MOST_DEEDS) from ⟨_,rfl⟩)))))) (zg (zO (PW.pt (uE (zU (zR (pv 1))) (wj (zU (zR (zj (yH rfl) rfl B.all ss (za (zL (CSc.of (N':=["deed"]) (sub:=[none]) (zh (top 48)) ["thing","row"] rfl rfl (by decide +kernel) rfl) rfl (yL (pv 0)) (fun _ _ _ _ _ _=>zm (i:=0) (show (["deed"]:List Str).Nodup by decide +kernel) rfl (Or.inl rfl)) (fun _ _ _ _ _ _=>zD) (fun _ _ _ _ _ _=>(zd qc0 hr rfl (za (pv 0) zb)))) zb))))))) (zg zZ) zp))),?_⟩
 have hl:=hall.len
 refine ⟨_,rfl,_,_,_,true,rfl,.inl ⟨rfl,_,hs⟩,rfl,_,rfl,iteT ?_⟩
 refine ⟨_,rfl,r,_,rfl,.inr hs,_,_,rfl,rfl,_,rfl,yq (decide_eq_true (by omega)) ⟨_,_,rfl,rfl,?_⟩⟩
 refine ⟨_,rfl,_,rfl,z9 (by rw [decide_eq_true (show (xs.length:Int) <= 40 by omega)]; rfl) ?_⟩
 refine ⟨_,rfl,r,rfl,⟨_,hs⟩,yB (fun _=>V.bl true) hs (by omega) ?_ ?_⟩
 ·intro v H2 R hv g k
  obtain ⟨i,hi⟩:=List.getElem?_of_mem hv
  obtain ⟨d,hd,rd,rfl,hrd⟩:=hall.get hi
  refine ⟨_,rfl,_,rfl,.inr ⟨rd,_,rfl,g.sqT hrd,?_,?_⟩⟩
  ·intro v hv
   simp only [Deed.vs,List.mem_cons,List.mem_nil_iff,or_false] at hv
   rcases hv with rfl | rfl | rfl
   ·exact xC
   ·exact ZL _
   ·exact ZL _
  ·rw [vI (hok d (List.mem_of_getElem? hd))]; exact k _ (Grow.refl _ _)
 ·intro H2 p g hp
  refine ⟨p,xs.map (fun _=>true),rfl,SqL.of (by rw [ze,List.map_map]; rfl),_,rfl,z9 (by rw [y7]; rfl) ?_⟩
  exact q _ (g.trans (Grow.new hp _))
theorem XQ:FnScope ["deeds","tree"] ["deeds","tree"] (zh (top 51)):=⟨rfl,rfl,rfl,by decide +kernel,rfl,by decide +kernel,by decide +kernel⟩
theorem XR (F:Fun K "folded" "folded" (top 51) f fd) (B:Blt mg) (qc0:zf P w K mg base n "deed_of" ["deeds","tree"] (xj 41 K)) (qc1:zf P w K mg base n "need_tree" ["thing","many"] (y8 K)) (qc2:zf P w K mg base n "need_deeds" ["thing"] (xR K))    :
  FnOk P w K mg base CX0 (n + 1) f fd ["deeds","tree"] (uS K):=by
 refine F.ok XQ zM (fun cdv A outer s H vs Q E hr h=>?_)
 obtain ⟨x,y,rfl,ds,t,hd,d1,d2,hok,ht,ho,hc,hh,q⟩:=h
 refine ⟨_,(zc (zy (zd qc2 hr rfl (za (pv 0) zb))) (zc (zy (zd qc1 hr rfl (za (pv 1) (za (zj zk rfl B.len yz (za (pv 0) zb)) zb)))) (zg (zn (zd qc0 hr rfl (za (pv 0) (za (pv 1) zb))))))),?_⟩
 refine ⟨_,rfl,_,rfl,ds,hd,d1,d2,hok,fun H1 g1=>?_⟩
 obtain ⟨r,xs,rfl,hs,hall⟩:=g1.deedsT hd
 have hl:=hall.len
 refine ⟨_,rfl,_,rfl,r,_,rfl,.inr hs,_,_,rfl,t,_,g1.tree ht,rfl,ho,by omega,by omega,by omega,fun H2 g2=>?_⟩
 refine ⟨_,rfl,_,rfl,_,_,rfl,ds,t,0,g2.deedsT ⟨r,xs,rfl,hs,hall⟩,g2.tree (g1.tree ht),ho,by decide,by omega,hh,fun y3 H3 g3 hy3=>q _ _ (g1.trans (g2.trans g3)) ?_⟩
 rw [vt hok ho (by decide) (by omega),hc,YN] at hy3
 exact hy3
theorem wK:FnScope ["many","tree","number"] ["many"] (zh (top 54)):=⟨rfl,rfl,rfl,by decide +kernel,rfl,by decide +kernel,by decide +kernel⟩
theorem Ye (F:Fun K "chained" "chained" (top 54) f fd) (B:Blt mg) (qc0:zf P w K mg base n "need_many" ["thing"] (wv K))    :
  FnOk P w K mg base CX0 (n + 1) f fd ["many"] (vM K):=by
 refine F.ok wK z8 (fun cdv A outer s H vs Q E hr h=>?_)
 obtain ⟨x,rfl,m,rfl,m0,m1,q⟩:=h
 refine ⟨_,(zc (zy (zd qc0 hr rfl (za (pv 0) zb))) (zc (zr (i:=1) wK.nd rfl (Or.inl rfl) zi) (zc (vg PassesOwn.never rfl (Ym rfl B.range (za zi (za (pv 0) zb))) (zm (i:=2) wK.nd rfl (Or.inl rfl)) (zg (zr (i:=1) wK.nd rfl (Or.inl rfl) (yg (za (pv 1) (za (pv 2) zb)))))) (zg (zn (pv 1)))))),?_⟩
 refine ⟨_,rfl,_,rfl,m,rfl,m0,m1,?_⟩
 refine ⟨_,rfl,_,_,rfl,⟨by omega,by omega,by omega,by omega⟩,uG (fun i σ H'=>∃ y e,σ = [some (.int m),some y,e] /\ Grow [] H H' /\ zY K H' y (chT i)) ⟨_,_,rfl,Grow.refl _ _,rfl⟩ ?_ ?_⟩
 ·rintro i σ H1 hi ⟨y,e,rfl,g,hy⟩
  refine ⟨_,rfl,_,rfl,szl rfl,fun t ht=>⟨_,_,rfl,g.trans (Grow.new ht _),t,y,.int (1 + i),rfl,SqT.of ze,(Grow.new (m:=[]) ht _).tree hy,?_⟩⟩
  exact congrArg V.int (by omega)
 ·rintro σ H1 ⟨y,e,rfl,g,hy⟩
  exact ⟨_,rfl,q _ _ g hy⟩
theorem xM:FnScope ["board","asks","values","answers","hand","box","deed"] ["board","asks"] (zh (top 41)):=⟨rfl,rfl,rfl,by decide +kernel,rfl,by decide +kernel,by decide +kernel⟩
theorem XS (F:Fun K "played" "played" (top 41) f fd) (B:Blt mg) (qc0:zf P w K mg base n "made" ["deed","value"] (vJ K)) (qc1:zf P w K mg base n "need_asks" ["board","thing"] (wu K))    :
  FnOk P w K mg base CX0 (n + 1) f fd ["board","asks"] (rX K):=by
 refine F.ok xM zM (fun cdv A outer s H vs Q E hr h=>?_)
 obtain ⟨x,y,rfl,b,ks,hb,b1,b2,ha,hk,hok,q⟩:=h
 refine ⟨_,(zc (zy (zd qc1 hr rfl (za (pv 0) (za (pv 1) zb)))) (zc (zr (i:=2) xM.nd rfl (Or.inl rfl) (zF v3 rfl B.list WW (za (pv 0) zb))) (zc (zr (i:=3) xM.nd rfl (Or.inl rfl) (wT zb)) (zc (vg PassesOwn.never rfl (yL (pv 1)) (x6 rfl (zw (zm (i:=4) xM.nd rfl (Or.inl rfl)) (zw (zm (i:=5) xM.nd rfl (Or.inl rfl)) (zw (zm (i:=6) xM.nd rfl (Or.inl rfl)) yM)))) (zc (zy (rJ PySem.F.plainAttrs_list PySem.F.slot_list_append PySem.F.type_list_append yY (pv 3) (za (zG yy (pv 2) (pv 5) (fun _ _=>rfl)) zb))) (zg (wS (zd qc0 hr rfl (za (pv 6) (za (zG yy (pv 2) (pv 5) (fun _ _=>rfl)) zb))) (jY (pv 2) (pv 5) uq))))) (zg (zn (yg (za (zF zx rfl B.tuple zH (za (pv 3) zb)) (za (zF zx rfl B.tuple zH (za (pv 2) zb)) zb))))))))),?_⟩
 refine ⟨_,rfl,_,rfl,_,_,rfl,b,ks,hb,b1,b2,ha,by omega,hok,fun H1 g1=>?_⟩
 obtain ⟨br,rfl,hbs⟩:=g1.board hb
 obtain ⟨ar,xs,rfl,hs,hall⟩:=g1.asks ha
 refine ⟨_,rfl,br,_,rfl,.inr hbs,fun lv hlv=>⟨szl rfl,fun la hla=>?_⟩⟩
 have gv:Grow [lv,la] H1 (upd (upd H1 lv (.lst (b.map V.int))) la (.lst [])):=(Grow.new hlv _).trans (Grow.new hla _)
 have nva:lv ≠ la:=fun z=>by rw [← z,ze] at hla; cases hla
 have laf:H1 la = none:=by rw [zq (Ne.symm nva)] at hla; exact hla
 have hl:=hall.len
 refine ⟨_,rfl,ar,rfl,⟨_,gv.sqT hs⟩,Yo (xs:=xs) (fun i σ H'=>∃ e4 e5 e6,σ = [some (.ref br),some (.ref ar),some (.ref lv),some (.ref la),e4,e5,e6] /\ Grow [lv,la] H1 H' /\ H' lv = some (.lst ((wN b (ks.take i)).2.map V.int)) /\ H' la = some (.lst ((wN b (ks.take i)).1.map V.int))) ⟨_,_,_,rfl,gv,by rw [zq nva,ze]; rfl,by rw [ze]; rfl⟩ ?_ ?_ ?_⟩
 ·rintro i σ H' _ ⟨e4,e5,e6,_,g,_⟩
  exact g.sqT hs
 ·rintro i x σ H' hx ⟨e4,e5,e6,rfl,g,h1,h2⟩
  obtain ⟨k,hk',hak⟩:=hall.get hx
  obtain ⟨r,rd,rfl,hr1,hr2⟩:=g.ask hak
  obtain ⟨o1,o2,o3,o4,o5⟩:=hok k (List.mem_of_getElem? hk')
  have hlen:=YH (b:=b) (ks:=ks.take i)
  have hj:k.box.toNat < (wN b (ks.take i)).2.length:=by rw [hlen.1]; omega
  have hget:=je hj
  have hst:=tR (b:=b) hk'
  generalize wN b (ks.take i) = st at h1 h2 hlen hj hget hst
  obtain ⟨as,vs⟩:=st
  have hj':k.box.toNat < vs.length:=hj
  have hget':vs[k.box.toNat]? = some (vs.getD k.box.toNat 0):=hget
  have hix:ixN (vs.map V.int).length k.box = some k.box.toNat:=by rw [List.length_map]; exact wq o3 hj'
  have hgv:(vs.map V.int)[k.box.toNat]? = some (V.int (vs.getD k.box.toNat 0)):=by rw [List.getElem?_map,hget']; rfl
  have hti:(ks.take i).length <= 900:=by rw [List.length_take]; omega
  refine ⟨r,_,rfl,hr1,rfl,_,_,rfl,_,_,rfl,_,_,rfl,rfl,?_⟩
  refine ⟨_,rfl,.inl ⟨rfl,_,SqL.of h2⟩,?_⟩
  refine ⟨_,rfl,_,rfl,lv,_,_,_,rfl,rfl,SqL.of h1,uO hix hgv,?_⟩
  refine ⟨la,_,_,rfl,rfl,h2,?_,?_⟩
  ·rw [List.length_map]
   have:=hlen.2
   exact zQ (by omega)
  have hlv2:upd H' la (.lst (as.map V.int ++ [V.int (vs.getD k.box.toNat 0)])) lv = some (.lst (vs.map V.int)):=by rw [zq nva]; exact h1
  have gla:Grow [lv,la] H' (upd H' la (.lst (as.map V.int ++ [V.int (vs.getD k.box.toNat 0)]))):=Grow.set h2 (by simp) _
  refine ⟨_,rfl,_,rfl,_,rfl,lv,_,_,_,rfl,rfl,SqL.of hlv2,uO hix hgv,_,_,rfl,k.deed,_,⟨rd,rfl,gla.sqT hr2⟩,rfl,?_⟩
  refine ⟨_,rfl,_,rfl,lv,_,_,_,rfl,rfl,hlv2,hix,?_⟩
  refine ⟨_,_,_,rfl,g.trans (gla.trans (Grow.set hlv2 (by simp) _)),?_,?_⟩
  ·rw [hst,ze]
   exact congrArg (fun z=>some (HO.lst z)) List.map_set.symm
  ·rw [hst,zq (Ne.symm nva),ze]
   exact congrArg (fun z=>some (HO.lst z)) (by rw [rT,List.map_append]; rfl)
 ·rintro σ H' ⟨e4,e5,e6,rfl,g,h1,h2⟩
  rw [hl,List.take_length] at h1 h2
  refine ⟨_,rfl,la,_,rfl,.inl ⟨SqL.of h2,fun ra hra=>?_⟩⟩
  have ga:Grow [] H' (upd H' ra (.tup ((wN b ks).1.map V.int))):=Grow.new hra _
  refine ⟨_,rfl,lv,_,rfl,.inl ⟨SqL.of (ga.keep _ _ (by simp) h1),fun rv hrv=>⟨szl rfl,fun rt hrt=>?_⟩⟩⟩
  have gb:Grow [] (upd H' ra (.tup ((wN b ks).1.map V.int))) (upd (upd H' ra (.tup ((wN b ks).1.map V.int))) rv (.tup ((wN b ks).2.map V.int))):=Grow.new hrv _
  have gc:=Grow.new (m:=[]) hrt (.tup [.ref ra,.ref rv])
  refine q _ _ (g1.trans ((Grow.fresh (m:=[lv,la]) (fun z hz=>by
   simp only [List.mem_cons,List.mem_nil_iff,or_false] at hz
   rcases hz with rfl | rfl
   ·exact hlv
   ·exact laf) g).trans (ga.trans (gb.trans gc)))) ⟨rt,ra,rv,rfl,SqT.of ze,gc.sqT (gb.sqT (SqT.of ze)),gc.sqT (SqT.of ze)⟩
theorem qG:FnScope ["thing"] ["thing"] (zh (top 27)):=⟨rfl,rfl,rfl,by decide +kernel,rfl,by decide +kernel,by decide +kernel⟩
theorem qH (F:Fun K "need_deed" "need_deed" (top 27) f fd) (B:Blt mg) (qc0:zf P w K mg base n "is_deed" ["thing"] (wB K))    :
  FnOk P w K mg base CX0 (n + 1) f fd ["thing"] (yZ K):=by
 refine F.ok qG z8 (fun cdv A outer s H vs Q E hr h=>?_)
 obtain ⟨x,rfl,d,⟨a,rfl,hs⟩,hd,q⟩:=h
 refine ⟨_,(zg (zO (zU (zR (zd qc0 hr rfl (za (pv 0) zb)))) (zg zZ) zp)),?_⟩
 have e:=vI hd
 refine ⟨_,rfl,_,rfl,.inr ⟨a,_,rfl,hs,?_,_,rfl,?_⟩⟩
 ·intro y hy
  rcases List.mem_cons.mp hy with rfl | hy
  ·exact xC
  rcases List.mem_cons.mp hy with rfl | hy
  ·exact ZL _
  rcases List.mem_cons.mp hy with rfl | hy
  ·exact ZL _
  cases hy
 ·rw [e]; exact iteF q
theorem s8:FnScope ["thing"] ["thing"] (zh (top 26)):=⟨rfl,rfl,rfl,by decide +kernel,rfl,by decide +kernel,by decide +kernel⟩
theorem s9 (F:Fun K "need_value" "need_value" (top 26) f fd) (B:Blt mg) (qc0:zf P w K mg base n "is_whole" ["thing"] (zP K))    :
  FnOk P w K mg base CX0 (n + 1) f fd ["thing"] (xc K):=by
 refine F.ok s8 z8 (fun cdv A outer s H vs Q E hr h=>?_)
 obtain ⟨x,rfl,i,rfl,q⟩:=h
 refine ⟨_,(zg (zO (zU (zR (zd qc0 hr rfl (za (pv 0) zb)))) (zg zZ) zp)),?_⟩
 exact ⟨_,rfl,_,rfl,xC,_,rfl,iteF q⟩
theorem V3:FnScope ["deed","value"] ["deed","value"] (zh (top 29)):=⟨rfl,rfl,rfl,by decide +kernel,rfl,by decide +kernel,by decide +kernel⟩
theorem V4 (F:Fun K "done" "done" (top 29) f fd) (B:Blt mg) (qc0:zf P w K mg base n "made" ["deed","value"] (vJ K)) (qc1:zf P w K mg base n "need_deed" ["thing"] (yZ K)) (qc2:zf P w K mg base n "need_value" ["thing"] (xc K))    :
  FnOk P w K mg base CX0 (n + 1) f fd ["deed","value"] (qW K):=by
 refine F.ok V3 zM (fun cdv A outer s H vs Q E hr h=>?_)
 obtain ⟨x,y,rfl,d,v,hd,ok,rfl,q⟩:=h
 refine ⟨_,(zc (zy (zd qc2 hr rfl (za (pv 1) zb))) (zc (zy (zd qc1 hr rfl (za (pv 0) zb))) (zg (zn (zd qc0 hr rfl (za (pv 0) (za (pv 1) zb))))))),?_⟩
 refine ⟨_,rfl,_,rfl,v,rfl,?_⟩
 refine ⟨_,rfl,_,rfl,d,hd,ok,?_⟩
 exact ⟨_,rfl,_,rfl,_,_,rfl,d,v,hd,rfl,q⟩
theorem ve:FnScope ["deeds","table","numbers","tree","state","states","left","right"] ["deeds","table","numbers","tree","state","states"] (zh (top 63)):=⟨rfl,rfl,rfl,by decide +kernel,rfl,by decide +kernel,by decide +kernel⟩
theorem jV (F:Fun K "share_by" "share_by" (top 63) f fd) (B:Blt mg) {N:Nat} (qc0:zf P w K mg base n "share_by" ["deeds","table","numbers","tree","state","states"] (yP N K)) (qc1:zf P w K mg base n "is_whole" ["thing"] (zP K))    :
  FnOk P w K mg base CX0 (n + 1) f fd ["deeds","table","numbers","tree","state","states"] (yP (N + 1) K):=by
 refine F.ok ve VF (fun cdv A outer s H vs Q E hr h=>?_)
 obtain ⟨x,y,z,u,w,k,rfl,R,M,ds,tab,ns,t,f0,v0,l,zs,hd,hx,hy,ht,F,hD,ho,f1,f2,hN,rfl,v1,v2,rfl,hl,hz,q⟩:=h
 refine ⟨_,(zc (zO (zR (zd qc1 hr rfl (za (pv 3) zb))) (zc (zy (rJ PySem.F.plainAttrs_list PySem.F.slot_list_append PySem.F.type_list_append yY (pv 5) (za (pv 4) zb))) (zg (zn (zG zJ (pv 2) (pv 3) (fun _ _=>rfl))))) zp) (zc (zr (i:=6) ve.nd rfl (Or.inl rfl) (zd qc0 hr rfl (za (pv 0) (za (pv 1) (za (pv 2) (za (zG zJ (pv 3) zi (fun _ _=>rfl)) (za (pv 4) (za (pv 5) zb)))))))) (zc (zr (i:=7) ve.nd rfl (Or.inl rfl) (zd qc0 hr rfl (za (pv 0) (za (pv 1) (za (pv 2) (za (zG zJ (pv 3) zi (fun _ _=>rfl)) (za (zG zJ (zG zJ (pv 0) (pv 6) (fun _ _=>rfl)) (pv 4) (fun _ _=>rfl)) (za (pv 5) zb)))))))) (zg (zn (zG zJ (zG zJ (pv 1) (pv 6) (fun _ _=>rfl)) (pv 7) (fun _ _=>rfl))))))),?_⟩
 have hx0:=hx
 have hy0:=hy
 have hd0:=hd
 obtain ⟨rx,xs,rfl,hxs,hall⟩:=hx0
 obtain ⟨ry,rfl,hys⟩:=hy0
 obtain ⟨rd,xd,rfl,hds,hdall⟩:=hd0
 have hR:=F.tab.1
 cases t with
 | leaf v =>
  cases (show u = V.int v from ht)
  cases (show v = f0 from ho)
  have f2':f0 + 1 <= ns.length:=f2
  have hz':(zs.length:Int) + 1 <= 500:=hz
  refine ⟨_,rfl,_,rfl,xC,_,rfl,iteT ⟨_,rfl,.inl ⟨rfl,_,SqL.of hl⟩,_,rfl,l,_,_,rfl,rfl,hl,?_,?_⟩⟩
  ·rw [List.length_map]; exact zQ (by omega)
  have g1:Grow [l] H (upd H l (.lst (zs.map V.int ++ [V.int v0]))):=Grow.set hl (by simp) _
  refine ⟨_,rfl,_,rfl,ry,_,_,_,rfl,rfl,g1.sqT hys,getI f1 (by omega),q _ g1 ?_⟩
  rw [ze,List.map_append]; rfl
 | node tl tr =>
  have hh:max tl.ht tr.ht + 1 < N + 1:=hN
  have f2':f0 + (tl.count + tr.count) <= ns.length:=f2
  have hz':(zs.length:Int) + (tl.count + tr.count) <= 500:=hz
  have c1:=zz tl
  have c2:=zz tr
  have kn:=sD ht
  obtain ⟨a,xl,xr,rfl,hs2,h1,h2⟩:=ht
  have n1:=xg F ho.1 f1 (by omega)
  have n2:=xg F ho.2 (by omega) (by omega)
  have z1:=ZO F.tab n1.1 n1.2
  have w1:=ZO hD n1.1 n1.2
  have w2:=jm w1.2 v1 (by rw [w1.1]; exact v2)
  refine ⟨_,rfl,_,rfl,kn,_,rfl,iteF ?_⟩
  refine ⟨_,rfl,_,rfl,_,rfl,_,rfl,a,_,_,_,rfl,rfl,hs2,rfl,_,rfl,_,rfl,_,_,_,_,_,_,rfl,R,M,ds,tab,ns,tl,f0,v0,l,zs,hd,hx,hy,h1,F,hD,ho.1,f1,by omega,by omega,rfl,v1,v2,rfl,hl,by omega,fun H1 g1 hl1=>?_⟩
  have hln:=jn ds tab ns tl v0
  have hs3:=g1.sqT hs2
  obtain ⟨re,hre,hse⟩:=uT (g1.boardsR hdall) n1.1 (by rw [hD.1]; exact n1.2)
  refine ⟨_,rfl,_,rfl,_,rfl,_,rfl,a,_,_,_,rfl,rfl,hs3,rfl,_,rfl,_,rfl,rd,_,_,_,rfl,rfl,g1.sqT hds,hre,_,rfl,re,_,_,_,rfl,rfl,hse,getI v1 (by rw [w1.1]; exact v2),_,rfl,_,_,_,_,_,_,rfl,R,M,ds,tab,ns,tr,f0 + tl.count,_,l,zs ++ shT ds tab ns tl v0,g1.rows hd,g1.rows hx,g1.board hy,g1.tree h2,F,hD,ho.2,by omega,by omega,by omega,rfl,w2.1,w2.2,rfl,hl1,?_,fun H2 g2 hl2=>?_⟩
  ·rw [List.length_append]; omega
  have g12:=g1.trans g2
  obtain ⟨ra,hra,hsa⟩:=uT (g12.boardsR hall) n1.1 (by rw [hR]; exact n1.2)
  refine ⟨_,rfl,_,rfl,rx,_,_,_,rfl,rfl,g12.sqT hxs,hra,_,rfl,ra,_,_,_,rfl,rfl,hsa,getI n2.1 (by rw [z1.1]; exact n2.2),q _ g12 ?_⟩
  rw [hl2,List.append_assoc]; rfl
theorem tE:FnScope ["thing","many"] ["thing","many"] (zh (top 56)):=⟨rfl,rfl,rfl,by decide +kernel,rfl,by decide +kernel,by decide +kernel⟩
theorem tF (F:Fun K "are_numbers" "are_numbers" (top 56) f fd) (B:Blt mg) (qc0:zf P w K mg base n "is_within" ["thing","least","greatest"] (yF K))    :
  FnOk P w K mg base CX0 (n + 1) f fd ["thing","many"] (xG K):=by
 refine F.ok tE zM (fun cdv A outer s H vs Q E hr h=>?_)
 obtain ⟨x,y,rfl,ns,m,⟨r,rfl,hs⟩,rfl,hr0,hl,q⟩:=h
 refine ⟨_,(zg (zn (wR (zj yC rfl B.isinstance zK (za (pv 0) (za (x8 rfl B.tuple zH) zb))) (xH (zj (yH rfl) rfl B.all ss (za (zL (CSc.of (N':=["number","many"]) (sub:=[none,some 1]) (zh (top 56)) ["thing","many"] rfl rfl (by decide +kernel) rfl) rfl (yL (pv 0)) (fun _ _ _ _ _ _=>zm (i:=0) (show (["number","many"]:List Str).Nodup by decide +kernel) rfl (Or.inl rfl)) (fun _ _ _ _ _ _=>zD) (fun _ _ _ _ _ _=>(zd qc0 hr rfl (za (pv 0) (za zi (za (zS xo (pv 1) zi) zb)))))) zb)))))),?_⟩
 refine ⟨_,rfl,_,_,_,true,rfl,.inl ⟨rfl,_,hs⟩,rfl,_,rfl,iteT ?_⟩
 refine ⟨_,rfl,r,rfl,⟨_,hs⟩,yB (fun _=>V.bl true) hs (by rw [List.length_map]; exact hl) ?_ ?_⟩
 ·intro v H2 R hv g k
  obtain ⟨i,hi,rfl⟩:=List.mem_map.mp hv
  have:=hr0 i hi
  refine ⟨_,rfl,_,rfl,_,_,rfl,rfl,_,_,_,rfl,_,_,_,rfl,rfl,rfl,?_⟩
  rw [decide_eq_true this.1,decide_eq_true (show i <= m - 1 by omega)]
  exact k _ (Grow.refl _ _)
 ·intro H2 p g hp
  refine ⟨p,ns.map (fun _=>true),rfl,SqL.of (by rw [ze,sB]),?_⟩
  rw [y7]
  exact q _ (g.trans (Grow.new hp _))
theorem tu:FnScope ["table","thing"] ["table","thing"] (zh (top 59)):=⟨rfl,rfl,rfl,by decide +kernel,rfl,by decide +kernel,by decide +kernel⟩
theorem tw (F:Fun K "need_numbers" "need_numbers" (top 59) f fd) (B:Blt mg) (qc0:zf P w K mg base n "are_numbers" ["thing","many"] (xG K))  {t_MOST_DEEDS:Tok} (g_MOST_DEEDS:mg "MOST_DEEDS" = some (.int 40 t_MOST_DEEDS))  :
  FnOk P w K mg base CX0 (n + 1) f fd ["table","thing"] (xu K):=by
 refine F.ok tu zM (fun cdv A outer s H vs Q E hr h=>?_)
 obtain ⟨x,y,rfl,rows,ns,⟨r,xs,rfl,hs,hall⟩,hb,hR,l1,l2,q⟩:=h
 refine ⟨_,(zg (zO (PW.pt (uE (zU (zR (zd qc0 hr rfl (za (pv 1) (za (zj zk rfl B.len yz (za (pv 0) zb)) zb))))) (wj (zU (vj wM wM zi (zj zk rfl B.len yz (za (pv 1) zb)) (xk rfl g_MOST_DEEDS (show RelV (.int 40) (.int 40 t_MOST_DEEDS) from ⟨_,rfl⟩))))))) (zg zZ) zp)),?_⟩
 have hl:=hall.len
 have hln:(ns.map V.int).length = ns.length:=List.length_map ..
 refine ⟨_,rfl,_,rfl,r,_,rfl,.inr hs,_,_,rfl,ns,_,hb,rfl,by rw [hl]; exact hR,by omega,fun H1 g1=>⟨_,rfl,iteF ?_⟩⟩
 obtain ⟨rr,rfl,hrr⟩:=g1.board hb
 refine ⟨_,rfl,rr,_,rfl,.inr hrr,_,_,rfl,rfl,_,rfl,yq (decide_eq_true (by rw [hln]; omega)) ⟨_,_,rfl,rfl,_,rfl,z9 (by rw [decide_eq_true (show ((ns.map V.int).length:Int) <= 40 by rw [hln]; omega)]; rfl) (q _ g1)⟩⟩
theorem tG:FnScope ["thing"] ["thing"] (zh (top 16)):=⟨rfl,rfl,rfl,by decide +kernel,rfl,by decide +kernel,by decide +kernel⟩
theorem tH (F:Fun K "is_by_table" "is_by_table" (top 16) f fd) (B:Blt mg) (qc0:zf P w K mg base n "is_within" ["thing","least","greatest"] (yF K))  {t_MOST_STATES:Tok} (g_MOST_STATES:mg "MOST_STATES" = some (.int 5 t_MOST_STATES))  :
  FnOk P w K mg base CX0 (n + 1) f fd ["thing"] (wW K):=by
 refine F.ok tG z8 (fun cdv A outer s H vs Q E hr h=>?_)
 obtain ⟨x,rfl,row,⟨r,rfl,hs⟩,l1,l2,hr0,q⟩:=h
 refine ⟨_,(zc (zO (PW.pt (uE (zU (zR (zj yC rfl B.isinstance zK (za (pv 0) (za (x8 rfl B.tuple zH) zb))))) (wj (zU (vj wM wM zi (zj zk rfl B.len yz (za (pv 0) zb)) (xk rfl g_MOST_STATES (show RelV (.int 5) (.int 5 t_MOST_STATES) from ⟨_,rfl⟩))))))) (zg (zn xO)) zp) (zg (zn (zj (yH rfl) rfl B.all ss (za (zL (CSc.of (N':=["state","thing"]) (sub:=[none,some 0]) (zh (top 16)) ["thing"] rfl rfl (by decide +kernel) rfl) rfl (yL (pv 0)) (fun _ _ _ _ _ _=>zm (i:=0) (show (["state","thing"]:List Str).Nodup by decide +kernel) rfl (Or.inl rfl)) (fun _ _ _ _ _ _=>zD) (fun _ _ _ _ _ _=>(zd qc0 hr rfl (za (pv 0) (za zi (za (zS xo (zj (ww (K:=K) rfl) rfl B.len yz (za (pv 1) zb)) zi) zb)))))) zb))))),?_⟩
 have hl:(row.map V.int).length = row.length:=List.length_map ..
 refine ⟨_,rfl,_,_,_,true,rfl,.inl ⟨rfl,_,hs⟩,rfl,_,rfl,iteF ?_⟩
 refine ⟨_,rfl,r,_,rfl,.inr hs,_,_,rfl,rfl,_,rfl,yq (decide_eq_true (by rw [hl]; omega)) ⟨_,_,rfl,rfl,_,rfl,z9 (by rw [decide_eq_true (show ((row.map V.int).length:Int) <= 5 by rw [hl]; omega)]; rfl) ?_⟩⟩
 refine ⟨_,rfl,r,rfl,⟨_,hs⟩,yB (fun _=>V.bl true) hs (by rw [hl]; omega) ?_ ?_⟩
 ·intro v H2 R hv g k
  obtain ⟨i,hi,rfl⟩:=List.mem_map.mp hv
  have:=hr0 i hi
  refine ⟨_,rfl,_,rfl,r,_,rfl,.inr (g.sqT hs),_,_,rfl,rfl,_,_,_,rfl,_,_,_,rfl,rfl,rfl,?_⟩
  rw [decide_eq_true this.1,decide_eq_true (show i <= ((row.map V.int).length:Int) - 1 by rw [hl]; omega)]
  exact k _ (Grow.refl _ _)
 ·intro H2 p g hp
  refine ⟨p,row.map (fun _=>true),rfl,SqL.of (by rw [ze,sB]),?_⟩
  rw [y7]
  exact q _ (g.trans (Grow.new hp _))
theorem ug:FnScope ["thing","least","most"] ["thing","least","most"] (zh (top 17)):=⟨rfl,rfl,rfl,by decide +kernel,rfl,by decide +kernel,by decide +kernel⟩
theorem uh (F:Fun K "need_by_table" "need_by_table" (top 17) f fd) (B:Blt mg) (qc0:zf P w K mg base n "is_by_table" ["thing"] (wW K))    :
  FnOk P w K mg base CX0 (n + 1) f fd ["thing","least","most"] (yQ K):=by
 refine F.ok ug wY (fun cdv A outer s H vs Q E hr h=>?_)
 obtain ⟨x,y,z,rfl,R,M,lo,hi,rows,hx,rfl,rfl,b1,b2,r1,r2,m1,m2,hT,q⟩:=h
 refine ⟨_,(zc (zO (PW.pt (uE (zU (zR (zj yC rfl B.isinstance zK (za (pv 0) (za (x8 rfl B.tuple zH) zb))))) (wj (zU (vj wM wM (pv 1) (zj zk rfl B.len yz (za (pv 0) zb)) (pv 2)))))) (zg zZ) zp) (zc (zO (zU (zR (zj (yH rfl) rfl B.all ss (za (zL (CSc.of (N':=["deed"]) (sub:=[none]) (zh (top 17)) ["thing","least","most"] rfl rfl (by decide +kernel) rfl) rfl (yL (pv 0)) (fun _ _ _ _ _ _=>zm (i:=0) (show (["deed"]:List Str).Nodup by decide +kernel) rfl (Or.inl rfl)) (fun _ _ _ _ _ _=>zD) (fun _ _ _ _ _ _=>(zd qc0 hr rfl (za (pv 0) zb)))) zb)))) (zg zZ) zp) (zg (zO (zU (zR (zj (yH rfl) rfl B.all ss (za (zL (CSc.of (N':=["deed","thing"]) (sub:=[none,some 0]) (zh (top 17)) ["thing","least","most"] rfl rfl (by decide +kernel) rfl) rfl (yL (pv 0)) (fun _ _ _ _ _ _=>zm (i:=0) (show (["deed","thing"]:List Str).Nodup by decide +kernel) rfl (Or.inl rfl)) (fun _ _ _ _ _ _=>zD) (fun _ _ _ _ _ _=>(xa xF (zj (ww (K:=K) rfl) rfl B.len yz (za (pv 0) zb)) (zj (ww (K:=K) rfl) rfl B.len yz (za (zG (ja (K:=K) rfl) (pv 1) zi (fun _ _=>rfl)) zb)) (zA _)))) zb)))) (zg zZ) zp)))),?_⟩
 have hx0:=hx
 obtain ⟨r,xs,rfl,hs,hall⟩:=hx0
 have hl:=hall.len
 have hR:=hT.1
 refine ⟨_,rfl,_,_,_,true,rfl,.inl ⟨rfl,_,hs⟩,rfl,_,rfl,iteF ?_⟩
 refine ⟨_,rfl,_,rfl,r,_,rfl,.inr hs,_,_,rfl,rfl,_,rfl,yq (decide_eq_true (by omega)) ⟨_,rfl,_,_,rfl,rfl,_,rfl,z9 (by rw [decide_eq_true (show (xs.length:Int) <= hi by omega)]; rfl) ?_⟩⟩
 refine ⟨_,rfl,r,rfl,⟨_,hs⟩,yB (fun _=>V.bl true) hs (by omega) ?_ ?_⟩
 ·intro v H2 R' hv g k
  obtain ⟨i,hi⟩:=List.getElem?_of_mem hv
  obtain ⟨row,hrow,hb⟩:=hall.get hi
  have ho:=hT.2 row (List.mem_of_getElem? hrow)
  exact ⟨_,rfl,_,rfl,row,g.board hb,by omega,by omega,by rw [ho.1]; exact ho.2,fun H3 g3=>k _ g3⟩
 intro H2 p g hp
 refine ⟨p,xs.map (fun _=>true),rfl,SqL.of (by rw [ze,List.map_map]; rfl),_,rfl,z9 (by rw [y7]; rfl) ?_⟩
 have g2:=g.trans (Grow.new hp (.lst (xs.map fun _=>V.bl true)))
 have hs2:=g2.sqT hs
 have hall2:=g2.boardsR hall
 obtain ⟨ra,hra,hsa⟩:=uT hall2 (i:=0) (by decide) (by omega)
 have hrl:=(ZO hT (i:=0) (by decide) (by omega)).1
 refine ⟨_,rfl,r,rfl,⟨_,hs2⟩,yB (fun _=>V.bl true) hs2 (by omega) ?_ ?_⟩
 ·intro v H3 R' hv g3 k
  obtain ⟨i,hi⟩:=List.getElem?_of_mem hv
  obtain ⟨row,hrow,rr,rfl,hrr⟩:=hall2.get hi
  have ho:=hT.2 row (List.mem_of_getElem? hrow)
  refine ⟨_,rfl,rr,_,rfl,.inr (g3.sqT hrr),_,rfl,r,_,_,_,rfl,rfl,g3.sqT hs2,hra,ra,_,rfl,.inr (g3.sqT hsa),rfl,?_⟩
  rw [decide_eq_true (congrArg V.int (show ((row.map V.int).length:Int) = (((rows.getD (0:Int).toNat []).map V.int).length:Int) by rw [List.length_map,List.length_map,ho.1,hrl]))]
  exact k _ (Grow.refl _ _)
 ·intro H3 p3 g3 hp3
  refine ⟨p3,xs.map (fun _=>true),rfl,SqL.of (by rw [ze,List.map_map]; rfl),_,rfl,z9 (by rw [y7]; rfl) ?_⟩
  exact q _ (g2.trans (g3.trans (Grow.new hp3 _)))
theorem vD:FnScope ["thing","many"] ["thing"] (zh (top 57)):=⟨rfl,rfl,rfl,by decide +kernel,rfl,by decide +kernel,by decide +kernel⟩
theorem rc (F:Fun K "need_table" "need_table" (top 57) f fd) (B:Blt mg) (qc0:zf P w K mg base n "are_numbers" ["thing","many"] (xG K))  {t_MOST_IN_FAMILY:Tok} (g_MOST_IN_FAMILY:mg "MOST_IN_FAMILY" = some (.int 60 t_MOST_IN_FAMILY))  :
  FnOk P w K mg base CX0 (n + 1) f fd ["thing"] (xT K):=by
 refine F.ok vD z8 (fun cdv A outer s H vs Q E hr h=>?_)
 obtain ⟨x,rfl,rows,⟨r,xs,rfl,hs,hall⟩,l1,l2,hT,q⟩:=h
 refine ⟨_,(zc (zO (PW.pt (uE (zU (zR (zj yC rfl B.isinstance zK (za (pv 0) (za (x8 rfl B.tuple zH) zb))))) (wj (zU (vj wM wM zi (zj zk rfl B.len yz (za (pv 0) zb)) (xk rfl g_MOST_IN_FAMILY (show RelV (.int 60) (.int 60 t_MOST_IN_FAMILY) from ⟨_,rfl⟩))))))) (zg zZ) zp) (zc (zr (i:=1) vD.nd rfl (Or.inr rfl) (zj zk rfl B.len yz (za (pv 0) zb))) (zg (zO (zU (zR (zj (yH rfl) rfl B.all ss (za (zL (CSc.of (N':=["row","many"]) (sub:=[none,some 1]) (zh (top 57)) ["thing","many"] rfl rfl (by decide +kernel) rfl) rfl (yL (pv 0)) (fun _ _ _ _ _ _=>zm (i:=0) (show (["row","many"]:List Str).Nodup by decide +kernel) rfl (Or.inl rfl)) (fun _ _ _ _ _ _=>zD) (fun _ _ _ _ _ _=>(wR (zd qc0 hr rfl (za (pv 0) (za (pv 1) zb))) (xH (xa xF (zj (ww (K:=K) rfl) rfl B.len yz (za (pv 0) zb)) (pv 1) (zA _)))))) zb)))) (zg zZ) zp)))),?_⟩
 have hl:=hall.len
 refine ⟨_,rfl,_,_,_,true,rfl,.inl ⟨rfl,_,hs⟩,rfl,_,rfl,iteF ?_⟩
 refine ⟨_,rfl,r,_,rfl,.inr hs,_,_,rfl,rfl,_,rfl,yq (decide_eq_true (by omega)) ⟨_,_,rfl,rfl,_,rfl,z9 (by rw [decide_eq_true (show (xs.length:Int) <= 60 by omega)]; rfl) ?_⟩⟩
 refine ⟨_,rfl,r,_,rfl,.inr hs,?_⟩
 refine ⟨_,rfl,r,rfl,⟨_,hs⟩,yB (fun _=>V.bl true) hs (by omega) ?_ ?_⟩
 ·intro v H2 R hv g k
  obtain ⟨i,hi⟩:=List.getElem?_of_mem hv
  obtain ⟨row,hrow,hb⟩:=hall.get hi
  have ho:=hT.2 row (List.mem_of_getElem? hrow)
  have hb2:=g.board hb
  refine ⟨_,rfl,_,rfl,_,_,rfl,row,(xs.length:Int),hb2,rfl,by rw [hl]; exact ho.2,by omega,fun H3 g3=>⟨_,rfl,iteT ?_⟩⟩
  obtain ⟨rr,rfl,hrr⟩:=g3.board hb2
  refine ⟨_,rfl,rr,_,rfl,.inr hrr,_,rfl,rfl,?_⟩
  rw [decide_eq_true (congrArg V.int (show ((row.map V.int).length:Int) = xs.length by rw [List.length_map,ho.1,hl]))]
  exact k _ g3
 ·intro H2 p g hp
  refine ⟨p,xs.map (fun _=>true),rfl,SqL.of (by rw [ze,List.map_map]; rfl),_,rfl,z9 (by rw [y7]; rfl) ?_⟩
  exact q _ (g.trans (Grow.new hp _))
theorem ui:FnScope ["deeds","table"] ["deeds","table"] (zh (top 58)):=⟨rfl,rfl,rfl,by decide +kernel,rfl,by decide +kernel,by decide +kernel⟩
theorem uj (F:Fun K "need_table_of" "need_table_of" (top 58) f fd) (B:Blt mg) (qc0:zf P w K mg base n "need_by_table" ["thing","least","most"] (yQ K)) (qc1:zf P w K mg base n "need_table" ["thing"] (xT K))    :
  FnOk P w K mg base CX0 (n + 1) f fd ["deeds","table"] (x9 K):=by
 refine F.ok ui zM (fun cdv A outer s H vs Q E hr h=>?_)
 obtain ⟨x,y,rfl,R,M,ds,tab,hd,ht,r1,r2,m1,m2,hD,hT,q⟩:=h
 refine ⟨_,(zc (zy (zd qc1 hr rfl (za (pv 1) zb))) (zg (zy (zd qc0 hr rfl (za (pv 0) (za (zj zk rfl B.len yz (za (pv 1) zb)) (za (zj zk rfl B.len yz (za (pv 1) zb)) zb))))))),?_⟩
 have hR:=hT.1
 subst hR
 refine ⟨_,rfl,_,rfl,tab,ht,r1,r2,hT,fun H1 g1=>?_⟩
 obtain ⟨r,xs,rfl,hs,hall⟩:=g1.rows ht
 have hl:=hall.len
 refine ⟨_,rfl,_,rfl,r,_,rfl,.inr hs,_,rfl,r,_,rfl,.inr hs,_,_,_,rfl,tab.length,M,tab.length,tab.length,ds,g1.rows hd,congrArg V.int (by rw [hl]),congrArg V.int (by rw [hl]),Int.le_refl _,Int.le_refl _,r1,r2,m1,m2,hD,fun H2 g2=>q _ (g1.trans g2)⟩
theorem ua:FnScope ["deeds","table","numbers","tree","state","states"] ["deeds","table","numbers","tree","state"] (zh (top 64)):=⟨rfl,rfl,rfl,by decide +kernel,rfl,by decide +kernel,by decide +kernel⟩
theorem qI (F:Fun K "shared_by" "shared_by" (top 64) f fd) (B:Blt mg) (qc0:zf P w K mg base n "share_by" ["deeds","table","numbers","tree","state","states"] (yP 41 K)) (qc1:zf P w K mg base n "need_tree" ["thing","many"] (y8 K)) (qc2:zf P w K mg base n "is_within" ["thing","least","greatest"] (yF K)) (qc3:zf P w K mg base n "need_numbers" ["table","thing"] (xu K)) (qc4:zf P w K mg base n "need_table_of" ["deeds","table"] (x9 K))    :
  FnOk P w K mg base CX0 (n + 1) f fd ["deeds","table","numbers","tree","state"] (v6 K):=by
 refine F.ok ua YQ (fun cdv A outer s H vs Q E hr h=>?_)
 obtain ⟨x,y,z,u,w,rfl,R,M,ds,tab,ns,t,v0,hd,hx,hy,ht,F,hD,r1,r2,m1,m2,ho,hc,l40,hh,rfl,v1,v2,q⟩:=h
 refine ⟨_,(zc (zy (zd qc4 hr rfl (za (pv 0) (za (pv 1) zb)))) (zc (zy (zd qc3 hr rfl (za (pv 1) (za (pv 2) zb)))) (zc (zO (zU (zR (zd qc2 hr rfl (za (pv 4) (za zi (za (zS xo (zj zk rfl B.len yz (za (zG zJ (pv 0) zi (fun _ _=>rfl)) zb)) zi) zb)))))) (zg zZ) zp) (zc (zy (zd qc1 hr rfl (za (pv 3) (za (zj zk rfl B.len yz (za (pv 2) zb)) zb)))) (zc (zr (i:=5) ua.nd rfl (Or.inl rfl) (wT zb)) (zc (zy (zd qc0 hr rfl (za (pv 0) (za (pv 1) (za (pv 2) (za (pv 3) (za (pv 4) (za (pv 5) zb)))))))) (zg (zn (zF zx rfl B.tuple zH (za (pv 5) zb)))))))))),?_⟩
 have c1:=zz t
 refine ⟨_,rfl,_,rfl,_,_,rfl,R,M,ds,tab,hd,hx,r1,r2,m1,m2,hD,F.tab,fun H1 g1=>?_⟩
 refine ⟨_,rfl,_,rfl,_,_,rfl,tab,ns,g1.rows hx,g1.board hy,by rw [F.tab.1]; exact F.ns,by omega,l40,fun H2 g2=>?_⟩
 have g12:=g1.trans g2
 obtain ⟨rd,xd,rfl,hds,hdall⟩:=g12.rows hd
 obtain ⟨re,hre,hse⟩:=uT hdall (i:=0) (by decide) (by rw [hD.1]; omega)
 have w1:=ZO hD (i:=0) (by decide) (by omega)
 have hlr:((ds.getD (0:Int).toNat []).map V.int).length = M:=by rw [List.length_map]; exact w1.1
 refine ⟨_,rfl,_,rfl,rd,_,_,_,rfl,rfl,hds,hre,re,_,rfl,.inr hse,_,_,rfl,rfl,_,_,_,rfl,_,_,_,rfl,rfl,rfl,_,rfl,z9 (by rw [decide_eq_true v1,decide_eq_true (show v0 <= (((ds.getD (0:Int).toNat []).map V.int).length:Int) - 1 by rw [hlr]; omega)]; rfl) ?_⟩
 obtain ⟨ry,rfl,hys⟩:=g12.board hy
 have hl:(ns.map V.int).length = ns.length:=List.length_map ..
 refine ⟨_,rfl,_,rfl,ry,_,rfl,.inr hys,_,_,rfl,t,_,g12.tree ht,rfl,ho,by rw [hl]; exact hc,by rw [hl]; omega,by rw [hl]; omega,fun H3 g3=>?_⟩
 refine ⟨szl rfl,fun l hlf=>?_⟩
 have g4:Grow [] H3 (upd H3 l (.lst [])):=Grow.new hlf _
 have g14:=g12.trans (g3.trans g4)
 refine ⟨_,rfl,_,rfl,_,rfl,_,rfl,_,rfl,_,rfl,_,_,_,_,_,_,rfl,R,M,ds,tab,ns,t,0,v0,l,[],g14.rows hd,g14.rows hx,g14.board hy,g14.tree ht,F,hD,ho,by decide,by omega,hh,rfl,v1,v2,rfl,ze,by show (0:Int) + t.count <= 500; omega,fun H5 g5 hl5=>?_⟩
 rw [List.nil_append] at hl5
 refine ⟨_,rfl,l,_,rfl,.inl ⟨SqL.of hl5,fun p hp=>q _ _ ?_ ⟨p,rfl,SqT.of ze⟩⟩⟩
 exact g12.trans (g3.trans ((((g4.wk (m:=[l])).trans g5).shrink hlf).trans (Grow.new hp _)))
theorem uk:FnScope ["_law_deed","_law_states"] ["_law_deed","_law_states"] (zh (top 73)):=⟨rfl,rfl,rfl,by decide +kernel,rfl,by decide +kernel,by decide +kernel⟩
theorem ul (F:Fun K "_law_by_table" "_law_by_table" (top 73) f fd) (B:Blt mg) (qc0:zf P w K mg base n "done" ["deed","value"] (qW K))    :
  FnOk P w K mg base CX0 (n + 1) f fd ["_law_deed","_law_states"] (sV K):=by
 refine F.ok uk zM (fun cdv A outer s H vs Q E hr h=>?_)
 obtain ⟨x,y,rfl,d,S,hd,ok,rfl,s5,q⟩:=h
 refine ⟨_,(zg (zn (zF zx rfl B.tuple zH (za (zL (CSc.of (N':=["_law_state","_law_deed"]) (sub:=[none,some 0]) (zh (top 73)) ["_law_deed","_law_states"] rfl rfl (by decide +kernel) rfl) rfl (xn rfl B.range (za (pv 1) zb)) (fun _ _ _ _ _ _=>zm (i:=0) (show (["_law_state","_law_deed"]:List Str).Nodup by decide +kernel) rfl (Or.inl rfl)) (fun _ _ _ _ _ _=>zD) (fun _ _ _ _ _ _=>(zd qc0 hr rfl (za (pv 1) (za (pv 0) zb))))) zb)))),?_⟩
 refine ⟨_,rfl,_,rfl,by omega,by omega,uu (fun i ys H'=>H' = H /\ ys = ((tabD S d).take i).map V.int) ⟨rfl,rfl⟩ ?_ ?_⟩
 ·rintro i ys H' hi ⟨rfl,rfl⟩
  have hi':i < S:=by omega
  refine ⟨_,rfl,_,rfl,_,_,rfl,d,_,hd,ok,rfl,yR (by rw [List.length_map,List.length_take,yr]; omega),rfl,?_⟩
  rw [List.take_succ,xy hi',List.map_append,Int.zero_add]; rfl
 ·rintro ys H' ⟨rfl,rfl⟩ l hl
  have e:(tabD S d).take ((S:Int)).toNat = tabD S d:=by rw [Int.toNat_natCast]; exact List.take_of_length_le (by rw [yr]; exact Nat.le_refl S)
  rw [e]
  refine ⟨l,_,rfl,.inl ⟨SqL.of ze,fun r hr'=>q _ _ ((Grow.new hl _).trans (Grow.new hr' _)) ⟨r,rfl,SqT.of ze⟩⟩⟩
theorem qJ:FnScope ["table","numbers","tree"] ["table","numbers","tree"] (zh (top 61)):=⟨rfl,rfl,rfl,by decide +kernel,rfl,by decide +kernel,by decide +kernel⟩
theorem qK (F:Fun K "number_of" "number_of" (top 61) f fd) (B:Blt mg) {N:Nat} (qc0:zf P w K mg base n "number_of" ["table","numbers","tree"] (yG N K)) (qc1:zf P w K mg base n "is_whole" ["thing"] (zP K))    :
  FnOk P w K mg base CX0 (n + 1) f fd ["table","numbers","tree"] (yG (N + 1) K):=by
 refine F.ok qJ wY (fun cdv A outer s H vs Q E hr h=>?_)
 obtain ⟨x,y,z,rfl,R,tab,ns,t,f0,hx,hy,ht,F,ho,f1,f2,hN,q⟩:=h
 refine ⟨_,(zc (zO (zR (zd qc1 hr rfl (za (pv 2) zb))) (zg (zn (zG zJ (pv 1) (pv 2) (fun _ _=>rfl)))) zp) (zg (zn (zG zJ (zG zJ (pv 0) (zd qc0 hr rfl (za (pv 0) (za (pv 1) (za (zG zJ (pv 2) zi (fun _ _=>rfl)) zb)))) (fun _ _=>rfl)) (zd qc0 hr rfl (za (pv 0) (za (pv 1) (za (zG zJ (pv 2) zi (fun _ _=>rfl)) zb)))) (fun _ _=>rfl))))),?_⟩
 have hx0:=hx
 have hy0:=hy
 obtain ⟨rx,xs,rfl,hxs,hall⟩:=hx0
 obtain ⟨ry,rfl,hys⟩:=hy0
 have hR:=F.tab.1
 cases t with
 | leaf v =>
  cases (show z = V.int v from ht)
  cases (show v = f0 from ho)
  have f2':f0 + 1 <= ns.length:=f2
  exact ⟨_,rfl,_,rfl,xC,_,rfl,iteT ⟨_,rfl,_,rfl,ry,_,_,_,rfl,rfl,hys,getI f1 (by omega),q⟩⟩
 | node tl tr =>
  have hh:max tl.ht tr.ht + 1 < N + 1:=hN
  have f2':f0 + (tl.count + tr.count) <= ns.length:=f2
  have c1:=zz tl
  have c2:=zz tr
  have kn:=sD ht
  obtain ⟨a,xl,xr,rfl,hs2,h1,h2⟩:=ht
  have n1:=xg F ho.1 f1 (by omega)
  have n2:=xg F ho.2 (by omega) (by omega)
  have z1:=ZO F.tab n1.1 n1.2
  obtain ⟨ra,hra,hsa⟩:=uT hall n1.1 (by rw [hR]; exact n1.2)
  refine ⟨_,rfl,_,rfl,kn,_,rfl,iteF ?_⟩
  refine ⟨_,rfl,_,rfl,_,rfl,_,rfl,a,_,_,_,rfl,rfl,hs2,rfl,_,_,_,rfl,R,tab,ns,tl,f0,hx,hy,h1,F,ho.1,f1,by omega,by omega,?_⟩
  refine ⟨rx,_,_,_,rfl,rfl,hxs,hra,?_⟩
  refine ⟨_,rfl,_,rfl,_,rfl,a,_,_,_,rfl,rfl,hs2,rfl,_,_,_,rfl,R,tab,ns,tr,f0 + tl.count,hx,hy,h2,F,ho.2,by omega,by omega,by omega,?_⟩
  exact ⟨ra,_,_,_,rfl,rfl,hsa,getI n2.1 (by rw [z1.1]; exact n2.2),q⟩
theorem qL:FnScope ["table","numbers","tree"] ["table","numbers","tree"] (zh (top 62)):=⟨rfl,rfl,rfl,by decide +kernel,rfl,by decide +kernel,by decide +kernel⟩
theorem qM (F:Fun K "folded_by" "folded_by" (top 62) f fd) (B:Blt mg) (qc0:zf P w K mg base n "number_of" ["table","numbers","tree"] (yG 41 K)) (qc1:zf P w K mg base n "need_tree" ["thing","many"] (y8 K)) (qc2:zf P w K mg base n "need_numbers" ["table","thing"] (xu K)) (qc3:zf P w K mg base n "need_table" ["thing"] (xT K))    :
  FnOk P w K mg base CX0 (n + 1) f fd ["table","numbers","tree"] (v5 K):=by
 refine F.ok qL wY (fun cdv A outer s H vs Q E hr h=>?_)
 obtain ⟨x,y,z,rfl,R,tab,ns,t,hx,hy,ht,F,r1,r2,ho,hc,l2,hh,q⟩:=h
 refine ⟨_,(zc (zy (zd qc3 hr rfl (za (pv 0) zb))) (zc (zy (zd qc2 hr rfl (za (pv 0) (za (pv 1) zb)))) (zc (zy (zd qc1 hr rfl (za (pv 2) (za (zj zk rfl B.len yz (za (pv 1) zb)) zb)))) (zg (zn (zd qc0 hr rfl (za (pv 0) (za (pv 1) (za (pv 2) zb))))))))),?_⟩
 have hR:=F.tab.1
 subst hR
 have c1:=zz t
 refine ⟨_,rfl,_,rfl,tab,hx,r1,r2,F.tab,fun H1 g1=>?_⟩
 refine ⟨_,rfl,_,rfl,_,_,rfl,tab,ns,g1.rows hx,g1.board hy,F.ns,by omega,l2,fun H2 g2=>?_⟩
 have g12:=g1.trans g2
 obtain ⟨ry,rfl,hys⟩:=g12.board hy
 have hl:(ns.map V.int).length = ns.length:=List.length_map ..
 refine ⟨_,rfl,_,rfl,ry,_,rfl,.inr hys,_,_,rfl,t,_,g12.tree ht,rfl,ho,by rw [hl]; exact hc,by rw [hl]; omega,by rw [hl]; omega,fun H3 g3=>?_⟩
 have g13:=g12.trans g3
 exact ⟨_,rfl,_,rfl,_,rfl,_,_,_,rfl,tab.length,tab,ns,t,0,g13.rows hx,g13.board hy,g13.tree ht,F,ho,by decide,by omega,hh,q _ g13⟩
theorem rf:FnScope ["deeds","tree","value","values","left","right"] ["deeds","tree","value","values"] (zh (top 52)):=⟨rfl,rfl,rfl,by decide +kernel,rfl,by decide +kernel,by decide +kernel⟩
theorem WJ (F:Fun K "share" "share" (top 52) f fd) (B:Blt mg) {N:Nat} (qc0:zf P w K mg base n "joined" ["one","other"] (vm K)) (qc1:zf P w K mg base n "share" ["deeds","tree","value","values"] (wD N K)) (qc2:zf P w K mg base n "made" ["deed","value"] (vJ K)) (qc3:zf P w K mg base n "is_whole" ["thing"] (zP K))    :
  FnOk P w K mg base CX0 (n + 1) f fd ["deeds","tree","value","values"] (wD (N + 1) K):=by
 refine F.ok rf VD (fun cdv A outer s H vs Q E hr h=>?_)
 obtain ⟨x,y,z,u,rfl,ds,t,f0,v0,l,zs,hd,ht,ho,f1,f2,hN,rfl,rfl,hl,hz,q⟩:=h
 refine ⟨_,(zc (zO (zR (zd qc3 hr rfl (za (pv 1) zb))) (zc (zy (rJ PySem.F.plainAttrs_list PySem.F.slot_list_append PySem.F.type_list_append yY (pv 3) (za (pv 2) zb))) (zg (zn (zG zJ (pv 0) (pv 1) (fun _ _=>rfl))))) zp) (zc (zr (i:=4) rf.nd rfl (Or.inl rfl) (zd qc1 hr rfl (za (pv 0) (za (zG zJ (pv 1) zi (fun _ _=>rfl)) (za (pv 2) (za (pv 3) zb)))))) (zc (zr (i:=5) rf.nd rfl (Or.inl rfl) (zd qc1 hr rfl (za (pv 0) (za (zG zJ (pv 1) zi (fun _ _=>rfl)) (za (zd qc2 hr rfl (za (pv 4) (za (pv 2) zb))) (za (pv 3) zb)))))) (zg (zn (zd qc0 hr rfl (za (pv 4) (za (pv 5) zb)))))))),?_⟩
 have hd0:=hd
 obtain ⟨r,xs,rfl,hs,hall⟩:=hd0
 cases t with
 | leaf v =>
  cases (show y = V.int v from ht)
  cases (show v = f0 from ho)
  have f2':f0 + 1 <= ds.length:=f2
  have hz':(zs.length:Int) + 1 <= 500:=hz
  have hj:f0.toNat < ds.length:=by omega
  obtain ⟨xx,hxx,hdx⟩:=hall.getR (List.getElem?_eq_getElem hj)
  refine ⟨_,rfl,_,rfl,xC,_,rfl,iteT ⟨_,rfl,.inl ⟨rfl,_,SqL.of hl⟩,_,rfl,l,_,_,rfl,rfl,hl,?_,?_⟩⟩
  ·rw [List.length_map]; exact zQ (by omega)
  have g1:Grow [l] H (upd H l (.lst (zs.map V.int ++ [V.int v0]))):=Grow.set hl (by simp) _
  refine ⟨_,rfl,_,rfl,r,_,_,_,rfl,rfl,g1.sqT hs,uO (wq f1 (by rw [hall.len]; exact hj)) hxx,q _ _ g1 ?_ ?_⟩
  ·rw [ze,List.map_append]; rfl
  ·show zE K _ xx (ds.getD f0.toNat look)
   rw [List.getD_eq_getElem?_getD,List.getElem?_eq_getElem hj]; exact g1.deed hdx
 | node tl tr =>
  have hh:max tl.ht tr.ht + 1 < N + 1:=hN
  have f2':f0 + (tl.count + tr.count) <= ds.length:=f2
  have hz':(zs.length:Int) + (tl.count + tr.count) <= 500:=hz
  have c1:=zz tl
  have c2:=zz tr
  have kn:=sD ht
  obtain ⟨a,xl,xr,rfl,hs2,h1,h2⟩:=ht
  refine ⟨_,rfl,_,rfl,kn,_,rfl,iteF ?_⟩
  refine ⟨_,rfl,_,rfl,a,_,_,_,rfl,rfl,hs2,rfl,_,rfl,_,rfl,_,_,_,_,rfl,ds,tl,f0,v0,l,zs,hd,h1,ho.1,f1,by omega,by omega,rfl,rfl,hl,by omega,fun y1 H1 g1 hl1 hy1=>?_⟩
  have hln:=vO ds tl v0
  refine ⟨_,rfl,_,rfl,a,_,_,_,rfl,rfl,g1.sqT hs2,rfl,_,rfl,_,rfl,_,_,rfl,vq ds tl,v0,hy1,rfl,_,rfl,_,_,_,_,rfl,ds,tr,f0 + tl.count,_,l,zs ++ wV ds tl v0,g1.deedsT hd,g1.tree h2,ho.2,by omega,by omega,by omega,rfl,rfl,hl1,?_,fun y2 H2 g2 hl2 hy2=>?_⟩
  ·rw [List.length_append]; omega
  refine ⟨_,rfl,_,rfl,_,_,rfl,vq ds tl,vq ds tr,g2.deed hy1,hy2,fun t ht=>q _ _ (g1.trans (g2.trans (Grow.new ht _))) ?_ ⟨t,rfl,SqT.of ze⟩⟩
  rw [zq (zt hl2 ht),hl2,List.append_assoc]; rfl
theorem vE:FnScope ["deeds","tree","value","values"] ["deeds","tree","value"] (zh (top 53)):=⟨rfl,rfl,rfl,by decide +kernel,rfl,by decide +kernel,by decide +kernel⟩
theorem rg (F:Fun K "shared_out" "shared_out" (top 53) f fd) (B:Blt mg) (qc0:zf P w K mg base n "share" ["deeds","tree","value","values"] (wD 41 K)) (qc1:zf P w K mg base n "need_tree" ["thing","many"] (y8 K)) (qc2:zf P w K mg base n "need_deeds" ["thing"] (xR K)) (qc3:zf P w K mg base n "need_value" ["thing"] (xc K))    :
  FnOk P w K mg base CX0 (n + 1) f fd ["deeds","tree","value"] (vu K):=by
 refine F.ok vE wY (fun cdv A outer s H vs Q E hr h=>?_)
 obtain ⟨x,y,z,rfl,ds,t,v0,hd,d1,d2,hok,ht,ho,hc,hh,rfl,q⟩:=h
 refine ⟨_,(zc (zy (zd qc3 hr rfl (za (pv 2) zb))) (zc (zy (zd qc2 hr rfl (za (pv 0) zb))) (zc (zy (zd qc1 hr rfl (za (pv 1) (za (zj zk rfl B.len yz (za (pv 0) zb)) zb)))) (zc (zr (i:=3) vE.nd rfl (Or.inl rfl) (wT zb)) (zc (zy (zd qc0 hr rfl (za (pv 0) (za (pv 1) (za (pv 2) (za (pv 3) zb)))))) (zg (zn (zF zx rfl B.tuple zH (za (pv 3) zb))))))))),?_⟩
 refine ⟨_,rfl,_,rfl,v0,rfl,_,rfl,_,rfl,ds,hd,d1,d2,hok,fun H1 g1=>?_⟩
 obtain ⟨r,xs,rfl,hs,hall⟩:=g1.deedsT hd
 have hl:=hall.len
 refine ⟨_,rfl,_,rfl,r,_,rfl,.inr hs,_,_,rfl,t,_,g1.tree ht,rfl,ho,by omega,by omega,by omega,fun H2 g2=>?_⟩
 refine ⟨szl rfl,fun l hlf=>?_⟩
 have g3:Grow [] H2 (upd H2 l (.lst [])):=Grow.new hlf _
 have g23:=g2.trans g3
 refine ⟨_,rfl,_,rfl,_,rfl,_,rfl,_,_,_,_,rfl,ds,t,0,v0,l,[],g23.deedsT ⟨r,xs,rfl,hs,hall⟩,g23.tree (g1.tree ht),ho,by decide,by omega,hh,rfl,rfl,ze,by show (0:Int) + t.count <= 500; omega,fun y4 H4 g4 hl4 hy4=>?_⟩
 rw [List.nil_append,vN hok v0 ho (by decide) (by omega),hc,YN] at hl4
 refine ⟨_,rfl,l,_,rfl,.inl ⟨SqL.of hl4,fun p hp=>q _ _ ?_ ⟨p,rfl,SqT.of ze⟩⟩⟩
 exact g1.trans (g2.trans ((((g3.wk (m:=[l])).trans g4).shrink hlf).trans (Grow.new hp _)))
theorem um:FnScope ["one","other"] ["one","other"] (zh (top 18)):=⟨rfl,rfl,rfl,by decide +kernel,rfl,by decide +kernel,by decide +kernel⟩
theorem uo (F:Fun K "by_table_then" "by_table_then" (top 18) f fd) (B:Blt mg)     :
  FnOk P w K mg base CX0 (n + 1) f fd ["one","other"] (sR K):=by
 refine F.ok um zM (fun cdv A outer s H vs Q E hr h=>?_)
 obtain ⟨x,y,rfl,S,a,b,⟨ra,rfl,ha⟩,⟨rb,rfl,hb⟩,hS,hl,h5,q⟩:=h
 refine ⟨_,(zg (zn (zF zx rfl B.tuple zH (za (zL (CSc.of (N':=["state","other"]) (sub:=[none,some 1]) (zh (top 18)) ["one","other"] rfl rfl (by decide +kernel) rfl) rfl (yL (pv 0)) (fun _ _ _ _ _ _=>zm (i:=0) (show (["state","other"]:List Str).Nodup by decide +kernel) rfl (Or.inl rfl)) (fun _ _ _ _ _ _=>zD) (fun _ _ _ _ _ _=>(zG (ja (K:=K) rfl) (pv 1) (pv 0) (fun _ _=>rfl)))) zb)))),?_⟩
 refine ⟨_,rfl,ra,rfl,⟨_,ha⟩,yB (vi fun i=>b.getD i.toNat 0) ha (by rw [List.length_map]; omega) ?_ ?_⟩
 ·intro v H2 R hv g k
  obtain ⟨i,hi,rfl⟩:=List.mem_map.mp hv
  have:=hS i hi
  exact ⟨_,rfl,_,rfl,rb,_,i,_,rfl,rfl,g.sqT hb,getI this.1 (by omega),k _ (Grow.refl _ _)⟩
 intro H2 l g hl
 have e:(a.map V.int).map (vi fun i=>b.getD i.toNat 0) = (zC a b).map V.int:=by
  unfold zC
  rw [List.map_map,List.map_map]; rfl
 rw [e]
 exact ⟨l,_,rfl,.inl ⟨SqL.of ze,fun t ht=>q _ _ (g.trans ((Grow.new hl _).trans (Grow.new ht _))) ⟨t,rfl,ze⟩⟩⟩
theorem yX:FnScope ["deeds","leaving","found","newest","following","last","number","deed","another"] ["deeds"] (zh (top 19)):=⟨rfl,rfl,rfl,by decide +kernel,rfl,by decide +kernel,by decide +kernel⟩
theorem WK (F:Fun K "grown" "grown" (top 19) f fd) (B:Blt mg) (qc0:zf P w K mg base n "by_table_then" ["one","other"] (sR K)) (qc1:zf P w K mg base n "need_by_table" ["thing","least","most"] (yQ K)) (g_enumerate:mg "enumerate" = none) {t_MOST_IN_FAMILY:Tok} (g_MOST_IN_FAMILY:mg "MOST_IN_FAMILY" = some (.int 60 t_MOST_IN_FAMILY)) {t_MOST_GIVEN:Tok} (g_MOST_GIVEN:mg "MOST_GIVEN" = some (.int 4 t_MOST_GIVEN))  :
  FnOk P w K mg base CX0 (n + 1) f fd ["deeds"] (u9 K):=by
 refine F.ok yX z8 (fun cdv A outer s H vs Q E hr h=>?_)
 obtain ⟨x,rfl,ms,S,hMk,q⟩:=h
 refine ⟨_,(zc (zy (zd qc1 hr rfl (za (pv 0) (za zi (za (xk rfl g_MOST_GIVEN (show RelV (.int 4) (.int 4 t_MOST_GIVEN) from ⟨_,rfl⟩)) zb))))) (zc (zr (i:=1) yX.nd rfl (Or.inl rfl) (u6 rfl rfl B.tuple rfl B.range (za (zj zk rfl B.len yz (za (zG zJ (pv 0) zi (fun _ _=>rfl)) zb)) zb))) (zc (zr (i:=2) yX.nd rfl (Or.inl rfl) (Xh (Room.u1F hr) (pv 1) (yg zb))) (zc (zr (i:=3) yX.nd rfl (Or.inl rfl) (wT (za (pv 1) zb))) (zc (jZ PassesOwn.never (j5 (pv 3) (fun _=>rfl)) (zc (zr (i:=4) yX.nd rfl (Or.inl rfl) (wT zb)) (zc (vg PassesOwn.never rfl (qU (pv 3)) (zm (i:=5) yX.nd rfl (Or.inl rfl)) (zg (vg PassesOwn.never rfl (ux true (K:=K) rfl rfl g_enumerate (za (pv 0) zb)) (x6 rfl (zw (zm (i:=6) yX.nd rfl (Or.inl rfl)) (zw (zm (i:=7) yX.nd rfl (Or.inl rfl)) yM))) (zc (zr (i:=8) yX.nd rfl (Or.inl rfl) (zd qc0 hr rfl (za (pv 5) (za (pv 7) zb)))) (zg (zO (xz (Xf (Room.u1F hr) (pv 8) (pv 2))) (zc (VQ (Room.u1F hr) (pv 2) (pv 8) (zS (VM (K:=K) rfl) (Xe (Room.u1F hr) (pv 2) (pv 5) (fun _ _=>rfl)) (yg (za (pv 6) zb))) rfl) (zg (zy (rJ PySem.F.plainAttrs_list PySem.F.slot_list_append PySem.F.type_list_append yY (pv 4) (za (pv 8) zb))))) zp)))))) (zc (zO (zB Ys (zj ZY rfl B.len yz (za (pv 2) zb)) (xk rfl g_MOST_IN_FAMILY (show RelV (.int 60) (.int 60 t_MOST_IN_FAMILY) from ⟨_,rfl⟩)) (zA _)) (zg zZ) zp) (zg (zr (i:=3) yX.nd rfl (Or.inl rfl) (pv 4))))))) (zg (zn (pv 2)))))))),?_⟩
 obtain ⟨hx00,hM,s1,s5,m1,m4,few⟩:=hMk
 refine ⟨_,rfl,_,_,_,rfl,ms.length,S,1,4,ms,hx00,rfl,rfl,by omega,by omega,m1,by omega,s1,s5,⟨rfl,hM⟩,fun H0 g00=>?_⟩
 have hx:=g00.rows hx00
 have hx0:=hx
 obtain ⟨rt,xs,rfl,hs,hall⟩:=hx0
 have hlen:=hall.len
 obtain ⟨r0,g0,s0⟩:=uT hall (i:=0) (by decide) (by omega)
 have l0:(ms.getD 0 []).length = S:=(hM _ (yW (by omega))).1
 refine ⟨_,rfl,rt,_,_,_,rfl,rfl,hs,g0,r0,_,rfl,.inr s0,S,by rw [List.length_map]; exact congrArg (fun n:Nat=>[V.int n]) l0,by omega,fun t0 ht0=>?_⟩
 refine fun l hl=>⟨_,rfl,szl rfl,fun t1 ht1=>?_⟩
 have gA:=Grow.new (m:=[]) ht0 (.tup ((List.range S).map fun i:Nat=>V.int i))
 have hHl:H0 l = none:=gA.free (by simp) hl
 have gB:=Grow.new (m:=[]) hl (.dT [])
 have gC:=Grow.new (m:=[]) ht1 (.tup [])
 have eD:=gC.keep _ _ (by simp) (ze (H:=upd H0 t0 (.tup ((List.range S).map fun i:Nat=>V.int i))) (a:=l) (o:=.dT []))
 refine ⟨eD,t0,kI (idL S),rfl,?_,?_⟩
 ·rw [Xm,← UU]; exact (gB.trans gC).tup _ _ ze
 have gD:=Grow.setDT (m:=[l]) eD (by simp) [(kI (idL S),V.ref t1)]
 have kt0:KeyB (upd H0 t0 (.tup ((List.range S).map fun i:Nat=>V.int i))) (.ref t0) (idL S):=⟨t0,rfl,by rw [← UU]; exact ze⟩
 refine ⟨_,rfl,szl rfl,fun lv0 hlv0=>?_⟩
 have gE:=Grow.new (m:=[]) hlv0 (.lst [V.ref t0])
 have gAll:Grow [l] H0 _:=(gA.wk.trans (gB.wk.trans gC.wk)).trans (gD.trans gE.wk)
 refine ⟨fun m σ H0'=>∃ (lv:Addr) (e4 e5 e6 e7 e8:Option V) (f:FW) (last:List (List Int)) (kvs:List (List Key × V)) (zs:List V),σ = [some (.ref rt),some (.ref t0),some (.ref l),some (.ref lv),e4,e5,e6,e7,e8] /\ Grow [l] H0 H0' /\ H0' l = some (.dT kvs) /\ KvF K H0' kvs f /\ H0' lv = some (.lst zs) /\ AllR (KeyB H0') zs last /\ (∀ r,FamR ms f last r -> FamL ms S r) /\ LI ms S f last /\ WL f /\ f.length <= 300 /\ m = (if last = [] then 0 else 1) + 2 * (301 - f.length),?_,?_⟩
 ·refine ⟨_,lv0,_,_,_,_,_,[(idL S,[])],[idL S],_,_,rfl,gAll,gE.keep _ _ (by simp) ze,⟨⟨rfl,t1,rfl,?_⟩,trivial⟩,ze,.one (kt0.grow (((gB.trans gC).wk).trans (gD.trans gE.wk))),fun r h=>h,LI.init ms S,⟨by show 0 < 1; decide,fun q hq=>by rw [List.mem_singleton.mp hq]; show 0 < 1; decide⟩,by show 1 <= 300; decide,rfl⟩
  exact SqT.of ((gD.trans gE.wk).tup _ _ ze)
 rintro m σ H2 ⟨lv,e4,e5,e6,e7,e8,f,last,kvs,zs,rfl,g2,hl2,hk2,hv2,ha2,hR,hI,hW,h300,rfl⟩
 have zl:=ha2.len
 have kl:=hk2.len
 have c2:=hI.good.le few
 refine ⟨_,rfl,_,.inl ⟨_,SqL.of hv2,rfl⟩,?_⟩
 by_cases c:last = []
 ·have z0:zs = []:=List.eq_nil_of_length_eq_zero (by rw [zl,c]; rfl)
  refine z9 (by rw [z0]; rfl) ⟨_,rfl,q _ f _ (g00.trans (g2.less fun b hb=>.inr (by rw [List.mem_singleton.mp hb]; exact hHl))) ⟨l,kvs,rfl,hl2,hk2⟩ (hR f (.done (.inl c)))⟩
 have zne:zs ≠ []:=fun z=>c (List.eq_nil_of_length_eq_zero (by rw [← zl,z]; rfl))
 refine yq (by cases zs with | nil=>exact absurd rfl zne | cons _ _=>rfl) ⟨_,fun σ' H' z=>z,?_⟩
 have lastl:last.length <= 60:=Nat.le_trans hI.len c2
 refine ⟨szl rfl,fun p hp=>?_⟩
 have gp:=Grow.new (m:=[]) hp (.lst [])
 have nl:l ≠ p:=fun z=>by rw [← z,hl2] at hp; cases hp
 have nv:lv ≠ p:=fun z=>by rw [← z,hv2] at hp; cases hp
 have nlv:lv ≠ l:=fun z=>by rw [z,hl2] at hv2; cases hv2
 have hHp:H0 p = none:=g2.free (fun z=>nl (List.mem_singleton.mp z).symm) hp
 have nvm:lv ∉ [l,p]:=fun z=>by
  rcases List.mem_cons.mp z with w | w
  ·exact nlv w
  ·exact nv (List.mem_singleton.mp w)
 refine ⟨_,rfl,lv,rfl,⟨zs,SqL.of (gp.keep _ _ (by simp) hv2)⟩,XY (xs:=zs) (fun j σ H0'=>∃ (e5 e6 e7 e8:Option V) (kvs':List (List Key × V)) (ps:List V),σ = [some (.ref rt),some (.ref t0),some (.ref l),some (.ref lv),some (.ref p),e5,e6,e7,e8] /\ Grow [l,p] H2 H0' /\ H0' l = some (.dT kvs') /\ KvF K H0' kvs' (yD ms last j (f,[])).1 /\ H0' p = some (.lst ps) /\ AllR (KeyB H0') ps (yD ms last j (f,[])).2) ⟨_,_,_,_,kvs,[],rfl,gp.wk,gp.keep _ _ (by simp) hl2,hk2.grow gp,ze,trivial⟩ (fun j σ H0' _ ⟨_,_,_,_,_,_,_,g,_⟩=>SqL.of (g.keep _ _ nvm hv2)) ?_ ?_⟩
 ·rintro j x σ H3 hx ⟨e5,e6,e7,e8,kvs3,ps3,rfl,g3,hl3,hk3,hp3,ha3⟩
  obtain ⟨d,hd,kd⟩:=ha2.get hx
  have hj:j < last.length:=(List.getElem?_eq_some_iff.mp hd).1
  have ed:last.getD j [] = d:=by rw [List.getD_eq_getElem?_getD,hd]; rfl
  have dm:d ∈ last:=by rw [← ed]; exact yW hj
  have dw:=hI.good.wd d (hI.sub d dm)
  have ddd:=dw.dd hM
  have dk:d ∈ zu (yD ms last j (f,[])).1:=(xD j).keys (hI.sub d dm)
  have fl:=sQ (ms:=ms) (last:=last) (fm:=(f,[])) j
  have fl2:(yD ms last j (f,[])).1.length <= 296:=by
   have h1:j * ms.length <= 59 * 4:=Nat.mul_le_mul (by omega) m4
   have h2:(f,([]:List (List Int))).1.length = f.length:=rfl
   omega
  have wl:=uC (ms:=ms) (last:=last) (fm:=(f,[])) hW j
  have ml:(yD ms last j (f,[])).2.length <= (yD ms last j (f,[])).1.length:=Va (xD j) (Nat.zero_le _)
  show tFor _ _ _ _ _ _
  have eP:yD ms last (j + 1) (f,[]) = fRow ms d ms.length (yD ms last j (f,[])):=by rw [← ed]; rfl
  rw [eP]
  revert hk3 ha3 dk fl2 wl ml
  generalize yD ms last j (f,[]) = fm
  intro hk3 ha3 dk fl2 wl ml
  have hall2:=g2.boardsR hall
  refine ⟨_,rfl,rt,_,rfl,((g2.mono (m':=[l,p]) (by simp)).trans g3).sqT hs,We (xs:=xs) (fun i σ H0'=>∃ (e6 e7 e8:Option V) (kvs':List (List Key × V)) (ps:List V),σ = [some (.ref rt),some (.ref t0),some (.ref l),some (.ref lv),some (.ref p),some x,e6,e7,e8] /\ Grow [l,p] H2 H0' /\ H0' l = some (.dT kvs') /\ KvF K H0' kvs' (fRow ms d i fm).1 /\ H0' p = some (.lst ps) /\ AllR (KeyB H0') ps (fRow ms d i fm).2) ⟨_,_,_,kvs3,ps3,rfl,g3,hl3,hk3,hp3,ha3⟩ (fun i σ H0' _ ⟨_,_,_,_,_,_,g,_⟩=>((g2.mono (m':=[l,p]) (by simp)).trans g).sqT hs) ?_ ?_⟩
  ·rintro i xm σ H4 T hxm ⟨e6,e7,e8,kvs4,ps4,rfl,g4,hl4,hk4,hp4,ha4⟩ hT
   obtain ⟨mk,hmk,bm⟩:=hall2.get hxm
   have hi:i < ms.length:=(List.getElem?_eq_some_iff.mp hmk).1
   have em:ms.getD i [] = mk:=by rw [List.getD_eq_getElem?_getD,hmk]; rfl
   have mm:mk ∈ ms:=by rw [← em]; exact yW hi
   have mdd:=hM mk mm
   have gT:=Grow.new (m:=[]) hT (.tup [.int i,xm])
   refine ⟨T,_,rfl,SqT.of ze,rfl,_,_,rfl,_,_,rfl,rfl,?_⟩
   refine ⟨_,rfl,_,rfl,_,_,rfl,S,d,mk,(g4.trans gT.wk).board kd.board,(g4.trans gT.wk).board bm,ddd.2,mdd.1,by rw [ddd.1]; exact s5,fun y H5 g5 ky=>?_⟩
   have g45:Grow [l,p] H4 H5:=(gT.trans g5).wk
   have g25:=g4.trans g45
   have hl5:=(gT.trans g5).keep _ _ (by simp) hl4
   have hp5:=(gT.trans g5).keep _ _ (by simp) hp4
   have hk5:=hk4.grow g45
   have ha5:=ha4.imp fun _ _ z=>z.grow g45
   have rl:=jD (ms:=ms) (d:=d) (fm:=fm) i
   have rw5:=jE (ms:=ms) (d:=d) wl i
   have dk5:d ∈ zu (fRow ms d i fm).1:=(vT i).keys dk
   have ml5:(fRow ms d i fm).2.length <= (fRow ms d i fm).1.length:=Va (vT i) ml
   have eS:fRow ms d (i + 1) fm = xv d (fRow ms d i fm) i mk:=by rw [← em]; rfl
   rw [eS]
   revert hk5 ha5 rl rw5 dk5 ml5
   generalize fRow ms d i fm = fr
   intro hk5 ha5 rl rw5 dk5 ml5
   have kl5:=hk5.len
   obtain ⟨yb,rfl,hyb⟩:=ky
   obtain ⟨xb,rfl,hxb⟩:=kd.grow g25
   rw [← Xm] at hyb hxb
   rcases hk5.val (zC d mk) with ⟨v,w,hv,hw,_⟩ | ⟨hv,hw⟩
   ·refine ⟨_,rfl,_,rfl,l,_,rfl,DGet.t hl5 hyb,_,rfl,z9 (by rw [hv]; rfl) ?_⟩
    have e:xv d fr i mk = fr:=by unfold xv; rw [hw]; rfl
    rw [e]
    exact ⟨_,_,_,kvs4,ps4,rfl,g25,hl5,hk5,hp5,ha5⟩
   ·refine ⟨_,rfl,_,rfl,l,_,rfl,DGet.t hl5 hyb,_,rfl,yq (by rw [hv]; rfl) ?_⟩
    obtain ⟨wd,hwd⟩:=xU dk5
    rcases hk5.val d with ⟨v2,w2,hv2,hw2,bw2⟩ | ⟨_,hw2⟩
    rotate_left
    ·rw [hw2] at hwd; cases hwd
    have e:xv d fr i mk = (fr.1 ++ [(zC d mk,w2 ++ [(i:Int)])],fr.2 ++ [zC d mk]):=by unfold xv; rw [hw,hw2]; rfl
    rw [e]
    have w2l:=rw5.2 _ (wy hw2)
    have w2l':w2.length < fr.1.length:=w2l
    obtain ⟨wb,rfl,hwb⟩:=bw2
    refine ⟨_,rfl,_,rfl,l,_,rfl,hv2 ▸ DGet.t hl5 hxb,_,rfl,szl rfl,fun t2 ht2=>?_⟩
    have gt2:=Grow.new (m:=[]) ht2 (.tup [.int i])
    refine ⟨wb,t2,_,_,rfl,rfl,gt2.sqT hwb,SqT.of ze,Nat.le_of_lt (zQ (by rw [List.length_map]; show _ + 1 <= 1000; omega)),fun p2 H6 g6 h6=>?_⟩
    have g56:=gt2.trans g6
    have hl6:=g56.keep _ _ (by simp) hl5
    have hp6:=g56.keep _ _ (by simp) hp5
    have hyb6:=g56.tup _ _ hyb
    refine ⟨_,rfl,_,rfl,l,_,rfl,DPut.t hl6 hyb6 (zQ (by omega)),?_⟩
    rw [Zp _ hv]
    have g67:=Grow.setDT (m:=[l,p]) hl6 (by simp) (kvs4 ++ [(kI (zC d mk),V.ref p2)])
    have hp7:upd H6 l (.dT (kvs4 ++ [(kI (zC d mk),V.ref p2)])) p = some (.lst ps4):=by rw [zq (Ne.symm nl)]; exact hp6
    have pl5:=ha5.len
    refine ⟨_,rfl,.inl ⟨rfl,_,SqL.of hp7⟩,_,rfl,p,ps4,_,rfl,rfl,hp7,zQ (by omega),?_⟩
    have g78:=Grow.set (m:=[l,p]) hp7 (by simp) (ps4 ++ [V.ref yb])
    have g58:=(g56.wk (m:=[l,p])).trans (g67.trans g78)
    have h6':zo K H6 (.ref p2) (w2 ++ [(i:Int)]):=⟨p2,rfl,by rw [List.map_append]; exact h6⟩
    refine ⟨_,_,_,_,_,rfl,g25.trans g58,?_,(hk5.grow g58).app (show KvF K _ [(kI (zC d mk),V.ref p2)] [(zC d mk,w2 ++ [(i:Int)])] from ⟨⟨rfl,(g67.trans g78).board h6'⟩,trivial⟩),ze,(ha5.imp fun _ _ z=>z.grow g58).app (.one ⟨yb,rfl,?_⟩)⟩
    ·rw [zq nl]; exact ze
    ·rw [Xm] at hyb; exact g58.tup _ _ hyb
  ·rintro σ H4 ⟨e6,e7,e8,kvs4,ps4,rfl,g4,hl4,hk4,hp4,ha4⟩
   rw [hlen] at hk4 ha4
   exact ⟨_,_,_,_,kvs4,ps4,rfl,g4,hl4,hk4,hp4,ha4⟩
 ·rintro σ H3 ⟨e5,e6,e7,e8,kvs3,ps3,rfl,g3,hl3,hk3,hp3,ha3⟩
  rw [zl] at hk3 ha3
  have hg:=jF (ms:=ms) (last:=last) (f:=f) (j:=last.length)
  have fl:=sQ (ms:=ms) (last:=last) (fm:=(f,[])) last.length
  have fl2:(yD ms last last.length (f,[])).1.length <= 300:=by
   have h1:last.length * ms.length <= 60 * 4:=Nat.mul_le_mul lastl m4
   have h2:(f,([]:List (List Int))).1.length = f.length:=rfl
   omega
  have h60p:=hI.pass.good.le few
  have kl3:=hk3.len
  refine ⟨_,rfl,l,kvs3,rfl,hl3,_,_,rfl,rfl,_,rfl,z9 (decide_eq_false (by omega)) ?_⟩
  refine ⟨_,rfl,_,?_,p,_,_,_,_,_,_,_,kvs3,ps3,rfl,?_,hl3,hk3,hp3,ha3,fun r hr=>hR r (.step c c2 hr),hI.pass,uC hW _,fl2,rfl⟩
  ·rw [if_neg c]
   split
   ·have:=(xD (ms:=ms) (last:=last) (fm:=(f,[])) last.length)
    obtain ⟨g,e1,_⟩:=this
    have:f.length <= (yD ms last last.length (f,[])).1.length:=by rw [e1,List.length_append]; exact Nat.le_add_right _ _
    omega
   ·rename_i c3
    have:=hg c3
    omega
  ·refine ((g2.mono (m':=[l,p]) (by simp)).trans g3).less fun b hb=>?_
   rcases List.mem_cons.mp hb with rfl | hb
   ·exact .inl (by simp)
   ·rw [List.mem_singleton.mp hb]; exact .inr hHp
theorem XT:FnScope ["deeds"] ["deeds"] (zh (top 20)):=⟨rfl,rfl,rfl,by decide +kernel,rfl,by decide +kernel,by decide +kernel⟩
theorem XU (F:Fun K "family" "family" (top 20) f fd) (B:Blt mg) (qc0:zf P w K mg base n "grown" ["deeds"] (u9 K))    :
  FnOk P w K mg base CX0 (n + 1) f fd ["deeds"] (sS K):=by
 refine F.ok XT z8 (fun cdv A outer s H vs Q E hr h=>?_)
 obtain ⟨x,rfl,ms,S,hMk,q⟩:=h
 refine ⟨_,(zg (zn (zF (qi hr) rfl B.tuple zH (za (zd qc0 hr rfl (za (pv 0) zb)) zb)))),?_⟩
 refine ⟨_,rfl,_,rfl,ms,S,hMk,fun y f H1 g1 hW hL=>?_⟩
 obtain ⟨l,kvs,rfl,hl,hk⟩:=hW
 refine ⟨l,kvs,rfl,hl,fun t zs ht zl hz=>?_⟩
 exact q _ f _ (g1.trans (Grow.new ht _)) ⟨t,zs,rfl,SqT.of ze,(qm hz hk.keys).imp fun _ _ z=>z.grow (Grow.new (m:=[]) ht _)⟩ hL
theorem wz:FnScope ["deeds","members","numbers"] ["deeds"] (zh (top 60)):=⟨rfl,rfl,rfl,by decide +kernel,rfl,by decide +kernel,by decide +kernel⟩
theorem qN (F:Fun K "own_table" "own_table" (top 60) f fd) (B:Blt mg) (qc0:zf P w K mg base n "by_table_then" ["one","other"] (sR K)) (qc1:zf P w K mg base n "family" ["deeds"] (sS K)) (g_enumerate:mg "enumerate" = none)   :
  FnOk P w K mg base CX0 (n + 1) f fd ["deeds"] (Xu K):=by
 refine F.ok wz z8 (fun cdv A outer s H vs Q E hr h=>?_)
 obtain ⟨x,rfl,ms,S,hMk,q⟩:=h
 refine ⟨_,(zc (zr (i:=1) wz.nd rfl (Or.inr rfl) (zd qc1 hr rfl (za (pv 0) zb))) (zc (zr (i:=2) wz.nd rfl (Or.inr rfl) (WA (Room.u1F hr) (CSc.of (N':=["number","member"]) (sub:=[none,none]) (zh (top 60)) ["deeds","members","numbers"] rfl rfl (by decide +kernel) rfl) rfl (ux true (K:=K) rfl rfl g_enumerate (za (pv 1) zb)) (fun _ _ _ _ _ _=>Y2 (K:=K) 2 rfl rfl (zw (zm (i:=0) (show (["number","member"]:List Str).Nodup by decide +kernel) rfl (Or.inl rfl) (Or.inr rfl)) (zw (zm (i:=1) (show (["number","member"]:List Str).Nodup by decide +kernel) rfl (Or.inl rfl) (Or.inr rfl)) yM)) rfl rfl) (fun _ _ _ _ _ _=>zD) (fun _ _ _ _ _ _=>(pv 1)) (fun _ _ _ _ _ _=>(pv 0)))) (zg (zn (zF zx rfl B.tuple zH (za (Wm (CScC.of (N':=["one","members","numbers"]) (sub:=[none,some 1,some 2]) (zh (top 60)) ["deeds","members","numbers"] rfl rfl (by decide +kernel) (by decide +kernel) rfl) rfl (yL (pv 1)) (fun _ _ _ _ _ _=>zm (i:=0) (show (["one","members","numbers"]:List Str).Nodup by decide +kernel) rfl (Or.inr rfl) (Or.inl rfl)) (fun _ _ _ _ _ _=>zD) (fun _ _ _ _ _ _=>(zF (jl (K:=K) rfl) rfl B.tuple zH (za (zL (CSc.nestO (N2:=["other","numbers","one"]) (sub2:=[none,some 2,some 0]) (CScC.of (N':=["one","members","numbers"]) (sub:=[none,some 1,some 2]) (zh (top 60)) ["deeds","members","numbers"] rfl rfl (by decide +kernel) (by decide +kernel) rfl) rfl (by decide +kernel) rfl) rfl (VI (K:=K) rfl (pv 1)) (fun _ _ _ _ _ _=>zm (i:=0) (show (["other","numbers","one"]:List Str).Nodup by decide +kernel) rfl (Or.inl rfl)) (fun _ _ _ _ _ _=>zD) (fun _ _ _ _ _ _=>(Xe (Room.u1F hr) (pv 1) (zd qc0 hr rfl (za (pv 2) (za (pv 0) zb))) (fun _ _=>rfl)))) zb)))) zb)))))),?_⟩
 refine ⟨_,rfl,_,rfl,ms,S,hMk,fun y f H1 g1 hB hL=>?_⟩
 have hF:=hL.fam hMk.ok hMk.few
 have s5:=hMk.s5
 refine Vb ?_
 revert hF
 generalize hfam:zu f = fam at hB
 intro hF
 obtain ⟨r,xs,rfl,hs,ha⟩:=hB
 have xl:=ha.len
 have f60:=hF.l60
 refine ⟨_,rfl,r,_,rfl,hs,Z6 (xs:=xs) (fun i zs σ' H'=>(∃ e0 e1:Option V,σ' = [e0,e1]) /\ zs = xW 0 (fam.take i) /\ Grow [] H1 H') ⟨⟨_,_,rfl⟩,rfl,Grow.refl _ _⟩ (fun i zs σ H' p=>p.2.2.sqT hs) ?_ ?_⟩
 ·rintro i x zs σ H2 T hx ⟨⟨e0,e1,rfl⟩,rfl,g2⟩ hT
  obtain ⟨d,hd,b,rfl,hb⟩:=ha.get hx
  have hi:i < fam.length:=(List.getElem?_eq_some_iff.mp hd).1
  have ed:fam[i] = d:=(List.getElem?_eq_some_iff.mp hd).2
  have gT:=Grow.new (m:=[]) hT (.tup [.int i,.ref b])
  have tk:fam.take (i + 1) = fam.take i ++ [d]:=by rw [List.take_succ,hd]; rfl
  have nt:d ∉ fam.take i:=fun z=>by
   have:=hF.nd
   rw [← List.take_append_drop (i + 1) fam,tk] at this
   have:=(List.nodup_append.mp this).1
   exact (List.nodup_append.mp this).2.2 d z d (List.mem_singleton.mpr rfl) rfl
  have pk:putK (xW 0 (fam.take i)) (kI d) (V.int i) = xW 0 (fam.take (i + 1)):=by
   rw [Zp _ (Zw 0 nt),tk,qj,Nat.zero_add,List.length_take,Nat.min_eq_left (Nat.le_of_lt hi)]; rfl
  refine ⟨T,_,rfl,SqT.of ze,rfl,_,_,rfl,_,_,rfl,rfl,?_⟩
  refine ⟨_,rfl,_,rfl,zQ (by rw [qk,List.length_take]; omega),b,kI d,rfl,by rw [Xm]; exact hb,⟨_,_,rfl⟩,pk,g2.trans gT⟩
 rintro zs σ H2 ⟨_,rfl,g2⟩ l hl
 rw [xl,List.take_length]
 refine Vb ?_
 have gl:=Grow.new (m:=[]) hl (.dT (xW 0 fam))
 have hl3:upd H2 l (.dT (xW 0 fam)) l = some (.dT (xW 0 fam)):=ze
 have g3:=g2.trans gl
 revert hl3 g3
 generalize upd H2 l (.dT (xW 0 fam)) = H3
 intro hl3 g3
 have hs3:=g3.sqT hs
 have ha3:=ha.imp fun _ _ z=>z.grow g3
 refine ⟨_,rfl,r,rfl,⟨_,hs3⟩,qp (xs:=xs) (fun i ys H'=>AllR (zo K H') ys ((fam.take i).map fun a=>fam.map fun b=>(ixF fam (zC a b):Int)) /\ Grow [] H3 H') ⟨trivial,Grow.refl _ _⟩ (fun i ys H' p=>p.2.sqT hs3) ?_ ?_⟩
 ·rintro i x ys H4 hx ⟨hy,g4⟩
  obtain ⟨a,hka,ka⟩:=ha3.get hx
  have hma:a ∈ fam:=List.mem_of_getElem? hka
  have hi:i < fam.length:=(List.getElem?_eq_some_iff.mp hka).1
  have tk:fam.take (i + 1) = fam.take i ++ [a]:=by rw [List.take_succ,hka]; rfl
  refine ⟨_,rfl,r,rfl,⟨_,g4.sqT hs3⟩,qp (xs:=xs) (fun j zs H'=>zs = ((fam.take j).map fun b=>(ixF fam (zC a b):Int)).map V.int /\ Grow [] H4 H') ⟨rfl,Grow.refl _ _⟩ (fun j zs H' p=>(g4.trans p.2).sqT hs3) ?_ ?_⟩
  ·rintro j x2 zs H5 hx2 ⟨rfl,g5⟩
   obtain ⟨b,hkb,kb⟩:=ha3.get hx2
   have hmb:b ∈ fam:=List.mem_of_getElem? hkb
   have hj:j < fam.length:=(List.getElem?_eq_some_iff.mp hkb).1
   have tkb:fam.take (j + 1) = fam.take j ++ [b]:=by rw [List.take_succ,hkb]; rfl
   have g35:=g4.trans g5
   refine ⟨_,rfl,_,rfl,_,rfl,_,_,rfl,S,a,b,(ka.grow g35).board,(kb.grow g35).board,(hF.dd a hma).2,(hF.dd b hmb).1,by rw [(hF.dd a hma).1]; exact s5,fun y6 H6 g6 k6=>?_⟩
   obtain ⟨b6,rfl,hb6⟩:=k6
   rw [← Xm] at hb6
   have hv:=ql 0 (hF.cl a hma b hmb)
   rw [Nat.zero_add] at hv
   refine ⟨l,_,rfl,hv ▸ DGet.t ((g35.trans g6).keep _ _ (by simp) hl3) hb6,zQ (by rw [List.length_map,List.length_map,List.length_take]; omega),?_,g5.trans g6⟩
   rw [tkb,List.map_append,List.map_append]; rfl
  ·rintro zs H5 ⟨rfl,g5⟩ lz hlz
   rw [xl,List.take_length]
   refine ⟨lz,_,rfl,.inl ⟨SqL.of ze,fun tz htz=>?_⟩⟩
   have gz:=g5.trans ((Grow.new (m:=[]) hlz (.lst ((fam.map fun b=>(ixF fam (zC a b):Int)).map V.int))).trans (Grow.new htz (.tup ((fam.map fun b=>(ixF fam (zC a b):Int)).map V.int))))
   refine ⟨zQ (by rw [hy.len,List.length_map,List.length_take]; omega),?_,g4.trans gz⟩
   rw [tk,List.map_append]
   exact (gz.boardsR hy).app (.one ⟨tz,rfl,SqT.of ze⟩)
 rintro ys H4 ⟨hy,g4⟩ lz hlz
 rw [xl,List.take_length] at hy
 refine ⟨lz,_,rfl,.inl ⟨SqL.of ze,fun tz htz=>?_⟩⟩
 have gz:=(Grow.new (m:=[]) hlz (.lst ys)).trans (Grow.new htz (.tup ys))
 refine q _ f _ (g1.trans (g3.trans (g4.trans gz))) hL ?_
 rw [hfam]
 exact ⟨tz,ys,rfl,SqT.of ze,gz.boardsR hy⟩
theorem yx:FnScope ["_law_wholes","_law_makers","_law_numbers","_law_tree_here","_law_start","_law_some","_law_table","_law_deeds","_law_values","_law_asks"] ["_law_wholes","_law_makers","_law_numbers","_law_tree_here","_law_start"] (zh (top 78)):=⟨rfl,rfl,rfl,by decide +kernel,rfl,by decide +kernel,by decide +kernel⟩
theorem rh (F:Fun K "_law_asked" "_law_asked" (top 78) f fd) (B:Blt mg) (qc0:zf P w K mg base n "all_of" ["board","asks"] (qb K)) (qc1:zf P w K mg base n "folded" ["deeds","tree"] (uS K)) (qc2:zf P w K mg base n "chained" ["many"] (vM K)) (qc3:zf P w K mg base n "played" ["board","asks"] (rX K)) (qc4:zf P w K mg base n "done" ["deed","value"] (qW K)) (qc5:zf P w K mg base n "shared_by" ["deeds","table","numbers","tree","state"] (v6 K)) (qc6:zf P w K mg base n "_law_by_table" ["_law_deed","_law_states"] (sV K)) (qc7:zf P w K mg base n "folded_by" ["table","numbers","tree"] (v5 K)) (qc8:zf P w K mg base n "shared_out" ["deeds","tree","value"] (vu K)) (qc9:zf P w K mg base n "own_table" ["deeds"] (Xu K)) (qc10:zf P w K mg base n "family" ["deeds"] (sS K)) (g_enumerate:mg "enumerate" = none)   :
  FnOk P w K mg base CX0 (n + 1) f fd ["_law_wholes","_law_makers","_law_numbers","_law_tree_here","_law_start"] (se K):=by
 refine F.ok yx YQ (fun cdv A outer s H vs Q E hr h=>?_)
 obtain ⟨x,y,z,u,v,rfl,S,ds,f,lW,zs,ns,t,st,rfl,hW0,alW,hMk,kd,hL,hn,nr,n1,n20,ht,od,ct,th,rfl,st0,st1,q⟩:=h
 refine ⟨_,(zc (zr (i:=5) yx.nd rfl (Or.inl rfl) (zd qc10 hr rfl (za (pv 1) zb))) (zc (zr (i:=6) yx.nd rfl (Or.inl rfl) (zd qc9 hr rfl (za (pv 1) zb))) (zc (zr (i:=7) yx.nd rfl (Or.inl rfl) (zF zx rfl B.tuple zH (za (zL (CSc.of (N':=["_law_number","_law_wholes"]) (sub:=[none,some 0]) (zh (top 78)) ["_law_wholes","_law_makers","_law_numbers","_law_tree_here","_law_start","_law_some","_law_table","_law_deeds","_law_values","_law_asks"] rfl rfl (by decide +kernel) rfl) rfl (yL (pv 2)) (fun _ _ _ _ _ _=>zm (i:=0) (show (["_law_number","_law_wholes"]:List Str).Nodup by decide +kernel) rfl (Or.inl rfl)) (fun _ _ _ _ _ _=>zD) (fun _ _ _ _ _ _=>(zG (ut (K:=K) rfl) (pv 1) (pv 0) (fun _ _=>rfl)))) zb))) (zc (zr (i:=8) yx.nd rfl (Or.inl rfl) (zd qc8 hr rfl (za (pv 7) (za (pv 3) (za (pv 4) zb))))) (zc (zO (zB (YE hr) (zd qc6 hr rfl (za (zd qc1 hr rfl (za (pv 7) (za (pv 3) zb))) (za (zj zk rfl B.len yz (za (zG zJ (pv 5) zi (fun _ _=>rfl)) zb)) zb))) (zG zJ (pv 5) (zd qc7 hr rfl (za (pv 6) (za (pv 2) (za (pv 3) zb)))) (fun _ _=>rfl)) (zA _)) (zg (zn xO)) zp) (zc (zO (zB (YE hr) (zd qc5 hr rfl (za (pv 5) (za (pv 6) (za (pv 2) (za (pv 3) (za (pv 4) zb)))))) (pv 8) (zA _)) (zg (zn xO)) zp) (zc (zr (i:=9) yx.nd rfl (Or.inl rfl) (zF zx rfl B.tuple zH (za (zL (CSc.of (N':=["_law_k","_law_deed"]) (sub:=[none,none]) (zh (top 78)) ["_law_wholes","_law_makers","_law_numbers","_law_tree_here","_law_start","_law_some","_law_table","_law_deeds","_law_values","_law_asks"] rfl rfl (by decide +kernel) rfl) rfl (ux true (K:=K) rfl rfl g_enumerate (za (pv 7) zb)) (fun _ _ _ _ _ _=>Y2 (K:=K) 2 rfl rfl (zw (zm (i:=0) (show (["_law_k","_law_deed"]:List Str).Nodup by decide +kernel) rfl (Or.inl rfl) (Or.inr rfl)) (zw (zm (i:=1) (show (["_law_k","_law_deed"]:List Str).Nodup by decide +kernel) rfl (Or.inl rfl) (Or.inr rfl)) yM)) rfl rfl) (fun _ _ _ _ _ _=>zD) (fun _ _ _ _ _ _=>(yg (za (zS vZ (pv 0) zi) (za zi (za (pv 1) zb)))))) zb))) (zc (zO (zB (W9 (K:=K) rfl hr) (zd qc3 hr rfl (za (yg (za zi (za (pv 4) zb))) (za (pv 9) zb))) (yg (za (pv 8) (za (yg (za zi (za (zd qc4 hr rfl (za (zd qc1 hr rfl (za (pv 7) (za (pv 3) zb))) (za (pv 4) zb))) zb))) zb))) (zA _)) (zg (zn xO)) zp) (zg (zn (xa (UK (K:=K) rfl hr) (zd qc0 hr rfl (za (yg (za zi (za (pv 4) zb))) (za (pv 9) zb))) (yg (za (yg (za zi (za wf (za wf zb)))) (za (zd qc1 hr rfl (za (pv 7) (za (zd qc2 hr rfl (za (zj zk rfl B.len yz (za (pv 7) zb)) zb)) zb))) zb))) (zA _)))))))))))),?_⟩
 have hF:=hL.fam hMk.ok hMk.few
 have f60:=hF.l60
 have f0:0 < (zu f).length:=(List.getElem?_eq_some_iff.mp hF.hd).1
 have fl:(zu f).length = f.length:=by unfold zu; rw [List.length_map]
 have hW:=ZC kd hL
 obtain ⟨W,hWd⟩:∃ W,W = f.map fun p=>w6 ds p.2:=⟨_,rfl⟩
 rw [← hWd] at hW alW
 have Wl:W.length = (zu f).length:=by rw [hWd,List.length_map,fl]
 have zl:=alW.len
 rw [← fl] at nr
 have tn:t.count.toNat = ns.length:=by rw [ct]; exact Int.toNat_natCast _
 obtain ⟨Ds,hDs⟩:∃ Ds,Ds = ns.map fun n=>W.getD n.toNat look:=⟨_,rfl⟩
 have Dl:Ds.length = ns.length:=by rw [hDs,List.length_map]
 have okD:yO Ds:=fun d hd=>by
  rw [hDs] at hd
  obtain ⟨n,hn,rfl⟩:=List.mem_map.mp hd
  have:=nr n hn
  exact (hW n.toNat (by omega)).1.1
 have wt:=vc hW nr ns.length (Nat.le_refl _)
 have run:=TC hW nr st0 st1
 have fo:=Zy hF nr (t:=t) (f:=0) od (by rw [tn]; omega)
 rw [← hDs] at wt run
 rw [show Ds.take ns.length = Ds by rw [← Dl]; exact List.take_length] at wt
 rw [tn,Nat.zero_add,wt.2] at fo
 have idS:yJ S (zu f) ns 0 = idL S:=rfl
 rw [idS,Ww (hF.dd _ fo.1).1] at fo
 have oT:=Zx hF
 have nT:=xg (show Fd (zu f).length (ownT (zu f)) ns from ⟨oT,nr⟩) (t:=t) (f:=0) od (by decide) (by rw [ct]; omega)
 refine xV (fun v H'=>yk K H' v (zu f) /\ Grow [] H H') (fun Kk hk=>⟨_,rfl,_,rfl,_,S,hMk,fun y f' H' g hB hL'=>hk _ _ ⟨by obtain rfl:=FamR.eq hL hL'; exact hB.rows,g⟩⟩) ?_
 rintro ys H1 ⟨hS1,g1⟩
 refine xV (fun v H'=>yk K H' v (ownT (zu f)) /\ Grow [] H1 H') (fun Kk hk=>⟨_,rfl,_,rfl,_,S,hMk.grow g1,fun y f' H' g hL' hR=>hk _ _ ⟨by obtain rfl:=FamR.eq hL hL'; exact hR,g⟩⟩) ?_
 rintro yo H2 ⟨hO2,g2⟩
 have G2:=g1.trans g2
 obtain ⟨rn,rfl,hrn⟩:=hn
 have hrn2:=G2.sqT hrn
 have hW2:=G2.keep _ _ (by simp) hW0
 have alW2:=G2.deedsR alW
 refine xV (fun v H'=>xq K H' v Ds /\ Grow [] H2 H') (fun Kk hk=>⟨_,rfl,rn,rfl,⟨_,hrn2⟩,xX (xs:=ns.map V.int) (fun j ys σ' H'=>(∃ e0,σ' = [e0,some (.ref lW)]) /\ H' = H2 /\ AllR (zE K H') ys ((ns.take j).map fun n=>W.getD n.toNat look)) ⟨⟨_,rfl⟩,rfl,trivial⟩ (fun i ys σ' H' _ z=>by rw [z.2.1]; exact hrn2) ?_ ?_⟩) ?_
 ·rintro j x2 ys2 σ' H14 hx2 ⟨⟨e0,rfl⟩,rfl,al14⟩
  rw [List.getElem?_map] at hx2
  obtain ⟨n,hn,rfl⟩:=Option.map_eq_some_iff.mp hx2
  have hnr:=nr n (List.mem_of_getElem? hn)
  have hj:=(List.getElem?_eq_some_iff.mp hn).1
  obtain ⟨y,hy,hyD⟩:=alW2.okD68 (α:=Unit) (i:=n.toNat) (by omega)
  have ix:atI zs n = some y:=by
   have:=vA hy
   rw [Int.toNat_of_nonneg hnr.1] at this; exact this
  refine ⟨_,rfl,_,rfl,lW,zs,n,y,rfl,rfl,SqL.of hW2,ix,yR (by rw [al14.len,List.length_map,List.length_take]; omega),⟨_,rfl⟩,rfl,?_⟩
  rw [List.take_succ,hn,List.map_append]
  exact al14.app (.one hyD)
 ·rintro ys2 σ' H14 ⟨_,rfl,al14⟩ l hl
  rw [List.length_map,List.take_length,← hDs] at al14
  refine ⟨l,_,rfl,.inl ⟨SqL.of ze,fun r hr'=>?_⟩⟩
  have gg:=(Grow.new (m:=[]) hl (.lst ys2)).trans (Grow.new hr' (.tup ys2))
  exact hk _ _ ⟨⟨r,ys2,rfl,SqT.of ze,gg.deedsR al14⟩,gg⟩
 rintro yd H3 ⟨hd3,g3⟩
 have G3:=G2.trans g3
 have ht3:=G3.tree ht
 have cD:t.count = (Ds.length:Int):=by rw [ct,Dl]
 refine xV (fun v H'=>zo K H' v (runA Ds st) /\ Grow [] H3 H') (fun Kk hk=>⟨_,rfl,_,rfl,_,rfl,_,_,_,rfl,Ds,t,st,hd3,by omega,by omega,okD,ht3,od,cD,th,rfl,fun y H' g hb=>hk _ _ ⟨hb,g⟩⟩) ?_
 rintro yv H4 ⟨hv4,g4⟩
 have G4:=G3.trans g4
 have hS4:=(g2.trans (g3.trans g4)).rows hS1
 have hO4:=(g3.trans g4).rows hO2
 have hd4:=g4.deedsT hd3
 have ht4:=G4.tree ht
 have hrn4:=G4.sqT hrn
 obtain ⟨rS,xS,rfl,hrS,alS⟩:=id hS4
 have sl:=alS.len
 obtain ⟨r00,e00,s00⟩:=Xo alS (i:=0) f0
 have l0:(((zu f).getD 0 []).map V.int).length = S:=by
  rw [List.length_map]; exact (hF.dd _ (yW f0)).1
 refine v8 (fun c H'=>c = false /\ Grow [] H4 H') (fun Kk hk=>⟨_,rfl,_,rfl,_,_,rfl,Ds,t,hd4,by omega,by omega,okD,ht4,od,cD,th,fun y5 H5 g5 hd5=>?_⟩) ?_
 ·refine ⟨_,rfl,rS,_,_,.ref r00,rfl,rfl,g5.sqT hrS,e00,r00,_,rfl,.inr (g5.sqT s00),_,_,rfl,runD Ds,S,hd5,sF okD,congrArg V.int (by rw [l0]),hMk.s5,fun y6 H6 g6 hb6=>?_⟩
  obtain ⟨r6,rfl,s6⟩:=hb6
  have G6:=g5.trans g6
  refine ⟨_,rfl,_,rfl,_,rfl,_,rfl,_,_,_,rfl,(zu f).length,ownT (zu f),ns,t,G6.rows hO4,⟨rn,rfl,G6.sqT hrn4⟩,G6.tree ht4,⟨oT,nr⟩,by omega,f60,od,ct,by omega,th,fun H7 g7=>?_⟩
  obtain ⟨rr,er,sr⟩:=Xo alS (i:=(numT (ownT (zu f)) ns t).toNat) (by omega)
  rw [Int.toNat_of_nonneg nT.1] at er
  have G7:=G6.trans g7
  refine ⟨rS,_,_,.ref rr,rfl,rfl,G7.sqT hrS,er,r6,rr,_,_,rfl,rfl,g7.sqT s6,G7.sqT sr,yI,yI,_,rfl,hk _ _ ⟨?_,G7⟩⟩
  show (!eqVs _ _) = false
  rw [xK,fo.2,decide_eq_true rfl]; rfl
 rintro _ H5 ⟨rfl,g5⟩
 refine iteF (wa ?_)
 have hS5:=g5.rows hS4
 have hO5:=g5.rows hO4
 have hd5:=g5.deedsT hd4
 have ht5:=g5.tree ht4
 have hrn5:=g5.sqT hrn4
 have hv5:=g5.board hv4
 refine v8 (fun c H'=>c = false /\ Grow [] H5 H') (fun Kk hk=>⟨_,rfl,_,rfl,_,rfl,_,rfl,_,rfl,_,_,_,_,_,rfl,(zu f).length,S,zu f,ownT (zu f),ns,t,st,hS5,hO5,⟨rn,rfl,hrn5⟩,ht5,⟨oT,nr⟩,⟨rfl,fun r hr'=>hF.dd r hr'⟩,by omega,f60,hMk.s1,hMk.s5,od,ct,by omega,th,rfl,st0,st1,fun y H6 g6 hb=>?_⟩) ?_
 ·have sh:=jI hF nr st0 st1 (t:=t) (f:=0) od (by rw [Nat.zero_add,tn]; exact Nat.le_refl _)
  rw [show (yJ S (zu f) ns 0).getD st.toNat 0 = st from sP st0 st1,tn,← run] at sh
  rw [sh] at hb
  obtain ⟨r6,rfl,s6⟩:=hb
  obtain ⟨rv,rfl,sv⟩:=g6.board hv5
  refine ⟨_,rfl,r6,rv,_,_,rfl,rfl,s6,sv,yI,yI,_,rfl,hk _ _ ⟨?_,g6⟩⟩
  show (!eqVs _ _) = false
  rw [xK,decide_eq_true rfl]; rfl
 rintro _ H6 ⟨rfl,g6⟩
 refine iteF (wa ?_)
 have hd6:=g6.deedsT hd5
 have ht6:=g6.tree ht5
 have hv6:=g6.board hv5
 obtain ⟨rd,xd,rfl,hrd,ald⟩:=id hd6
 have xdl:=ald.len
 refine xV (fun v H'=>wU K H' v (yS Ds) /\ Grow [] H6 H') (fun Kk hk=>⟨_,rfl,rd,_,rfl,hrd,ZU (xs:=xd) (fun i ys σ' H'=>(∃ e0 e1,σ' = [e0,e1]) /\ Grow [] H6 H' /\ AllA K H' ys ((yS Ds).take i)) ⟨⟨_,_,rfl⟩,Grow.refl _ _,trivial⟩ (fun i ys σ' H' z=>z.2.1.sqT hrd) ?_ ?_⟩) ?_
 ·rintro i v ys σ' H7 T hv ⟨⟨e0,e1,rfl⟩,g7,al7⟩ hT
  obtain ⟨d,hd,hdA⟩:=ald.get hv
  have hi:=(List.getElem?_eq_some_iff.mp hd).1
  have gT:=Grow.new (m:=[]) hT (.tup [.int i,v])
  have hTt:=ze (H:=H7) (a:=T) (o:=.tup [.int i,v])
  have al8:=gT.allA al7
  have g8:=g7.trans gT
  generalize upd H7 T (.tup [.int i,v]) = H8 at gT hTt al8 g8 ⊢
  refine ⟨T,[.int i,v],rfl,SqT.of hTt,rfl,_,_,rfl,_,_,rfl,rfl,?_⟩
  refine Vv ?_
  obtain ⟨rdd,rfl,hrdd⟩:=g8.deed hdA
  refine ⟨_,rfl,_,_,rfl,rfl,(by show (0:Int) < 16; decide),_,rfl,szl rfl,fun r hr'=>⟨yR (by rw [al7.len,List.length_take,wI]; omega),⟨_,_,rfl⟩,g8.trans (Grow.new hr' _),?_⟩⟩
  rw [List.take_succ,vY hd]
  exact ((Grow.new (m:=[]) hr' _).allA al8).snoc ⟨r,rdd,rfl,SqT.of ze,(Grow.new (m:=[]) hr' _).sqT hrdd⟩
 ·rintro ys σ' H7 ⟨_,g7,al7⟩ l hl
  rw [xdl,← wI,List.take_length] at al7
  refine ⟨l,_,rfl,.inl ⟨SqL.of ze,fun r hr'=>?_⟩⟩
  have gg:=(Grow.new (m:=[]) hl (.lst ys)).trans (Grow.new hr' (.tup ys))
  exact hk _ _ ⟨⟨r,ys,rfl,SqT.of ze,gg.allA al7⟩,g7.trans gg⟩
 rintro ya H7 ⟨ha7,g7⟩
 have aL:(yS Ds).length <= 900:=by rw [wI]; omega
 have aok:=XH okD
 have PL:=Ve okD (st:=st) Ds.length (Nat.le_refl _)
 have GL:=Vf okD Ds.length (Nat.le_refl _)
 rw [List.take_length,← wI,List.take_length] at PL GL
 have hd7:=g7.deedsT hd6
 have ht7:=g7.tree ht6
 have hv7:=g7.board hv6
 refine v8 (fun c H'=>c = false /\ Grow [] H7 H') (fun Kk hk=>⟨_,rfl,szl rfl,fun rb hrb=>⟨_,rfl,_,_,rfl,[9,st],yS Ds,⟨rb,rfl,SqT.of ze⟩,(by show 1 <= 2; decide),(by show 2 <= 16; decide),(Grow.new (m:=[]) hrb _).asks ha7,aL,aok,fun yp H8 g8 hp=>?_⟩⟩) ?_
 ·have gb:=Grow.new (m:=[]) hrb (.tup [.int 9,.int st])
  have G8:=gb.trans g8
  refine ⟨_,rfl,_,rfl,_,rfl,_,_,rfl,Ds,t,G8.deedsT hd7,by omega,by omega,okD,G8.tree ht7,od,cD,th,fun y9 H9 g9 hd9=>?_⟩
  refine ⟨_,rfl,_,_,rfl,runD Ds,st,hd9,sF okD,rfl,szl rfl,fun r1 hr1=>⟨szl rfl,fun r2 hr2=>?_⟩⟩
  have ga:=Grow.new (m:=[]) hr1 (.tup [.int 9,.int ((runD Ds).mk' st)])
  obtain ⟨rv,rfl,sv⟩:=hv7
  have gc:=Grow.new (m:=[]) hr2 (.tup [.ref rv,.ref r1])
  have G9:=G8.trans (g9.trans (ga.trans gc))
  refine Y9 (p:=wN [9,st] (yS Ds)) ((g9.trans (ga.trans gc)).told hp) ?_ ⟨_,rfl,hk _ _ ⟨rfl,G9⟩⟩
  rw [PL,← sG okD]
  exact ⟨r2,rv,r1,rfl,SqT.of ze,G9.sqT sv,gc.sqT (SqT.of ze)⟩
 rintro _ H8 ⟨rfl,g8⟩
 refine iteF (wa ?_)
 have ha8:=g8.asks ha7
 have hd8:=g8.deedsT hd7
 refine ⟨_,rfl,szl rfl,fun rb hrb=>⟨_,rfl,_,_,rfl,[9,st],yS Ds,⟨rb,rfl,SqT.of ze⟩,(by show 1 <= 2; decide),(by show 2 <= 16; decide),(Grow.new (m:=[]) hrb _).asks ha8,aL,aok,fun yp H9 g9 hp=>?_⟩⟩
 have gb:=Grow.new (m:=[]) hrb (.tup [.int 9,.int st])
 have G9:=gb.trans g9
 refine ⟨szl rfl,fun rl hrl=>?_⟩
 have gl:=Grow.new (m:=[]) hrl (.tup [.int 0,.non,.non])
 have hd9:=(G9.trans gl).deedsT hd8
 have hp9:=gl.deedsT hp
 have hl9:zE K (upd H9 rl (.tup [.int 0,.non,.non])) (.ref rl) look:=⟨rl,rfl,SqT.of ze⟩
 generalize upd H9 rl (.tup [.int 0,.non,.non]) = H10 at gl hd9 hp9 hl9 ⊢
 obtain ⟨_,xd9,e9,hrd9,ald9⟩:=id hd9
 cases e9
 refine ⟨_,rfl,_,rfl,rd,xd9,rfl,.inr hrd9,_,rfl,(Ds.length:Int),congrArg V.int (by rw [ald9.len]),by omega,by omega,fun yc H11 g11 hc=>?_⟩
 have co:=jj ((Ds.length:Int) - 1).toNat
 have ca:=ji ((Ds.length:Int) - 1).toNat (by omega)
 refine ⟨_,_,rfl,Ds,_,g11.deedsT hd9,by omega,by omega,okD,hc,co.1,by rw [co.2]; omega,by rw [ca.2.1]; omega,fun y12 H12 g12 hd12=>⟨szl rfl,fun r13 hr13=>?_⟩⟩
 have g13:=Grow.new (m:=[]) hr13 (.tup [.ref rl,y12])
 have hp13:=(g11.trans (g12.trans g13)).deedsT hp9
 rw [show ([9,st]:List Int).length = 2 from rfl,GL] at hp13
 refine ZW (ds:=[look,runD Ds]) hp13 ⟨r13,_,rfl,SqT.of ze,(g11.trans (g12.trans g13)).deed hl9,g13.deed hd12,trivial⟩ ?_
 exact q _ (G4.trans (g5.trans (g6.trans (g7.trans (g8.trans (G9.trans (gl.trans (g11.trans (g12.trans g13)))))))))
theorem ub:FnScope ["_law_store_here","_law_many","_law_digit"] ["_law_store_here","_law_many"] (zh (top 70)):=⟨rfl,rfl,rfl,by decide +kernel,rfl,by decide +kernel,by decide +kernel⟩
theorem qO (F:Fun K "_law_draw" "_law_draw" (top 70) f fd) (B:Blt mg)     :
  FnOk P w K mg base CX0 (n + 1) f fd ["_law_store_here","_law_many"] (sC K):=by
 refine F.ok ub zM (fun cdv A outer s H vs Q E hr h=>?_)
 obtain ⟨x,y,rfl,a,m,rfl,rfl,⟨p0,p1,hp,h0⟩,hm,hm2,q⟩:=h
 refine ⟨_,(zc (zO (zB Ys (zG yy (pv 0) zi (fun _ _=>rfl)) zi (zA _)) (zc (zr (i:=2) ub.nd rfl (Or.inl rfl) (zS vZ (zG yy (pv 0) zi (fun _ _=>rfl)) (pv 1))) (zc (wS (zS j7 (zG yy (pv 0) zi (fun _ _=>rfl)) (pv 1)) (jY (pv 0) zi uq)) (zg (zn (pv 2))))) zp) (zc (wS (zS vZ (zS xB (zS su (zG yy (pv 0) zi (fun _ _=>rfl)) zi) zi) zi) (jY (pv 0) zi uq)) (zg (zn (zS vZ (zS j7 (zS vZ (zS j3 (zG yy (pv 0) zi (fun _ _=>rfl)) zi) zi) zi) (pv 1)))))),?_⟩
 refine ⟨_,rfl,a,_,_,_,rfl,rfl,SqL.of hp,rfl,_,_,rfl,rfl,_,rfl,?_⟩
 refine ite2 (fun c=>?_) (fun c=>?_)
 ·refine ⟨_,rfl,a,_,_,_,rfl,rfl,SqL.of hp,rfl,_,rfl,p0,m,rfl,rfl,hm,?_⟩
  refine ⟨_,rfl,a,_,_,_,rfl,rfl,SqL.of hp,rfl,_,rfl,p0,m,rfl,rfl,⟨hm,hm2⟩,_,rfl,a,_,0,0,rfl,rfl,hp,rfl,?_⟩
  exact ⟨_,rfl,q _ _ (Int.emod_nonneg _ (by omega)) (Int.emod_lt_of_pos _ hm) (Grow.set hp (by simp) _) ⟨p0 / m,p1,ze,Int.ediv_nonneg h0 (by omega)⟩⟩
 ·refine ⟨_,rfl,a,_,_,_,rfl,rfl,SqL.of hp,rfl,p1,48271,rfl,rfl,Uv ⟨by decide,by decide⟩,_,_,rfl,rfl,_,_,rfl,rfl,(by show (0:Int) < 2147483647; decide),_,rfl,a,_,1,1,rfl,rfl,hp,rfl,?_⟩
  have b0:0 <= (p1 * 48271 + 12289) % 2147483647:=Int.emod_nonneg _ (by decide)
  have b1:(p1 * 48271 + 12289) % 2147483647 < 2147483647:=Int.emod_lt_of_pos _ (by decide)
  refine ⟨_,rfl,a,_,_,_,rfl,rfl,SqL.of ze,rfl,_,_,rfl,rfl,⟨by decide,by decide,by omega⟩,_,_,rfl,rfl,(by show (0:Int) < 2147483563; decide),_,_,rfl,rfl,⟨by decide,by decide⟩,_,rfl,_,_,rfl,rfl,hm,?_⟩
  exact q _ _ (Int.emod_nonneg _ (by omega)) (Int.emod_lt_of_pos _ hm) (Grow.set hp (by simp) _) ⟨p0,(p1 * 48271 + 12289) % 2147483647,ze,h0⟩
theorem wA:FnScope ["_law_store_here","_law_first","_law_many","_law_left","_law_one"] ["_law_store_here","_law_first","_law_many"] (zh (top 71)):=⟨rfl,rfl,rfl,by decide +kernel,rfl,by decide +kernel,by decide +kernel⟩
theorem qP (F:Fun K "_law_tree" "_law_tree" (top 71) f fd) (B:Blt mg) {N:Nat} (qc0:zf P w K mg base n "_law_tree" ["_law_store_here","_law_first","_law_many"] (wE N K)) (qc1:zf P w K mg base n "_law_draw" ["_law_store_here","_law_many"] (sC K))    :
  FnOk P w K mg base CX0 (n + 1) f fd ["_law_store_here","_law_first","_law_many"] (wE (N + 1) K):=by
 refine F.ok wA wY (fun cdv A outer s H vs Q E hr h=>?_)
 obtain ⟨x,y,z,rfl,a,f0,m,rfl,rfl,rfl,pp,f1,m0,m1,fm,q⟩:=h
 refine ⟨_,(zc (zO (zB xF (pv 2) zi (zA _)) (zg (zn (pv 1))) zp) (zc (zr (i:=3) wA.nd rfl (Or.inl rfl) (zS xB zi (zd qc1 hr rfl (za (pv 0) (za (zS xo (pv 2) zi) zb))))) (zc (zr (i:=4) wA.nd rfl (Or.inl rfl) (zd qc0 hr rfl (za (pv 0) (za (pv 1) (za (pv 3) zb))))) (zg (zn (yg (za (pv 4) (za (zd qc0 hr rfl (za (pv 0) (za (zS xB (pv 1) (pv 3)) (za (zS xo (pv 2) (pv 3)) zb)))) zb)))))))),?_⟩
 refine ⟨_,rfl,rfl,_,rfl,?_⟩
 by_cases cm:m = 1
 ·subst cm
  exact yq (decide_eq_true rfl) ⟨_,rfl,q _ (.leaf f0) _ (Grow.refl _ _) pp rfl rfl rfl Nat.zero_lt_one ⟨by omega,by omega⟩⟩
 refine z9 (decide_eq_false fun z=>cm (V.int.inj z)) ?_
 refine ⟨_,rfl,_,rfl,_,_,rfl,rfl,_,_,rfl,a,_,rfl,rfl,pp,by omega,by omega,fun n1 H1 l1 u1 g1 pp1=>⟨_,_,rfl,rfl,?_⟩⟩
 refine ⟨_,rfl,_,rfl,_,rfl,_,_,_,rfl,a,f0,1 + n1,rfl,rfl,rfl,pp1,f1,by omega,by omega,by omega,fun y2 T2 H2 g2 pp2 h2 o2 k2 d2 n2=>?_⟩
 refine ⟨_,rfl,_,rfl,_,rfl,_,rfl,_,_,rfl,rfl,_,rfl,_,rfl,_,_,rfl,rfl,_,_,_,rfl,a,f0 + (1 + n1),m - (1 + n1),rfl,rfl,rfl,pp2,by omega,by omega,by omega,by omega,fun y3 T3 H3 g3 pp3 h3 o3 k3 d3 n3=>⟨szl rfl,fun t4 ht4=>?_⟩⟩
 have g4:Grow [a] H3 (upd H3 t4 (.tup [y2,y3])):=Grow.new ht4 _
 refine q _ (.node T2 T3) _ (g1.trans (g2.trans (g3.trans g4))) (pp3.new ht4 _) ⟨t4,y2,y3,rfl,SqT.of ze,g4.tree (g3.tree h2),g4.tree h3⟩ ⟨o2,by rw [k2]; exact o3⟩ ?_ ?_ ⟨n2,n3⟩
 ·show T2.count + T3.count = m; omega
 ·show max T2.ht T3.ht + 1 < m.toNat; omega
theorem tI:FnScope ["_law_span","_law_state"] ["_law_span","_law_state"] (zh (top 76)):=⟨rfl,rfl,rfl,by decide +kernel,rfl,by decide +kernel,by decide +kernel⟩
theorem tJ (F:Fun K "_law_within" "_law_within" (top 76) f fd) (B:Blt mg)     :
  FnOk P w K mg base CX0 (n + 1) f fd ["_law_span","_law_state"] (tm K):=by
 refine F.ok tI zM (fun cdv A outer s H vs Q E hr h=>?_)
 obtain ⟨x,y,rfl,sp,v,hx,rfl,q⟩:=h
 refine ⟨_,(zc (zO (xz (wg (pv 0))) (zg (zn xO)) zp) (zg (zn (wR (XX (Yk (wg (zG zJ (pv 0) zi (fun _ _=>rfl)))) (xH (xa wM (zG zJ (pv 0) zi (fun _ _=>rfl)) (pv 1) (zA _)))) (xH (XX (Yk (wg (zG zJ (pv 0) zi (fun _ _=>rfl)))) (xH (xa wM (pv 1) (zG zJ (pv 0) zi (fun _ _=>rfl)) (zA _))))))))),?_⟩
 match sp,hx,q with
 | none,hx,q =>
  cases (show x = V.non from hx)
  exact ⟨_,rfl,_,rfl,iteT q⟩
 | some (l,u),⟨a,e,hs⟩,q =>
  subst e
  have hq:∀ b,b = inS (some (l,u)) v -> Q (.bl b) H:=fun b e=>by rw [e]; exact q
  refine ⟨_,rfl,_,rfl,iteF (wa ?_)⟩
  cases l with
  | none =>
   refine ⟨_,rfl,a,_,_,_,rfl,rfl,hs,rfl,_,rfl,iteT ⟨_,rfl,iteT ?_⟩⟩
   cases u with
   | none=>exact ⟨_,rfl,a,_,_,_,rfl,rfl,hs,rfl,_,rfl,iteT (hq _ (by simp [inS,ltO,gtO]))⟩
   | some j=>exact ⟨_,rfl,a,_,_,_,rfl,rfl,hs,rfl,_,rfl,iteF ⟨_,rfl,_,rfl,a,_,_,_,rfl,rfl,hs,rfl,_,_,rfl,rfl,hq _ (by rw [Bool.eq_iff_iff]; simp [inS,ltO,gtO]; try omega)⟩⟩
  | some i =>
   refine ⟨_,rfl,a,_,_,_,rfl,rfl,hs,rfl,_,rfl,iteF ⟨_,rfl,a,_,_,_,rfl,rfl,hs,rfl,_,rfl,_,_,rfl,rfl,_,rfl,?_⟩⟩
   by_cases cl:i <= v
   ·refine yq (decide_eq_true cl) ?_
    cases u with
    | none=>exact ⟨_,rfl,a,_,_,_,rfl,rfl,hs,rfl,_,rfl,iteT (hq _ (by simp [inS,ltO,gtO]; omega))⟩
    | some j=>exact ⟨_,rfl,a,_,_,_,rfl,rfl,hs,rfl,_,rfl,iteF ⟨_,rfl,_,rfl,a,_,_,_,rfl,rfl,hs,rfl,_,_,rfl,rfl,hq _ (by rw [Bool.eq_iff_iff]; simp [inS,ltO,gtO]; try omega)⟩⟩
   ·exact z9 (decide_eq_false cl) (hq _ (by simp [inS,ltO]; omega))
theorem wL:FnScope ["deed","value","add","low","high","least","greatest"] ["deed","value"] (zh (top 67)):=⟨rfl,rfl,rfl,by decide +kernel,rfl,by decide +kernel,by decide +kernel⟩
theorem WN (F:Fun K "leads" "leads" (top 67) f fd) (B:Blt mg) (qc0:zf P w K mg base n "need_deed" ["thing"] (yZ K)) (qc1:zf P w K mg base n "need_value" ["thing"] (xc K))    :
  FnOk P w K mg base CX0 (n + 1) f fd ["deed","value"] (Zg K):=by
 refine F.ok wL zM (fun cdv A outer s H vs Q E hr h=>?_)
 obtain ⟨x,y,rfl,d,v,⟨a,rfl,hs⟩,ok,rfl,q⟩:=h
 refine ⟨_,(zc (zy (zd qc1 hr rfl (za (pv 1) zb))) (zc (zy (zd qc0 hr rfl (za (pv 0) zb))) (zc (wS (pv 0) (x6 rfl (zw (zm (i:=2) wL.nd rfl (Or.inl rfl)) (zw (zm (i:=3) wL.nd rfl (Or.inl rfl)) (zw (zm (i:=4) wL.nd rfl (Or.inl rfl)) yM))))) (zc (zO (PW.pt (wQ (xz (uD (pv 3))) (xP (zB ZH (pv 1) (pv 3) (zA _))))) (zg (zn wf)) zp) (zc (zO (PW.pt (wQ (xz (uD (pv 4))) (xP (zB Ys (pv 1) (pv 4) (zA _))))) (zg (zn wf)) zp) (zc (zr (i:=5) wL.nd rfl (Or.inl rfl) (xA (zB xF (pv 1) (pv 3) (zA _)) wf (zS xo (pv 1) (pv 2)))) (zc (zr (i:=6) wL.nd rfl (Or.inl rfl) (xA (zB xF (pv 1) (pv 4) (zA _)) wf (zS xo (pv 1) (pv 2)))) (zg (zn (yg (za (pv 5) (za (pv 6) zb)))))))))))),?_⟩
 refine ⟨_,rfl,_,rfl,v,rfl,_,rfl,_,rfl,d,⟨a,rfl,hs⟩,ok,?_⟩
 obtain ⟨ad,lo,hi⟩:=d
 refine ⟨_,rfl,a,_,rfl,hs,rfl,_,_,rfl,_,_,rfl,_,_,rfl,rfl,?_⟩
 cases lo with
 | none =>
  have c1:¬ ltO v (Deed.mk ad none hi).lo = true:=fun z=>by cases z
  refine ⟨_,rfl,_,rfl,iteF (iteF ?_)⟩
  cases hi with
  | none =>
   have c2:¬ gtO v (Deed.mk ad (none) none).hi = true:=fun z=>by cases z
   refine ⟨_,rfl,_,rfl,iteF (iteF ?_)⟩
   refine ⟨_,rfl,_,rfl,rfl,_,rfl,iteF ⟨_,rfl,_,rfl,_,_,rfl,rfl,?_⟩⟩
   refine ⟨_,rfl,_,rfl,rfl,_,rfl,iteF ⟨_,rfl,_,rfl,_,_,rfl,rfl,?_⟩⟩
   have hE:y0 (Deed.mk ad (none) none) v = some (some (v - ad),some (v - ad)):=ye c1 c2 (if_neg (show ¬ (none:Option Int) = some v from nofun)) (if_neg (show ¬ (none:Option Int) = some v from nofun))
   exact ⟨_,rfl,_,rfl,szl rfl,fun t ht=>q _ _ (Grow.new ht _) (by rw [hE]; exact ⟨t,rfl,SqT.of ze⟩)⟩
  | some u =>
   refine ⟨_,rfl,_,rfl,iteT ⟨_,rfl,_,rfl,_,_,rfl,rfl,_,rfl,?_⟩⟩
   by_cases ch:u < v
   ·exact yq (decide_eq_true ch) (q _ _ (Grow.refl _ _) (by rw [y0,if_neg c1,if_pos (show gtO v (Deed.mk ad (none) (some u)).hi = true from decide_eq_true ch)]; exact rfl))
   have c2:¬ gtO v (Deed.mk ad (none) (some u)).hi = true:=fun z=>ch (of_decide_eq_true z)
   refine z9 (decide_eq_false ch) ?_
   refine ⟨_,rfl,_,rfl,rfl,_,rfl,iteF ⟨_,rfl,_,rfl,_,_,rfl,rfl,?_⟩⟩
   refine ⟨_,rfl,_,rfl,rfl,_,rfl,?_⟩
   by_cases e2:v = u
   ·refine yq (decide_eq_true (congrArg V.int e2)) ?_
    have hE:y0 (Deed.mk ad (none) (some u)) v = some (some (v - ad),none):=ye c1 c2 (if_neg (show ¬ (none:Option Int) = some v from nofun)) (if_pos (show some u = some v by rw [e2]))
    exact ⟨_,rfl,_,rfl,szl rfl,fun t ht=>q _ _ (Grow.new ht _) (by rw [hE]; exact ⟨t,rfl,SqT.of ze⟩)⟩
   ·refine z9 (decide_eq_false fun z=>e2 (V.int.inj z)) ⟨_,rfl,_,rfl,_,_,rfl,rfl,?_⟩
    have hE:y0 (Deed.mk ad (none) (some u)) v = some (some (v - ad),some (v - ad)):=ye c1 c2 (if_neg (show ¬ (none:Option Int) = some v from nofun)) (if_neg (show ¬ some u = some v from fun z=>e2 (Option.some.inj z).symm))
    exact ⟨_,rfl,_,rfl,szl rfl,fun t ht=>q _ _ (Grow.new ht _) (by rw [hE]; exact ⟨t,rfl,SqT.of ze⟩)⟩
 | some l =>
  refine ⟨_,rfl,_,rfl,iteT ⟨_,rfl,_,rfl,_,_,rfl,rfl,_,rfl,?_⟩⟩
  by_cases cl:v < l
  ·exact yq (decide_eq_true cl) (q _ _ (Grow.refl _ _) (by rw [y0,if_pos (show ltO v (Deed.mk ad (some l) hi).lo = true from decide_eq_true cl)]; exact rfl))
  have c1:¬ ltO v (Deed.mk ad (some l) hi).lo = true:=fun z=>cl (of_decide_eq_true z)
  refine z9 (decide_eq_false cl) ?_
  cases hi with
  | none =>
   have c2:¬ gtO v (Deed.mk ad (some l) none).hi = true:=fun z=>by cases z
   refine ⟨_,rfl,_,rfl,iteF (iteF ?_)⟩
   refine ⟨_,rfl,_,rfl,rfl,_,rfl,?_⟩
   by_cases e1:v = l
   ·refine yq (decide_eq_true (congrArg V.int e1)) ?_
    refine ⟨_,rfl,_,rfl,rfl,_,rfl,iteF ⟨_,rfl,_,rfl,_,_,rfl,rfl,?_⟩⟩
    have hE:y0 (Deed.mk ad (some l) none) v = some (none,some (v - ad)):=ye c1 c2 (if_pos (show some l = some v by rw [e1])) (if_neg (show ¬ (none:Option Int) = some v from nofun))
    exact ⟨_,rfl,_,rfl,szl rfl,fun t ht=>q _ _ (Grow.new ht _) (by rw [hE]; exact ⟨t,rfl,SqT.of ze⟩)⟩
   ·refine z9 (decide_eq_false fun z=>e1 (V.int.inj z)) ⟨_,rfl,_,rfl,_,_,rfl,rfl,?_⟩
    refine ⟨_,rfl,_,rfl,rfl,_,rfl,iteF ⟨_,rfl,_,rfl,_,_,rfl,rfl,?_⟩⟩
    have hE:y0 (Deed.mk ad (some l) none) v = some (some (v - ad),some (v - ad)):=ye c1 c2 (if_neg (show ¬ some l = some v from fun z=>e1 (Option.some.inj z).symm)) (if_neg (show ¬ (none:Option Int) = some v from nofun))
    exact ⟨_,rfl,_,rfl,szl rfl,fun t ht=>q _ _ (Grow.new ht _) (by rw [hE]; exact ⟨t,rfl,SqT.of ze⟩)⟩
  | some u =>
   refine ⟨_,rfl,_,rfl,iteT ⟨_,rfl,_,rfl,_,_,rfl,rfl,_,rfl,?_⟩⟩
   by_cases ch:u < v
   ·exact yq (decide_eq_true ch) (q _ _ (Grow.refl _ _) (by rw [y0,if_neg c1,if_pos (show gtO v (Deed.mk ad (some l) (some u)).hi = true from decide_eq_true ch)]; exact rfl))
   have c2:¬ gtO v (Deed.mk ad (some l) (some u)).hi = true:=fun z=>ch (of_decide_eq_true z)
   refine z9 (decide_eq_false ch) ?_
   refine ⟨_,rfl,_,rfl,rfl,_,rfl,?_⟩
   by_cases e1:v = l
   ·refine yq (decide_eq_true (congrArg V.int e1)) ?_
    refine ⟨_,rfl,_,rfl,rfl,_,rfl,?_⟩
    by_cases e2:v = u
    ·refine yq (decide_eq_true (congrArg V.int e2)) ?_
     have hE:y0 (Deed.mk ad (some l) (some u)) v = some (none,none):=ye c1 c2 (if_pos (show some l = some v by rw [e1])) (if_pos (show some u = some v by rw [e2]))
     exact ⟨_,rfl,_,rfl,szl rfl,fun t ht=>q _ _ (Grow.new ht _) (by rw [hE]; exact ⟨t,rfl,SqT.of ze⟩)⟩
    ·refine z9 (decide_eq_false fun z=>e2 (V.int.inj z)) ⟨_,rfl,_,rfl,_,_,rfl,rfl,?_⟩
     have hE:y0 (Deed.mk ad (some l) (some u)) v = some (none,some (v - ad)):=ye c1 c2 (if_pos (show some l = some v by rw [e1])) (if_neg (show ¬ some u = some v from fun z=>e2 (Option.some.inj z).symm))
     exact ⟨_,rfl,_,rfl,szl rfl,fun t ht=>q _ _ (Grow.new ht _) (by rw [hE]; exact ⟨t,rfl,SqT.of ze⟩)⟩
   ·refine z9 (decide_eq_false fun z=>e1 (V.int.inj z)) ⟨_,rfl,_,rfl,_,_,rfl,rfl,?_⟩
    refine ⟨_,rfl,_,rfl,rfl,_,rfl,?_⟩
    by_cases e2:v = u
    ·refine yq (decide_eq_true (congrArg V.int e2)) ?_
     have hE:y0 (Deed.mk ad (some l) (some u)) v = some (some (v - ad),none):=ye c1 c2 (if_neg (show ¬ some l = some v from fun z=>e1 (Option.some.inj z).symm)) (if_pos (show some u = some v by rw [e2]))
     exact ⟨_,rfl,_,rfl,szl rfl,fun t ht=>q _ _ (Grow.new ht _) (by rw [hE]; exact ⟨t,rfl,SqT.of ze⟩)⟩
    ·refine z9 (decide_eq_false fun z=>e2 (V.int.inj z)) ⟨_,rfl,_,rfl,_,_,rfl,rfl,?_⟩
     have hE:y0 (Deed.mk ad (some l) (some u)) v = some (some (v - ad),some (v - ad)):=ye c1 c2 (if_neg (show ¬ some l = some v from fun z=>e1 (Option.some.inj z).symm)) (if_neg (show ¬ some u = some v from fun z=>e2 (Option.some.inj z).symm))
     exact ⟨_,rfl,_,rfl,szl rfl,fun t ht=>q _ _ (Grow.new ht _) (by rw [hE]; exact ⟨t,rfl,SqT.of ze⟩)⟩
theorem vF:FnScope ["deed","add","low","high","end"] ["deed"] (zh (top 66)):=⟨rfl,rfl,rfl,by decide +kernel,rfl,by decide +kernel,by decide +kernel⟩
theorem WO (F:Fun K "stays" "stays" (top 66) f fd) (B:Blt mg) (qc0:zf P w K mg base n "need_deed" ["thing"] (yZ K))    :
  FnOk P w K mg base CX0 (n + 1) f fd ["deed"] (Zf K):=by
 refine F.ok vF z8 (fun cdv A outer s H vs Q E hr h=>?_)
 obtain ⟨x,rfl,d,⟨a,rfl,hs⟩,ok,q⟩:=h
 refine ⟨_,(zc (zy (zd qc0 hr rfl (za (pv 0) zb))) (zc (wS (pv 0) (x6 rfl (zw (zm (i:=1) vF.nd rfl (Or.inl rfl)) (zw (zm (i:=2) vF.nd rfl (Or.inl rfl)) (zw (zm (i:=3) vF.nd rfl (Or.inl rfl)) yM))))) (zc (zO (zB xF (pv 1) zi (zA _)) (zg (zn (yg (za (pv 2) (za (pv 3) zb))))) zp) (zc (zr (i:=4) vF.nd rfl (Or.inl rfl) (xA (zB Ys (pv 1) zi (zA _)) (pv 3) (pv 2))) (zg (zn (xA (xz (wg (pv 4))) wf (yg (za (pv 4) (za (pv 4) zb)))))))))),?_⟩
 refine ⟨_,rfl,_,rfl,d,⟨a,rfl,hs⟩,ok,?_⟩
 obtain ⟨ad,lo,hi⟩:=d
 refine ⟨_,rfl,a,_,rfl,hs,rfl,_,_,rfl,_,_,rfl,_,_,rfl,rfl,_,rfl,rfl,_,rfl,?_⟩
 by_cases h0:ad = 0
 ·refine yq (decide_eq_true (congrArg V.int h0)) ⟨_,rfl,_,rfl,szl rfl,fun t ht=>q _ _ (Grow.new ht _) ?_⟩
  rw [vn,if_pos h0]; exact ⟨t,rfl,SqT.of ze⟩
 refine z9 (decide_eq_false fun z=>h0 (V.int.inj z)) ⟨_,rfl,_,_,rfl,rfl,_,rfl,?_⟩
 by_cases h1:0 < ad
 ·refine yq (decide_eq_true h1) ⟨_,rfl,?_⟩
  obtain ⟨o,rfl⟩:∃ o,hi = o:=⟨_,rfl⟩
  have hE:vn ⟨ad,lo,hi⟩ = uN hi:=by rw [vn,if_neg h0]; exact congrArg uN (if_pos h1)
  cases hi with
  | none=>exact ⟨_,rfl,_,rfl,iteT (q _ _ (Grow.refl _ _) (by rw [hE]; exact rfl))⟩
  | some e=>exact ⟨_,rfl,_,rfl,iteF ⟨_,rfl,_,rfl,szl rfl,fun t ht=>q _ _ (Grow.new ht _) (by rw [hE]; exact ⟨t,rfl,SqT.of ze⟩)⟩⟩
 ·refine z9 (decide_eq_false h1) ⟨_,rfl,?_⟩
  have hE:vn ⟨ad,lo,hi⟩ = uN lo:=by rw [vn,if_neg h0]; exact congrArg uN (if_neg h1)
  cases lo with
  | none=>exact ⟨_,rfl,_,rfl,iteT (q _ _ (Grow.refl _ _) (by rw [hE]; exact rfl))⟩
  | some e=>exact ⟨_,rfl,_,rfl,iteF ⟨_,rfl,_,rfl,szl rfl,fun t ht=>q _ _ (Grow.new ht _) (by rw [hE]; exact ⟨t,rfl,SqT.of ze⟩)⟩⟩
theorem xY:FnScope ["_law_deed","_law_maker","_law_state","_law_other"] ["_law_deed","_law_maker"] (zh (top 77)):=⟨rfl,rfl,rfl,by decide +kernel,rfl,by decide +kernel,by decide +kernel⟩
theorem rj (F:Fun K "_law_keeps" "_law_keeps" (top 77) f fd) (B:Blt mg) (qc0:zf P w K mg base n "_law_within" ["_law_span","_law_state"] (tm K)) (qc1:zf P w K mg base n "leads" ["deed","value"] (Zg K)) (qc2:zf P w K mg base n "stays" ["deed"] (Zf K)) (g_enumerate:mg "enumerate" = none)   :
  FnOk P w K mg base CX0 (n + 1) f fd ["_law_deed","_law_maker"] (sd K):=by
 refine F.ok xY zM (fun cdv A outer s H vs Q E hr h=>?_)
 obtain ⟨x,y,rfl,S,d,hd,ok,s5,hy,q⟩:=h
 refine ⟨_,(zc (vg PassesOwn.never rfl (ux true (K:=K) rfl rfl g_enumerate (za (pv 1) zb)) (x6 rfl (zw (zm (i:=2) xY.nd rfl (Or.inr rfl)) (zw (zm (i:=3) xY.nd rfl (Or.inr rfl)) yM))) (zc (zO (zB Vl (zd qc0 hr rfl (za (zd qc2 hr rfl (za (pv 0) zb)) (za (pv 2) zb))) (xa xF (pv 3) (pv 2) (zA _)) (zA _)) (zg (zn xO)) zp) (zg (zO (zU (zR (zj (yH rfl) rfl B.all ss (za (zL (CSc.of (N':=["_law_one","_law_state","_law_other","_law_deed"]) (sub:=[none,some 2,some 3,some 0]) (zh (top 77)) ["_law_deed","_law_maker","_law_state","_law_other"] rfl rfl (by decide +kernel) rfl) rfl (xn rfl B.range (za (zj zk rfl B.len yz (za (pv 1) zb)) zb)) (fun _ _ _ _ _ _=>zm (i:=0) (show (["_law_one","_law_state","_law_other","_law_deed"]:List Str).Nodup by decide +kernel) rfl (Or.inl rfl)) (fun _ _ _ _ _ _=>zD) (fun _ _ _ _ _ _=>(xa xF (zd qc0 hr rfl (za (zd qc1 hr rfl (za (pv 3) (za (pv 0) zb))) (za (pv 1) zb))) (xa xF (pv 2) (pv 0) (zA _)) (zA _)))) zb)))) (zg (zn xO)) zp)))) (zg (zn xO))),?_⟩
 obtain ⟨ry,rfl,hry⟩:=hy
 have lt:((tabD S d).map V.int).length = S:=by rw [List.length_map,yr]
 have dI:∀ a b:Int,decide (V.int a = V.int b) = decide (a = b):=fun a b=>decide_eq_decide.mpr ⟨fun z=>V.int.inj z,fun z=>congrArg V.int z⟩
 refine ⟨_,rfl,ry,_,rfl,hry,Y1 (xs:=(tabD S d).map V.int) (fun i σ H'=>∃ e2 e3,σ = [some x,some (.ref ry),e2,e3] /\ Grow [] H H') ⟨_,_,rfl,Grow.refl _ _⟩ (fun i σ H' _ ⟨_,_,_,g⟩=>g.sqT hry) ?_ ?_⟩
 ·rintro i v σ H1 T hv ⟨e2,e3,rfl,g1⟩ hT
  have hi:i < S:=by rw [← lt]; exact (List.getElem?_eq_some_iff.mp hv).1
  rw [List.getElem?_map,xy hi] at hv
  cases Option.some.inj hv
  have gT:=Grow.new (m:=[]) hT (.tup [.int i,.int (d.mk' (i:Int))])
  have hTt:=ze (H:=H1) (a:=T) (o:=.tup [.int i,.int (d.mk' (i:Int))])
  have g2:=g1.trans gT
  generalize upd H1 T (.tup [.int i,.int (d.mk' (i:Int))]) = H2 at gT hTt g2 ⊢
  refine ⟨T,[.int i,.int (d.mk' (i:Int))],rfl,SqT.of hTt,rfl,_,_,rfl,_,_,rfl,rfl,?_⟩
  refine v8 (fun c H'=>c = false /\ Grow [] H2 H') (fun Kk hk=>⟨_,rfl,_,rfl,d,g2.deed hd,ok,fun ys H3 g3 hsp=>⟨_,rfl,_,_,rfl,vn d,(i:Int),hsp,rfl,_,rfl,_,rfl,rfl,rfl,_,rfl,hk _ _ ⟨?_,g3⟩⟩⟩) ?_
  ·rw [Wa ok,dI,decide_eq_true rfl]; rfl
  rintro _ H3 ⟨rfl,g3⟩
  refine iteF (wa ?_)
  have G3:=g2.trans g3
  refine ⟨_,rfl,ry,_,rfl,.inr (G3.sqT hry),_,rfl,by rw [lt]; omega,by rw [lt]; omega,uu (fun j ys H'=>Grow [] H3 H' /\ ys = (List.replicate j true).map V.bl) ⟨Grow.refl _ _,rfl⟩ ?_ ?_⟩
  ·rintro j ys H4 hj ⟨g4,rfl⟩
   have hj':j < S:=by rw [lt] at hj; omega
   refine ⟨_,rfl,_,rfl,_,_,rfl,d,_,(G3.trans g4).deed hd,ok,rfl,fun y5 H5 g5 hsp=>⟨_,rfl,_,_,rfl,y0 d (0 + (j:Int)),(i:Int),hsp,rfl,_,rfl,_,rfl,rfl,rfl,yR (by rw [List.length_map,List.length_replicate]; omega),g4.trans g5,?_⟩⟩
   rw [Wb ok,dI,decide_eq_true rfl,List.replicate_succ',List.map_append]; rfl
  ·rintro ys H4 ⟨g4,rfl⟩ l hl
   refine ⟨l,_,rfl,SqL.of ze,_,rfl,?_⟩
   have e:(List.replicate ((((tabD S d).map V.int).length:Int)).toNat true).all id = true:=List.all_eq_true.mpr fun x hx=>(List.mem_replicate.mp hx).2
   rw [e]
   exact iteF ⟨_,_,rfl,G3.trans (g4.trans (Grow.new hl _))⟩
 ·rintro σ H1 ⟨e2,e3,rfl,g1⟩
  exact q _ g1
theorem xE:FnScope ["deed","many","add","low","high","ends","moved","least","greatest"] ["deed","many"] (zh (top 32)):=⟨rfl,rfl,rfl,by decide +kernel,rfl,by decide +kernel,by decide +kernel⟩
theorem WP (F:Fun K "again" "again" (top 32) f fd) (B:Blt mg) (qc0:zf P w K mg base n "tidy" ["add","low","high"] (jb K)) (qc1:zf P w K mg base n "made" ["deed","value"] (vJ K)) (qc2:zf P w K mg base n "need_deed" ["thing"] (yZ K)) (qc3:zf P w K mg base n "is_whole" ["thing"] (zP K))   {a_LOOK:Addr} (g_LOOK:mg "LOOK" = some (.ref a_LOOK)) (s_LOOK:∀ H,SqT K H a_LOOK ([V.int 0,V.non,V.non])) :
  FnOk P w K mg base CX0 (n + 1) f fd ["deed","many"] (Zd K):=by
 refine F.ok xE zM (fun cdv A outer s H vs Q E hr h=>?_)
 obtain ⟨x,y,rfl,d,m,⟨a,rfl,hs⟩,ok,rfl,hm0,hm1,hb,q⟩:=h
 refine ⟨_,(zc (zO (PW.pt (uE (zU (zR (zd qc3 hr rfl (za (pv 1) zb)))) (wj (zB ZH (pv 1) zi (zA _))))) (zg zZ) zp) (zc (zy (zd qc2 hr rfl (za (pv 0) zb))) (zc (zO (zB xF (pv 1) zi (zA _)) (zg (zn (xk rfl g_LOOK (show RelV (.ref a_LOOK) (.ref a_LOOK) from rfl)))) zp) (zc (wS (pv 0) (x6 rfl (zw (zm (i:=2) xE.nd rfl (Or.inl rfl)) (zw (zm (i:=3) xE.nd rfl (Or.inl rfl)) (zw (zm (i:=4) xE.nd rfl (Or.inl rfl)) yM))))) (zc (zr (i:=5) xE.nd rfl (Or.inl rfl) (yg (za zi (za (pv 3) (za (pv 4) zb))))) (zc (zr (i:=6) xE.nd rfl (Or.inl rfl) (zS su (pv 2) (zS xo (pv 1) zi))) (zc (zr (i:=7) xE.nd rfl (Or.inl rfl) (xA (xz (wg (pv 3))) wf (zd qc1 hr rfl (za (pv 5) (za (zS xB (pv 3) (pv 6)) zb))))) (zc (zr (i:=8) xE.nd rfl (Or.inl rfl) (xA (xz (wg (pv 4))) wf (zd qc1 hr rfl (za (pv 5) (za (zS xB (pv 4) (pv 6)) zb))))) (zg (zn (zd qc0 hr rfl (za (zS su (pv 2) (pv 1)) (za (pv 7) (za (pv 8) zb)))))))))))))),?_⟩
 refine ⟨_,rfl,_,rfl,xC,_,rfl,iteF ⟨_,rfl,_,_,rfl,rfl,_,rfl,z9 (decide_eq_false (by omega)) ?_⟩⟩
 refine ⟨_,rfl,_,rfl,d,⟨a,rfl,hs⟩,ok,_,rfl,rfl,_,rfl,?_⟩
 by_cases hz:m = 0
 ·subst hz
  exact yq (decide_eq_true rfl) (q _ H (Grow.refl _ _) ⟨a_LOOK,rfl,s_LOOK H⟩)
 refine z9 (decide_eq_false fun z=>hz (V.int.inj z)) ?_
 obtain ⟨ad,lo,hi⟩:=d
 have hb':-(2 ^ 200) < ad /\ ad < 2 ^ 200:=hb
 have hm2:-(2 ^ 200) < m /\ m < 2 ^ 200:=⟨by omega,hm1⟩
 refine ⟨_,rfl,a,_,rfl,hs,rfl,_,_,rfl,_,_,rfl,_,_,rfl,rfl,_,rfl,_,rfl,szl rfl,fun t ht=>?_⟩
 have g1:Grow [] H (upd H t (.tup (Deed.mk 0 lo hi).vs)):=Grow.new ht _
 refine ⟨_,rfl,_,rfl,_,_,rfl,rfl,_,_,rfl,rfl,qX hb ⟨by omega,by omega⟩,?_⟩
 cases lo with
 | none =>
  refine ⟨_,rfl,_,rfl,iteT ?_⟩
  cases hi with
  | none =>
   refine ⟨_,rfl,_,rfl,iteT ?_⟩
   refine ⟨_,rfl,_,rfl,_,_,rfl,rfl,qX hb hm2,_,rfl,_,rfl,_,_,_,rfl,_,none,none,rfl,rfl,rfl,fun t2 ht2=>?_⟩
   exact q _ _ (g1.trans (Grow.new ht2 _)) ⟨t2,rfl,SqT.of (by rw [ze,xp,if_neg hz]; rfl)⟩
  | some u =>
   refine ⟨_,rfl,_,rfl,iteF ⟨_,rfl,_,rfl,_,rfl,_,_,rfl,rfl,_,_,rfl,⟨0,none,some u⟩,_,⟨t,rfl,SqT.of ze⟩,rfl,?_⟩⟩
   refine ⟨_,rfl,_,rfl,_,_,rfl,rfl,qX hb hm2,_,rfl,_,rfl,_,_,_,rfl,_,none,(some ((Deed.mk 0 none (some u)).mk' (u + ad * (m - 1)))),rfl,rfl,rfl,fun t2 ht2=>?_⟩
   exact q _ _ (g1.trans (Grow.new ht2 _)) ⟨t2,rfl,SqT.of (by rw [ze,xp,if_neg hz]; rfl)⟩
 | some l =>
  refine ⟨_,rfl,_,rfl,iteF ⟨_,rfl,_,rfl,_,rfl,_,_,rfl,rfl,_,_,rfl,⟨0,some l,hi⟩,_,⟨t,rfl,SqT.of ze⟩,rfl,?_⟩⟩
  cases hi with
  | none =>
   refine ⟨_,rfl,_,rfl,iteT ?_⟩
   refine ⟨_,rfl,_,rfl,_,_,rfl,rfl,qX hb hm2,_,rfl,_,rfl,_,_,_,rfl,_,(some ((Deed.mk 0 (some l) none).mk' (l + ad * (m - 1)))),none,rfl,rfl,rfl,fun t2 ht2=>?_⟩
   exact q _ _ (g1.trans (Grow.new ht2 _)) ⟨t2,rfl,SqT.of (by rw [ze,xp,if_neg hz]; rfl)⟩
  | some u =>
   refine ⟨_,rfl,_,rfl,iteF ⟨_,rfl,_,rfl,_,rfl,_,_,rfl,rfl,_,_,rfl,⟨0,some l,some u⟩,_,⟨t,rfl,SqT.of ze⟩,rfl,?_⟩⟩
   refine ⟨_,rfl,_,rfl,_,_,rfl,rfl,qX hb hm2,_,rfl,_,rfl,_,_,_,rfl,_,(some ((Deed.mk 0 (some l) (some u)).mk' (l + ad * (m - 1)))),(some ((Deed.mk 0 (some l) (some u)).mk' (u + ad * (m - 1)))),rfl,rfl,rfl,fun t2 ht2=>?_⟩
   exact q _ _ (g1.trans (Grow.new ht2 _)) ⟨t2,rfl,SqT.of (by rw [ze,xp,if_neg hz]; rfl)⟩
theorem xi:FnScope ["_law_maker","_law_many","_law_rows","_law_k","_law_ahead"] ["_law_maker","_law_many"] (zh (top 75)):=⟨rfl,rfl,rfl,by decide +kernel,rfl,by decide +kernel,by decide +kernel⟩
theorem rk (F:Fun K "_law_power" "_law_power" (top 75) f fd) (B:Blt mg)     :
  FnOk P w K mg base CX0 (n + 1) f fd ["_law_maker","_law_many"] (ZD K):=by
 refine F.ok xi zM (fun cdv A outer s H vs Q E hr h=>?_)
 obtain ⟨x,y,rfl,S,d,n,hx,s5,s1,kp,rfl,q⟩:=h
 refine ⟨_,(zc (zr (i:=2) xi.nd rfl (Or.inr rfl) (wT (za (u6 rfl rfl B.tuple rfl B.range (za (zj zk rfl B.len yz (za (pv 0) zb)) zb)) zb))) (zc (vg PassesOwn.never rfl (xn rfl B.range (za zi zb)) (zm (i:=3) xi.nd rfl (Or.inl rfl)) (zg (zy (rJ PySem.F.plainAttrs_list PySem.F.slot_list_append PySem.F.type_list_append yY (pv 2) (za (zF zx rfl B.tuple zH (za (zL (CSc.of (N':=["_law_state","_law_maker"]) (sub:=[none,some 0]) (zh (top 75)) ["_law_maker","_law_many","_law_rows","_law_k","_law_ahead"] rfl rfl (by decide +kernel) rfl) rfl (yL (zG yy (pv 2) (Uj WS zi) (fun _ _=>rfl))) (fun _ _ _ _ _ _=>zm (i:=0) (show (["_law_state","_law_maker"]:List Str).Nodup by decide +kernel) rfl (Or.inl rfl)) (fun _ _ _ _ _ _=>zD) (fun _ _ _ _ _ _=>(zG (ja (K:=K) rfl) (pv 1) (pv 0) (fun _ _=>rfl)))) zb)) zb))))) (zc (zO (zB ZH (pv 1) zi (zA _)) (zg (zn (zG yy (pv 2) (pv 1) (fun _ _=>rfl)))) zp) (zc (zr (i:=4) xi.nd rfl (Or.inl rfl) (zG yy (zL (CSc.of (N':=["_law_k","_law_rows"]) (sub:=[none,some 2]) (zh (top 75)) ["_law_maker","_law_many","_law_rows","_law_k","_law_ahead"] rfl rfl (by decide +kernel) rfl) rfl (xn rfl B.range (za zi zb)) (fun _ _ _ _ _ _=>zm (i:=0) (show (["_law_k","_law_rows"]:List Str).Nodup by decide +kernel) rfl (Or.inl rfl)) (fun _ _ _ _ _ _=>(X3 (zB (XF (K:=K) rfl hr) (zG (ut (K:=K) rfl) (pv 1) (pv 0) (fun _ _=>rfl)) (zG (ut (K:=K) rfl) (pv 1) zi (fun _ _=>rfl)) (zA _)))) (fun _ _ _ _ _ _=>(pv 0))) (Uj WS zi) (fun _ _=>rfl))) (zg (zn (zG yy (pv 2) (zS xB (pv 4) (zS vZ (zS xo (pv 1) zi) (zS xo zi (pv 4)))) (fun _ _=>rfl)))))))),?_⟩
 obtain ⟨rx,rfl,hrx⟩:=hx
 have lt:((tabD S d).map V.int).length = S:=by rw [List.length_map,yr]
 let pw:Nat -> List Int:=fun k=>tabD S (powD d k)
 refine xV (fun v H'=>∃ lr r0,v = .ref lr /\ H' lr = some (.lst [.ref r0]) /\ H lr = none /\ zo K H' (.ref r0) (pw 0) /\ Grow [] H H') (fun Kk hk=>⟨_,rfl,rx,_,rfl,.inr hrx,S,by rw [lt],by omega,fun r0 hr0=>⟨szl rfl,fun lr hlr=>hk _ _ ⟨lr,r0,rfl,ze,(Grow.new (m:=[]) hr0 _).free (by simp) hlr,⟨r0,rfl,?_⟩,(Grow.new hr0 _).trans (Grow.new hlr _)⟩⟩⟩) ?_
 ·have e:(pw 0).map V.int = (List.range S).map fun i:Nat=>V.int i:=by
   show (tabD S (powD d 0)).map V.int = _
   rw [V0]; unfold idL; rw [List.map_map]; rfl
  rw [e]
  exact (Grow.new (m:=[]) hlr _).sqT (SqT.of ze)
 rintro _ H1 ⟨lr,r0,rfl,hR1,hlrH,hb0,g1⟩
 refine ⟨_,rfl,by decide,by decide,uG (fun i σ H'=>∃ (e3:Option V) (rs:List V),σ = [some (.ref rx),some (.int n),some (.ref lr),e3,none] /\ Grow [lr] H1 H' /\ H' lr = some (.lst rs) /\ AllR (zo K H') rs ((List.range (i + 1)).map pw)) ⟨_,[.ref r0],rfl,Grow.refl _ _,hR1,hb0,trivial⟩ ?_ ?_⟩
 ·rintro i σ H2 hi ⟨e3,rs,rfl,g2,hR2,al2⟩
  have hi':i < 12:=by have:i < (12:Int).toNat:=hi; exact this
  have rl:rs.length = i + 1:=by rw [al2.len,List.length_map,List.length_range]
  have hrx2:=g2.sqT (g1.sqT hrx)
  obtain ⟨y,hy,⟨rp,rfl,hrp⟩⟩:=al2.getR (i:=i) (k:=pw i) (by rw [List.getElem?_map,List.getElem?_range (by omega)]; rfl)
  have lp:(pw i).length = S:=yr
  have ixm:atI rs (-1) = some (.ref rp):=sf rl hy
  refine ⟨_,rfl,.inl ⟨rfl,_,SqL.of hR2⟩,_,rfl,_,rfl,lr,rs,_,.ref rp,rfl,rfl,SqL.of hR2,ixm,rp,rfl,⟨_,hrp⟩,xX (xs:=(pw i).map V.int) (fun j ys σ' H'=>(∃ e0,σ' = [e0,some (.ref rx)]) /\ H' = H2 /\ ys = ((pw (i + 1)).take j).map V.int) ⟨⟨_,rfl⟩,rfl,rfl⟩ (fun j ys σ' H' _ z=>by rw [z.2.1]; exact hrp) ?_ ?_⟩
  ·rintro j x2 ys2 σ' H3 hx2 ⟨⟨e0,rfl⟩,rfl,rfl⟩
   have hj:j < S:=by rw [← lp]; have:=(List.getElem?_eq_some_iff.mp hx2).1; rw [List.length_map] at this; exact this
   rw [List.getElem?_map,show (pw i)[j]? = some ((powD d i).mk' (j:Int)) from xy hj] at hx2
   cases Option.some.inj hx2
   have hb:=kp.pow i (j:Int) (by omega) (by omega)
   have e2:(pw (i + 1))[j]? = some (d.mk' ((powD d i).mk' (j:Int))):=by
    rw [show (pw (i + 1))[j]? = some ((powD d (i + 1)).mk' (j:Int)) from xy hj,sA kp.1]
   refine ⟨_,rfl,_,rfl,rx,_,_,.int (d.mk' ((powD d i).mk' (j:Int))),rfl,rfl,hrx2,?_,yR (by rw [List.length_map,List.length_take]; have:(pw (i + 1)).length = S:=yr; omega),⟨_,rfl⟩,rfl,?_⟩
   ·have h3:((tabD S d).map V.int)[((powD d i).mk' (j:Int)).toNat]? = some (.int (d.mk' ((powD d i).mk' (j:Int)))):=by
     rw [List.getElem?_map,xy (by omega),Int.toNat_of_nonneg hb.1]; rfl
    have:=vA h3
    rw [Int.toNat_of_nonneg hb.1] at this; exact this
   ·rw [List.take_succ,e2,List.map_append]; rfl
  ·rintro ys2 σ' H3 ⟨_,rfl,rfl⟩ l hl
   have et:(pw (i + 1)).take ((pw i).map V.int).length = pw (i + 1):=List.take_of_length_le (by rw [List.length_map,lp]; exact Nat.le_of_eq yr)
   rw [et]
   have gl:=Grow.new (m:=[]) hl (.lst ((pw (i + 1)).map V.int))
   refine ⟨l,_,rfl,.inl ⟨SqL.of ze,fun r hr'=>?_⟩⟩
   have gg:=gl.trans (Grow.new hr' (.tup ((pw (i + 1)).map V.int)))
   have hRg:=gg.keep _ _ (by simp) hR2
   refine ⟨lr,rs,_,rfl,rfl,hRg,yR (by omega),?_⟩
   have gs:Grow [lr] (upd (upd H3 l (.lst ((pw (i + 1)).map V.int))) r (.tup ((pw (i + 1)).map V.int))) (upd (upd (upd H3 l (.lst ((pw (i + 1)).map V.int))) r (.tup ((pw (i + 1)).map V.int))) lr (.lst (rs ++ [.ref r]))):=Grow.set hRg (by simp) _
   refine ⟨_,rs ++ [.ref r],rfl,g2.trans (gg.wk.trans gs),ze,?_⟩
   rw [List.range_succ,List.map_append]
   exact (gs.boardsR (gg.boardsR al2)).app (.one ⟨r,rfl,gs.sqT (SqT.of ze)⟩)
 ·rintro σ H2 ⟨e3,rs,rfl,g2,hR2,al2⟩
  have al2':AllR (zo K H2) rs ((List.range 13).map pw):=al2
  have rl:rs.length = 13:=by rw [al2'.len,List.length_map,List.length_range]
  have G2:Grow [] H H2:=(g1.wk.trans g2).less fun b hb=>.inr (by rw [List.mem_singleton.mp hb]; exact hlrH)
  have get:∀ k:Nat,k < 13 -> ∃ r,atI rs (k:Int) = some (.ref r) /\ SqT K H2 r ((pw k).map V.int):=fun k hk=>by
   obtain ⟨y,hy,⟨rp,rfl,hrp⟩⟩:=al2'.getR (i:=k) (k:=pw k) (by rw [List.getElem?_map,List.getElem?_range hk]; rfl)
   exact ⟨rp,vA hy,hrp⟩
  refine c_nx ?_
  refine ⟨_,rfl,_,_,rfl,rfl,_,rfl,?_⟩
  by_cases c:(n:Int) < 12
  ·obtain ⟨r,h1,h2⟩:=get n (by omega)
   exact yq (decide_eq_true c) ⟨_,rfl,_,rfl,lr,rs,_,_,rfl,rfl,SqL.of hR2,h1,q _ _ G2 ⟨r,rfl,h2⟩⟩
  refine z9 (decide_eq_false c) (wa ?_)
  have st:∀ k,pw (11 + k) = pw 11:=fun k=>t9 s5 kp k 11 (by decide)
  obtain ⟨r12,h12,s12⟩:=get 12 (by decide)
  refine xV (fun v H'=>v = .int 11 /\ Grow [] H2 H') (fun Kk hk=>⟨_,rfl,by decide,by decide,jN (fun i ys H'=>H' = H2 /\ ys.length <= i /\ (i = 12 -> ∃ zs,ys = zs ++ [.int 11])) ⟨rfl,Nat.le_refl _,fun z=>by cases z⟩ ?_ ?_⟩) ?_
  ·rintro i ys H3 hi ⟨rfl,yl,_⟩
   have hi':i < 12:=by have:i < (12:Int).toNat:=hi; exact this
   obtain ⟨ri,h1,h2⟩:=get i (by omega)
   refine ⟨_,rfl,_,rfl,lr,rs,_,_,rfl,rfl,SqL.of hR2,(by rw [Int.zero_add]; exact h1),_,rfl,lr,rs,_,_,rfl,rfl,SqL.of hR2,h12,ri,r12,_,_,rfl,rfl,h2,s12,yI,yI,_,rfl,?_⟩
   show if eqVs ((pw i).map V.int) ((pw 12).map V.int) = true then _ else _
   rw [xK]
   by_cases e:pw i = pw 12
   ·refine yq (decide_eq_true e) ⟨_,rfl,yR (by omega),rfl,by rw [List.length_append]; show ys.length + 1 <= _; omega,fun z=>⟨ys,?_⟩⟩
    have:i = 11:=by omega
    subst this; rfl
   ·refine z9 (decide_eq_false e) ⟨rfl,by omega,fun z=>?_⟩
    have:i = 11:=by omega
    subst this
    exact absurd (st 1).symm e
  ·rintro ys H3 ⟨rfl,yl,hz⟩ l hl
   obtain ⟨zs,rfl⟩:=hz rfl
   refine ⟨_,rfl,l,_,_,.int 11,rfl,rfl,SqL.of ze,?_,hk _ _ ⟨rfl,Grow.new hl _⟩⟩
   have yl':(zs ++ [V.int 11]).length <= 12:=yl
   exact sf (n:=zs.length) (by rw [List.length_append]; rfl) List.getElem?_concat_length
  rintro _ H3 ⟨rfl,g3⟩
  obtain ⟨r11,h11,s11⟩:=get 11 (by decide)
  refine ⟨_,rfl,_,rfl,_,rfl,_,_,rfl,rfl,_,rfl,_,_,rfl,rfl,_,_,rfl,rfl,(by show (0:Int) < 12 - 11; decide),_,_,rfl,rfl,lr,rs,_,.ref r11,rfl,rfl,SqL.of (g3.keep _ _ (by simp) hR2),?_,?_⟩
  ·show atI rs (11 + ((n:Int) - 12) % (12 - 11)) = _
   have e:(11:Int) + ((n:Int) - 12) % (12 - 11) = ((11:Nat):Int):=by omega
   rw [e]; exact h11
  ·refine q _ _ (G2.trans g3) ⟨r11,rfl,g3.sqT ?_⟩
   have e:tabD S (powD d n) = pw 11:=by
    have:=st (n - 11)
    rw [show 11 + (n - 11) = n by omega] at this
    exact this
   rw [e]; exact s11
theorem WQ:FnScope ["deeds"] ["deeds"] (zh (top 21)):=⟨rfl,rfl,rfl,by decide +kernel,rfl,by decide +kernel,by decide +kernel⟩
theorem WR (F:Fun K "words" "words" (top 21) f fd) (B:Blt mg) (qc0:zf P w K mg base n "grown" ["deeds"] (u9 K))    :
  FnOk P w K mg base CX0 (n + 1) f fd ["deeds"] (t3 K):=by
 refine F.ok WQ z8 (fun cdv A outer s H vs Q E hr h=>?_)
 obtain ⟨x,rfl,ms,S,hMk,q⟩:=h
 refine ⟨_,(zg (zn (Z7 hr rfl B.tuple (zd qc0 hr rfl (za (pv 0) zb))))),?_⟩
 refine ⟨_,rfl,_,rfl,ms,S,hMk,fun y f H1 g1 hW hL=>?_⟩
 obtain ⟨l,kvs,rfl,hl,hk⟩:=hW
 refine ⟨l,kvs,rfl,hl,fun t ht=>?_⟩
 have gt:=Grow.new (m:=[]) ht (.tup (kvs.map (·.2)))
 exact q _ f _ (g1.trans gt) ⟨t,_,rfl,SqT.of ze,gt.boardsR hk.vals⟩ hL
theorem qQ:FnScope ["_law_deeds","_law_word"] ["_law_deeds","_law_word"] (zh (top 74)):=⟨rfl,rfl,rfl,by decide +kernel,rfl,by decide +kernel,by decide +kernel⟩
theorem qR (F:Fun K "_law_made" "_law_made" (top 74) f fd) (B:Blt mg) (qc0:zf P w K mg base n "folded" ["deeds","tree"] (uS K)) (qc1:zf P w K mg base n "chained" ["many"] (vM K))    :
  FnOk P w K mg base CX0 (n + 1) f fd ["_law_deeds","_law_word"] (qu K):=by
 refine F.ok qQ zM (fun cdv A outer s H vs Q E hr h=>?_)
 obtain ⟨x,y,rfl,l,xs,ds,ws,rfl,hl,al,ok,hw,w40,wr,q⟩:=h
 refine ⟨_,(zc (zO (zB (W0 hr) (pv 1) (yg zb) (zA _)) (zg (zn (yg (za zi (za wf (za wf zb)))))) zp) (zg (zn (zd qc0 hr rfl (za (zF zx rfl B.tuple zH (za (zL (CSc.of (N':=["_law_number","_law_deeds"]) (sub:=[none,some 0]) (zh (top 74)) ["_law_deeds","_law_word"] rfl rfl (by decide +kernel) rfl) rfl (yL (pv 1)) (fun _ _ _ _ _ _=>zm (i:=0) (show (["_law_number","_law_deeds"]:List Str).Nodup by decide +kernel) rfl (Or.inl rfl)) (fun _ _ _ _ _ _=>zD) (fun _ _ _ _ _ _=>(zG (ut (K:=K) rfl) (pv 1) (pv 0) (fun _ _=>rfl)))) zb)) (za (zd qc1 hr rfl (za (zj zk rfl B.len yz (za (pv 1) zb)) zb)) zb)))))),?_⟩
 obtain ⟨rw',rfl,hrw⟩:=hw
 refine v8 (fun c H'=>c = decide (ws = []) /\ Grow [] H H') (fun Kk hk=>⟨_,rfl,szl rfl,fun t ht=>⟨rw',t,_,_,rfl,rfl,(Grow.new (m:=[]) ht _).sqT hrw,SqT.of ze,yI,rfl,_,rfl,hk _ _ ⟨?_,Grow.new ht _⟩⟩⟩) ?_
 ·exact xK (ys:=[])
 rintro _ H1 ⟨rfl,g1⟩
 by_cases c:ws = []
 ·subst c
  exact yq (decide_eq_true rfl) ⟨szl rfl,fun t ht=>q _ _ (g1.trans (Grow.new ht _)) ⟨t,rfl,SqT.of ze⟩⟩
 refine z9 (decide_eq_false c) (wa ?_)
 have w1:1 <= ws.length:=by
  cases ws with
  | nil=>exact absurd rfl c
  | cons _ _=>exact Nat.succ_le_succ (Nat.zero_le _)
 have hrw1:=g1.sqT hrw
 refine ⟨_,rfl,rw',rfl,⟨_,hrw1⟩,xX (xs:=ws.map V.int) (fun j ys σ' H'=>(∃ e0,σ' = [e0,some (.ref l)]) /\ H' = H1 /\ AllR (zE K H') ys ((ws.take j).map fun n=>ds.getD n.toNat look)) ⟨⟨_,rfl⟩,rfl,trivial⟩ (fun i ys σ' H' _ z=>by rw [z.2.1]; exact hrw1) ?_ ?_⟩
 ·rintro j x2 ys2 σ' H14 hx2 ⟨⟨e0,rfl⟩,rfl,al14⟩
  rw [List.getElem?_map] at hx2
  obtain ⟨n,hn,rfl⟩:=Option.map_eq_some_iff.mp hx2
  have hnr:=wr n (List.mem_of_getElem? hn)
  have hj:=(List.getElem?_eq_some_iff.mp hn).1
  obtain ⟨y,hy,hyD⟩:=(g1.deedsR al).okD68 (α:=Unit) (i:=n.toNat) (by omega)
  have ix:atI xs n = some y:=by
   have:=vA hy
   rw [Int.toNat_of_nonneg hnr.1] at this; exact this
  refine ⟨_,rfl,_,rfl,l,xs,n,y,rfl,rfl,SqL.of (g1.keep _ _ (by simp) hl),ix,yR (by rw [al14.len,List.length_map,List.length_take]; omega),⟨_,rfl⟩,rfl,?_⟩
  rw [List.take_succ,hn,List.map_append]
  exact al14.app (.one hyD)
 ·rintro ys2 σ' H14 ⟨_,rfl,al14⟩ l2 hl2
  rw [List.length_map,List.take_length] at al14
  have gl:=Grow.new (m:=[]) hl2 (.lst ys2)
  refine ⟨l2,_,rfl,.inl ⟨SqL.of ze,fun r hr'=>?_⟩⟩
  have gg:=gl.trans (Grow.new hr' (.tup ys2))
  refine ⟨_,rfl,rw',_,rfl,.inr (gg.sqT hrw1),_,rfl,(ws.length:Int),congrArg V.int (by rw [List.length_map]),by omega,by omega,fun yc H3 g3 hc=>?_⟩
  have co:=jj ((ws.length:Int) - 1).toNat
  have ca:=ji ((ws.length:Int) - 1).toNat (by omega)
  refine ⟨_,_,rfl,(ws.map fun n=>ds.getD n.toNat look),_,⟨r,ys2,rfl,g3.sqT (SqT.of ze),g3.deedsR (gg.deedsR al14)⟩,by rw [List.length_map]; exact w1,by rw [List.length_map]; exact w40,fun d hd=>?_,hc,co.1,by rw [co.2,List.length_map]; omega,by rw [ca.2.1]; omega,fun y H4 g4 hd=>q _ _ (g1.trans (gg.trans (g3.trans g4))) (by rw [jL]; exact hd)⟩
  obtain ⟨n,hn,rfl⟩:=List.mem_map.mp hd
  exact sE ok _
theorem yK:FnScope ["_law_store_here","_law_states","_law_choice","_law_add","_law_low","_law_high"] ["_law_store_here","_law_states"] (zh (top 72)):=⟨rfl,rfl,rfl,by decide +kernel,rfl,by decide +kernel,by decide +kernel⟩
theorem rq (F:Fun K "_law_drawn" "_law_drawn" (top 72) f fd) (B:Blt mg) (qc0:zf P w K mg base n "_law_draw" ["_law_store_here","_law_many"] (sC K))    :
  FnOk P w K mg base CX0 (n + 1) f fd ["_law_store_here","_law_states"] (qv K):=by
 refine F.ok yK zM (fun cdv A outer s H vs Q E hr h=>?_)
 obtain ⟨x,y,rfl,a,S,rfl,rfl,s1,s5,pp,q⟩:=h
 refine ⟨_,(zc (zr (i:=2) yK.nd rfl (Or.inl rfl) (zd qc0 hr rfl (za (pv 0) (za zi zb)))) (zc (zr (i:=3) yK.nd rfl (Or.inl rfl) (zS xo (zd qc0 hr rfl (za (pv 0) (za zi zb))) zi)) (zc (zr (i:=4) yK.nd rfl (Or.inl rfl) (zd qc0 hr rfl (za (pv 0) (za (pv 1) zb)))) (zc (zr (i:=5) yK.nd rfl (Or.inl rfl) (zS xB (pv 4) (zd qc0 hr rfl (za (pv 0) (za (zS xo (pv 1) (pv 4)) zb))))) (zc (zO (PW.pt (uE (zB xF (pv 2) zi (zA _)) (wj (PW.pt (wQ (zB xF (pv 4) (pv 5) (zA _)) (xP (zB xF (pv 2) zi (zA _)))))))) (zg (zn (yg (za zi (za (pv 4) (za (pv 4) zb)))))) zp) (zc (zO (zB xF (pv 2) zi (zA _)) (zg (zn (yg (za (pv 3) (za (pv 4) (za (pv 5) zb)))))) zp) (zc (zO (zB xF (pv 1) zi (zA _)) (zg (zn (yg (za zi (za zi (za zi zb)))))) zp) (zg (zn (yg (za (pv 3) (za zi (za (zS xo (pv 1) zi) zb))))))))))))),?_⟩
 refine xV (fun v H'=>∃ c:Int,v = .int c /\ Grow [a] H H' /\ Pot H' a) (fun Kk hk=>⟨_,rfl,_,_,rfl,a,4,rfl,rfl,pp,by decide,by decide,fun t H' t0 t1 g pp'=>hk _ _ ⟨t,rfl,g,pp'⟩⟩) ?_
 rintro _ H1 ⟨c,rfl,g1,pp1⟩
 refine xV (fun v H'=>∃ c:Int,v = .int c /\ (-5 <= c /\ c <= 5) /\ Grow [a] H1 H' /\ Pot H' a) (fun Kk hk=>⟨_,rfl,_,_,rfl,a,11,rfl,rfl,pp1,by decide,by decide,fun t H' t0 t1 g pp'=>⟨_,_,rfl,rfl,hk _ _ ⟨_,rfl,⟨by show -5 <= t - 5; omega,by show t - 5 <= 5; omega⟩,g,pp'⟩⟩⟩) ?_
 rintro _ H2 ⟨ad,rfl,adB,g2,pp2⟩
 refine xV (fun v H'=>∃ c:Int,v = .int c /\ 0 <= c /\ c < S /\ Grow [a] H2 H' /\ Pot H' a) (fun Kk hk=>⟨_,rfl,_,rfl,_,_,rfl,a,S,rfl,rfl,pp2,by omega,by omega,fun t H' t0 t1 g pp'=>hk _ _ ⟨_,rfl,t0,t1,g,pp'⟩⟩) ?_
 rintro _ H3 ⟨lo,rfl,l0,l1,g3,pp3⟩
 refine xV (fun v H'=>∃ c:Int,v = .int c /\ lo <= c /\ c < S /\ Grow [a] H3 H' /\ Pot H' a) (fun Kk hk=>⟨_,rfl,_,rfl,_,rfl,_,rfl,_,_,rfl,rfl,_,_,rfl,a,_,rfl,rfl,pp3,by omega,by omega,fun t H' t0 t1 g pp'=>⟨_,_,rfl,rfl,hk _ _ ⟨_,rfl,by show lo <= lo + t; omega,by show lo + t < _; omega,g,pp'⟩⟩⟩) ?_
 rintro _ H4 ⟨hi,rfl,h0,h1,g4,pp4⟩
 have G4:Grow [a] H H4:=g1.trans (g2.trans (g3.trans g4))
 have fin:∀ (d:Deed) t,H4 t = none -> (-5 <= d.add /\ d.add <= 5) -> Kp68 S d -> Q (.ref t) (upd H4 t (.tup d.vs)):=fun d t ht ab kp=>q d _ _ (G4.trans (Grow.new ht _)) (pp4.new ht _) ⟨t,rfl,SqT.of ze⟩ kp ab
 refine v8 (fun b H'=>H' = H4 /\ (b = false -> ¬ (lo = hi /\ c = 2))) (fun Kk hk=>⟨_,rfl,rfl,_,rfl,?_⟩) ?_
 ·by_cases c3:c = 3
  ·exact yq (decide_eq_true (congrArg V.int c3)) (hk _ _ ⟨rfl,fun z=>nomatch z⟩)
  ·refine z9 (decide_eq_false fun z=>c3 (V.int.inj z)) ⟨_,rfl,_,rfl,rfl,_,rfl,?_⟩
   by_cases e:lo = hi
   ·refine yq (decide_eq_true (congrArg V.int e)) ⟨_,rfl,rfl,_,rfl,hk _ _ ⟨rfl,fun z w=>?_⟩⟩
    rw [decide_eq_true (congrArg V.int w.2)] at z; cases z
   ·exact z9 (decide_eq_false fun z=>e (V.int.inj z)) (hk _ _ ⟨rfl,fun _ w=>e w.1⟩)
 rintro b _ ⟨rfl,hb⟩
 cases b with
 | true=>exact iteT ⟨_,rfl,_,rfl,szl rfl,fun t ht=>fin ⟨0,some lo,some lo⟩ t ht ⟨by show (-5:Int) <= 0; decide,by show (0:Int) <= 5; decide⟩ (sW l0 (.inr ⟨rfl,rfl⟩) l1)⟩
 | false =>
  refine iteF (wa ?_)
  refine ⟨_,rfl,rfl,_,rfl,?_⟩
  by_cases c2:c = 2
  ·have n:=hb rfl
   exact yq (decide_eq_true (congrArg V.int c2)) ⟨_,rfl,_,rfl,_,rfl,szl rfl,fun t ht=>fin ⟨ad,some lo,some hi⟩ t ht adB (sW l0 (.inl (by have:lo ≠ hi:=fun w=>n ⟨w,c2⟩; omega)) h1)⟩
  ·refine z9 (decide_eq_false fun z=>c2 (V.int.inj z)) (wa ?_)
   refine ⟨_,rfl,rfl,_,rfl,?_⟩
   by_cases c1:(S:Int) = 1
   ·exact yq (decide_eq_true (congrArg V.int c1)) ⟨szl rfl,fun t ht=>fin ⟨0,some 0,some 0⟩ t ht ⟨by decide,by decide⟩ (sW (Int.le_refl 0) (.inr ⟨rfl,rfl⟩) (by omega))⟩
   ·exact z9 (decide_eq_false fun z=>c1 (V.int.inj z)) (wa ⟨_,rfl,_,rfl,_,_,rfl,rfl,szl rfl,fun t ht=>fin ⟨ad,some 0,some ((S:Int) - 1)⟩ t ht adB (sW (Int.le_refl 0) (.inl (by omega)) (by omega))⟩)
theorem zI:FnScope ["_law_store_here","_law_many","_law_states","_law_often","_law_deeds","_law_makers","_law_wholes","_law_deed","_law_maker","_law_numbers","_law_tree_here"] ["_law_store_here"] (zh (top 79)):=⟨rfl,rfl,rfl,by decide +kernel,rfl,by decide +kernel,by decide +kernel⟩
theorem rz (F:Fun K "_law_right" "_law_right" (top 79) f fd) (B:Blt mg) (qc0:zf P w K mg base n "_law_asked" ["_law_wholes","_law_makers","_law_numbers","_law_tree_here","_law_start"] (se K)) (qc1:zf P w K mg base n "_law_draw" ["_law_store_here","_law_many"] (sC K)) (qc2:zf P w K mg base n "_law_tree" ["_law_store_here","_law_first","_law_many"] (wE 40 K)) (qc3:zf P w K mg base n "_law_keeps" ["_law_deed","_law_maker"] (sd K)) (qc4:zf P w K mg base n "_law_by_table" ["_law_deed","_law_states"] (sV K)) (qc5:zf P w K mg base n "again" ["deed","many"] (Zd K)) (qc6:zf P w K mg base n "_law_power" ["_law_maker","_law_many"] (ZD K)) (qc7:zf P w K mg base n "family" ["deeds"] (sS K)) (qc8:zf P w K mg base n "words" ["deeds"] (t3 K)) (qc9:zf P w K mg base n "_law_made" ["_law_deeds","_law_word"] (qu K)) (qc10:zf P w K mg base n "_law_drawn" ["_law_store_here","_law_states"] (qv K)) (g_zip:mg "zip" = none)   :
  FnOk P w K mg base CX0 (n + 1) f fd ["_law_store_here"] (tS K):=by
 refine F.ok zI z8 (fun cdv A outer s H vs Q E hr h=>?_)
 obtain ⟨x,rfl,p,rfl,pp,q⟩:=h
 refine ⟨_,(zc (zr (i:=1) zI.nd rfl (Or.inl rfl) (zS xB zi (zd qc1 hr rfl (za (pv 0) (za zi zb))))) (zc (zr (i:=2) zI.nd rfl (Or.inr rfl) (zS xB zi (zd qc1 hr rfl (za (pv 0) (za zi zb))))) (zc (zr (i:=3) zI.nd rfl (Or.inl rfl) (zG yy (wT (za (zd qc1 hr rfl (za (pv 0) (za zi zb))) (za (zd qc1 hr rfl (za (pv 0) (za (zS j3 zi zi) zb))) zb))) (zd qc1 hr rfl (za (pv 0) (za zi zb))) (fun _ _=>rfl))) (zc (zr (i:=4) zI.nd rfl (Or.inr rfl) (zL (CSc.of (N':=["_law_k","_law_store_here","_law_states"]) (sub:=[none,some 0,some 2]) (zh (top 79)) ["_law_store_here","_law_many","_law_states","_law_often","_law_deeds","_law_makers","_law_wholes","_law_deed","_law_maker","_law_numbers","_law_tree_here"] rfl rfl (by decide +kernel) rfl) rfl (xn rfl B.range (za (zS xB zi (zd qc1 hr rfl (za (pv 0) (za zi zb)))) zb)) (fun _ _ _ _ _ _=>zm (i:=0) (show (["_law_k","_law_store_here","_law_states"]:List Str).Nodup by decide +kernel) rfl (Or.inl rfl)) (fun _ _ _ _ _ _=>zD) (fun _ _ _ _ _ _=>(zd qc10 hr rfl (za (pv 1) (za (pv 2) zb)))))) (zc (zr (i:=5) zI.nd rfl (Or.inl rfl) (zF zx rfl B.tuple zH (za (zL (CSc.of (N':=["_law_deed","_law_states"]) (sub:=[none,some 2]) (zh (top 79)) ["_law_store_here","_law_many","_law_states","_law_often","_law_deeds","_law_makers","_law_wholes","_law_deed","_law_maker","_law_numbers","_law_tree_here"] rfl rfl (by decide +kernel) rfl) rfl (qU (pv 4)) (fun _ _ _ _ _ _=>zm (i:=0) (show (["_law_deed","_law_states"]:List Str).Nodup by decide +kernel) rfl (Or.inl rfl)) (fun _ _ _ _ _ _=>zD) (fun _ _ _ _ _ _=>(zd qc4 hr rfl (za (pv 0) (za (pv 1) zb))))) zb))) (zc (zr (i:=6) zI.nd rfl (Or.inr rfl) (zL (CSc.of (N':=["_law_word","_law_deeds"]) (sub:=[none,some 4]) (zh (top 79)) ["_law_store_here","_law_many","_law_states","_law_often","_law_deeds","_law_makers","_law_wholes","_law_deed","_law_maker","_law_numbers","_law_tree_here"] rfl rfl (by decide +kernel) rfl) rfl (yL (zd qc8 hr rfl (za (pv 5) zb))) (fun _ _ _ _ _ _=>zm (i:=0) (show (["_law_word","_law_deeds"]:List Str).Nodup by decide +kernel) rfl (Or.inl rfl)) (fun _ _ _ _ _ _=>zD) (fun _ _ _ _ _ _=>(zd qc9 hr rfl (za (pv 1) (za (pv 0) zb)))))) (zc (zO (zB (W9 (K:=K) rfl hr) (zL (CSc.of (N':=["_law_whole","_law_states"]) (sub:=[none,some 2]) (zh (top 79)) ["_law_store_here","_law_many","_law_states","_law_often","_law_deeds","_law_makers","_law_wholes","_law_deed","_law_maker","_law_numbers","_law_tree_here"] rfl rfl (by decide +kernel) rfl) rfl (qU (pv 6)) (fun _ _ _ _ _ _=>zm (i:=0) (show (["_law_whole","_law_states"]:List Str).Nodup by decide +kernel) rfl (Or.inl rfl)) (fun _ _ _ _ _ _=>zD) (fun _ _ _ _ _ _=>(zd qc4 hr rfl (za (pv 0) (za (pv 1) zb))))) (zF v3 rfl B.list WW (za (zd qc7 hr rfl (za (pv 5) zb)) zb)) (zA _)) (zg (zn xO)) zp) (zc (vg PassesOwn.never rfl (UH (K:=K) rfl rfl g_zip (za (pv 4) (za (pv 5) zb))) (x6 rfl (zw (zm (i:=7) zI.nd rfl (Or.inl rfl)) (zw (zm (i:=8) zI.nd rfl (Or.inl rfl)) yM))) (zc (zO (zB (YE hr) (zd qc4 hr rfl (za (zd qc5 hr rfl (za (pv 7) (za (pv 3) zb))) (za (pv 2) zb))) (zd qc6 hr rfl (za (pv 8) (za (pv 3) zb))) (zA _)) (zg (zn xO)) zp) (zg (zO (zU (zR (zd qc3 hr rfl (za (pv 7) (za (pv 8) zb))))) (zg (zn xO)) zp)))) (zc (zr (i:=9) zI.nd rfl (Or.inl rfl) (zF zx rfl B.tuple zH (za (zL (CSc.of (N':=["_law_k","_law_store_here","_law_wholes"]) (sub:=[none,some 0,some 6]) (zh (top 79)) ["_law_store_here","_law_many","_law_states","_law_often","_law_deeds","_law_makers","_law_wholes","_law_deed","_law_maker","_law_numbers","_law_tree_here"] rfl rfl (by decide +kernel) rfl) rfl (xn rfl B.range (za (pv 1) zb)) (fun _ _ _ _ _ _=>zm (i:=0) (show (["_law_k","_law_store_here","_law_wholes"]:List Str).Nodup by decide +kernel) rfl (Or.inl rfl)) (fun _ _ _ _ _ _=>zD) (fun _ _ _ _ _ _=>(zd qc1 hr rfl (za (pv 1) (za (zj (ww (K:=K) rfl) rfl B.len yz (za (pv 2) zb)) zb))))) zb))) (zc (zr (i:=10) zI.nd rfl (Or.inl rfl) (zd qc2 hr rfl (za (pv 0) (za zi (za (pv 1) zb))))) (zg (zn (zd qc0 hr rfl (za (pv 6) (za (pv 5) (za (pv 9) (za (pv 10) (za (zd qc1 hr rfl (za (pv 0) (za (pv 2) zb))) zb)))))))))))))))))),?_⟩
 refine xV (fun v H'=>∃ m:Nat,v = .int m /\ 1 <= m /\ m <= 20 /\ Grow [p] H H' /\ Pot H' p) (fun Kk hk=>⟨_,rfl,_,_,rfl,p,20,rfl,rfl,pp,by decide,by decide,fun t H' t0 t1 g pp'=>⟨_,_,rfl,rfl,hk _ _ ⟨(1 + t).toNat,congrArg V.int (by show 1 + t = _; omega),by omega,by omega,g,pp'⟩⟩⟩) ?_
 rintro _ H1 ⟨m,rfl,m1,m20,g1,pp1⟩
 refine xV (fun v H'=>∃ S:Nat,v = .int S /\ 1 <= S /\ S <= 5 /\ Grow [p] H1 H' /\ Pot H' p) (fun Kk hk=>⟨_,rfl,_,_,rfl,p,5,rfl,rfl,pp1,by decide,by decide,fun t H' t0 t1 g pp'=>⟨_,_,rfl,rfl,hk _ _ ⟨(1 + t).toNat,congrArg V.int (by show 1 + t = _; omega),by omega,by omega,g,pp'⟩⟩⟩) ?_
 rintro _ H2 ⟨S,rfl,s1,s5,g2,pp2⟩
 refine xV (fun v H'=>∃ n:Nat,v = .int n /\ (n:Int) < 2 ^ 200 /\ Grow [p] H2 H' /\ Pot H' p) (fun Kk hk=>⟨_,rfl,_,_,rfl,p,41,rfl,rfl,pp2,by decide,by decide,fun t Ha t0 t1 ga ppa=>⟨_,rfl,_,_,rfl,rfl,⟨by decide,by decide,by decide⟩,_,_,rfl,p,(10:Int) ^ (30:Int).toNat,rfl,rfl,ppa,by decide,by decide,fun u Hb u0 u1 gb ppb=>⟨szl rfl,fun lo hlo=>?_⟩⟩⟩) ?_
 ·have pc:=ppb.new hlo (.lst [.int t,.int u])
  have gl:=Grow.new (m:=[]) hlo (.lst [.int t,.int u])
  have nlo:lo ≠ p:=fun z=>by
   obtain ⟨x0,x1,z1,_⟩:=ppb
   rw [z,z1] at hlo; cases hlo
  have hlt:=ze (H:=Hb) (a:=lo) (o:=.lst [.int t,.int u])
  have uB:u < 2 ^ 200:=Int.lt_of_lt_of_le u1 (by decide)
  generalize upd Hb lo (.lst [.int t,.int u]) = Hc at pc gl hlt ⊢
  refine ⟨_,rfl,_,_,rfl,p,2,rfl,rfl,pc,by decide,by decide,fun w Hd w0 w1 gd ppd=>?_⟩
  have hld:=gd.keep _ _ (by simpa using nlo) hlt
  have Gd:Grow [p] H2 Hd:=ga.trans (gb.trans (gl.wk.trans gd))
  by_cases c:w = 0
  ·subst c
   exact ⟨lo,_,_,.int t,rfl,rfl,SqL.of hld,rfl,hk _ _ ⟨t.toNat,congrArg V.int (by omega),by omega,Gd,ppd⟩⟩
  ·obtain rfl:w = 1:=by omega
   exact ⟨lo,_,_,.int u,rfl,rfl,SqL.of hld,rfl,hk _ _ ⟨u.toNat,congrArg V.int (by omega),by omega,Gd,ppd⟩⟩
 rintro _ H2b ⟨ofn,rfl,oB,g2b,pp2b⟩
 refine xV (fun v H'=>∃ lD xs ds,v = .ref lD /\ H' lD = some (.lst xs) /\ lD ≠ p /\ AllR (zE K H') xs ds /\ (∀ d ∈ ds,Kp68 S d /\ -5 <= d.add /\ d.add <= 5) /\ 1 <= ds.length /\ ds.length <= 4 /\ Grow [p] H2b H' /\ Pot H' p) (fun Kk hk=>⟨_,rfl,_,_,rfl,p,4,rfl,rfl,pp2b,by decide,by decide,fun t H3 t0 t1 g3 pp3=>⟨_,_,rfl,rfl,_,rfl,by show _ <= 1 + t; omega,by show 1 + t < _; omega,uu (fun i ys H'=>∃ ds,AllR (zE K H') ys ds /\ ds.length = i /\ (∀ d ∈ ds,Kp68 S d /\ -5 <= d.add /\ d.add <= 5) /\ Grow [p] H2b H' /\ Pot H' p) ⟨[],trivial,rfl,(fun d hd=>nomatch hd),g3,pp3⟩ ?_ ?_⟩⟩) ?_
 ·rintro i ys H4 hi ⟨ds,al,dl,kd,g4,pp4⟩
  have hi':i < 4:=by have:i < (1 + t).toNat:=hi; omega
  refine ⟨_,rfl,_,rfl,_,_,rfl,p,S,rfl,rfl,s1,s5,pp4,fun d y H5 g5 pp5 hd kp ab=>⟨yR (by rw [al.len]; omega),ds ++ [d],(g5.deedsR al).app (.one hd),by rw [List.length_append,dl]; rfl,fun e he=>?_,g4.trans g5,pp5⟩⟩
  rcases List.mem_append.mp he with z | z
  ·exact kd e z
  ·rw [List.mem_singleton.mp z]; exact ⟨kp,ab⟩
 ·rintro ys H4 ⟨ds,al,dl,kd,g4,pp4⟩ l hl
  have e:(1 + t).toNat = ds.length:=dl.symm
  have gl:=Grow.new (m:=[]) hl (.lst ys)
  refine hk _ _ ⟨l,ys,ds,rfl,ze,fun z=>?_,gl.deedsR al,kd,by omega,by omega,g4.trans gl.wk,pp4.new hl _⟩
  obtain ⟨x0,x1,z1,_⟩:=pp4
  rw [z,z1] at hl; cases hl
 rintro _ H3 ⟨lD,xs,ds,rfl,hD3,nlp,al3,kdb,d1,d4,g3,pp3⟩
 have kd:∀ d ∈ ds,Kp68 S d:=fun d hd=>(kdb d hd).1
 have G3:Grow [p] H H3:=g1.trans (g2.trans (g2b.trans g3))
 have okD:yO ds:=fun d hd=>(kd d hd).1
 have xl:=al3.len
 refine xV (fun v H'=>MksAt K H' v (ds.map (tabD S)) S /\ Grow [] H3 H') (fun Kk hk=>⟨_,rfl,lD,rfl,⟨_,SqL.of hD3⟩,v9 (xs:=xs) (fun i ys σ' H'=>(∃ e0,σ' = [e0,some (.int S)]) /\ Grow [] H3 H' /\ AllR (zo K H') ys ((ds.take i).map (tabD S))) ⟨⟨_,rfl⟩,Grow.refl _ _,trivial⟩ (fun i ys σ' H' _ z=>SqL.of (z.2.1.keep _ _ (by simp) hD3)) ?_ ?_⟩) ?_
 ·rintro i x ys σ' H4 hx ⟨⟨e0,rfl⟩,g4,al4⟩
  obtain ⟨d,hd,hdA⟩:=al3.get hx
  refine ⟨_,rfl,_,rfl,_,_,rfl,d,S,g4.deed hdA,okD d (List.mem_of_getElem? hd),rfl,s5,fun y H5 g5 hb=>⟨yR (by rw [al4.len,List.length_map,List.length_take]; omega),⟨_,rfl⟩,g4.trans g5,?_⟩⟩
  rw [List.take_succ,hd,List.map_append]
  exact (g5.boardsR al4).app (.one hb)
 ·rintro ys σ' H4 ⟨_,g4,al4⟩ l hl
  rw [xl,List.take_length] at al4
  refine ⟨l,_,rfl,.inl ⟨SqL.of ze,fun r hr'=>?_⟩⟩
  have gg:=(Grow.new (m:=[]) hl (.lst ys)).trans (Grow.new hr' (.tup ys))
  refine hk _ _ ⟨⟨⟨r,ys,rfl,SqT.of ze,gg.boardsR al4⟩,fun t ht=>?_,s1,s5,by rw [List.length_map]; exact d1,by rw [List.length_map]; exact d4,XD s5 kd⟩,g4.trans gg⟩
  obtain ⟨d,hd,rfl⟩:=List.mem_map.mp ht
  exact sU (kd d hd)
 rintro ym H4 ⟨hMk,g4⟩
 have hD4:=g4.keep _ _ (by simp) hD3
 have al4:=g4.deedsR al3
 refine xV (fun v H'=>∃ f lW zs,v = .ref lW /\ H' lW = some (.lst zs) /\ lW ≠ p /\ FamL (ds.map (tabD S)) S f /\ AllR (zE K H') zs (f.map fun p=>w6 ds p.2) /\ Grow [] H4 H') (fun Kk hk=>⟨_,rfl,_,rfl,_,S,hMk,fun yw f Hw gw hRw hL=>?_⟩) ?_
 ·obtain ⟨rW,xw,rfl,hrw,alw⟩:=hRw
  have lw:xw.length = f.length:=by rw [alw.len,List.length_map]
  have wm:=hL.wm
  have wl:=hL.wl96
  have f40:=WI s5 kd hL
  refine ⟨rW,rfl,⟨_,hrw⟩,xX (xs:=xw) (fun i ys σ' H'=>(∃ e0,σ' = [e0,some (.ref lD)]) /\ Grow [] Hw H' /\ AllR (zE K H') ys ((f.take i).map fun p=>w6 ds p.2)) ⟨⟨_,rfl⟩,Grow.refl _ _,trivial⟩ (fun i ys σ' H' _ z=>z.2.1.sqT hrw) ?_ ?_⟩
  ·rintro i x ys σ' H6 hx ⟨⟨e0,rfl⟩,g6,al6⟩
   obtain ⟨wd,hwd,hwA⟩:=alw.get hx
   rw [List.getElem?_map] at hwd
   obtain ⟨pr,hpr,rfl⟩:=Option.map_eq_some_iff.mp hwd
   have hm:=wm pr (List.mem_of_getElem? hpr)
   have hwl:=wl.2 pr (List.mem_of_getElem? hpr)
   have hi:=(List.getElem?_eq_some_iff.mp hpr).1
   have gg:=gw.trans g6
   refine ⟨_,rfl,_,rfl,_,_,rfl,lD,xs,ds,pr.2,rfl,gg.keep _ _ (by simp) hD4,gg.deedsR al4,okD,g6.board hwA,by omega,fun n hn=>by have:=hm.2 n hn; rw [List.length_map] at this; exact this,fun y H7 g7 hd7=>⟨yR (by rw [al6.len,List.length_map,List.length_take]; omega),⟨_,rfl⟩,g6.trans g7,?_⟩⟩
   rw [List.take_succ,hpr,List.map_append]
   exact (g7.deedsR al6).app (.one hd7)
  ·rintro ys σ' H6 ⟨_,g6,al6⟩ l hl
   rw [lw,List.take_length] at al6
   have gl:=Grow.new (m:=[]) hl (.lst ys)
   refine hk _ _ ⟨f,l,ys,rfl,ze,fun z=>?_,hL,gl.deedsR al6,gw.trans (g6.trans gl)⟩
   have pp6:=((pp3.grow g4).grow gw).grow g6
   obtain ⟨x0,x1,z1,_⟩:=pp6
   rw [z,z1] at hl; cases hl
 rintro _ H6 ⟨f,lW,zs,rfl,hW6,nWp,hL,alW6,g6⟩
 have hF:=hL.fam hMk.ok hMk.few
 have f60:=hF.l60
 have f0:0 < (zu f).length:=(List.getElem?_eq_some_iff.mp hF.hd).1
 have fl:(zu f).length = f.length:=by unfold zu; rw [List.length_map]
 have hW:=ZC kd hL
 have hWt:=qt kd hL
 have alW6':=alW6
 obtain ⟨W,hWd⟩:∃ W,W = f.map fun p=>w6 ds p.2:=⟨_,rfl⟩
 rw [← hWd] at hW hWt alW6
 have Wl:W.length = (zu f).length:=by rw [hWd,List.length_map,fl]
 have zl:=alW6.len
 have hMk6:=hMk.grow g6
 have pp6:=(pp3.grow g4).grow g6
 have okWm:∀ d ∈ W,d.Ok:=fun d hd=>by
  obtain ⟨n,hn,rfl⟩:=List.mem_iff_getElem.mp hd
  have:=(hW n (by omega)).1.1
  rw [List.getD_eq_getElem?_getD,List.getElem?_eq_getElem hn] at this; exact this
 refine v8 (fun c H'=>c = false /\ Grow [] H6 H') (fun Kk hk=>⟨_,rfl,lW,rfl,⟨_,SqL.of hW6⟩,v9 (xs:=zs) (fun i ys σ' H'=>(∃ e0,σ' = [e0,some (.int S)]) /\ Grow [] H6 H' /\ AllR (zo K H') ys ((W.take i).map (tabD S))) ⟨⟨_,rfl⟩,Grow.refl _ _,trivial⟩ (fun i ys σ' H' _ z=>SqL.of (z.2.1.keep _ _ (by simp) hW6)) ?_ ?_⟩) ?_
 ·rintro i x ys σ' H7 hx ⟨⟨e0,rfl⟩,g7,al7⟩
  obtain ⟨d,hd,hdA⟩:=alW6.get hx
  refine ⟨_,rfl,_,rfl,_,_,rfl,d,S,g7.deed hdA,okWm d (List.mem_of_getElem? hd),rfl,s5,fun y H8 g8 hb=>⟨yR (by rw [al7.len,List.length_map,List.length_take]; omega),⟨_,rfl⟩,g7.trans g8,?_⟩⟩
  rw [List.take_succ,hd,List.map_append]
  exact (g8.boardsR al7).app (.one hb)
 ·rintro ys σ' H7 ⟨_,g7,al7⟩ l hl
  rw [zl,List.take_length,hWt] at al7
  have gl:=Grow.new (m:=[]) hl (.lst ys)
  refine ⟨_,rfl,_,rfl,_,S,hMk6.grow (g7.trans gl),fun yf f' H8 g8 hB hL'=>?_⟩
  obtain rfl:=FamR.eq hL hL'
  obtain ⟨rS,xS,rfl,hrS,alS⟩:=hB.rows
  refine ⟨rS,xS,rfl,.inr hrS,fun l2 hl2=>?_⟩
  have gl2:=Grow.new (m:=[]) hl2 (.lst xS)
  exact ⟨.list ((zu f).map rowD),.lst (SqL.of ((g8.trans gl2).keep _ _ (by simp) ze)) (sK ((gl.trans (g8.trans gl2)).boardsR al7)),.lst (SqL.of ze) (sK (gl2.boardsR alS)),⟨l,rfl⟩,XA,_,rfl,hk _ _ ⟨rfl,g7.trans (gl.trans (g8.trans gl2))⟩⟩
 rintro _ H7 ⟨rfl,g7⟩
 refine iteF (wa ?_)
 have hMk7:=hMk6.grow g7
 have hW7:=g7.keep _ _ (by simp) hW6
 have alW7:=g7.deedsR alW6'
 have pp7:=pp6.grow g7
 have hD7:=(g6.trans g7).keep _ _ (by simp) hD4
 have al7:=(g6.trans g7).deedsR al4
 obtain ⟨rm,xm,rfl,hrm,alm⟩:=id hMk7.at'
 have xml:xm.length = ds.length:=by rw [alm.len,List.length_map]
 refine ⟨_,rfl,_,rfl,false,true,lD,rm,rfl,⟨_,SqL.of hD7⟩,⟨_,hrm⟩,VL (xs:=xs) (ys:=xm) (fun i σ H'=>∃ (e7 e8:Option V),σ = [some (.ref p),some (.int m),some (.int S),some (.int ofn),some (.ref lD),some (.ref rm),some (.ref lW),e7,e8,none,none] /\ Grow [] H7 H') ⟨_,_,rfl,Grow.refl _ _⟩ (fun i σ H' ⟨_,_,_,g⟩=>⟨SqL.of (g.keep _ _ (by simp) hD7),g.sqT hrm⟩) ?_ ?_⟩
 ·rintro i x y σ H9 T hx hy ⟨e7,e8,rfl,g9⟩ hT
  obtain ⟨d,hd,hdA⟩:=al7.get hx
  obtain ⟨row,hrow,hrowA⟩:=alm.get hy
  rw [List.getElem?_map,hd] at hrow
  cases Option.some.inj hrow
  have kpd:=kdb d (List.mem_of_getElem? hd)
  have gT:=Grow.new (m:=[]) hT (.tup [x,y])
  have g10:=g9.trans gT
  have hTt:=ze (H:=H9) (a:=T) (o:=.tup [x,y])
  generalize upd H9 T (.tup [x,y]) = H10 at gT hTt g10 ⊢
  refine ⟨T,[x,y],rfl,SqT.of hTt,rfl,_,_,rfl,_,_,rfl,rfl,?_⟩
  have hdA10:=g10.deed hdA
  have hrA10:=g10.board hrowA
  refine v8 (fun c H'=>c = false /\ Grow [] H10 H') (fun Kk hk=>⟨_,rfl,_,rfl,_,_,rfl,d,(ofn:Int),hdA10,kpd.1.1,rfl,by omega,oB,⟨by omega,by omega⟩,fun y11 H11 g11 hd11=>⟨_,rfl,_,_,rfl,xp d (ofn:Int),S,hd11,uM kpd.1.1 _,rfl,s5,fun y12 H12 g12 hb12=>?_⟩⟩) ?_
  ·obtain ⟨r12,rfl,s12⟩:=hb12
   have G12:=g11.trans g12
   refine ⟨_,rfl,_,rfl,_,_,rfl,S,d,ofn,G12.board hrA10,s5,s1,kpd.1,rfl,fun y13 H13 g13 hb13=>?_⟩
   obtain ⟨r13,rfl,s13⟩:=hb13
   refine ⟨r12,r13,_,_,rfl,rfl,g13.sqT s12,s13,yI,yI,_,rfl,hk _ _ ⟨?_,G12.trans g13⟩⟩
   show (!eqVs _ _) = false
   rw [xK,jM kpd.1.1,decide_eq_true rfl]; rfl
  rintro _ H11 ⟨rfl,g11⟩
  refine iteF (wa ?_)
  refine ⟨_,rfl,_,rfl,_,_,rfl,S,d,g11.deed hdA10,kpd.1.1,s5,g11.board hrA10,fun H12 g12=>⟨_,rfl,iteF ⟨_,_,rfl,g10.trans (g11.trans g12)⟩⟩⟩
 ·rintro σ H9 ⟨e7,e8,rfl,g9⟩
  have pp9:=pp7.grow g9
  have hW9:=g9.keep _ _ (by simp) hW7
  have alW9:=g9.deedsR alW7
  have hMk9:=hMk7.grow g9
  have zlf:zs.length = f.length:=by rw [zl,Wl,fl]
  refine c_nx (xV (fun v H'=>∃ ns,zo K H' v ns /\ Rng f.length ns /\ ns.length = m /\ Grow [p] H9 H' /\ Pot H' p) (fun Kk hk=>⟨_,rfl,_,rfl,by omega,by omega,uu (fun i ys H'=>∃ ns:List Int,ys = ns.map V.int /\ ns.length = i /\ Rng f.length ns /\ Grow [p] H9 H' /\ Pot H' p) ⟨[],rfl,rfl,(fun n hn=>nomatch hn),Grow.refl _ _,pp9⟩ ?_ ?_⟩) ?_)
  ·rintro i ys H10 hi ⟨ns,rfl,nl,nr,g10,pp10⟩
   have hi':i < m:=by omega
   refine ⟨_,rfl,_,rfl,lW,_,rfl,.inl (SqL.of (g10.keep _ _ (by simpa using nWp) hW9)),_,_,rfl,p,_,rfl,rfl,pp10,by omega,by omega,fun n H11 n0 n1 g11 pp11=>⟨yR (by rw [List.length_map]; omega),ns ++ [n],by rw [List.map_append]; rfl,by rw [List.length_append,nl]; rfl,fun v hv=>?_,g10.trans g11,pp11⟩⟩
   rcases List.mem_append.mp hv with z | z
   ·exact nr v z
   ·rw [List.mem_singleton.mp z]; rw [zlf] at n1; exact ⟨n0,n1⟩
  ·rintro ys H10 ⟨ns,rfl,nl,nr,g10,pp10⟩ l hl
   rw [Int.toNat_natCast] at nl
   have gl:=Grow.new (m:=[]) hl (.lst (ns.map V.int))
   refine ⟨l,_,rfl,.inl ⟨SqL.of ze,fun r hr'=>?_⟩⟩
   have gg:=gl.trans (Grow.new hr' (.tup (ns.map V.int)))
   exact hk _ _ ⟨ns,⟨r,rfl,SqT.of ze⟩,nr,nl,g10.trans gg.wk,pp10.grow gg⟩
  rintro yn H10 ⟨ns,hn10,nr,nl,g10,pp10⟩
  refine xV (fun v H'=>∃ t,zY K H' v t /\ Ordd t 0 /\ t.count = (m:Int) /\ t.ht < 41 /\ Grow [p] H10 H' /\ Pot H' p) (fun Kk hk=>⟨_,rfl,_,rfl,_,_,_,rfl,p,0,m,rfl,rfl,rfl,pp10,by decide,by omega,by omega,by omega,fun y t H' g pp' ht od ct hh _=>hk _ _ ⟨t,ht,od,ct,by rw [Int.toNat_natCast] at hh; omega,g,pp'⟩⟩) ?_
  rintro yt H11 ⟨t,ht11,od,ct,th,g11,pp11⟩
  refine ⟨_,rfl,_,rfl,_,rfl,_,rfl,_,rfl,_,rfl,_,_,rfl,p,S,rfl,rfl,pp11,by omega,by omega,fun st H12 st0 st1 g12 pp12=>?_⟩
  have G12:Grow [p] H9 H12:=g10.trans (g11.trans g12)
  refine ⟨_,_,_,_,_,rfl,S,ds,f,lW,zs,ns,t,st,rfl,G12.keep _ _ (by simpa using nWp) hW9,G12.deedsR alW9,hMk9.grow G12,kd,hL,(g11.trans g12).board hn10,nr,by omega,by omega,g12.tree ht11,od,by rw [ct,nl],th,rfl,st0,st1,fun H13 g13=>?_⟩
  exact q _ (G3.trans ((g4.trans (g6.trans (g7.trans g9))).wk.trans (G12.trans g13.wk)))
theorem xZ:FnScope ["_law_script","_law_k","_law_cell"] ["_law_script","_law_k"] (zh (top 69)):=⟨rfl,rfl,rfl,by decide +kernel,rfl,by decide +kernel,by decide +kernel⟩
theorem rA (F:Fun K "_law_store" "_law_store" (top 69) f fd) (B:Blt mg)     :
  FnOk P w K mg base CX0 (n + 1) f fd ["_law_script","_law_k"] (WY K):=by
 refine F.ok xZ zM (fun cdv A outer s H vs Q E hr h=>?_)
 obtain ⟨x,y,rfl,a,ns,k,rfl,rfl,hs,k0,k1,q⟩:=h
 refine ⟨_,(zc (zr (i:=2) xZ.nd rfl (Or.inl rfl) zi) (zc (zO (zB ZH (pv 1) (zj zk rfl B.len yz (za (pv 0) zb)) (zA _)) (zg (zr (i:=2) xZ.nd rfl (Or.inl rfl) (zj X1 rfl B.abs Te (za (zG yy (pv 0) (pv 1) (fun _ _=>rfl)) zb)))) zp) (zg (zn (wT (za (zj (rC rfl) rfl B.max Us (za zi (za (zS xo (pv 2) (zS j3 zi zi)) zb))) (za (zS vZ (zS j3 (zS xB (zS xB (zS vZ (pv 2) zi) (zS su zi (pv 1))) zi) zi) zi) zb))))))),?_⟩
 have hs2:=hs.sq
 have hl:(ns.map V.int).length = ns.length:=List.length_map ..
 refine ⟨_,rfl,_,rfl,a,_,rfl,.inl hs2,_,_,rfl,rfl,_,rfl,?_⟩
 by_cases c:k < ((ns.map V.int).length:Int)
 ·refine yq (decide_eq_true c) ?_
  have hj:k.toNat < ns.length:=by omega
  refine ⟨_,rfl,_,rfl,a,_,_,V.int ns[k.toNat],rfl,rfl,hs2,uO (wq k0 (by omega)) (by rw [List.getElem?_map,List.getElem?_eq_getElem hj]; rfl),_,rfl,?_⟩
  refine ⟨_,rfl,_,_,rfl,rfl,⟨by decide,by decide,by decide⟩,_,_,rfl,rfl,_,_,rfl,?_⟩
  refine ⟨_,rfl,_,_,rfl,rfl,(by show (0:Int) < 2147483549; decide),_,rfl,_,_,rfl,rfl,qX ⟨by decide,by decide⟩ ⟨by omega,by omega⟩,_,_,rfl,rfl,_,_,rfl,rfl,_,_,rfl,rfl,⟨by decide,by decide,?_⟩,_,_,rfl,rfl,(by show (0:Int) < 2147483629; decide),szl rfl,fun p hp=>?_⟩
  ·have e0:0 <= (if ns[k.toNat] < 0 then -ns[k.toNat] else ns[k.toNat]) % 2147483549:=Int.emod_nonneg _ (by decide)
   have e1:(if ns[k.toNat] < 0 then -ns[k.toNat] else ns[k.toNat]) % 2147483549 < 2147483549:=Int.emod_lt_of_pos _ (by decide)
   show ((if ns[k.toNat] < 0 then -ns[k.toNat] else ns[k.toNat]) % 2147483549 + 1009 * k + 3).natAbs < 2 ^ 64
   omega
  refine q p _ hp (Grow.new hp _) ⟨_,_,ze,?_⟩
  show 0 <= (if ((if ns[k.toNat] < 0 then -ns[k.toNat] else ns[k.toNat]) - 10 ^ (18:Int).toNat) > 0 then _ else _)
  split <;> omega
 ·refine z9 (decide_eq_false c) ?_
  refine ⟨_,rfl,_,_,rfl,rfl,⟨by decide,by decide,by decide⟩,_,_,rfl,rfl,_,_,rfl,?_⟩
  refine ⟨_,rfl,_,_,rfl,rfl,(by show (0:Int) < 2147483549; decide),_,rfl,_,_,rfl,rfl,qX ⟨by decide,by decide⟩ ⟨by omega,by omega⟩,_,_,rfl,rfl,_,_,rfl,rfl,_,_,rfl,rfl,⟨by decide,by decide,?_⟩,_,_,rfl,rfl,(by show (0:Int) < 2147483629; decide),szl rfl,fun p hp=>?_⟩
  ·have e0:0 <= (0:Int) % 2147483549:=Int.emod_nonneg _ (by decide)
   have e1:(0:Int) % 2147483549 < 2147483549:=Int.emod_lt_of_pos _ (by decide)
   show ((0:Int) % 2147483549 + 1009 * k + 3).natAbs < 2 ^ 64
   omega
  refine q p _ hp (Grow.new hp _) ⟨_,_,ze,?_⟩
  show 0 <= (if ((0:Int) - 10 ^ (18:Int).toNat) > 0 then _ else _)
  split <;> omega
theorem Vg:FnScope ["_law_script","_law_k"] ["_law_script"] (zh (top 80)):=⟨rfl,rfl,rfl,by decide +kernel,rfl,by decide +kernel,by decide +kernel⟩
theorem U0 (F:Fun K "law" "law" (top 80) f fd) (B:Blt mg) (qc0:zf P w K mg base n "_law_right" ["_law_store_here"] (tS K)) (qc1:zf P w K mg base n "_law_store" ["_law_script","_law_k"] (WY K))    :
  FnOk P w K mg base CX0 (n + 1) f fd ["_law_script"] (j8 K):=by
 refine F.ok Vg z8 (fun cdv A outer s H vs Q E hr h=>?_)
 obtain ⟨x,rfl,a,ns,rfl,hs,h63,q⟩:=h
 refine ⟨_,(zc (vg PassesOwn.never rfl (xn rfl B.range (za (zj (rC rfl) rfl B.max Us (za zi (za (zj (Yt rfl) rfl B.min Tf (za zi (za (zj zk rfl B.len yz (za (pv 0) zb)) zb))) zb))) zb)) (zm (i:=1) Vg.nd rfl (Or.inl rfl)) (zg (zO (zU (zR (zd qc0 hr rfl (za (zd qc1 hr rfl (za (pv 0) (za (pv 1) zb))) zb)))) (zg (zn xO)) zp))) (zg (zn xO))),?_⟩
 have hl:(ns.map V.int).length = ns.length:=List.length_map ..
 refine ⟨_,rfl,a,_,rfl,.inl hs.sq,_,_,rfl,_,_,rfl,_,rfl,?_,?_,?_⟩
 ·split <;> split <;> omega
 ·rw [hl]; split <;> split <;> omega
 refine uG (fun i σ H'=>∃ e1,σ = [some (.ref a),e1] /\ Grow [] H H') ⟨_,rfl,Grow.refl _ _⟩ ?_ ?_
 ·rintro i σ H1 hi ⟨e1,rfl,g⟩
  have i63:i < 1000:=by
   have hi':=hi
   revert hi'
   split <;> split <;> omega
  refine ⟨_,rfl,_,rfl,_,_,rfl,a,ns,_,rfl,rfl,g.scr hs,by omega,by omega,fun p H2 hp g2 pp=>?_⟩
  exact ⟨_,rfl,p,rfl,pp,fun H3 g3=>⟨_,rfl,iteF ⟨_,rfl,g.trans (((g2.wk (m:=[p])).trans g3).shrink hp)⟩⟩⟩
 ·rintro σ H1 _
  exact q _
end
theorem yj:∀ {us:List Value},us.length = 1 -> ∃ x0,us = [x0]
 | [x0],_=>⟨x0,rfl⟩
theorem zN:∀ {us:List Value},us.length = 2 -> ∃ x0,∃ x1,us = [x0,x1]
 | [x0,x1],_=>⟨x0,x1,rfl⟩
theorem vf:∀ {us:List Value},us.length = 3 -> ∃ x0,∃ x1,∃ x2,us = [x0,x1,x2]
 | [x0,x1,x2],_=>⟨x0,x1,x2,rfl⟩
theorem V5:∀ {us:List Value},us.length = 4 -> ∃ x0,∃ x1,∃ x2,∃ x3,us = [x0,x1,x2,x3]
 | [x0,x1,x2,x3],_=>⟨x0,x1,x2,x3,rfl⟩
theorem XV:∀ {us:List Value},us.length = 5 -> ∃ x0,∃ x1,∃ x2,∃ x3,∃ x4,us = [x0,x1,x2,x3,x4]
 | [x0,x1,x2,x3,x4],_=>⟨x0,x1,x2,x3,x4,rfl⟩
theorem V6:∀ {us:List Value},us.length = 6 -> ∃ x0,∃ x1,∃ x2,∃ x3,∃ x4,∃ x5,us = [x0,x1,x2,x3,x4,x5]
 | [x0,x1,x2,x3,x4,x5],_=>⟨x0,x1,x2,x3,x4,x5,rfl⟩
def FA (K:FG7) (x:Str) (t:Stmt) (f:Addr) (d:FuncData):Prop:=PySem.W.nsIn K mainGlobals x = some (some (.ref f)) /\ Fun K x x t f d
theorem FA.cl {P:Program} {w:World} {K:FG7} {h base:Heap} {mg:Str -> Option Value} {x:Str} {t:Stmt} {f:Addr} {d:FuncData} {k:Nat} {ps:List Str} {sp:Sp} (a:FA K x t f d) (X:K.In h) (G:h.Ns mainGlobals mg) (F:FnOk P w K mg base CX0 k f d ps sp) (b:uI K d ps []):zf P w K mg base k x ps sp:=⟨_,_,F,b,a.2.kp,PySem.W.mg_of X G a.1⟩
theorem all_mk {l:PySem.W.OpenLaw} {w:World} {K:FG7} {h:Heap} {mg:Str -> Option Value} {fa f1 f2 f3 f4 f5 f6 f7 f8 f9 f10 f11 f12 f13 f14 f15 f16 f17 f18 f19 f20 f21 f22 f23 f24 f25 f26 f27 f28 f29 f30 f31 f32 f33 f34 f35 f36 f37 f38 f39 f40 f41 f42 f43 f44 f45 f46 f47 f48 f49 f50 f51 f52 f53 f54 f55 f56 f57:Addr} (X:K.In h) (G:h.Ns mainGlobals mg) (hfa:mg "law" = some (.ref fa))
    {d1 d2 d3 d4 d5 d6 d7 d8 d9 d10 d11 d12 d13 d14 d15 d16 d17 d18 d19 d20 d21 d22 d23 d24 d25 d26 d27 d28 d29 d30 d31 d32 d33 d34 d35 d36 d37 d38 d39 d40 d41 d42 d43 d44 d45 d46 d47 d48 d49 d50 d51 d52 d53 d54 d55 d56 d57:FuncData}
 (h1:FA K "tidy" ((top 30)) f1 d1)
 (h2:FA K "made" ((top 28)) f2 d2)
 (h3:FA K "joined" ((top 31)) f3 d3)
 (h4:FA K "gathered" ((top 42)) f4 d4)
 (h5:FA K "is_whole" ((top 10)) f5 d5)
 (h6:FA K "is_end" ((top 24)) f6 d6)
 (h7:FA K "is_deed" ((top 25)) f7 d7)
 (h8:FA K "is_within" ((top 11)) f8 d8)
 (h9:FA K "is_ask" ((top 38)) f9 d9)
 (h10:FA K "is_board" ((top 36)) f10 d10)
 (h11:FA K "need_board" ((top 37)) f11 d11)
 (h12:FA K "are_asks" ((top 39)) f12 d12)
 (h13:FA K "need_asks" ((top 40)) f13 d13)
 (h14:FA K "all_of" ((top 43)) f14 d14)
 (h15:FA K "deed_of" ((top 50)) f15 d15)
 (h16:FA K "need_many" ((top 46)) f16 d16)
 (h17:FA K "is_tree" ((top 47)) f17 d17)
 (h18:FA K "need_tree" ((top 49)) f18 d18)
 (h19:FA K "need_deeds" ((top 48)) f19 d19)
 (h20:FA K "folded" ((top 51)) f20 d20)
 (h21:FA K "chained" ((top 54)) f21 d21)
 (h22:FA K "played" ((top 41)) f22 d22)
 (h23:FA K "need_deed" ((top 27)) f23 d23)
 (h24:FA K "need_value" ((top 26)) f24 d24)
 (h25:FA K "done" ((top 29)) f25 d25)
 (h26:FA K "share_by" ((top 63)) f26 d26)
 (h27:FA K "are_numbers" ((top 56)) f27 d27)
 (h28:FA K "need_numbers" ((top 59)) f28 d28)
 (h29:FA K "is_by_table" ((top 16)) f29 d29)
 (h30:FA K "need_by_table" ((top 17)) f30 d30)
 (h31:FA K "need_table" ((top 57)) f31 d31)
 (h32:FA K "need_table_of" ((top 58)) f32 d32)
 (h33:FA K "shared_by" ((top 64)) f33 d33)
 (h34:FA K "_law_by_table" ((top 73)) f34 d34)
 (h35:FA K "number_of" ((top 61)) f35 d35)
 (h36:FA K "folded_by" ((top 62)) f36 d36)
 (h37:FA K "share" ((top 52)) f37 d37)
 (h38:FA K "shared_out" ((top 53)) f38 d38)
 (h39:FA K "by_table_then" ((top 18)) f39 d39)
 (h40:FA K "grown" ((top 19)) f40 d40)
 (h41:FA K "family" ((top 20)) f41 d41)
 (h42:FA K "own_table" ((top 60)) f42 d42)
 (h43:FA K "_law_asked" ((top 78)) f43 d43)
 (h44:FA K "_law_draw" ((top 70)) f44 d44)
 (h45:FA K "_law_tree" ((top 71)) f45 d45)
 (h46:FA K "_law_within" ((top 76)) f46 d46)
 (h47:FA K "leads" ((top 67)) f47 d47)
 (h48:FA K "stays" ((top 66)) f48 d48)
 (h49:FA K "_law_keeps" ((top 77)) f49 d49)
 (h50:FA K "again" ((top 32)) f50 d50)
 (h51:FA K "_law_power" ((top 75)) f51 d51)
 (h52:FA K "words" ((top 21)) f52 d52)
 (h53:FA K "_law_made" ((top 74)) f53 d53)
 (h54:FA K "_law_drawn" ((top 72)) f54 d54)
 (h55:FA K "_law_right" ((top 79)) f55 d55)
 (h56:FA K "_law_store" ((top 69)) f56 d56)
 (h57:FA K "law" ((top 80)) f57 d57)
    {t_LAST_HAND:Tok} (ga_LAST_HAND:PySem.W.nsIn K mainGlobals "LAST_HAND" = some (some (.int 15 t_LAST_HAND)))
    {t_LOOK:Tok}
    {a_LOOK:Addr} {v_LOOK:Array (Option Value)} {n_LOOK:Nat} {o_LOOK:Option Addr} (ga_LOOK:PySem.W.nsIn K mainGlobals "LOOK" = some (some (.ref a_LOOK))) (gl_LOOK:K.lookup a_LOOK = some ⟨.type "tuple",o_LOOK,.seq #[.int 0 t_LOOK,.none,.none] n_LOOK,v_LOOK⟩)
    {t_MOST_BOXES:Tok} (ga_MOST_BOXES:PySem.W.nsIn K mainGlobals "MOST_BOXES" = some (some (.int 16 t_MOST_BOXES)))
    {t_MOST_DEEDS:Tok} (ga_MOST_DEEDS:PySem.W.nsIn K mainGlobals "MOST_DEEDS" = some (some (.int 40 t_MOST_DEEDS)))
    {t_MOST_GIVEN:Tok} (ga_MOST_GIVEN:PySem.W.nsIn K mainGlobals "MOST_GIVEN" = some (some (.int 4 t_MOST_GIVEN)))
    {t_MOST_IN_FAMILY:Tok} (ga_MOST_IN_FAMILY:PySem.W.nsIn K mainGlobals "MOST_IN_FAMILY" = some (some (.int 60 t_MOST_IN_FAMILY)))
    {t_MOST_STATES:Tok} (ga_MOST_STATES:PySem.W.nsIn K mainGlobals "MOST_STATES" = some (some (.int 5 t_MOST_STATES)))
    (ga_enumerate:PySem.W.nsIn K mainGlobals "enumerate" = some none)
    (ga_zip:PySem.W.nsIn K mainGlobals "zip" = some none)
    (z_abs:PySem.W.nsIn K mainGlobals "abs" = some none)
    (z_len:PySem.W.nsIn K mainGlobals "len" = some none)
    (z_max:PySem.W.nsIn K mainGlobals "max" = some none)
    (z_min:PySem.W.nsIn K mainGlobals "min" = some none)
    (z_divmod:PySem.W.nsIn K mainGlobals "divmod" = some none)
    (z_repr:PySem.W.nsIn K mainGlobals "repr" = some none)
    (z_isinstance:PySem.W.nsIn K mainGlobals "isinstance" = some none)
    (z_all:PySem.W.nsIn K mainGlobals "all" = some none)
    (z_range:PySem.W.nsIn K mainGlobals "range" = some none)
    (z_int:PySem.W.nsIn K mainGlobals "int" = some none)
    (z_bool:PySem.W.nsIn K mainGlobals "bool" = some none)
    (z_str:PySem.W.nsIn K mainGlobals "str" = some none)
    (z_tuple:PySem.W.nsIn K mainGlobals "tuple" = some none)
    (z_list:PySem.W.nsIn K mainGlobals "list" = some none)
    (z_dict:PySem.W.nsIn K mainGlobals "dict" = some none)
    :
    ∃ fd:FuncData,(∀ (s:Shared) (v:Value),BindsTo s fd ⟨[v],[]⟩ [("_law_script",v)]) /\ ∀ base:Heap,K.In base -> base.Ns mainGlobals mg -> FnOk l.prog w K mg base CX0 47 fa fd ["_law_script"] (j8 K):=by
  have e:=hfa.symm.trans (PySem.W.mg_of X G h57.1)
  cases e
  have b15:=h15.2.binds (ps:=["deeds","tree"]) fun _ _ _ _ _ _ us hl=>by obtain ⟨_,_,rfl⟩:=zN hl; rfl
  have b26:=h26.2.binds (ps:=["deeds","table","numbers","tree","state","states"]) fun _ _ _ _ _ _ us hl=>by obtain ⟨_,_,_,_,_,_,rfl⟩:=V6 hl; rfl
  have b35:=h35.2.binds (ps:=["table","numbers","tree"]) fun _ _ _ _ _ _ us hl=>by obtain ⟨_,_,_,rfl⟩:=vf hl; rfl
  have b37:=h37.2.binds (ps:=["deeds","tree","value","values"]) fun _ _ _ _ _ _ us hl=>by obtain ⟨_,_,_,_,rfl⟩:=V5 hl; rfl
  have b45:=h45.2.binds (ps:=["_law_store_here","_law_first","_law_many"]) fun _ _ _ _ _ _ us hl=>by obtain ⟨_,_,_,rfl⟩:=vf hl; rfl
  have B:Blt mg:=⟨PySem.W.mg_none_of X G z_abs,PySem.W.mg_none_of X G z_len,PySem.W.mg_none_of X G z_max,PySem.W.mg_none_of X G z_min,PySem.W.mg_none_of X G z_divmod,PySem.W.mg_none_of X G z_repr,PySem.W.mg_none_of X G z_isinstance,PySem.W.mg_none_of X G z_all,PySem.W.mg_none_of X G z_range,PySem.W.mg_none_of X G z_int,PySem.W.mg_none_of X G z_bool,PySem.W.mg_none_of X G z_str,PySem.W.mg_none_of X G z_tuple,PySem.W.mg_none_of X G z_list,PySem.W.mg_none_of X G z_dict⟩
  obtain ⟨oc,od,kV,dc,pm,an,cd,ct,sl,rfl,lk,hc⟩:=h57.2.ex
  refine ⟨PySem.W.fnOf "law" "law" (uL (top 80)) (vG (top 80)) (zh (top 80)) .none kV dc pm an cd ct,fun s v=>.of_eq rfl,fun base _ _=>?_⟩
  have C1:zf l.prog w K mg base 1 _ _ _:=h1.cl X G (qZ h1.2 B      ) (h1.2.binds fun _ _ _ _ _ _ us hl=>by obtain ⟨_,_,_,rfl⟩:=vf hl; rfl)
  have C2:zf l.prog w K mg base 1 _ _ _:=h2.cl X G (V2 h2.2 B      ) (h2.2.binds fun _ _ _ _ _ _ us hl=>by obtain ⟨_,_,rfl⟩:=zN hl; rfl)
  have C3:zf l.prog w K mg base 2 _ _ _:=h3.cl X G (XI h3.2 B   (C1.mono (by decide)) (C2.mono (by decide))   ) (h3.2.binds fun _ _ _ _ _ _ us hl=>by obtain ⟨_,_,rfl⟩:=zN hl; rfl)
  have C4:zf l.prog w K mg base 3 _ _ _:=h4.cl X G (jO h4.2 B   (C3.mono (by decide))   (PySem.W.mg_of X G ga_LOOK) (fun H=>.inr ⟨_,_,_,gl_LOOK,rfl,rfl,szl rfl,.cons ⟨_,rfl⟩ (.cons rfl (.cons rfl .nil))⟩)) (h4.2.binds fun _ _ _ _ _ _ us hl=>by obtain ⟨_,_,rfl⟩:=zN hl; rfl)
  have C5:zf l.prog w K mg base 1 _ _ _:=h5.cl X G (jQ h5.2 B      ) (h5.2.binds fun _ _ _ _ _ _ us hl=>by obtain ⟨_,rfl⟩:=yj hl; rfl)
  have C6:zf l.prog w K mg base 2 _ _ _:=h6.cl X G (XL h6.2 B   (C5.mono (by decide))   ) (h6.2.binds fun _ _ _ _ _ _ us hl=>by obtain ⟨_,rfl⟩:=yj hl; rfl)
  have C7:zf l.prog w K mg base 3 _ _ _:=h7.cl X G (Ya h7.2 B   (C6.mono (by decide)) (C5.mono (by decide))   ) (h7.2.binds fun _ _ _ _ _ _ us hl=>by obtain ⟨_,rfl⟩:=yj hl; rfl)
  have C8:zf l.prog w K mg base 2 _ _ _:=h8.cl X G (qz h8.2 B   (C5.mono (by decide))   ) (h8.2.binds fun _ _ _ _ _ _ us hl=>by obtain ⟨_,_,_,rfl⟩:=vf hl; rfl)
  have C9:zf l.prog w K mg base 4 _ _ _:=h9.cl X G (XM h9.2 B   (C7.mono (by decide)) (C8.mono (by decide))  (PySem.W.mg_of X G ga_LAST_HAND) ) (h9.2.binds fun _ _ _ _ _ _ us hl=>by obtain ⟨_,_,rfl⟩:=zN hl; rfl)
  have C10:zf l.prog w K mg base 2 _ _ _:=h10.cl X G (jS h10.2 B   (C5.mono (by decide))  (PySem.W.mg_of X G ga_MOST_BOXES) ) (h10.2.binds fun _ _ _ _ _ _ us hl=>by obtain ⟨_,rfl⟩:=yj hl; rfl)
  have C11:zf l.prog w K mg base 3 _ _ _:=h11.cl X G (sY h11.2 B   (C10.mono (by decide))   ) (h11.2.binds fun _ _ _ _ _ _ us hl=>by obtain ⟨_,rfl⟩:=yj hl; rfl)
  have C12:zf l.prog w K mg base 5 _ _ _:=h12.cl X G (jU h12.2 B   (C9.mono (by decide)) (C11.mono (by decide))   ) (h12.2.binds fun _ _ _ _ _ _ us hl=>by obtain ⟨_,_,rfl⟩:=zN hl; rfl)
  have C13:zf l.prog w K mg base 6 _ _ _:=h13.cl X G (qB h13.2 B   (C12.mono (by decide))   ) (h13.2.binds fun _ _ _ _ _ _ us hl=>by obtain ⟨_,_,rfl⟩:=zN hl; rfl)
  have C14:zf l.prog w K mg base 7 _ _ _:=h14.cl X G (XO h14.2 B   (C4.mono (by decide)) (C13.mono (by decide))   ) (h14.2.binds fun _ _ _ _ _ _ us hl=>by obtain ⟨_,_,rfl⟩:=zN hl; rfl)
  have R15:∀ N:Nat,FnOk l.prog w K mg base CX0 (2 + N) f15 d15 ["deeds","tree"] (xj N K):=by
    intro N
    induction N with
    | zero=>exact vp jk
    | succ N ih=>exact Yc (P:=l.prog) (w:=w) (base:=base) (n:=2 + N) h15.2 B (C3.mono (Nat.le_trans (show 2 <= 2 by decide) (Nat.le_add_right 2 N))) ⟨_,_,ih,b15,h15.2.kp,PySem.W.mg_of X G h15.1⟩ (C5.mono (Nat.le_trans (show 1 <= 2 by decide) (Nat.le_add_right 2 N)))
  have C15:zf l.prog w K mg base 43 "deed_of" ["deeds","tree"] (xj 41 K):=⟨_,_,R15 41,b15,h15.2.kp,PySem.W.mg_of X G h15.1⟩
  have C16:zf l.prog w K mg base 3 _ _ _:=h16.cl X G (qD h16.2 B   (C8.mono (by decide))  (PySem.W.mg_of X G ga_MOST_DEEDS) ) (h16.2.binds fun _ _ _ _ _ _ us hl=>by obtain ⟨_,rfl⟩:=yj hl; rfl)
  have C17:zf l.prog w K mg base 4 _ _ _:=h17.cl X G (Yd h17.2 B   (C5.mono (by decide)) (C16.mono (by decide))   ) (h17.2.binds fun _ _ _ _ _ _ us hl=>by obtain ⟨_,_,rfl⟩:=zN hl; rfl)
  have C18:zf l.prog w K mg base 5 _ _ _:=h18.cl X G (qF h18.2 B   (C17.mono (by decide))   ) (h18.2.binds fun _ _ _ _ _ _ us hl=>by obtain ⟨_,_,rfl⟩:=zN hl; rfl)
  have C19:zf l.prog w K mg base 4 _ _ _:=h19.cl X G (sZ h19.2 B   (C7.mono (by decide))  (PySem.W.mg_of X G ga_MOST_DEEDS) ) (h19.2.binds fun _ _ _ _ _ _ us hl=>by obtain ⟨_,rfl⟩:=yj hl; rfl)
  have C20:zf l.prog w K mg base 44 _ _ _:=h20.cl X G (XR h20.2 B   (C15.mono (by decide)) (C18.mono (by decide)) (C19.mono (by decide))   ) (h20.2.binds fun _ _ _ _ _ _ us hl=>by obtain ⟨_,_,rfl⟩:=zN hl; rfl)
  have C21:zf l.prog w K mg base 4 _ _ _:=h21.cl X G (Ye h21.2 B   (C16.mono (by decide))   ) (h21.2.binds fun _ _ _ _ _ _ us hl=>by obtain ⟨_,rfl⟩:=yj hl; rfl)
  have C22:zf l.prog w K mg base 7 _ _ _:=h22.cl X G (XS h22.2 B   (C2.mono (by decide)) (C13.mono (by decide))   ) (h22.2.binds fun _ _ _ _ _ _ us hl=>by obtain ⟨_,_,rfl⟩:=zN hl; rfl)
  have C23:zf l.prog w K mg base 4 _ _ _:=h23.cl X G (qH h23.2 B   (C7.mono (by decide))   ) (h23.2.binds fun _ _ _ _ _ _ us hl=>by obtain ⟨_,rfl⟩:=yj hl; rfl)
  have C24:zf l.prog w K mg base 2 _ _ _:=h24.cl X G (s9 h24.2 B   (C5.mono (by decide))   ) (h24.2.binds fun _ _ _ _ _ _ us hl=>by obtain ⟨_,rfl⟩:=yj hl; rfl)
  have C25:zf l.prog w K mg base 5 _ _ _:=h25.cl X G (V4 h25.2 B   (C2.mono (by decide)) (C23.mono (by decide)) (C24.mono (by decide))   ) (h25.2.binds fun _ _ _ _ _ _ us hl=>by obtain ⟨_,_,rfl⟩:=zN hl; rfl)
  have R26:∀ N:Nat,FnOk l.prog w K mg base CX0 (1 + N) f26 d26 ["deeds","table","numbers","tree","state","states"] (yP N K):=by
    intro N
    induction N with
    | zero=>exact vp rZ
    | succ N ih=>exact jV (P:=l.prog) (w:=w) (base:=base) (n:=1 + N) h26.2 B ⟨_,_,ih,b26,h26.2.kp,PySem.W.mg_of X G h26.1⟩ (C5.mono (Nat.le_trans (show 1 <= 1 by decide) (Nat.le_add_right 1 N)))
  have C26:zf l.prog w K mg base 42 "share_by" ["deeds","table","numbers","tree","state","states"] (yP 41 K):=⟨_,_,R26 41,b26,h26.2.kp,PySem.W.mg_of X G h26.1⟩
  have C27:zf l.prog w K mg base 3 _ _ _:=h27.cl X G (tF h27.2 B   (C8.mono (by decide))   ) (h27.2.binds fun _ _ _ _ _ _ us hl=>by obtain ⟨_,_,rfl⟩:=zN hl; rfl)
  have C28:zf l.prog w K mg base 4 _ _ _:=h28.cl X G (tw h28.2 B   (C27.mono (by decide))  (PySem.W.mg_of X G ga_MOST_DEEDS) ) (h28.2.binds fun _ _ _ _ _ _ us hl=>by obtain ⟨_,_,rfl⟩:=zN hl; rfl)
  have C29:zf l.prog w K mg base 3 _ _ _:=h29.cl X G (tH h29.2 B   (C8.mono (by decide))  (PySem.W.mg_of X G ga_MOST_STATES) ) (h29.2.binds fun _ _ _ _ _ _ us hl=>by obtain ⟨_,rfl⟩:=yj hl; rfl)
  have C30:zf l.prog w K mg base 4 _ _ _:=h30.cl X G (uh h30.2 B   (C29.mono (by decide))   ) (h30.2.binds fun _ _ _ _ _ _ us hl=>by obtain ⟨_,_,_,rfl⟩:=vf hl; rfl)
  have C31:zf l.prog w K mg base 4 _ _ _:=h31.cl X G (rc h31.2 B   (C27.mono (by decide))  (PySem.W.mg_of X G ga_MOST_IN_FAMILY) ) (h31.2.binds fun _ _ _ _ _ _ us hl=>by obtain ⟨_,rfl⟩:=yj hl; rfl)
  have C32:zf l.prog w K mg base 5 _ _ _:=h32.cl X G (uj h32.2 B   (C30.mono (by decide)) (C31.mono (by decide))   ) (h32.2.binds fun _ _ _ _ _ _ us hl=>by obtain ⟨_,_,rfl⟩:=zN hl; rfl)
  have C33:zf l.prog w K mg base 43 _ _ _:=h33.cl X G (qI h33.2 B   (C26.mono (by decide)) (C18.mono (by decide)) (C8.mono (by decide)) (C28.mono (by decide)) (C32.mono (by decide))   ) (h33.2.binds fun _ _ _ _ _ _ us hl=>by obtain ⟨_,_,_,_,_,rfl⟩:=XV hl; rfl)
  have C34:zf l.prog w K mg base 6 _ _ _:=h34.cl X G (ul h34.2 B   (C25.mono (by decide))   ) (h34.2.binds fun _ _ _ _ _ _ us hl=>by obtain ⟨_,_,rfl⟩:=zN hl; rfl)
  have R35:∀ N:Nat,FnOk l.prog w K mg base CX0 (1 + N) f35 d35 ["table","numbers","tree"] (yG N K):=by
    intro N
    induction N with
    | zero=>exact vp sI
    | succ N ih=>exact qK (P:=l.prog) (w:=w) (base:=base) (n:=1 + N) h35.2 B ⟨_,_,ih,b35,h35.2.kp,PySem.W.mg_of X G h35.1⟩ (C5.mono (Nat.le_trans (show 1 <= 1 by decide) (Nat.le_add_right 1 N)))
  have C35:zf l.prog w K mg base 42 "number_of" ["table","numbers","tree"] (yG 41 K):=⟨_,_,R35 41,b35,h35.2.kp,PySem.W.mg_of X G h35.1⟩
  have C36:zf l.prog w K mg base 43 _ _ _:=h36.cl X G (qM h36.2 B   (C35.mono (by decide)) (C18.mono (by decide)) (C28.mono (by decide)) (C31.mono (by decide))   ) (h36.2.binds fun _ _ _ _ _ _ us hl=>by obtain ⟨_,_,_,rfl⟩:=vf hl; rfl)
  have R37:∀ N:Nat,FnOk l.prog w K mg base CX0 (2 + N) f37 d37 ["deeds","tree","value","values"] (wD N K):=by
    intro N
    induction N with
    | zero=>exact vp YO
    | succ N ih=>exact WJ (P:=l.prog) (w:=w) (base:=base) (n:=2 + N) h37.2 B (C3.mono (Nat.le_trans (show 2 <= 2 by decide) (Nat.le_add_right 2 N))) ⟨_,_,ih,b37,h37.2.kp,PySem.W.mg_of X G h37.1⟩ (C2.mono (Nat.le_trans (show 1 <= 2 by decide) (Nat.le_add_right 2 N))) (C5.mono (Nat.le_trans (show 1 <= 2 by decide) (Nat.le_add_right 2 N)))
  have C37:zf l.prog w K mg base 43 "share" ["deeds","tree","value","values"] (wD 41 K):=⟨_,_,R37 41,b37,h37.2.kp,PySem.W.mg_of X G h37.1⟩
  have C38:zf l.prog w K mg base 44 _ _ _:=h38.cl X G (rg h38.2 B   (C37.mono (by decide)) (C18.mono (by decide)) (C19.mono (by decide)) (C24.mono (by decide))   ) (h38.2.binds fun _ _ _ _ _ _ us hl=>by obtain ⟨_,_,_,rfl⟩:=vf hl; rfl)
  have C39:zf l.prog w K mg base 1 _ _ _:=h39.cl X G (uo h39.2 B      ) (h39.2.binds fun _ _ _ _ _ _ us hl=>by obtain ⟨_,_,rfl⟩:=zN hl; rfl)
  have C40:zf l.prog w K mg base 5 _ _ _:=h40.cl X G (WK h40.2 B   (C39.mono (by decide)) (C30.mono (by decide)) (PySem.W.mg_none_of X G ga_enumerate) (PySem.W.mg_of X G ga_MOST_IN_FAMILY) (PySem.W.mg_of X G ga_MOST_GIVEN) ) (h40.2.binds fun _ _ _ _ _ _ us hl=>by obtain ⟨_,rfl⟩:=yj hl; rfl)
  have C41:zf l.prog w K mg base 6 _ _ _:=h41.cl X G (XU h41.2 B   (C40.mono (by decide))   ) (h41.2.binds fun _ _ _ _ _ _ us hl=>by obtain ⟨_,rfl⟩:=yj hl; rfl)
  have C42:zf l.prog w K mg base 7 _ _ _:=h42.cl X G (qN h42.2 B   (C39.mono (by decide)) (C41.mono (by decide)) (PySem.W.mg_none_of X G ga_enumerate)  ) (h42.2.binds fun _ _ _ _ _ _ us hl=>by obtain ⟨_,rfl⟩:=yj hl; rfl)
  have C43:zf l.prog w K mg base 45 _ _ _:=h43.cl X G (rh h43.2 B   (C14.mono (by decide)) (C20.mono (by decide)) (C21.mono (by decide)) (C22.mono (by decide)) (C25.mono (by decide)) (C33.mono (by decide)) (C34.mono (by decide)) (C36.mono (by decide)) (C38.mono (by decide)) (C42.mono (by decide)) (C41.mono (by decide)) (PySem.W.mg_none_of X G ga_enumerate)  ) (h43.2.binds fun _ _ _ _ _ _ us hl=>by obtain ⟨_,_,_,_,_,rfl⟩:=XV hl; rfl)
  have C44:zf l.prog w K mg base 1 _ _ _:=h44.cl X G (qO h44.2 B      ) (h44.2.binds fun _ _ _ _ _ _ us hl=>by obtain ⟨_,_,rfl⟩:=zN hl; rfl)
  have R45:∀ N:Nat,FnOk l.prog w K mg base CX0 (1 + N) f45 d45 ["_law_store_here","_law_first","_law_many"] (wE N K):=by
    intro N
    induction N with
    | zero=>exact vp YR
    | succ N ih=>exact qP (P:=l.prog) (w:=w) (base:=base) (n:=1 + N) h45.2 B ⟨_,_,ih,b45,h45.2.kp,PySem.W.mg_of X G h45.1⟩ (C44.mono (Nat.le_trans (show 1 <= 1 by decide) (Nat.le_add_right 1 N)))
  have C45:zf l.prog w K mg base 41 "_law_tree" ["_law_store_here","_law_first","_law_many"] (wE 40 K):=⟨_,_,R45 40,b45,h45.2.kp,PySem.W.mg_of X G h45.1⟩
  have C46:zf l.prog w K mg base 1 _ _ _:=h46.cl X G (tJ h46.2 B      ) (h46.2.binds fun _ _ _ _ _ _ us hl=>by obtain ⟨_,_,rfl⟩:=zN hl; rfl)
  have C47:zf l.prog w K mg base 5 _ _ _:=h47.cl X G (WN h47.2 B   (C23.mono (by decide)) (C24.mono (by decide))   ) (h47.2.binds fun _ _ _ _ _ _ us hl=>by obtain ⟨_,_,rfl⟩:=zN hl; rfl)
  have C48:zf l.prog w K mg base 5 _ _ _:=h48.cl X G (WO h48.2 B   (C23.mono (by decide))   ) (h48.2.binds fun _ _ _ _ _ _ us hl=>by obtain ⟨_,rfl⟩:=yj hl; rfl)
  have C49:zf l.prog w K mg base 6 _ _ _:=h49.cl X G (rj h49.2 B   (C46.mono (by decide)) (C47.mono (by decide)) (C48.mono (by decide)) (PySem.W.mg_none_of X G ga_enumerate)  ) (h49.2.binds fun _ _ _ _ _ _ us hl=>by obtain ⟨_,_,rfl⟩:=zN hl; rfl)
  have C50:zf l.prog w K mg base 5 _ _ _:=h50.cl X G (WP h50.2 B   (C1.mono (by decide)) (C2.mono (by decide)) (C23.mono (by decide)) (C5.mono (by decide))   (PySem.W.mg_of X G ga_LOOK) (fun H=>.inr ⟨_,_,_,gl_LOOK,rfl,rfl,szl rfl,.cons ⟨_,rfl⟩ (.cons rfl (.cons rfl .nil))⟩)) (h50.2.binds fun _ _ _ _ _ _ us hl=>by obtain ⟨_,_,rfl⟩:=zN hl; rfl)
  have C51:zf l.prog w K mg base 1 _ _ _:=h51.cl X G (rk h51.2 B      ) (h51.2.binds fun _ _ _ _ _ _ us hl=>by obtain ⟨_,_,rfl⟩:=zN hl; rfl)
  have C52:zf l.prog w K mg base 6 _ _ _:=h52.cl X G (WR h52.2 B   (C40.mono (by decide))   ) (h52.2.binds fun _ _ _ _ _ _ us hl=>by obtain ⟨_,rfl⟩:=yj hl; rfl)
  have C53:zf l.prog w K mg base 45 _ _ _:=h53.cl X G (qR h53.2 B   (C20.mono (by decide)) (C21.mono (by decide))   ) (h53.2.binds fun _ _ _ _ _ _ us hl=>by obtain ⟨_,_,rfl⟩:=zN hl; rfl)
  have C54:zf l.prog w K mg base 2 _ _ _:=h54.cl X G (rq h54.2 B   (C44.mono (by decide))   ) (h54.2.binds fun _ _ _ _ _ _ us hl=>by obtain ⟨_,_,rfl⟩:=zN hl; rfl)
  have C55:zf l.prog w K mg base 46 _ _ _:=h55.cl X G (rz h55.2 B   (C43.mono (by decide)) (C44.mono (by decide)) (C45.mono (by decide)) (C49.mono (by decide)) (C34.mono (by decide)) (C50.mono (by decide)) (C51.mono (by decide)) (C41.mono (by decide)) (C52.mono (by decide)) (C53.mono (by decide)) (C54.mono (by decide)) (PySem.W.mg_none_of X G ga_zip)  ) (h55.2.binds fun _ _ _ _ _ _ us hl=>by obtain ⟨_,rfl⟩:=yj hl; rfl)
  have C56:zf l.prog w K mg base 1 _ _ _:=h56.cl X G (rA h56.2 B      ) (h56.2.binds fun _ _ _ _ _ _ us hl=>by obtain ⟨_,_,rfl⟩:=zN hl; rfl)
  exact U0 (P:=l.prog) (w:=w) (base:=base) (n:=46) h57.2 B   (C55.mono (by decide)) (C56.mono (by decide))
theorem walk {l:PySem.W.OpenLaw} {q:Program} {loose:List Str} {XP:(Str -> Option Value) -> Heap -> Prop} {YP:World -> Heap -> Prop} {d:DefRec} {K:Params -> FG7} (hn:l.most = some 63) (hdf:d.params.defaults = [])
  (hY:∀ (w:World) (h:Heap),YP w h -> (K w.params).In h)
  (F:∀ (w:World) (mg:Str -> Option Value) (fa:Addr) (h:Heap),(K w.params).In h -> h.Ns mainGlobals mg -> mg d.name = some (.ref fa) →
   ∃ fd:FuncData,(∀ (s:Shared) (u:Value),BindsTo s fd ⟨[u],[]⟩ [("_law_script",u)]) /\ ∀ base:Heap,(K w.params).In base -> base.Ns mainGlobals mg -> FnOk l.prog w (K w.params) mg base CX0 47 fa fd ["_law_script"] (j8 (K w.params))) :
  PySem.W.WalkO q loose XP YP l.row.toRowW d [] (fun f vs=>PySem.call f vs) :=
 L2.walk_of (n:=63) (k:=47) (x:="_law_script") (CX:=fun _=>CX0) (sp:=fun w=>j8 (K w.params)) hn (by decide) hdf ⟨rfl,by decide,by decide,rfl⟩ hY F (fun _ _ a ns hl hO hS=>⟨_,rfl,a,ns,rfl,Scr.of hO hS,hl,fun _=>rfl⟩) fun _ _ _ _ _ z=>z
theorem walkX {q:Program} {loose:List Str} {XP:(Str -> Option Value) -> Heap -> Prop} {K:Params -> FG7} {as:List Addr} {n t:Nat} {r:PySem.W.RowW} {d:DefRec} {kwd:List (Str × Expr)} {run:Value -> List Value -> Sem Value}
  (e:∀ P,as = (K P).map (·.1)) (W:PySem.W.WalkO q loose XP (PySem.W.InK K) r d kwd run):PySem.W.WalkX q loose XP (PySem.W.X.obsZ as) (PySem.W.X.valZ K n t) r d kwd run :=
 fun w s₀ s₁ mg mb G Y a o pm cd doc dV kV h2 h3 h4 h5 h6 h7 args vals as' L hpre hlay hrd hwl hlo =>
  W w s₀ s₁ mg mb G (PySem.W.InK.keeps w s₀.heap s₁.heap (PySem.W.X.z_facts e Y).2.1 L.keeps) a o pm cd doc dV kV h2 h3 h4 h5 h6 h7 args vals as' hpre hlay hrd hwl hlo
end My
open PySem PySem.W PyProof.Rows
def PySem.W.Fast.tw14038626730199479006:Unit:=()
def PySem.W.Fast.tw10640534871862974072:Unit:=()
def PySem.W.Fast.tw10479687995321229038:Unit:=()
def PySem.W.Fast.tw2901719735731421935:Unit:=()
def PySem.W.Fast.tw1908020555195671322:Unit:=()
def PySem.W.Fast.tw11050138833856253411:Unit:=()
def PySem.W.Fast.tw10967376475665117455:Unit:=()
def PySem.W.Fast.tw9120271499628024264:Unit:=()
def PySem.W.Fast.tw3685617880517831124:Unit:=()
def PySem.W.Fast.tw7947828596221097313:Unit:=()
def PySem.W.Fast.tw11106097395900336236:Unit:=()
def PySem.W.Fast.tw14682272688738782073:Unit:=()
def PySem.W.Fast.tw16596199772579339778:Unit:=()
def PySem.W.Fast.tw11732277476566125287:Unit:=()
def PySem.W.Fast.tw8178076415036584609:Unit:=()
def PySem.W.Fast.tw13744977767125876026:Unit:=()
def PySem.W.Fast.tw8335790402135652143:Unit:=()
def PySem.W.Fast.tw11331220290907132359:Unit:=()
def PySem.W.Fast.tw15918530315714484918:Unit:=()
def PySem.W.Fast.tw15237882889021068116:Unit:=()
def PySem.W.Fast.tw6185696035595969194:Unit:=()
def PySem.W.Fast.tw12132321692907179256:Unit:=()
def PySem.W.Fast.tw7342663099863444506:Unit:=()
def PySem.W.Fast.tw10831096000755454046:Unit:=()
def PySem.W.Fast.tw6904475056326983660:Unit:=()
def PySem.W.Fast.tw12275721191219343558:Unit:=()
def PySem.W.Fast.tw17207471087377734111:Unit:=()
def PySem.W.Fast.tw7538662755219641921:Unit:=()
def PySem.W.Fast.tw10439233918395848999:Unit:=()
def PySem.W.Fast.tw16816635096925105845:Unit:=()
def PySem.W.Fast.tw7994266437968388628:Unit:=()
def PySem.W.Fast.tw18036362372008170810:Unit:=()
def PySem.W.Fast.tw3941923552196424572:Unit:=()
def PySem.W.Fast.tw11165693476267988312:Unit:=()
def PySem.W.Fast.tw13030769718521912192:Unit:=()
def PySem.W.Fast.tw11655236106855837310:Unit:=()
def PySem.W.Fast.tw12686842631040967587:Unit:=()
def PySem.W.Fast.tw12569938205750365514:Unit:=()
def PySem.W.Fast.tw12129838185224289012:Unit:=()
def PySem.W.Fast.tw18293923085860451669:Unit:=()
def PySem.W.Fast.tw14925535110045650613:Unit:=()
def PySem.W.Fast.tw5486973884193088860:Unit:=()
def PySem.W.Fast.tw18390118936312830140:Unit:=()
def PySem.W.Fast.tw9920290292821734778:Unit:=()
def PySem.W.Fast.tw3729819114426941133:Unit:=()
def PySem.W.Fast.tw15784360956568829822:Unit:=()
def PySem.W.Fast.tw2468504104310820102:Unit:=()
def PySem.W.Fast.tw15621362516971073394:Unit:=()
def PySem.W.Fast.tw5319121410437143096:Unit:=()
def PySem.W.Fast.tw18322431533503744678:Unit:=()
def PySem.W.Fast.tw17988984157017648324:Unit:=()
def PySem.W.Fast.tw13914027305697446642:Unit:=()
def PySem.W.Fast.tw17908045717135455973:Unit:=()
def PySem.W.Fast.tw8968315897239740142:Unit:=()
def PySem.W.Fast.tw967188908754745306:Unit:=()
def PySem.W.Fast.tw8314533634430136803:Unit:=()
def PySem.W.Fast.tw1261420890208960306:Unit:=()
def PySem.W.Fast.tw8007693414092896401:Unit:=()
def PySem.W.Fast.tw17482901553315710687:Unit:=()
def PySem.W.Fast.tw10664737347371018534:Unit:=()
def PySem.W.Fast.tw8842975806214952637:Unit:=()
def PySem.W.Fast.tw4419923584370302772:Unit:=()
def PySem.W.Fast.tw5355465958979303844:Unit:=()
def PySem.W.Fast.tw5808917874365333565:Unit:=()
def PySem.W.Fast.tw15414463717927983891:Unit:=()
def PySem.W.Fast.tw18235341552721123006:Unit:=()
def PySem.W.Fast.tw10035401656922882669:Unit:=()
def PySem.W.Fast.tw14704690749626047820:Unit:=()
def PySem.W.Fast.tw10318647116043708405:Unit:=()
def PySem.W.Fast.tw4719819220506927942:Unit:=()
def PySem.W.Fast.tw12658027128007443549:Unit:=()
def PySem.W.Fast.tw15371581433753064861:Unit:=()
def PySem.W.Fast.tw11778120602115242487:Unit:=()
def PySem.W.Fast.tw10330711419197563133:Unit:=()
def PySem.W.Fast.tw1573441260065523873:Unit:=()
def PySem.W.Fast.tw14175859162545330010:Unit:=()
def PySem.W.Fast.tw12565765097032920295:Unit:=()
def PySem.W.Fast.tw606831070273268292:Unit:=()
def PySem.W.Fast.tw15001515502167070149:Unit:=()
def PySem.W.Fast.tw14107023726255937024:Unit:=()
def PySem.W.Fast.tw14315351780080677323:Unit:=()
def PySem.W.Fast.tw11682142413275787712:Unit:=()
def PySem.W.Fast.tw12614414099533330316:Unit:=()
def PySem.W.Fast.tw16270277109534210121:Unit:=()
def PySem.W.Fast.tw12304050568524024176:Unit:=()
def PySem.W.Fast.tw15780106448976562690:Unit:=()
def PySem.W.Fast.tw11377394476125892133:Unit:=()
def PySem.W.Fast.tw318227783443491035:Unit:=()
def PySem.W.Fast.tw9992434073110140732:Unit:=()
def PySem.W.Fast.tw9221886873159640728:Unit:=()
def PySem.W.Fast.tw15292899801321843059:Unit:=()
def PySem.W.Fast.tw13183558744870609813:Unit:=()
def PySem.W.Fast.tw601321343695265496:Unit:=()
def PySem.W.Fast.tw12952047908418770841:Unit:=()
def PySem.W.Fast.tw10834375080393291537:Unit:=()
def PySem.W.Fast.tw16895575602569178229:Unit:=()
def PySem.W.Fast.tw12291031679471357065:Unit:=()
def PySem.W.Fast.tw8837526752986722947:Unit:=()
def PySem.W.Fast.tw12758204201411527457:Unit:=()
def PySem.W.Fast.tw13916892205308622019:Unit:=()
def PySem.W.Fast.tw17598218110653276904:Unit:=()
def PySem.W.Fast.tw13005832678487377077:Unit:=()
def PySem.W.Fast.tw8901515739552866360:Unit:=()
def PySem.W.Fast.tw16588022094453678147:Unit:=()
def PySem.W.Fast.tw2790008427183117143:Unit:=()
def PySem.W.Fast.tw8116327785608751646:Unit:=()
def PySem.W.Fast.tw4287055132887802746:Unit:=()
def PySem.W.Fast.tw6853301907890599629:Unit:=()
def PySem.W.Fast.tw11314538670889031022:Unit:=()
def PySem.W.Fast.tw1031456946067532637:Unit:=()
def PySem.W.Fast.tw6999443410996876716:Unit:=()
def PySem.W.Fast.tw9725136057286217277:Unit:=()
def PySem.W.Fast.tw15941931493129321465:Unit:=()
def PySem.W.Fast.tw5136564100333432614:Unit:=()
def PySem.W.Fast.tw16913610586945376816:Unit:=()
def PySem.W.Fast.tw3576175821286496317:Unit:=()
def PySem.W.Fast.tw786021268487992607:Unit:=()
def PySem.W.Fast.tw577506308978231944:Unit:=()
def PySem.W.Fast.tw375539938883920960:Unit:=()
def PySem.W.Fast.tw3145998037741540340:Unit:=()
def PySem.W.Fast.tw1384686563650622434:Unit:=()
def PySem.W.Fast.tw15962268587744311892:Unit:=()
def PySem.W.Fast.tw3202650444021740171:Unit:=()
def PySem.W.Fast.tw4692941157772189418:Unit:=()
def PySem.W.Fast.tw1421038202373040921:Unit:=()
def PySem.W.Fast.tw15182345597543892494:Unit:=()
def PySem.W.Fast.tw658916278989061779:Unit:=()
def PySem.W.Fast.tw46549744997479712:Unit:=()
def PySem.W.Fast.tw14866233011504866914:Unit:=()
def PySem.W.Fast.tw12055423963835627894:Unit:=()
def PySem.W.Fast.tw4616547369976941575:Unit:=()
def PySem.W.Fast.tw5434581357774014095:Unit:=()
def PySem.W.Fast.tw17951057773870739693:Unit:=()
def PySem.W.Fast.tw11159516543320736973:Unit:=()
def PySem.W.Fast.tw1968805655225362551:Unit:=()
def PySem.W.Fast.tw8188437358219101561:Unit:=()
def PySem.W.Fast.tw8144917027484301753:Unit:=()
def PySem.W.Fast.tw15809628145458113877:Unit:=()
def PySem.W.Fast.tw13743387086206370887:Unit:=()
def PySem.W.Fast.tw9666255459503831983:Unit:=()
def PySem.W.Fast.tw16290661637465895022:Unit:=()
def PySem.W.Fast.tw12648098510492949551:Unit:=()
def PySem.W.Fast.tw8717002837597923360:Unit:=()
def PySem.W.Fast.tw4369568299842625626:Unit:=()
def PySem.W.Fast.tw12118041093208325755:Unit:=()
def PySem.W.Fast.tw15993374049009051906:Unit:=()
def PySem.W.Fast.tw5388668031600387062:Unit:=()
def PySem.W.Fast.tw12971772864921791033:Unit:=()
def PySem.W.Fast.tw18315126224277029333:Unit:=()
def PySem.W.Fast.tw13858737142813781778:Unit:=()
def PySem.W.Fast.tw17922088277637410930:Unit:=()
def PySem.W.Fast.tw116958535240166985:Unit:=()
def PySem.W.Fast.tw16983297453450966909:Unit:=()
def PySem.W.Fast.tw12163255851016709503:Unit:=()
def PySem.W.Fast.tw15999198264486726381:Unit:=()
def PySem.W.Fast.tw11367041719867479475:Unit:=()
def PySem.W.Fast.tw12134238220193118838:Unit:=()
def PySem.W.Fast.tw8731885492626357619:Unit:=()
def PySem.W.Fast.tw6617081562320591866:Unit:=()
def PySem.W.Fast.tw3920720979607123050:Unit:=()
def PySem.W.Fast.tw2059052994004414756:Unit:=()
def PySem.W.Fast.tw2320654325834782368:Unit:=()
def PySem.W.Fast.tw1913094301754223494:Unit:=()
def PySem.W.Fast.tw2592980340338590115:Unit:=()
def PySem.W.Fast.tw14839152386034535661:Unit:=()
def PySem.W.Fast.tw9496072766276934991:Unit:=()
def PySem.W.Fast.tw1450323383402526237:Unit:=()
def PySem.W.Fast.tw5561469348746533936:Unit:=()
def PySem.W.Fast.tw13718229774189609420:Unit:=()
def PySem.W.Fast.tw380593202151817698:Unit:=()
def PySem.W.Fast.tw12115273773771497497:Unit:=()
def PySem.W.Fast.tw12185102313471255628:Unit:=()
def PySem.W.Fast.tw8844522866403359102:Unit:=()
def PySem.W.Fast.tw5163406637950280609:Unit:=()
def PySem.W.Fast.tw1289925747434541944:Unit:=()
def PySem.W.Fast.tw2299581091143774658:Unit:=()
def PySem.W.Fast.tw12627515241575788197:Unit:=()
def PySem.W.Fast.tw6020599067404355097:Unit:=()
def PySem.W.Fast.tw3148742736964229930:Unit:=()
def PySem.W.Fast.tw4294578083951810110:Unit:=()
def PySem.W.Fast.tw2374946188710019318:Unit:=()
def PySem.W.Fast.tw11757163654792133470:Unit:=()
def PySem.W.Fast.tw6100350537279917947:Unit:=()
def PySem.W.Fast.tw15556856308991100479:Unit:=()
def PySem.W.Fast.tw18047523714814645522:Unit:=()
def PySem.W.Fast.tw15795242104552026624:Unit:=()
def PySem.W.Fast.tw6202457719724507506:Unit:=()
def PySem.W.Fast.tw2172136109878328841:Unit:=()
def PySem.W.Fast.tw8579207778659638791:Unit:=()
def PySem.W.Fast.tw6438546070530888287:Unit:=()
def PySem.W.Fast.tw9378301550733511445:Unit:=()
def PySem.W.Fast.tw8199114700814730378:Unit:=()
def PySem.W.Fast.tw1241120609098596547:Unit:=()
def PySem.W.Fast.tw12849351862585369909:Unit:=()
def PySem.W.Fast.tw1542290569635689345:Unit:=()
def PySem.W.Fast.tw6491830353538417948:Unit:=()
def PySem.W.Fast.tw10388015590491710307:Unit:=()
def PySem.W.Fast.tw13464678273319593154:Unit:=()
def PySem.W.Fast.tw12342886610069688988:Unit:=()
def PySem.W.Fast.tw9389037827075830953:Unit:=()
def PySem.W.Fast.tw12576403646265626409:Unit:=()
def PySem.W.Fast.tw5091003313728929137:Unit:=()
def PySem.W.Fast.tw9475250661075038736:Unit:=()
def PySem.W.Fast.tw5868112321949875269:Unit:=()
def PySem.W.Fast.tw7508400152071387111:Unit:=()
def PySem.W.Fast.tw5971462882547849759:Unit:=()
def PySem.W.Fast.tw17558607284473321762:Unit:=()
def PySem.W.Fast.tw11939749614165771320:Unit:=()
def PySem.W.Fast.tw17697790921756215824:Unit:=()
def PySem.W.Fast.tw11337400002397045903:Unit:=()
def PySem.W.Fast.tw3537681956234947532:Unit:=()
def PySem.W.Fast.tw4397383749679414547:Unit:=()
def PySem.W.Fast.tw17356605594925427997:Unit:=()
def PySem.W.Fast.tw7537809583439200164:Unit:=()
def PySem.W.Fast.tw16695444951572444717:Unit:=()
def PySem.W.Fast.tw5626382598749834109:Unit:=()
def PySem.W.Fast.tw2021025099856143116:Unit:=()
def PySem.W.Fast.tw11011682483708445877:Unit:=()
def PySem.W.Fast.tw3528276710492435960:Unit:=()
def PySem.W.Fast.tw453067220376353930:Unit:=()
def PySem.W.Fast.tw17484227175328739275:Unit:=()
def PySem.W.Fast.tw7353342401860220049:Unit:=()
def PySem.W.Fast.tw6917392387270686592:Unit:=()
def PySem.W.Fast.tw14335931287176588850:Unit:=()
def PySem.W.Fast.tw10294990032270044592:Unit:=()
def PySem.W.Fast.tw5348287420427974391:Unit:=()
def PySem.W.Fast.tw9458106449862149490:Unit:=()
def PySem.W.Fast.tw9996597465666748405:Unit:=()
set_option maxRecDepth 100000 in
theorem PySem.Challenge.cw_joinedasks_k96_whole_deeds_of_few_states_holds : PySem.Challenge.rw_joinedasks_k96_whole_deeds_of_few_states.Holds := by
 w_on; o_law; z_head; (case hw=>w_witness2)
 refine My.walkX (fun _=>by kernel_rfl) (My.walk (l:=PySem.Challenge.rw_joinedasks_k96_whole_deeds_of_few_states) rfl rfl (fun w h Y=>Y) ?F)
 case F =>
  intro w mg fa h KX G hmg
  refine' My.all_mk KX G hmg       ?h1 ?h2 ?h3 ?h4 ?h5 ?h6 ?h7 ?h8 ?h9 ?h10 ?h11 ?h12 ?h13 ?h14 ?h15 ?h16 ?h17 ?h18 ?h19 ?h20 ?h21 ?h22 ?h23 ?h24 ?h25 ?h26 ?h27 ?h28 ?h29 ?h30 ?h31 ?h32 ?h33 ?h34 ?h35 ?h36 ?h37 ?h38 ?h39 ?h40 ?h41 ?h42 ?h43 ?h44 ?h45 ?h46 ?h47 ?h48 ?h49 ?h50 ?h51 ?h52 ?h53 ?h54 ?h55 ?h56 ?h57 ?ga_LAST_HAND ?ga_LOOK ?gl_LOOK ?ga_MOST_BOXES ?ga_MOST_DEEDS ?ga_MOST_GIVEN ?ga_MOST_IN_FAMILY ?ga_MOST_STATES ?ga_enumerate ?ga_zip ?z_abs ?z_len ?z_max ?z_min ?z_divmod ?z_repr ?z_isinstance ?z_all ?z_range ?z_int ?z_bool ?z_str ?z_tuple ?z_list ?z_dict
  (case h1=>exact ⟨by k_is,L2.fun_mk (by k_is) (by k_is) (by k_is)⟩)
  (case h2=>exact ⟨by k_is,L2.fun_mk (by k_is) (by k_is) (by k_is)⟩)
  (case h3=>exact ⟨by k_is,L2.fun_mk (by k_is) (by k_is) (by k_is)⟩)
  (case h4=>exact ⟨by k_is,L2.fun_mk (by k_is) (by k_is) (by k_is)⟩)
  (case h5=>exact ⟨by k_is,L2.fun_mk (by k_is) (by k_is) (by k_is)⟩)
  (case h6=>exact ⟨by k_is,L2.fun_mk (by k_is) (by k_is) (by k_is)⟩)
  (case h7=>exact ⟨by k_is,L2.fun_mk (by k_is) (by k_is) (by k_is)⟩)
  (case h8=>exact ⟨by k_is,L2.fun_mk (by k_is) (by k_is) (by k_is)⟩)
  (case h9=>exact ⟨by k_is,L2.fun_mk (by k_is) (by k_is) (by k_is)⟩)
  (case h10=>exact ⟨by k_is,L2.fun_mk (by k_is) (by k_is) (by k_is)⟩)
  (case h11=>exact ⟨by k_is,L2.fun_mk (by k_is) (by k_is) (by k_is)⟩)
  (case h12=>exact ⟨by k_is,L2.fun_mk (by k_is) (by k_is) (by k_is)⟩)
  (case h13=>exact ⟨by k_is,L2.fun_mk (by k_is) (by k_is) (by k_is)⟩)
  (case h14=>exact ⟨by k_is,L2.fun_mk (by k_is) (by k_is) (by k_is)⟩)
  (case h15=>exact ⟨by k_is,L2.fun_mk (by k_is) (by k_is) (by k_is)⟩)
  (case h16=>exact ⟨by k_is,L2.fun_mk (by k_is) (by k_is) (by k_is)⟩)
  (case h17=>exact ⟨by k_is,L2.fun_mk (by k_is) (by k_is) (by k_is)⟩)
  (case h18=>exact ⟨by k_is,L2.fun_mk (by k_is) (by k_is) (by k_is)⟩)
  (case h19=>exact ⟨by k_is,L2.fun_mk (by k_is) (by k_is) (by k_is)⟩)
  (case h20=>exact ⟨by k_is,L2.fun_mk (by k_is) (by k_is) (by k_is)⟩)
  (case h21=>exact ⟨by k_is,L2.fun_mk (by k_is) (by k_is) (by k_is)⟩)
  (case h22=>exact ⟨by k_is,L2.fun_mk (by k_is) (by k_is) (by k_is)⟩)
  (case h23=>exact ⟨by k_is,L2.fun_mk (by k_is) (by k_is) (by k_is)⟩)
  (case h24=>exact ⟨by k_is,L2.fun_mk (by k_is) (by k_is) (by k_is)⟩)
  (case h25=>exact ⟨by k_is,L2.fun_mk (by k_is) (by k_is) (by k_is)⟩)
  (case h26=>exact ⟨by k_is,L2.fun_mk (by k_is) (by k_is) (by k_is)⟩)
  (case h27=>exact ⟨by k_is,L2.fun_mk (by k_is) (by k_is) (by k_is)⟩)
  (case h28=>exact ⟨by k_is,L2.fun_mk (by k_is) (by k_is) (by k_is)⟩)
  (case h29=>exact ⟨by k_is,L2.fun_mk (by k_is) (by k_is) (by k_is)⟩)
  (case h30=>exact ⟨by k_is,L2.fun_mk (by k_is) (by k_is) (by k_is)⟩)
  (case h31=>exact ⟨by k_is,L2.fun_mk (by k_is) (by k_is) (by k_is)⟩)
  (case h32=>exact ⟨by k_is,L2.fun_mk (by k_is) (by k_is) (by k_is)⟩)
  (case h33=>exact ⟨by k_is,L2.fun_mk (by k_is) (by k_is) (by k_is)⟩)
  (case h34=>exact ⟨by k_is,L2.fun_mk (by k_is) (by k_is) (by k_is)⟩)
  (case h35=>exact ⟨by k_is,L2.fun_mk (by k_is) (by k_is) (by k_is)⟩)
  (case h36=>exact ⟨by k_is,L2.fun_mk (by k_is) (by k_is) (by k_is)⟩)
  (case h37=>exact ⟨by k_is,L2.fun_mk (by k_is) (by k_is) (by k_is)⟩)
  (case h38=>exact ⟨by k_is,L2.fun_mk (by k_is) (by k_is) (by k_is)⟩)
  (case h39=>exact ⟨by k_is,L2.fun_mk (by k_is) (by k_is) (by k_is)⟩)
  (case h40=>exact ⟨by k_is,L2.fun_mk (by k_is) (by k_is) (by k_is)⟩)
  (case h41=>exact ⟨by k_is,L2.fun_mk (by k_is) (by k_is) (by k_is)⟩)
  (case h42=>exact ⟨by k_is,L2.fun_mk (by k_is) (by k_is) (by k_is)⟩)
  (case h43=>exact ⟨by k_is,L2.fun_mk (by k_is) (by k_is) (by k_is)⟩)
  (case h44=>exact ⟨by k_is,L2.fun_mk (by k_is) (by k_is) (by k_is)⟩)
  (case h45=>exact ⟨by k_is,L2.fun_mk (by k_is) (by k_is) (by k_is)⟩)
  (case h46=>exact ⟨by k_is,L2.fun_mk (by k_is) (by k_is) (by k_is)⟩)
  (case h47=>exact ⟨by k_is,L2.fun_mk (by k_is) (by k_is) (by k_is)⟩)
  (case h48=>exact ⟨by k_is,L2.fun_mk (by k_is) (by k_is) (by k_is)⟩)
  (case h49=>exact ⟨by k_is,L2.fun_mk (by k_is) (by k_is) (by k_is)⟩)
  (case h50=>exact ⟨by k_is,L2.fun_mk (by k_is) (by k_is) (by k_is)⟩)
  (case h51=>exact ⟨by k_is,L2.fun_mk (by k_is) (by k_is) (by k_is)⟩)
  (case h52=>exact ⟨by k_is,L2.fun_mk (by k_is) (by k_is) (by k_is)⟩)
  (case h53=>exact ⟨by k_is,L2.fun_mk (by k_is) (by k_is) (by k_is)⟩)
  (case h54=>exact ⟨by k_is,L2.fun_mk (by k_is) (by k_is) (by k_is)⟩)
  (case h55=>exact ⟨by k_is,L2.fun_mk (by k_is) (by k_is) (by k_is)⟩)
  (case h56=>exact ⟨by k_is,L2.fun_mk (by k_is) (by k_is) (by k_is)⟩)
  (case h57=>exact ⟨by k_is,L2.fun_mk (by k_is) (by k_is) (by k_is)⟩)
  (case ga_LAST_HAND=>k_is)
  (case ga_LOOK=>k_is); (case gl_LOOK=>k_is)
  (case ga_MOST_BOXES=>k_is)
  (case ga_MOST_DEEDS=>k_is)
  (case ga_MOST_GIVEN=>k_is)
  (case ga_MOST_IN_FAMILY=>k_is)
  (case ga_MOST_STATES=>k_is)
  (case ga_enumerate=>k_is)
  (case ga_zip=>k_is)
  (case z_abs=>k_is); (case z_len=>k_is); (case z_max=>k_is); (case z_min=>k_is); (case z_divmod=>k_is); (case z_repr=>k_is); (case z_isinstance=>k_is); (case z_all=>k_is); (case z_range=>k_is); (case z_int=>k_is); (case z_bool=>k_is); (case z_str=>k_is); (case z_tuple=>k_is); (case z_list=>k_is); (case z_dict=>k_is)
