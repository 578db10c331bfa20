import PyProof.Rows.All
import Wide.All
import OpenK.AllK
import Wide.FinOn
import Lean
import PyProof.EqAt
import PyProof.EqKinds
import PyProof.TupleCall
import PyProof.NeKinds
import PyProof.ReprRoads
import PyProof.ReprLen
import PyProof.Rows.RegStrFacts
import PyProof.Draws
import PyProof.EnumStmt
import PyProof.ZipIter
import PyProof.ListNew
import PyProof.TupleOfGen
import PyProof.ListRange
import PyProof.Rows.Range3
import PyProof.SumWalkG
import PyProof.Rows.RuleB_lshift
import PyProof.AutoSeq1
import PyProof.Cells
import PyProof.AutoListH
import PyProof.DictTable
import PyProof.RulesAs
import PyProof.NsDelKeeps
import KE.KDictList
import PyProof.DictCompW
import PyProof.DictItems
import PyProof.Rows.SetFrom
import PyProof.SetRoads
import PyProof.IsiH_list
import PyProof.AttrMiss
import KE.KDictOf
import KE.KSortTup
import PyProof.DictWalks
import PyProof.Rows.CallKw2
import PyProof.DictUpdate
import PySem.Challenge.RW_joinedasks_k53_whole_beats_enough
set_option Elab.async false
set_option linter.all false
set_option maxRecDepth 100000
set_option maxHeartbeats 0
abbrev FG7:=PySem.W.Frag
abbrev VS7:=PySem.Value -> PySem.Shared -> Prop
namespace L2
open PySem PySem.Spec PyProof.Rows
abbrev Key:=Sum Int Str
def ZU:Key -> Value -> Bool
 | .inl k,v=>Value.isInt k v
 | .inr x,v=>Value.isStrOf x v
def keyH (w:World):Key -> Int
 | .inl k=>hashInt k
 | .inr x=>hashStr w x
theorem zZ:∀ {k:Key} {v:Value},ZU k v = true -> (∃ i t,k = Sum.inl i /\ v = Value.int i t) \/ (∃ x t,k = Sum.inr x /\ v = Value.str x t)
 | .inl i,v,h=>by
  obtain ⟨t,e⟩:=Value.isInt_shape (k:=i) (v:=v) h
  exact .inl ⟨i,t,rfl,e⟩
 | .inr x,v,h=>by
  obtain ⟨t,e⟩:=Value.isStrOf_shape (x:=x) (v:=v) h
  exact .inr ⟨x,t,rfl,e⟩
theorem YN (i:Int) (t:Tok):ZU (.inl i) (.int i t) = true:=by simp [ZU,Value.isInt]
theorem YO (x:Str) (t:Tok):ZU (.inr x) (.str x t) = true:=by simp [ZU,Value.isStrOf]
theorem U5 (a b:Int):decide ((Sum.inl a:Key) = Sum.inl b) = (a == b):=by
 by_cases e:a = b
 ·subst e; simp
 ·have h:¬ (Sum.inl a:Key) = Sum.inl b:=fun q=>e (Sum.inl.inj q)
  rw [decide_eq_false h]
  exact (beq_eq_false_iff_ne.mpr e).symm
theorem U6 (a b:Str):decide ((Sum.inr a:Key) = Sum.inr b) = decide (a = b):=by
 by_cases e:a = b
 ·subst e; simp
 ·have h:¬ (Sum.inr a:Key) = Sum.inr b:=fun q=>e (Sum.inr.inj q)
  rw [decide_eq_false h,decide_eq_false e]
theorem U7 (a:Int) (b:Str):decide ((Sum.inl a:Key) = Sum.inr b) = false:=decide_eq_false (fun q=>nomatch q)
theorem U8 (a:Str) (b:Int):decide ((Sum.inr a:Key) = Sum.inl b) = false:=decide_eq_false (fun q=>nomatch q)
def zH (prog:Program) (w:World):PySem.KeyKind prog w Key where
 is:=ZU
 hash:=keyH w
 inj:=fun v a b ha hb=>by
  rcases zZ ha with ⟨i,t,rfl,rfl⟩ | ⟨x,t,rfl,rfl⟩
  ·rcases zZ hb with ⟨j,u,rfl,e⟩ | ⟨y,u,rfl,e⟩
   ·injection e with e1 _; rw [e1]
   ·exact nomatch e
  ·rcases zZ hb with ⟨j,u,rfl,e⟩ | ⟨y,u,rfl,e⟩
   ·exact nomatch e
   ·injection e with e1 _; rw [e1]
 byValue:=fun k v h=>by
  rcases zZ h with ⟨i,t,rfl,rfl⟩ | ⟨x,t,rfl,rfl⟩ <;> rfl
 pyHash:=fun hv h=>by
  rcases zZ hv with ⟨i,t,rfl,rfl⟩ | ⟨x,t,rfl,rfl⟩
  ·exact wpAny_pyHash_int h
  ·exact wpAny_pyHash_str h
 eqBool:=fun hu hv h=>by
  rcases zZ hu with ⟨i,t,rfl,rfl⟩ | ⟨x,t,rfl,rfl⟩
  ·rcases zZ hv with ⟨j,u,rfl,rfl⟩ | ⟨y,u,rfl,rfl⟩
   ·rw [U5] at h; exact wpAny_eqBool_int h
   ·rw [U7] at h; exact SeqAt.EqAt.int_str i t y u _ _ _ _ h
  ·rcases zZ hv with ⟨j,u,rfl,rfl⟩ | ⟨y,u,rfl,rfl⟩
   ·rw [U8] at h; exact SeqAt.EqAt.str_int x t j u _ _ _ _ h
   ·rw [U6] at h; exact wpAny_eqBool_str h
 «strs»:=fun k x t v h=>by
  rcases zZ h with ⟨i,u,rfl,e⟩ | ⟨y,u,rfl,e⟩
  ·exact nomatch e
  ·injection e with e1 _
   subst e1
   cases v <;> rfl
theorem ji (prog:Program) (w:World) (i:Int) (t:Tok):(zH prog w).is (.inl i) (.int i t) = true:=YN i t
theorem jj (prog:Program) (w:World) (x:Str) (t:Tok):(zH prog w).is (.inr x) (.str x t) = true:=YO x t
end L2
namespace L2
open PySem PySem.Spec PyProof.Rows
inductive V where
 | non | bl (b:Bool) | int (i:Int) | str (x:Str) | byt (b:Array UInt8) | flt (b:UInt64) | ref (a:Addr) | ty (n:String)
 deriving DecidableEq
def RelV:V -> Value -> Prop
 | .non,u=>u = Value.none
 | .bl b,u=>u = Value.bool b
 | .int i,u=>∃ t,u = Value.int i t
 | .str x,u=>∃ t,u = Value.str x t
 | .byt b,u=>∃ t,u = Value.bytes b t
 | .flt b,u=>∃ t,u = Value.float b t
 | .ref a,u=>u = Value.ref a
 | .ty n,u=>u = Value.type n
abbrev Vals:List V -> List Value -> Prop:=Paired RelV
theorem Vals.length {xs:List V} {us:List Value} (r:Vals xs us):xs.length = us.length:=Paired.length r
theorem Vals.get:∀ {xs:List V} {us:List Value} {i:Nat} {x:V},Vals xs us -> xs[i]? = some x -> ∃ u,us[i]? = some u /\ RelV x u
 | _,_,_,_,.nil,e=>by simp at e
 | _,_,0,_,.cons r _,e=>by simp at e; subst e; exact ⟨_,rfl,r⟩
 | _,_,i + 1,x,.cons _ t,e=>by
  obtain ⟨u,h1,h2⟩:=Vals.get (i:=i) (x:=x) t (by simpa using e)
  exact ⟨u,by simpa using h1,h2⟩
theorem Vals.set {x:V} {u:Value} (r:RelV x u):∀ {xs:List V} {us:List Value} (i:Nat),Vals xs us -> Vals (xs.set i x) (us.set i u)
 | _,_,_,.nil=>.nil
 | _,_,0,.cons _ t=>.cons r t
 | _,_,i + 1,.cons q t=>.cons q (Vals.set r i t)
theorem Vals.append:∀ {xs ys:List V} {us ws:List Value},Vals xs us -> Vals ys ws -> Vals (xs ++ ys) (us ++ ws)
 | _,_,_,_,.nil,s=>s
 | _,_,_,_,.cons r t,s=>.cons r (Vals.append t s)
theorem Vals.take:∀ {xs:List V} {us:List Value} (n:Nat),Vals xs us -> Vals (xs.take n) (us.take n)
 | _,_,0,_=>.nil
 | _,_,_ + 1,.nil=>.nil
 | _,_,n + 1,.cons r t=>.cons r (Vals.take n t)
theorem Vals.drop:∀ {xs:List V} {us:List Value} (n:Nat),Vals xs us -> Vals (xs.drop n) (us.drop n)
 | _,_,0,r=>r
 | _,_,_ + 1,.nil=>.nil
 | _,_,n + 1,.cons _ t=>Vals.drop n t
theorem Vals.none_of:∀ {xs:List V} {us:List Value} {i:Nat},Vals xs us -> xs[i]? = none -> us[i]? = none:=fun {xs us i} r e=>by
 have h1:=r.length
 have h2:xs.length <= i:=List.getElem?_eq_none_iff.mp e
 exact List.getElem?_eq_none_iff.mpr (by omega)
def RelO:Option V -> Option Value -> Prop
 | some v,some u=>RelV v u
 | none,none=>True
 | _,_=>False
def KV {κ:Type}:List (κ × V) -> List (κ × Value) -> Prop:=Paired fun (p:κ × V) (q:κ × Value)=>p.1 = q.1 /\ RelV p.2 q.2
def kV:Key -> V
 | .inl i=>.int i
 | .inr x=>.str x
inductive HO where
 /-- a list -/
 | lst (xs:List V)
 /-- a tuple (never changes) -/
 | tup (xs:List V)
 /-- a dict whose keys are ints and texts; one whose keys are tuples of ints and texts (the empty one is both) -/
 | dK (kvs:List (Key × V)) | dT (kvs:List (List Key × V))
 /-- a set of ints: its members,its size -/
 | set (S:Int -> Bool) (n:Nat)
 /-- an instance of the class at C,its dict at dx,its attributes -/
 | ins (C dx:Addr) (fs:List (Str × V))
 /-- the dict of the instance at x -/
 | own (x:Addr)
 /-- the dict of an exception -/
 | xd (fs:List (Str × V))
 /-- a bound method,f of x -/
 | met (f x:Addr)
 /-- a range object lo,lo + 1,.. below hi -/
 | rng (lo hi:Int)
 /-- a thing that is known to the object (the script; a dict while a loop walks it): read,never written while it is so -/
 | frz (o:Obj) (u:HO)
 /-- a code object's table -/
 | tbl (ps:Array Value)
 /-- any other thing,by what is true of its one object (a def of one's own: SetO a S n:=HO.ext fun h=>..) -/
 | ext (φ:Heap -> Prop)
abbrev Hp:=Addr -> Option HO
def upd (H:Hp) (a:Addr) (o:HO):Hp:=fun b=>if b = a then some o else H b
theorem ze {H:Hp} {a:Addr} {o:HO}:upd H a o a = some o:=by unfold upd; rw [if_pos rfl]
theorem zt {H:Hp} {a b:Addr} {o:HO} (h:b ≠ a):upd H a o b = H b:=by unfold upd; rw [if_neg h]
theorem So {H:Hp} {a b:Addr} {o u:HO} (h:H a = some o) (h':H b = some u) (d:o ≠ u):a ≠ b:=by
 intro e; subst e; rw [h] at h'; exact d (Option.some.inj h')
theorem zv {H:Hp} {a b:Addr} {o:HO} (h:H a = some o) (h':H b = none):a ≠ b:=by
 intro e; subst e; rw [h] at h'; cases h'
section
variable (P:Program) (w:World)
def z5 (H:Hp) (h:Heap) (a:Addr):HO -> Prop
 | .lst xs=>xs.length <= sizeLine /\ ∃ (its:List Value) (n:Nat),Vals xs its /\ h.get? a = some { cls:=.type "list",data:=.seq its.toArray n }
 | .tup xs=>xs.length <= sizeLine /\ ∃ its:List Value,Vals xs its /\ IsTup h a its.toArray
 | .dK kvs=>kvs.length <= sizeLine /\ (a == sysModules) = false /\ ∃ vs,KV kvs vs /\ h.DictOf (zH P w) a vs
 | .dT kvs=>kvs.length <= sizeLine /\ (a == sysModules) = false /\ ∃ xs:List (List Key × Addr × Value),
   Paired (fun (p:List Key × V) (q:List Key × Addr × Value)=>p.1 = q.1 /\ H q.2.1 = some (.tup (p.1.map kV)) /\ RelV p.2 q.2.2) kvs xs ∧
   ∃ o es ep,h.get? a = some o /\ o.ExactDict /\ o.data = .dict es ep /\ es.toList = xs.map (entryOfKey (tupleKind (zH P w))) /\ (xs.map (·.1)).Nodup
 | .set S n=>h.SetOf (intKind P w) a S n
 | .ins C dx fs=>H dx = some (.own a) /\ fs.length <= 1000 /\ dx ≠ a /\ h.get? a = some (PySem.W.instObj C dx) ∧
   ∃ mA,h.Ns1 dx mA /\ (∀ f,RelO (fs.lookup f) (mA f)) /\ PySem.Within mA (fs.map (·.1))
 | .own _=>∃ o,h.get? a = some o
 | .xd fs=>∃ mA,h.Ns1 a mA /\ ∀ f,RelO (fs.lookup f) (mA f)
 | .rng lo hi=>∃ t u v,h.get? a = some { cls:=.type "range",data:=.fields #[.int lo t,.int hi u,.int 1 v] }
 | .frz o u=>h.get? a = some o /\ z5 H h a u
 | .tbl ps=>h.get? a = some { cls:=.none,data:=.fields ps }
 | .met f x=>h.get? a = some (PySem.W.methodObj (.ref f) (.ref x))
 | .ext φ=>φ h /\ (∃ o,h.get? a = some o) /\ ∀ h1 h2:Heap,φ h1 -> (∀ o,h1.get? a = some o -> h2.get? a = some o) -> φ h2
def HOk (H:Hp) (h:Heap):Prop:=∀ a o,H a = some o -> z5 P w H h a o
end
section
variable {P:Program} {w:World} {H H':Hp} {h h':Heap} {a:Addr} {o:HO}
theorem z5.lt (x:z5 P w H h a o):a < h.objs.size:=by
 cases o with
 | lst xs=>obtain ⟨_,_,_,_,e⟩:=x; exact Heap.lt_size e
 | tup xs=>obtain ⟨_,_,_,p⟩:=x; exact p.lt
 | dK kvs=>obtain ⟨_,_,_,_,o,_,_,e,_⟩:=x; exact Heap.lt_size e
 | dT kvs=>obtain ⟨_,_,_,_,o,_,_,e,_⟩:=x; exact Heap.lt_size e
 | set S n=>obtain ⟨o,_,_,_,e,_⟩:=x; exact Heap.lt_size e
 | ins C dx fs=>obtain ⟨_,_,_,e,_⟩:=x; exact Heap.lt_size e
 | own y=>obtain ⟨_,e⟩:=x; exact Heap.lt_size e
 | xd fs=>obtain ⟨_,⟨_,_,_,e,_⟩,_⟩:=x; exact Heap.lt_size e
 | rng lo hi=>obtain ⟨_,_,_,e⟩:=x; exact Heap.lt_size e
 | frz ob u=>obtain ⟨e,_⟩:=x; exact Heap.lt_size e
 | tbl ps=>exact Heap.lt_size (show h.get? a = some _ from x)
 | met f y=>exact Heap.lt_size (show h.get? a = some _ from x)
 | ext φ=>obtain ⟨_,⟨_,e⟩,_⟩:=x; exact Heap.lt_size e
theorem Paired.mapP {α β:Type} {F G:α -> β -> Prop}:∀ {l₁:List α} {l₂:List β},Paired F l₁ l₂ -> (∀ a b,F a b -> G a b) -> Paired G l₁ l₂
 | _,_,.nil,_=>.nil
 | _,_,.cons r t,f=>.cons (f _ _ r) (Paired.mapP t f)
theorem z5.stay (x:z5 P w H h a o) (k:∀ b u,(b = a \/ H b = some (.own a)) -> h.get? b = some u -> h'.get? b = some u)
  (ho:∀ b,H b = some (.own a) -> H' b = some (.own a)) (ht:∀ b xs,H b = some (.tup xs) -> H' b = some (.tup xs)):z5 P w H' h' a o:=by
 induction o with
 | lst xs=>obtain ⟨z,its,n,r,e⟩:=x; exact ⟨z,its,n,r,k _ _ (.inl rfl) e⟩
 | tup xs=>obtain ⟨z,its,r,ob,e,c⟩:=x; exact ⟨z,its,r,ob,k _ _ (.inl rfl) e,c⟩
 | dK kvs=>obtain ⟨z,y,vs,r,ob,es,ep,e,c⟩:=x; exact ⟨z,y,vs,r,ob,es,ep,k _ _ (.inl rfl) e,c⟩
 | dT kvs =>
  obtain ⟨z,y,xs,r,ob,es,ep,e,c⟩:=x
  exact ⟨z,y,xs,Paired.mapP r fun p q z=>⟨z.1,ht _ _ z.2.1,z.2.2⟩,ob,es,ep,k _ _ (.inl rfl) e,c⟩
 | set S n=>obtain ⟨ob,es,ep,t,e,c⟩:=x; exact ⟨ob,es,ep,t,k _ _ (.inl rfl) e,c⟩
 | ins C dx fs =>
  obtain ⟨d,z,ne,e,mA,⟨od,es,ep,e2,c⟩,r⟩:=x
  exact ⟨ho _ d,z,ne,k _ _ (.inl rfl) e,mA,⟨od,es,ep,k _ _ (.inr d) e2,c⟩,r⟩
 | own y=>obtain ⟨ob,e⟩:=x; exact ⟨ob,k _ _ (.inl rfl) e⟩
 | xd fs=>obtain ⟨mA,⟨od,es,ep,e,c⟩,r⟩:=x; exact ⟨mA,⟨od,es,ep,k _ _ (.inl rfl) e,c⟩,r⟩
 | rng lo hi=>obtain ⟨t,u,v,e⟩:=x; exact ⟨t,u,v,k _ _ (.inl rfl) e⟩
 | frz ob u ih=>obtain ⟨e,q⟩:=x; exact ⟨k _ _ (.inl rfl) e,ih q⟩
 | tbl ps =>
  have e:h.get? a = some { cls:=.none,data:=.fields ps }:=x
  show h'.get? a = some { cls:=.none,data:=.fields ps }
  exact k a _ (.inl rfl) e
 | met f y =>
  have e:h.get? a = some (PySem.W.methodObj (.ref f) (.ref y)):=x
  show h'.get? a = some (PySem.W.methodObj (.ref f) (.ref y))
  exact k a _ (.inl rfl) e
 | ext φ=>obtain ⟨p,⟨o,e⟩,st⟩:=x; exact ⟨st _ _ p fun o q=>k _ _ (.inl rfl) q,⟨o,k _ _ (.inl rfl) e⟩,st⟩
theorem HOk.lt (x:HOk P w H h) (e:H a = some o):a < h.objs.size:=(x a o e).lt
theorem HOk.fresh (x:HOk P w H h) (e:h.objs.size <= a):H a = none:=by
 cases q:H a with
 | none=>rfl
 | some u=>exact absurd (Nat.lt_of_lt_of_le (x.lt q) e) (Nat.lt_irrefl _)
theorem HOk.kept (x:HOk P w H h) (k:∀ b u,h.get? b = some u -> h'.get? b = some u):HOk P w H h':=fun a o e =>
 (x a o e).stay (fun b u _ q=>k b u q) (fun _ q=>q) fun _ _ q=>q
theorem HOk.laid (x:HOk P w H h) (k:∀ b u,h.get? b = some u -> h'.get? b = some u) (hp:h.objs.size <= a) (new:z5 P w (upd H a o) h' a o):HOk P w (upd H a o) h':=fun b u e=>by
 have hn:=x.fresh hp
 by_cases hb:b = a
 ·subst hb; rw [ze] at e; cases e; exact new
 ·rw [zt hb] at e
  exact (x b u e).stay (fun c v _ q=>k c v q) (fun c q=>by rw [zt (zv q hn)]; exact q) fun c xs q=>by rw [zt (zv q hn)]; exact q
end
def Rd (H:Hp) (a:Addr) (u:HO):Prop:=H a = some u \/ ∃ o,H a = some (.frz o u)
theorem Rd.of {H:Hp} {a:Addr} {u:HO} (h:H a = some u):Rd H a u:=.inl h
theorem Rd.ok {P:Program} {w:World} {H:Hp} {h:Heap} {a:Addr} {u:HO} (r:Rd H a u) (x:HOk P w H h):z5 P w H h a u:=by
 rcases r with r | ⟨o,r⟩
 ·exact x a u r
 ·obtain ⟨_,q⟩:=x a _ r
  exact q
def Mut:Option HO -> Prop
 | some (.lst _)=>True
 | some (.dK _)=>True
 | some (.dT _)=>True
 | some (.set _ _)=>True
 | some (.ins _ _ _)=>True
 | some (.ext _)=>True
 | _=>False
section
variable {P:Program} {w:World} {H:Hp} {h h':Heap} {x e:Addr} {o':HO}
theorem HOk.write (ok:HOk P w H h) (mu:Mut (H x)) (he:e = x \/ H e = some (.own x)) (k:∀ b u,b ≠ e -> h.get? b = some u -> h'.get? b = some u) (heo:∃ u,h'.get? e = some u)
  (new:z5 P w (upd H x o') h' x o'):HOk P w (upd H x o') h':=fun b u q=>by
 have nown:∀ c y,H c = some (.own y) -> c ≠ x:=fun c y r z=>by subst z; rw [r] at mu; exact mu
 have ntup:∀ c xs,H c = some (.tup xs) -> c ≠ x:=fun c xs r z=>by subst z; rw [r] at mu; exact mu
 by_cases hb:b = x
 ·subst hb; rw [ze] at q; cases q; exact new
 ·rw [zt hb] at q
  by_cases hbe:b = e
  ·have q':H b = some (.own x):=by
    rcases he with z | z
    ·exact absurd (hbe.trans z) hb
    ·rw [hbe]; exact z
   rw [q] at q'; cases q'
   obtain ⟨v,hv⟩:=heo
   exact ⟨v,by rw [hbe]; exact hv⟩
  ·refine (ok b u q).stay (fun c v hc r=>k c v ?_ r) (fun c r=>by rw [zt (nown c b r)]; exact r) fun c xs r=>by rw [zt (ntup c xs r)]; exact r
   rcases hc with rfl | hc
   ·exact hbe
   ·rintro rfl
    rcases he with z | z
    ·exact nown c b hc z
    ·rw [hc] at z; cases z; exact hb rfl
end
structure Un (fs ex:List Addr) (H H':Hp) (h h':Heap):Prop where
 keep:∀ b o,h.get? b = some o -> H b = none -> b ∉ fs -> b ∉ ex -> h'.get? b = some o
 slot:∀ b o,h.get? b = some o -> H b = none -> b ∈ fs -> b ∉ ex -> ∃ sl,h'.get? b = some { o with slots:=sl }
 free:∀ b o,h.get? b = some o -> H b = none -> b ∉ ex -> H' b = none
 there:∀ b o,h.get? b = some o -> b ∉ ex -> ∃ o',h'.get? b = some o'
 tups:∀ b xs,H b = some (.tup xs) -> H' b = some (.tup xs)
 frzs:∀ b o u,H b = some (.frz o u) -> H' b = some (.frz o u)
 tbls:∀ b ps,H b = some (.tbl ps) -> ∃ more,H' b = some (.tbl (ps ++ more))
section
variable {fs fs' ex ex':List Addr} {H H1 H2:Hp} {h h1 h2 h':Heap} {a x e:Addr} {o:HO}
theorem Un.any (u:Un fs ex H H1 h h1) {b:Addr} {ob:Obj} (q:h.get? b = some ob) (n:H b = none) (hx:b ∉ ex):∃ sl,h1.get? b = some { ob with slots:=sl }:=by
 by_cases hb:b ∈ fs
 ·exact u.slot b ob q n hb hx
 ·exact ⟨ob.slots,u.keep b ob q n hb hx⟩
theorem Un.trans (a:Un fs ex H H1 h h1) (b:Un fs ex H1 H2 h1 h2):Un fs ex H H2 h h2 where
 keep:=fun c ob q n hc hx=>b.keep c ob (a.keep c ob q n hc hx) (a.free c ob q n hx) hc hx
 slot:=fun c ob q n hc hx=>by
  obtain ⟨sl,e1⟩:=a.slot c ob q n hc hx
  obtain ⟨sl',e2⟩:=b.slot c _ e1 (a.free c ob q n hx) hc hx
  exact ⟨sl',e2⟩
 free:=fun c ob q n hx=>by
  obtain ⟨o',e1⟩:=a.there c ob q hx
  exact b.free c o' e1 (a.free c ob q n hx) hx
 there:=fun c ob q hx=>by
  obtain ⟨o',e1⟩:=a.there c ob q hx
  exact b.there c o' e1 hx
 tups:=fun c xs q=>b.tups c xs (a.tups c xs q)
 frzs:=fun c ob xs q=>b.frzs c ob xs (a.frzs c ob xs q)
 tbls:=fun c ps q=>by
  obtain ⟨m1,e1⟩:=a.tbls c ps q
  obtain ⟨m2,e2⟩:=b.tbls c _ e1
  exact ⟨m1 ++ m2,by rw [e2,Array.append_assoc]⟩
theorem Un.kept (k:∀ b u,h.get? b = some u -> h'.get? b = some u):Un fs ex H H h h' :=
 ⟨fun b ob q _ _ _=>k b ob q,fun b ob q _ _ _=>⟨ob.slots,k b ob q⟩,fun _ _ _ n _=>n,fun b ob q _=>⟨ob,k b ob q⟩,fun _ _ q=>q,fun _ _ _ q=>q,fun _ ps q=>⟨#[],by rw [q]; simp⟩⟩
theorem Un.refl:Un fs ex H H h h:=Un.kept fun _ _ q=>q
theorem Un.laid (k:∀ b u,h.get? b = some u -> h'.get? b = some u) (hp:h.objs.size <= a) (hn:H a = none):Un fs ex H (upd H a o) h h' where
 keep:=fun b u q _ _ _=>k b u q
 slot:=fun b u q _ _ _=>⟨u.slots,k b u q⟩
 free:=fun b u q n _=>by rw [zt (Nat.ne_of_lt (Nat.lt_of_lt_of_le (Heap.lt_size q) hp))]; exact n
 there:=fun b u q _=>⟨u,k b u q⟩
 tups:=fun b xs q=>by rw [zt (zv q hn)]; exact q
 frzs:=fun b u xs q=>by rw [zt (zv q hn)]; exact q
 tbls:=fun b ps q=>⟨#[],by rw [zt (zv q hn),q]; simp⟩
theorem Un.write (mu:Mut (H x)) (he:e = x \/ H e = some (.own x)) (k:∀ b u,b ≠ e -> h.get? b = some u -> h'.get? b = some u) (heo:∃ u,h'.get? e = some u):Un fs ex H (upd H x o) h h':=by
 have hx:∀ b,H b = none -> b ≠ x:=fun b n z=>by subst z; rw [n] at mu; exact mu
 have hb:∀ b,H b = none -> b ≠ e:=fun b n z=>by
  subst z
  rcases he with r | r
  ·exact hx b n r
  ·rw [n] at r; cases r
 have hm:∀ b u,H b = some u -> ¬ Mut (some u) -> b ≠ x:=fun b u q nm z=>by subst z; rw [q] at mu; exact nm mu
 refine ⟨fun b u q n _ _=>k b u (hb b n) q,fun b u q n _ _=>⟨u.slots,k b u (hb b n) q⟩,fun b u q n _=>by rw [zt (hx b n)]; exact n,fun b u q _=>?_,
  fun b xs q=>by rw [zt (hm b _ q fun z=>z)]; exact q,fun b u xs q=>by rw [zt (hm b _ q fun z=>z)]; exact q,fun b ps q=>⟨#[],by rw [zt (hm b _ q fun z=>z),q]; simp⟩⟩
 by_cases hbe:b = e
 ·subst hbe; exact heo
 ·exact ⟨u,k b u hbe q⟩
theorem Un.mono (u:Un fs ex H H1 h h1) (hs:∀ b ∈ fs,b ∈ fs') (hx:∀ b ∈ ex,b ∈ ex'):Un fs' ex' H H1 h h1 :=
 ⟨fun b ob q n hb he=>u.keep b ob q n (fun z=>hb (hs b z)) fun z=>he (hx b z),fun _ _ q n _ he=>u.any q n fun z=>he (hx _ z),fun b ob q n he=>u.free b ob q n fun z=>he (hx b z),fun b ob q he=>u.there b ob q fun z=>he (hx b z),u.tups,u.frzs,u.tbls⟩
end
def trk (h:Heap) (H:Hp):List Addr:=(List.range h.objs.size).filter fun a=>(H a).isSome
def hidT (h:Heap) (H:Hp):Heap:=PySem.W.hideAll h (trk h H)
theorem YQ (h:Heap) (H:Hp):(hidT h H).objs.size = h.objs.size:=PySem.W.hideAll_size _ _
theorem Wu {h:Heap} {H:Hp} {b:Addr} {o:Obj} (e:h.get? b = some o) (n:H b = none):(hidT h H).get? b = some o :=
 PySem.W.hideAll_get _ e fun hm=>by
  have q:(H b).isSome = true:=(List.mem_filter.mp hm).2
  rw [n] at q; simp at q
theorem VY {h:Heap} {H:Hp} {b:Addr} {o:Obj} (e:(hidT h H).get? b = some o):h.get? b = some o /\ H b = none:=by
 have e':h.get? b = some o:=PySem.W.of_hideAll (trk h H) e
 refine ⟨e',?_⟩
 cases q:H b with
 | none=>rfl
 | some x =>
  have hm:b ∈ trk h H:=List.mem_filter.mpr ⟨List.mem_range.mpr (Heap.lt_size e'),by simp [q]⟩
  have z:(hidT h H).get? b = none:=PySem.W.hideAll_none (trk h H) hm
  rw [z] at e; cases e
def VZ (g h:Heap) (L:Addr):List (Addr × Obj):=(List.range h.objs.size).filterMap fun a=>if a = L \/ (g.get? a).isSome = true then none else (h.get? a).map fun o=>(a,o)
def rest (g h:Heap) (L d:Addr):List (Addr × Obj):=(VZ g h L).filter fun p=>decide (p.1 ≠ d)
end L2
namespace L2
open PySem PySem.Spec PyProof.Rows
structure Mod (K:FG7) (mg:Str -> Option Value) (base:Heap):Prop where
 kin:K.In base
 glob:base.Ns mainGlobals mg
 blt:∃ mb,base.Ns builtinsNs mb /\ ∀ x:Str,x ≠ "__name__" -> mb x = bootBuiltins x
 nolimit:base.NoLimit
structure Cx where
 prog:Program
 w:World
 K:FG7
 mg:Str -> Option Value
 base:Heap
 A:Around
 N:List Str
 s₀:Shared
 H₀:Hp
 env:Env
 outer:List Env
 stack:List Env
 ex:List Addr
 fn:Str -> Bool
 calm:Bool
 pn:List (Addr × Obj)
 xe:VS7
def frs (l:List Env):List Addr:=l.filterMap (·.frame)
abbrev Cx.fs (X:Cx):List Addr:=frs X.outer
def Vis (sc:Scope) (x:Str):Prop:=sc.names.lookup x = some .local \/ sc.names.lookup x = some .cell \/ sc.names.lookup x = some .free
def Loc (sc:Scope) (x:Str):Prop:=sc.names.lookup x = some .local \/ sc.names.lookup x = some .cell
def Look (env:Env) (h:Heap) (m:Str -> Option Value) (x:Str) (u:Value):Prop :=
 (env.kindOf x = some .local /\ m x = some u) \/ ((env.kindOf x = some .cell \/ env.kindOf x = some .free) /\ ∃ c,env.cells.lookup x = some c /\ h.IsCell c (some u))
structure Cx.Ok (X:Cx):Prop where
 mod:Mod X.K X.mg X.base
 kind:X.env.scope.kind = .function
 glob:X.env.globals = mainGlobals
 blt:X.env.builtins = builtinsNs
 above:X.s₀.heap.objs.size <= X.env.locals
 inj:∀ x y c,X.env.cells.lookup x = some c -> X.env.cells.lookup y = some c -> x = y
 has:∀ x,(X.env.kindOf x = some .cell \/ X.env.kindOf x = some .free) -> ∃ c,X.env.cells.lookup x = some c
 cab:∀ x c,X.fn x = true -> X.env.cells.lookup x = some c -> X.s₀.heap.objs.size <= c
 hd:X.calm = true -> X.A.handled = none
 frames:X.A.frames = some X.stack
 stk:X.stack = X.outer \/ (X.stack = X.env :: X.outer /\ X.env.frame = some X.env.locals)
 exf:∀ b ∈ X.ex,b ≠ X.env.locals /\ ∀ x c,X.env.cells.lookup x = some c -> c ≠ b
 bs:∀ b o,X.base.get? b = some o -> X.s₀.heap.get? b = some o /\ X.H₀ b = none
 bsz:X.base.objs.size <= X.s₀.heap.objs.size
 noex:∀ b o,X.base.get? b = some o -> b ∉ X.ex
 exfs:∀ b ∈ X.ex,b ∉ X.fs
 funs:X.s₀.heap.FunFrames X.base X.outer
 frf:∀ b ∈ X.fs,X.H₀ b = none
structure Inv (X:Cx) (pins:List (Addr × Obj)) (σ:List (Option V)) (H:Hp) (s:Shared):Prop where
 ok:X.Ok
 os:s.os = X.s₀.os
 bare:AllBare s.gens
 base:Un X.fs X.ex X.H₀ H X.s₀.heap s.heap
 loc:∃ m,s.heap.Ns X.env.locals m /\ ∀ (i:Nat) (x:Str) (v:V),X.N[i]? = some x -> σ[i]? = some (some v) -> Vis X.env.scope x -> ∃ u,RelV v u /\ Look X.env s.heap m x u
 cell:∀ x c,X.env.cells.lookup x = some c -> ∃ v,s.heap.IsCell c v
 free:H X.env.locals = none
 freeC:∀ x c,X.env.cells.lookup x = some c -> H c = none
 pin:∀ p ∈ X.pn ++ pins,s.heap.get? p.1 = some p.2 /\ H p.1 = none /\ p.1 ≠ X.env.locals /\ p.1 ∉ X.fs /\ ∀ v,p.2.data ≠ .cell v
 hok:HOk X.prog X.w H s.heap
 len:σ.length = X.N.length
section
variable {X:Cx} {pins:List (Addr × Obj)} {σ:List (Option V)} {H H':Hp} {s:Shared} {h':Heap}
theorem Cx.Ok.nofr (ok:X.Ok) {b:Addr} {o:Obj} (e:X.base.get? b = some o):b ∉ X.fs:=fun hb=>by
 have:=(ok.funs.mem hb).1
 rw [e] at this; cases this
theorem Inv.bs (I:Inv X pins σ H s):∀ b o,X.base.get? b = some o -> s.heap.get? b = some o /\ H b = none:=fun b o e =>
 ⟨I.base.keep b o (I.ok.bs b o e).1 (I.ok.bs b o e).2 (I.ok.nofr e) (I.ok.noex b o e),I.base.free b o (I.ok.bs b o e).1 (I.ok.bs b o e).2 (I.ok.noex b o e)⟩
theorem Inv.bk (I:Inv X pins σ H s):∀ b o,X.base.get? b = some o -> s.heap.get? b = some o:=fun b o e=>(I.bs b o e).1
theorem Inv.mod (I:Inv X pins σ H s):Mod X.K X.mg X.base:=I.ok.mod
theorem Inv.kIn (I:Inv X pins σ H s):X.K.In s.heap:=I.ok.mod.kin.keeps I.bk
theorem Inv.nolimit (I:Inv X pins σ H s):s.heap.NoLimit:=I.ok.mod.nolimit.keeps I.bk
theorem Inv.fr (I:Inv X pins σ H s):∃ m,Fr X.base X.env.locals s.heap m :=
 let ⟨m,hn,_⟩:=I.loc
 ⟨m,hn,I.bk,Nat.le_trans I.ok.bsz I.ok.above⟩
theorem Inv.lt (I:Inv X pins σ H s):X.env.locals < s.heap.objs.size:=let ⟨_,hn,_⟩:=I.loc; hn.lt
theorem Inv.sz (I:Inv X pins σ H s):X.s₀.heap.objs.size <= s.heap.objs.size:=Nat.le_trans I.ok.above (Nat.le_of_lt I.lt)
theorem Inv.nofs (I:Inv X pins σ H s) {a:Addr} (h:s.heap.objs.size <= a):a ∉ X.fs:=fun hb=>by
 obtain ⟨_,o,ho,_⟩:=I.ok.funs.mem hb
 exact absurd (Nat.lt_of_lt_of_le (Heap.lt_size ho) (Nat.le_trans I.sz h)) (Nat.lt_irrefl _)
theorem Inv.cne (I:Inv X pins σ H s):∀ x c,X.env.cells.lookup x = some c -> c ≠ X.env.locals:=fun x c e z=>by
 obtain ⟨v,o,ho,hd⟩:=I.cell x c e
 obtain ⟨m,⟨o',es,ep,ho',hd',_⟩,_⟩:=I.loc
 rw [z,ho'] at ho; cases ho; rw [hd'] at hd; cases hd
theorem Inv.funs (I:Inv X pins σ H s):s.heap.FunFrames X.base X.outer:=by
 have all:∀ (l:List Env),(∀ b ∈ frs l,b ∈ X.fs) -> X.s₀.heap.FunFrames X.base l -> s.heap.FunFrames X.base l:=by
  intro l
  induction l with
  | nil=>intro _ _; trivial
  | cons env r ih =>
   intro hs hl
   obtain ⟨hk,⟨L,o,hf,hn,ho,hd⟩,hr⟩:=hl
   have hL:L ∈ X.fs:=hs L (by unfold frs; rw [List.filterMap_cons,hf]; exact List.mem_cons_self)
   obtain ⟨sl,e⟩:=I.base.slot L o ho (I.ok.frf L hL) hL fun z=>I.ok.exfs L z hL
   exact ⟨hk,⟨L,_,hf,hn,e,hd⟩,ih (fun b hb=>hs b (by unfold frs; rw [List.filterMap_cons,hf]; exact List.mem_cons_of_mem _ hb)) hr⟩
 exact all X.outer (fun _ hb=>hb) I.ok.funs
theorem Inv.stack (I:Inv X pins σ H s):s.heap.FunFrames X.base X.stack:=by
 rcases I.ok.stk with e | ⟨e,hf⟩
 ·rw [e]; exact I.funs
 ·rw [e]
  obtain ⟨m,hn,_⟩:=I.loc
  refine .cons (by rw [I.ok.kind]; decide) hf hn ?_ I.funs
  exact Heap.get?_none_of_le (Nat.le_trans I.ok.bsz I.ok.above)
theorem Inv.stkSub (I:Inv X pins σ H s):∀ b ∈ frs X.stack,b ∈ X.env.locals :: X.fs:=fun b hb=>by
 rcases I.ok.stk with e | ⟨e,hf⟩
 ·rw [e] at hb; exact List.mem_cons_of_mem _ hb
 ·rw [e] at hb
  unfold frs at hb
  rw [List.filterMap_cons,hf] at hb
  exact hb
theorem Inv.stkFree (I:Inv X pins σ H s):∀ b ∈ frs X.stack,H b = none:=fun b hb=>by
 rcases List.mem_cons.mp (I.stkSub b hb) with e | hb
 ·rw [e]; exact I.free
 ·obtain ⟨_,o,ho,_⟩:=I.ok.funs.mem hb
  exact I.base.free b o ho (I.ok.frf b hb) fun z=>I.ok.exfs b z hb
theorem Inv.step {g':Array GenState} {t':Nat} {d':Drawn} {ch:List Addr} (I:Inv X pins σ H s)
  (hch:∀ b ∈ ch,(b ∈ X.ex \/ X.s₀.heap.objs.size <= b) /\ b ≠ X.env.locals /\ (∀ x c,X.env.cells.lookup x = some c -> c ≠ b) /\ ∀ p ∈ X.pn ++ pins,p.1 ≠ b)
  (keep:∀ b o,b ≠ X.env.locals -> b ∉ X.fs -> b ∉ ch -> s.heap.get? b = some o -> H b = none -> h'.get? b = some o)
  (slot:∀ b o,b ≠ X.env.locals -> b ∈ X.fs -> b ∉ ch -> s.heap.get? b = some o -> H b = none -> ∃ sl,h'.get? b = some { o with slots:=sl }) (free:∀ b o,b ∉ ch -> s.heap.get? b = some o -> H b = none -> H' b = none)
  (there:∀ b o,b ∉ ch -> s.heap.get? b = some o -> ∃ o',h'.get? b = some o')
  (tups:∀ b xs,H b = some (.tup xs) -> H' b = some (.tup xs)) (frzs:∀ b o u,H b = some (.frz o u) -> H' b = some (.frz o u)) (tbls:∀ b ps,H b = some (.tbl ps) -> ∃ more,H' b = some (.tbl (ps ++ more)))
  (ns:∀ m,s.heap.Ns X.env.locals m -> h'.Ns X.env.locals m) (hok:HOk X.prog X.w H' h') (hg:AllBare g') :
  Inv X pins σ H' { s with heap:=h',gens:=g',drawn:=d',toks:=t' }:=by
 have neL:∀ b o,X.s₀.heap.get? b = some o -> b ≠ X.env.locals:=fun b o e=>Nat.ne_of_lt (Nat.lt_of_lt_of_le (Heap.lt_size e) I.ok.above)
 have neC:∀ b o,X.s₀.heap.get? b = some o -> b ∉ X.ex -> b ∉ ch:=fun b o e hx hb=>by
  rcases (hch b hb).1 with z | z
  ·exact hx z
  ·exact absurd (Nat.lt_of_lt_of_le (Heap.lt_size e) z) (Nat.lt_irrefl _)
 have cellK:∀ x c,X.env.cells.lookup x = some c -> ∀ v,s.heap.IsCell c v -> h'.IsCell c v:=fun x c e v ⟨o,ho,hd⟩=>by
  have nch:c ∉ ch:=fun z=>(hch c z).2.2.1 x c e rfl
  by_cases hc:c ∈ X.fs
  ·obtain ⟨sl,q⟩:=slot c o (I.cne x c e) hc nch ho (I.freeC x c e)
   exact ⟨_,q,hd⟩
  ·exact ⟨o,keep c o (I.cne x c e) hc nch ho (I.freeC x c e),hd⟩
 refine ⟨I.ok,I.os,hg,⟨fun b o e n hb hx=>?_,fun b o e n hb hx=>?_,fun b o e n hx=>?_,fun b o e hx=>?_,fun b xs e=>tups b xs (I.base.tups b xs e),fun b o xs e=>frzs b o xs (I.base.frzs b o xs e),fun b ps e=>?_⟩,?_,fun x c e=>?_,?_,fun x c e=>?_,fun p hp=>?_,hok,I.len⟩
 ·exact keep b o (neL b o e) hb (neC b o e hx) (I.base.keep b o e n hb hx) (I.base.free b o e n hx)
 ·obtain ⟨sl,e1⟩:=I.base.slot b o e n hb hx
  obtain ⟨sl',e2⟩:=slot b _ (neL b o e) hb (neC b o e hx) e1 (I.base.free b o e n hx)
  exact ⟨sl',e2⟩
 ·obtain ⟨o',e1⟩:=I.base.there b o e hx
  exact free b o' (neC b o e hx) e1 (I.base.free b o e n hx)
 ·obtain ⟨o',e1⟩:=I.base.there b o e hx
  exact there b o' (neC b o e hx) e1
 ·obtain ⟨m1,e1⟩:=I.base.tbls b ps e
  obtain ⟨m2,e2⟩:=tbls b _ e1
  exact ⟨m1 ++ m2,by rw [e2,Array.append_assoc]⟩
 ·obtain ⟨m,hn,hl⟩:=I.loc
  refine ⟨m,ns m hn,fun i x v e1 e2 e3=>?_⟩
  obtain ⟨u,r,l⟩:=hl i x v e1 e2 e3
  refine ⟨u,r,?_⟩
  rcases l with l | ⟨k,c,e,z⟩
  ·exact .inl l
  ·exact .inr ⟨k,c,e,cellK x c e _ z⟩
 ·obtain ⟨v,z⟩:=I.cell x c e
  exact ⟨v,cellK x c e v z⟩
 ·obtain ⟨m,⟨o,_,_,ho,_⟩,_⟩:=I.loc
  exact free _ o (fun z=>(hch _ z).2.1 rfl) ho I.free
 ·obtain ⟨v,o,ho,hd⟩:=I.cell x c e
  exact free c o (fun z=>(hch c z).2.2.1 x c e rfl) ho (I.freeC x c e)
 ·obtain ⟨e,n,ne,nf,d⟩:=I.pin p hp
  have nch:p.1 ∉ ch:=fun z=>(hch p.1 z).2.2.2 p hp rfl
  exact ⟨keep p.1 p.2 ne nf nch e n,free p.1 p.2 nch e n,ne,nf,d⟩
theorem Inv.un {t':Nat} (I:Inv X pins σ H s) (u:Un X.fs [] H H' s.heap h') (hok:HOk X.prog X.w H' h'):Inv X pins σ H' { s with heap:=h',toks:=t' }:=by
 obtain ⟨m,⟨o,es,ep,ho,r⟩,_⟩:=id I.loc
 obtain ⟨sl,hL⟩:=u.any ho I.free (by simp)
 exact I.step (g':=s.gens) (d':=s.drawn) (ch:=[]) (fun _ z=>nomatch z) (fun b o _ hb _ e n=>u.keep b o e n hb (by simp)) (fun b o _ hb _ e n=>u.slot b o e n hb (by simp)) (fun b o _ e n=>u.free b o e n (by simp)) (fun b o _ e=>u.there b o e (by simp)) u.tups u.frzs u.tbls (fun m' hm=>by
  obtain ⟨o',es',ep',ho',r'⟩:=hm
  rw [ho] at ho'; cases ho'
  exact ⟨_,es',ep',hL,r'⟩) hok I.bare
theorem Inv.call {g':Array GenState} {t':Nat} {d':Drawn} {ch:List Addr} (I:Inv X pins σ H s) (u:Un (frs X.stack) ch H H' s.heap h') (hok:HOk X.prog X.w H' h') (hg:AllBare g')
  (hch:∀ b ∈ ch,(b ∈ X.ex \/ X.s₀.heap.objs.size <= b) /\ b ≠ X.env.locals /\ (∀ x c,X.env.cells.lookup x = some c -> c ≠ b) /\ ∀ p ∈ X.pn ++ pins,p.1 ≠ b) :
  Inv X pins σ H' { s with heap:=h',gens:=g',drawn:=d',toks:=t' }:=by
 obtain ⟨m,⟨o,es,ep,ho,r⟩,_⟩:=id I.loc
 obtain ⟨sl,hL⟩:=u.any ho I.free fun z=>(hch _ z).2.1 rfl
 exact I.step (ch:=ch) hch (fun b o hL hb hc e n=>u.keep b o e n (fun z=>(List.mem_cons.mp (I.stkSub b z)).elim hL hb) hc) (fun b o _ _ hc e n=>u.any e n hc) (fun b o hc e n=>u.free b o e n hc) (fun b o hc e=>u.there b o e hc) u.tups u.frzs u.tbls (fun m' hm=>by
  obtain ⟨o',es',ep',ho',r'⟩:=hm
  rw [ho] at ho'; cases ho'
  exact ⟨_,es',ep',hL,r'⟩) hok hg
theorem Inv.turned {t':Nat} {it:Addr} (I:Inv X pins σ H s) (k:∀ b o,b ≠ it -> s.heap.get? b = some o -> h'.get? b = some o) (hn:H it = none) (hL:it ≠ X.env.locals)
  (h1:it ∈ X.ex \/ X.s₀.heap.objs.size <= it) (h2:∀ x c,X.env.cells.lookup x = some c -> c ≠ it) (h3:∀ p ∈ X.pn ++ pins,p.1 ≠ it):Inv X pins σ H { s with heap:=h',toks:=t' }:=by
 have nit:∀ b u,H b = some u -> b ≠ it:=fun b u e z=>by rw [z,hn] at e; cases e
 refine I.step (g':=s.gens) (d':=s.drawn) (ch:=[it]) (fun b hb=>?_) (fun b o _ _ hc e _=>k b o (fun z=>hc (by simp [z])) e) (fun b o _ _ hc e _=>⟨o.slots,k b o (fun z=>hc (by simp [z])) e⟩) (fun _ _ _ _ n=>n)
  (fun b o hc e=>⟨o,k b o (fun z=>hc (by simp [z])) e⟩) (fun _ _ e=>e) (fun _ _ _ e=>e) (fun b ps e=>⟨#[],by rw [e]; simp⟩) (fun m hm=>?_) (fun b u e=>?_) I.bare
 ·have e:b = it:=by simpa using hb
  subst e
  exact ⟨h1,hL,h2,h3⟩
 ·obtain ⟨o,es,ep,ho,r⟩:=hm
  exact ⟨o,es,ep,k _ o (Ne.symm hL) ho,r⟩
 ·refine (I.hok b u e).stay (fun c v hc q=>k c v ?_ q) (fun _ q=>q) fun _ _ q=>q
  rcases hc with z | z
  ·rw [z]; exact nit b u e
  ·exact nit c _ z
theorem Inv.tok (I:Inv X pins σ H s) (t:Nat):Inv X pins σ H { s with toks:=t }:=I.un (h':=s.heap) (t':=t) Un.refl I.hok
theorem Inv.kept {t':Nat} (I:Inv X pins σ H s) (k:∀ b u,s.heap.get? b = some u -> h'.get? b = some u):Inv X pins σ H { s with heap:=h',toks:=t' }:=I.un (Un.kept k) (I.hok.kept k)
theorem Inv.laid {a:Addr} {o:HO} {t':Nat} (I:Inv X pins σ H s) (k:∀ b u,s.heap.get? b = some u -> h'.get? b = some u) (hp:s.heap.objs.size <= a) (new:z5 X.prog X.w (upd H a o) h' a o) :
  Inv X pins σ (upd H a o) { s with heap:=h',toks:=t' }:=I.un (Un.laid k hp (I.hok.fresh hp)) (I.hok.laid k hp new)
theorem Inv.write {x e:Addr} {o:HO} {t':Nat} (I:Inv X pins σ H s) (mu:Mut (H x)) (he:e = x \/ H e = some (.own x)) (k:∀ b u,b ≠ e -> s.heap.get? b = some u -> h'.get? b = some u) (heo:∃ u,h'.get? e = some u)
  (new:z5 X.prog X.w (upd H x o) h' x o):Inv X pins σ (upd H x o) { s with heap:=h',toks:=t' }:=I.un (Un.write mu he k heo) (I.hok.write mu he k heo new)
theorem Inv.pins_of {pins':List (Addr × Obj)} (I:Inv X pins σ H s) (h:∀ p ∈ pins',s.heap.get? p.1 = some p.2 /\ H p.1 = none /\ p.1 ≠ X.env.locals /\ p.1 ∉ X.fs /\ ∀ v,p.2.data ≠ .cell v):Inv X pins' σ H s :=
 ⟨I.ok,I.os,I.bare,I.base,I.loc,I.cell,I.free,I.freeC,fun p hp=>(List.mem_append.mp hp).elim (fun z=>I.pin p (List.mem_append_left _ z)) (h p),I.hok,I.len⟩
theorem Zc {N:List Str} (hN:N.Nodup) {i j:Nat} {x:Str} (a:N[i]? = some x) (b:N[j]? = some x):i = j:=by
 obtain ⟨h1,e1⟩:=List.getElem?_eq_some_iff.mp a
 obtain ⟨h2,e2⟩:=List.getElem?_eq_some_iff.mp b
 exact (List.getElem_inj hN).mp (e1.trans e2.symm)
theorem YR {M:Model} {A:Around} {E:VS7} {i:Nat} {x:Str} {v:V} {u:Value} {Q:Unit -> Shared -> Prop} (I:Inv X pins σ H s) (hN:X.N.Nodup) (hi:X.N[i]? = some x) (hx:Loc X.env.scope x) (r:RelV v u)
  (h:∀ s',Inv X pins (σ.set i (some v)) H s' -> (∃ a,Heap.SameBut a s.heap s'.heap /\ (a = X.env.locals \/ X.env.cells.lookup x = some a)) -> Q () s') (hf:X.fn x = true \/ X.env.scope.names.lookup x = some .local :=by first | exact .inl rfl | exact .inr rfl | assumption):wpAny M A (storeName X.env x u) Q E s:=by
 obtain ⟨m,hn,hl⟩:=id I.loc
 have hcls:(X.env.scope.kind == .class || (X.env.scope.kind == .module && X.env.locals != X.env.globals)) = false:=by rw [I.ok.kind]; rfl
 have hiσ:i < σ.length:=by rw [I.len]; exact (List.getElem?_eq_some_iff.mp hi).1
 have cne:=I.cne
 have tracked:∀ {a:Addr} {h':Heap},(∃ o,s.heap.get? a = some o /\ H a = none) -> Heap.SameBut a s.heap h' -> HOk X.prog X.w H h':=fun {a h'} ha hs b ob e=>by
  obtain ⟨_,_,hfree⟩:=ha
  refine (I.hok b ob e).stay (fun c w' hc q=>(hs.2 c ?_).trans q) (fun _ q=>q) fun _ _ q=>q
  rintro rfl
  rcases hc with rfl | hc
  ·rw [hfree] at e; cases e
  ·rw [hfree] at hc; cases hc
 rcases hx with hk | hk
 ·refine wpAny_storeName_local hk hn (fun h' hn' hs=>?_) hcls
  obtain ⟨oL,_,_,hoL,_⟩:=id hn
  refine h _ ⟨I.ok,I.os,I.bare,⟨fun b o e n hb hx=>?_,fun b o e n hb hx=>?_,I.base.free,fun b o e hx=>?_,I.base.tups,I.base.frzs,I.base.tbls⟩,⟨_,hn',fun j y v' e1 e2 e3=>?_⟩,fun y c e=>?_,I.free,I.freeC,fun p hp=>?_,tracked ⟨oL,hoL,I.free⟩ hs,by simpa using I.len⟩ ⟨_,hs,.inl rfl⟩
  ·exact (hs.2 b (Nat.ne_of_lt (Nat.lt_of_lt_of_le (Heap.lt_size e) I.ok.above))).trans (I.base.keep b o e n hb hx)
  ·obtain ⟨sl,e1⟩:=I.base.slot b o e n hb hx
   exact ⟨sl,(hs.2 b (Nat.ne_of_lt (Nat.lt_of_lt_of_le (Heap.lt_size e) I.ok.above))).trans e1⟩
  ·obtain ⟨o',e1⟩:=I.base.there b o e hx
   exact ⟨o',(hs.2 b (Nat.ne_of_lt (Nat.lt_of_lt_of_le (Heap.lt_size e) I.ok.above))).trans e1⟩
  ·by_cases hj:j = i
   ·subst hj
    rw [hi] at e1; cases e1
    rw [List.getElem?_set_self hiσ] at e2
    cases e2
    exact ⟨u,r,.inl ⟨hk,by simp⟩⟩
   ·rw [List.getElem?_set_ne (Ne.symm hj)] at e2
    obtain ⟨u',r',q⟩:=hl j y v' e1 e2 e3
    refine ⟨u',r',?_⟩
    rcases q with ⟨k,e⟩ | ⟨k,c,e,z⟩
    ·refine .inl ⟨k,?_⟩
     have:y ≠ x:=fun e=>hj (Zc hN e1 (e ▸ hi))
     simp [this,e]
    ·exact .inr ⟨k,c,e,z.sameBut hs (cne y c e)⟩
  ·obtain ⟨w',z⟩:=I.cell y c e
   exact ⟨w',z.sameBut hs (cne y c e)⟩
  ·obtain ⟨e,n,ne,nf,d⟩:=I.pin p hp
   exact ⟨(hs.2 p.1 ne).trans e,n,ne,nf,d⟩
 ·have hfn:X.fn x = true:=by
   rcases hf with z | z
   ·exact z
   ·rw [z] at hk; cases hk
  obtain ⟨c,hc⟩:=I.ok.has x (.inl hk)
  obtain ⟨w',z⟩:=I.cell x c hc
  refine wpAny_storeName_cell I.ok.kind hk hc z (fun h' hc' hs=>?_)
  obtain ⟨oc,hoc,hocd⟩:=id z
  refine h { s with heap:=h' } ⟨I.ok,I.os,I.bare,⟨fun b o e n hb hx=>?_,fun b o e n hb hx=>?_,I.base.free,fun b o e hx=>?_,I.base.tups,I.base.frzs,I.base.tbls⟩,⟨m,hn.sameBut hs (Ne.symm (cne x c hc)),fun j y v' e1 e2 e3=>?_⟩,fun y c' e=>?_,I.free,I.freeC,fun p hp=>?_,tracked ⟨oc,hoc,I.freeC x c hc⟩ hs,by simpa using I.len⟩ ⟨c,hs,.inr hc⟩
  ·exact (hs.2 b (Nat.ne_of_lt (Nat.lt_of_lt_of_le (Heap.lt_size e) (I.ok.cab x c hfn hc)))).trans (I.base.keep b o e n hb hx)
  ·obtain ⟨sl,e1⟩:=I.base.slot b o e n hb hx
   exact ⟨sl,(hs.2 b (Nat.ne_of_lt (Nat.lt_of_lt_of_le (Heap.lt_size e) (I.ok.cab x c hfn hc)))).trans e1⟩
  ·obtain ⟨o',e1⟩:=I.base.there b o e hx
   exact ⟨o',(hs.2 b (Nat.ne_of_lt (Nat.lt_of_lt_of_le (Heap.lt_size e) (I.ok.cab x c hfn hc)))).trans e1⟩
  ·by_cases hj:j = i
   ·subst hj
    rw [hi] at e1; cases e1
    rw [List.getElem?_set_self hiσ] at e2
    cases e2
    exact ⟨u,r,.inr ⟨.inl hk,c,hc,hc'⟩⟩
   ·rw [List.getElem?_set_ne (Ne.symm hj)] at e2
    obtain ⟨u',r',q⟩:=hl j y v' e1 e2 e3
    refine ⟨u',r',?_⟩
    rcases q with q | ⟨k,c',e,z'⟩
    ·exact .inl q
    ·refine .inr ⟨k,c',e,z'.sameBut hs ?_⟩
     rintro rfl
     exact hj (Zc hN e1 (I.ok.inj _ _ _ e hc ▸ hi))
  ·by_cases hcc:c' = c
   ·subst hcc; exact ⟨_,hc'⟩
   ·obtain ⟨w2,z2⟩:=I.cell y c' e
    exact ⟨w2,z2.sameBut hs hcc⟩
  ·obtain ⟨e,n,ne,nf,d⟩:=I.pin p hp
   refine ⟨(hs.2 p.1 ?_).trans e,n,ne,nf,d⟩
   intro q
   rw [q,hoc] at e
   have q':oc = p.2:=Option.some.inj e
   exact d w' (by rw [← q']; exact hocd)
theorem Zd {M:Model} {A:Around} {E:VS7} {i:Nat} {x:Str} {v:V} {u:Value} {Q:Unit -> Shared -> Prop} (I:Inv X pins σ H s) (hN:X.N.Nodup) (hi:X.N[i]? = some x) (hx:Loc X.env.scope x) (r:RelV v u)
  (h:∀ s',Inv X pins (σ.set i (some v)) H s' -> Q () s') (hf:X.fn x = true \/ X.env.scope.names.lookup x = some .local :=by first | exact .inl rfl | exact .inr rfl | assumption):wpAny M A (storeName X.env x u) Q E s :=
 YR I hN hi hx r (fun s' I' _=>h s' I') hf
theorem Inv.call' {s':Shared} {ch:List Addr} (I:Inv X pins σ H s) (ho:s'.os = s.os) (u:Un (frs X.stack) ch H H' s.heap s'.heap) (hok:HOk X.prog X.w H' s'.heap) (hg:AllBare s'.gens)
  (hch:∀ b ∈ ch,(b ∈ X.ex \/ X.s₀.heap.objs.size <= b) /\ b ≠ X.env.locals /\ (∀ x c,X.env.cells.lookup x = some c -> c ≠ b) /\ ∀ p ∈ X.pn ++ pins,p.1 ≠ b):Inv X pins σ H' s':=by
 obtain ⟨h',g',d',t',o'⟩:=s'
 have e:o' = s.os:=ho
 subst e
 exact I.call (g':=g') (t':=t') (d':=d') u hok hg hch
end
abbrev XK:=Value -> Option Addr -> Hp -> Prop
abbrev St:=List (Option V)
abbrev VK:=V -> Hp -> Prop
abbrev TE:=St -> Hp -> VK -> Prop
abbrev TT:=St -> Hp -> (Bool -> Hp -> Prop) -> Prop
abbrev TA:=St -> Hp -> (List V -> Hp -> Prop) -> Prop
structure Ends where
 nx:St -> Hp -> Prop
 rt:VK
 bk:St -> Hp -> Prop:=fun _ _=>False
 ct:St -> Hp -> Prop:=fun _ _=>False
abbrev TS:=Ends -> St -> Hp -> Prop
def EP (X:Cx) (pins:List (Addr × Obj)) (σ:St) (Q:VK) (u:Value) (s':Shared):Prop:=∃ v H',Inv X pins σ H' s' /\ RelV v u /\ Q v H'
def TP (X:Cx) (pins:List (Addr × Obj)) (σ:St) (Q:Bool -> Hp -> Prop) (b:Bool) (s':Shared):Prop:=∃ H',Inv X pins σ H' s' /\ Q b H'
def AP (X:Cx) (pins:List (Addr × Obj)) (σ:St) (Q:List V -> Hp -> Prop) (us:List Value) (s':Shared):Prop:=∃ vs H',Inv X pins σ H' s' /\ Vals vs us /\ Q vs H'
def SP (X:Cx) (pins:List (Addr × Obj)) (D:Ends) (f:Flow) (s':Shared):Prop :=
 match f with
 | .next=>∃ σ' H',Inv X pins σ' H' s' /\ D.nx σ' H'
 | .brk=>∃ σ' H',Inv X pins σ' H' s' /\ D.bk σ' H'
 | .cont=>∃ σ' H',Inv X pins σ' H' s' /\ D.ct σ' H'
 | .ret u=>∃ v σ' H',Inv X pins σ' H' s' /\ RelV v u /\ D.rt v H'
def PE (X:Cx) (e:Expr) (t:TE):Prop :=
 ∀ (pins:List (Addr × Obj)) (s:Shared) (σ:St) (H:Hp) (Q:VK),Inv X pins σ H s -> t σ H Q -> wpAny (model X.prog X.w) X.A (eval e X.env) (EP X pins σ Q) X.xe s
def PT (X:Cx) (e:Expr) (t:TT):Prop :=
 ∀ (pins:List (Addr × Obj)) (s:Shared) (σ:St) (H:Hp) (Q:Bool -> Hp -> Prop),Inv X pins σ H s -> t σ H Q -> wpAny (model X.prog X.w) X.A (isTrue e X.env (eval e X.env)) (TP X pins σ Q) X.xe s
def PW (X:Cx) (e:Expr) (t:TT):Prop :=
 ∀ (whole:Sem Value) (pins:List (Addr × Obj)) (s:Shared) (σ:St) (H:Hp) (Q:Bool -> Hp -> Prop),Inv X pins σ H s -> t σ H Q -> wpAny (model X.prog X.w) X.A (isTrue e X.env whole) (TP X pins σ Q) X.xe s
theorem PW.pt {X:Cx} {e:Expr} {t:TT} (h:PW X e t):PT X e t:=h _
def PA (X:Cx) (es:List Expr) (t:TA):Prop :=
 ∀ (pos:Pos) (pins:List (Addr × Obj)) (s:Shared) (σ:St) (H:Hp) (Q:List V -> Hp -> Prop),Inv X pins σ H s -> t σ H Q -> wpAny (model X.prog X.w) X.A (spliced (backTo pos (starEach es X.env))) (AP X pins σ Q) X.xe s
def PS (X:Cx) (st:Stmt) (t:TS):Prop :=
 ∀ (pins:List (Addr × Obj)) (s:Shared) (σ:St) (H:Hp) (D:Ends),Inv X pins σ H s -> t D σ H -> wpAny (model X.prog X.w) X.A (exec st X.env) (SP X pins D) X.xe s
def PSs (X:Cx) (st:List Stmt) (t:TS):Prop :=
 ∀ (pins:List (Addr × Obj)) (s:Shared) (σ:St) (H:Hp) (D:Ends),Inv X pins σ H s -> t D σ H -> wpAny (model X.prog X.w) X.A (execs st X.env) (SP X pins D) X.xe s
theorem thn {α:Type} {t:Sem α} {Q Q':α -> Shared -> Prop} {M:Model} {A:Around} {E:VS7} {s:Shared} (h:wpAny M A t Q E s) (hQ:∀ a s,Q a s -> Q' a s):wpAny M A t Q' E s:=wpAny_mono h hQ fun _ _ x=>x
end L2
namespace L2
open PySem PySem.Spec PyProof.Rows
section
variable {X:Cx}
def tVar (i:Nat):TE:=fun σ H Q=>∃ v,σ[i]? = some (some v) /\ Q v H
def tC (v:V):TE:=fun _ H Q=>Q v H
theorem U9 {i:Nat} {x:Str} {pos:Pos} (hN:X.N[i]? = some x) (hv:Vis X.env.scope x) (hd:(x == ("__debug__":Str)) = false:=by decide) (hcd:(x == ("__classdict__":Str)) = false:=by decide):PE X (.Name x pos) (tVar i):=by
 intro pins s σ H Q I h
 obtain ⟨v,e,h⟩:=h
 obtain ⟨m,hn,hl⟩:=I.loc
 obtain ⟨u,r,l⟩:=hl i x v hN e hv
 have fin:EP X pins σ Q u s:=⟨v,H,I,r,h⟩
 rcases l with ⟨hk,hm⟩ | ⟨hk,c,hc,hcell⟩
 ·exact wpAny_Name (wpAny_loadName_local I.ok.kind hk hn hm fin) hd
 ·rcases hk with hk | hk
  ·exact wpAny_Name (wpAny_loadName_cell I.ok.kind hk hc hcell fin) hd
  ·exact wpAny_Name (wpAny_loadName_free I.ok.kind hk hc hcell fin hcd) hd
theorem zd {i j pos}:PE X (.Constant (.int i) j pos) (tC (.int i)):=fun _ _ _ H _ I h=>wpAny_Constant_int ⟨.int i,H,I.tok _,⟨_,rfl⟩,h⟩
theorem vN {b j pos}:PE X (.Constant (.bool b) j pos) (tC (.bl b)):=fun _ _ _ H _ I h=>Constant_bool ⟨.bl b,H,I,rfl,h⟩
theorem rH {j pos}:PE X (.Constant .none j pos) (tC .non):=fun _ _ _ H _ I h=>Constant_none ⟨.non,H,I,rfl,h⟩
def Gl (X:Cx) (x:Str):Prop:=X.env.kindOf x = some .globalImplicit
theorem jk {E:VS7} {pins:List (Addr × Obj)} {s:Shared} {σ:St} {H:Hp} {x:Str} {u:Value} {pos:Pos} {Q:VS7} (I:Inv X pins σ H s) (hg:Gl X x) (hm:X.mg x = some u) (h:Q u s)
  (hd:(x == ("__debug__":Str)) = false:=by decide):wpAny (model X.prog X.w) X.A (eval (.Name x pos) X.env) Q E s :=
 Calls.Name_function_global I.ok.kind hg (Calls.loadGlobal_global (by rw [I.ok.glob]; exact I.mod.glob.keeps I.bk) hm h) hd
theorem wE {E:VS7} {pins:List (Addr × Obj)} {s:Shared} {σ:St} {H:Hp} {x:Str} {u:Value} {pos:Pos} {Q:VS7} (I:Inv X pins σ H s) (hg:Gl X x) (hm:X.mg x = none) (hv:bootBuiltins x = some u) (h:Q u s)
  (hn:x ≠ "__name__":=by decide) (hd:(x == ("__debug__":Str)) = false:=by decide):wpAny (model X.prog X.w) X.A (eval (.Name x pos) X.env) Q E s:=by
 obtain ⟨mb,h1,h2⟩:=I.mod.blt
 exact Calls.Name_function_global I.ok.kind hg (Calls.loadGlobal_builtin (by rw [I.ok.glob]; exact I.mod.glob.keeps I.bk) hm (by rw [I.ok.blt]; exact h1.keeps I.bk) ((h2 x hn).trans hv) h) hd
theorem va {x:Str} {v:V} {u:Value} {pos:Pos} (hg:Gl X x) (hm:X.mg x = some u) (r:RelV v u) (hd:(x == ("__debug__":Str)) = false:=by decide):PE X (.Name x pos) (tC v) :=
 fun _ _ _ H _ I h=>jk I hg hm ⟨v,H,I,r,h⟩ hd
theorem V0 {x:Str} {v:V} {u:Value} {pos:Pos} (hg:Gl X x) (hm:X.mg x = none) (hv:bootBuiltins x = some u) (r:RelV v u) (hn:x ≠ "__name__":=by decide) (hd:(x == ("__debug__":Str)) = false:=by decide):PE X (.Name x pos) (tC v) :=
 fun _ _ _ H _ I h=>wE I hg hm hv ⟨v,H,I,r,h⟩ hn hd
variable {a b:Expr} {ta tb:TE} {pos:Pos}
def PC (X:Cx) (op:CmpOp) (a b:Expr) (t:TE):Prop :=
 ∀ (pins:List (Addr × Obj)) (s:Shared) (σ:St) (H:Hp) (Q:VK),Inv X pins σ H s -> t σ H Q →
  wpAny (model X.prog X.w) X.A (eval a X.env) (fun v s₁=>wpAny (model X.prog X.w) X.A (eval b X.env) (fun u s₂=>wpAny (model X.prog X.w) X.A (compareOp op v u) (EP X pins σ Q) X.xe s₂) X.xe s₁) X.xe s
theorem Ze (b:Expr) {op:CmpOp} (h:op ≠ .In) (h2:op ≠ .NotIn):behindInMarks op b = false:=by
 have e1:(op == CmpOp.In) = false:=by cases op <;> first | rfl | exact absurd rfl h
 have e2:(op == CmpOp.NotIn) = false:=by cases op <;> first | rfl | exact absurd rfl h2
 cases b <;> simp [behindInMarks,e1,e2]
def tIsN (ta:TE):TE:=fun σ H Q=>ta σ H fun x H1=>Q (.bl (decide (x = .non))) H1
def Sq (ta:TE):TE:=fun σ H Q=>ta σ H fun x H1=>Q (.bl (!decide (x = .non))) H1
theorem RelV.none_iff {x:V} {v:Value} (r:RelV x v):(v == Value.none) = decide (x = .non):=by
 cases x with
 | non=>cases r; rfl
 | bl _=>cases r; rfl
 | int _=>obtain ⟨t,rfl⟩:=r; rfl
 | str _=>obtain ⟨t,rfl⟩:=r; rfl
 | byt _=>obtain ⟨t,rfl⟩:=r; rfl
 | flt _=>obtain ⟨t,rfl⟩:=r; rfl
 | ref _=>cases r; rfl
 | ty _=>cases r; rfl
theorem u4 {j pos'} (ha:PE X a ta):PC X .Is a (.Constant .none j pos') (tIsN ta):=by
 intro pins s σ H Q I h
 refine thn (ha pins s σ H _ I h) fun v s1 ⟨x,H1,I1,r1,q1⟩=>?_
 exact Constant_none (is_none_gen ⟨.bl _,H1,I1,by rw [r1.none_iff]; rfl,q1⟩)
theorem jl {j pos'} (ha:PE X a ta):PC X .IsNot a (.Constant .none j pos') (Sq ta):=by
 intro pins s σ H Q I h
 refine thn (ha pins s σ H _ I h) fun v s1 ⟨x,H1,I1,r1,q1⟩=>?_
 exact Constant_none (isnot_none_gen ⟨.bl _,H1,I1,by rw [r1.none_iff]; rfl,q1⟩)
def tB (t:TE):TT:=fun σ H Q=>t σ H fun x H1=>∃ c,x = .bl c /\ Q c H1
theorem Ta {op:CmpOp} {t:TE} (h:PC X op a b t) (h1:behindInMarks op b = false:=by first | exact Ze _ (by decide) (by decide) | rfl):PE X (.Compare a [op] [b] pos) t:=fun pins s σ H Q I hw=>wpAny_Compare1 (h pins s σ H Q I hw) h1
theorem vt {op:CmpOp} {t:TE} (h:PC X op a b t) (h1:behindInMarks op b = false:=by first | exact Ze _ (by decide) (by decide) | rfl):PT X (.Compare a [op] [b] pos) (tB t):=by
 intro pins s σ H Q I hw
 refine wpAny_isTrue_Compare1 (thn (h pins s σ H _ I hw) fun v s1 h1=>thn h1 fun u s2 h2=>thn h2 fun c s3 ⟨x,H1,I1,r1,q1⟩=>?_) h1
 obtain ⟨d,rfl,q⟩:=q1
 cases r1
 exact wpAny_truthy_bool ⟨H1,I1,q⟩
theorem yo {e:Expr} {t:TE} (h:PE X e t) (he:∀ whole,isTrue e X.env whole = (do let v ← whole; standAt e.pos; holding [v] (truthy v)):=by intro _; rfl):PT X e (tB t):=by
 intro pins s σ H Q I hw
 refine isTrue_plain (thn (h pins s σ H _ I hw) fun v s1 ⟨x,H1,I1,r1,q1⟩=>?_) (he _)
 obtain ⟨d,rfl,q⟩:=q1
 cases r1
 exact wpAny_truthy_bool ⟨H1,I1,q⟩
variable {tA tB':TT} {rest:List Expr}
def tAnd (t u:TT):TT:=fun σ H Q=>t σ H fun c H1=>if c = true then u σ H1 Q else Q false H1
def tOr (t u:TT):TT:=fun σ H Q=>t σ H fun c H1=>if c = true then Q true H1 else u σ H1 Q
def tNot (t:TT):TT:=fun σ H Q=>t σ H fun c H1=>Q (!c) H1
theorem xO (ha:PT X a tA):PW X (.BoolOp .And [a] pos) tA:=by
 intro wh pins s σ H Q I h
 refine isTrue_and (thn (ha pins s σ H Q I h) fun c s1 e=>?_)
 cases c with
 | true=>exact isTrue_and_nil e
 | false=>exact e
theorem wF (ha:PT X a tA):PW X (.BoolOp .Or [a] pos) tA:=by
 intro wh pins s σ H Q I h
 refine isTrue_or (thn (ha pins s σ H Q I h) fun c s1 e=>?_)
 cases c with
 | false=>exact isTrue_or_nil e
 | true=>exact e
theorem wG (ha:PT X a tA) (hb:PW X (.BoolOp .And (b :: rest) pos) tB'):PW X (.BoolOp .And (a :: b :: rest) pos) (tAnd tA tB'):=by
 intro wh pins s σ H Q I h
 refine isTrue_and (thn (ha pins s σ H _ I h) fun c s1 ⟨H1,I1,q1⟩=>?_)
 cases c with
 | true=>exact hb wh pins s1 σ H1 Q I1 q1
 | false=>exact ⟨H1,I1,q1⟩
theorem t7 (ha:PT X a tA) (hb:PW X (.BoolOp .Or (b :: rest) pos) tB'):PW X (.BoolOp .Or (a :: b :: rest) pos) (tOr tA tB'):=by
 intro wh pins s σ H Q I h
 refine isTrue_or (thn (ha pins s σ H _ I h) fun c s1 ⟨H1,I1,q1⟩=>?_)
 cases c with
 | true=>exact ⟨H1,I1,q1⟩
 | false=>exact hb wh pins s1 σ H1 Q I1 q1
theorem yw (ha:PT X a tA):PT X (.UnaryOp .Not a pos) (tNot tA):=by
 intro pins s σ H Q I h
 exact isTrue_not (ha pins s σ H (fun c H1=>Q (!c) H1) I h)
def Sr (ta tb:TE):TE:=fun σ H Q=>ta σ H fun x H1=>∃ c,x = .bl c /\ if c = true then tb σ H1 Q else Q (.bl false) H1
def tOrV (ta tb:TE):TE:=fun σ H Q=>ta σ H fun x H1=>∃ c,x = .bl c /\ if c = true then Q (.bl true) H1 else tb σ H1 Q
def Ss (ta:TE):TE:=fun σ H Q=>ta σ H fun x H1=>∃ c,x = .bl c /\ Q (.bl (!c)) H1
theorem wH {op} {t:TE} (h:PE X a t):PE X (.BoolOp op [a] pos) t:=fun pins s σ H Q I hw=>BoolOp_one (h pins s σ H Q I hw)
theorem vO (ha:PE X a ta) (hb:PE X (.BoolOp .And (b :: rest) pos) tb):PE X (.BoolOp .And (a :: b :: rest) pos) (Sr ta tb):=by
 intro pins s σ H Q I h
 refine BoolOp_and (thn (ha pins s σ H _ I h) fun v s1 ⟨x,H1,I1,r1,q1⟩=>?_)
 obtain ⟨c,rfl,q1⟩:=q1
 cases r1
 refine wpAny_truthy_bool ?_
 cases c with
 | true=>exact hb pins s1 σ H1 Q I1 q1
 | false=>exact ⟨.bl false,H1,I1,rfl,q1⟩
theorem V1 (ha:PE X a ta) (hb:PE X (.BoolOp .Or (b :: rest) pos) tb):PE X (.BoolOp .Or (a :: b :: rest) pos) (tOrV ta tb):=by
 intro pins s σ H Q I h
 refine BoolOp_or (thn (ha pins s σ H _ I h) fun v s1 ⟨x,H1,I1,r1,q1⟩=>?_)
 obtain ⟨c,rfl,q1⟩:=q1
 cases r1
 refine wpAny_truthy_bool ?_
 cases c with
 | false=>exact hb pins s1 σ H1 Q I1 q1
 | true=>exact ⟨.bl true,H1,I1,rfl,q1⟩
theorem Tb (ha:PE X a ta):PE X (.UnaryOp .Not a pos) (Ss ta):=by
 intro pins s σ H Q I h
 refine UnaryOp_ (thn (ha pins s σ H _ I h) fun v s1 ⟨x,H1,I1,r1,q1⟩=>?_)
 obtain ⟨c,rfl,q1⟩:=q1
 cases r1
 exact not_of (wpAny_truthy_bool ⟨.bl (!c),H1,I1,rfl,q1⟩)
def tIf (t:TT) (ta tb:TE):TE:=fun σ H Q=>t σ H fun c H1=>if c = true then ta σ H1 Q else tb σ H1 Q
theorem se {c:Expr} (hc:PT X c tA) (ha:PE X a ta) (hb:PE X b tb):PE X (.IfExp c a b pos) (tIf tA ta tb):=by
 intro pins s σ H Q I h
 refine wpAny_IfExp (thn (hc pins s σ H _ I h) fun d s1 ⟨H1,I1,q1⟩=>?_)
 cases d with
 | true=>exact ha pins s1 σ H1 Q I1 q1
 | false=>exact hb pins s1 σ H1 Q I1 q1
end
end L2
namespace L2
open PySem PySem.Spec PyProof.Rows
def SqL (K:FG7) (H:Hp) (a:Addr) (xs:List V):Prop :=
 Rd H a (.lst xs) ∨
  ∃ (o:Obj) (its:Array Value) (n:Nat),K.lookup a = some o /\ o.cls = .type "list" /\ o.dict = none /\ o.data = .seq its n /\ its.size <= sizeLine /\ Vals xs its.toList
def SqT (K:FG7) (H:Hp) (a:Addr) (xs:List V):Prop :=
 Rd H a (.tup xs) ∨
  ∃ (o:Obj) (its:Array Value) (n:Nat),K.lookup a = some o /\ o.cls = .type "tuple" /\ o.data = .seq its n /\ its.size <= sizeLine /\ Vals xs its.toList
def absV:Value -> Option V
 | .none=>some .non
 | .bool b=>some (.bl b)
 | .int i _=>some (.int i)
 | .str x _=>some (.str x)
 | .bytes b _=>some (.byt b)
 | .float b _=>some (.flt b)
 | .ref a=>some (.ref a)
 | .type n=>some (.ty n)
 | _=>none
theorem RelV.abs {x:V} {u:Value} (r:RelV x u):absV u = some x:=by
 cases x with
 | non=>cases r; rfl
 | bl _=>cases r; rfl
 | int _=>obtain ⟨t,rfl⟩:=r; rfl
 | str _=>obtain ⟨t,rfl⟩:=r; rfl
 | byt _=>obtain ⟨t,rfl⟩:=r; rfl
 | flt _=>obtain ⟨t,rfl⟩:=r; rfl
 | ref _=>cases r; rfl
 | ty _=>cases r; rfl
theorem RelV.inj {x y:V} {u:Value} (r:RelV x u) (q:RelV y u):x = y:=Option.some.inj (r.abs.symm.trans q.abs)
theorem Vals.inj:∀ {xs ys:List V} {us:List Value},Vals xs us -> Vals ys us -> xs = ys
 | _,_,_,.nil,.nil=>rfl
 | _,_,_,.cons r t,.cons r' t'=>by rw [r.inj r',Vals.inj t t']
section
variable {X:Cx} {pins:List (Addr × Obj)} {σ:St} {H:Hp} {s:Shared} {a:Addr} {xs ys:List V}
theorem SqL.of {K:FG7} (h:H a = some (.lst xs)):SqL K H a xs:=.inl (.inl h)
theorem SqT.of {K:FG7} (h:H a = some (.tup xs)):SqT K H a xs:=.inl (.inl h)
theorem Inv.list (I:Inv X pins σ H s) (h:SqL X.K H a xs):∃ its:List Value,Vals xs its /\ PlainL s.heap a its.toArray /\ xs.length <= sizeLine:=by
 rcases h with h | ⟨o,its,n,hk,hc,hd,hs,hz,r⟩
 ·obtain ⟨z,its,n,r,e⟩:=h.ok I.hok
  exact ⟨its,r,⟨_,n,e,rfl,rfl,rfl⟩,z⟩
 ·refine ⟨its.toList,r,⟨o,n,I.kIn a o hk,hc,hd,by simpa using hs⟩,?_⟩
  have e:=r.length
  simp only [Array.length_toList] at e
  omega
theorem Inv.tuple (I:Inv X pins σ H s) (h:SqT X.K H a xs):∃ its:List Value,Vals xs its /\ IsTup s.heap a its.toArray /\ xs.length <= sizeLine:=by
 rcases h with h | ⟨o,its,n,hk,hc,hs,hz,r⟩
 ·obtain ⟨z,its,r,p⟩:=h.ok I.hok
  exact ⟨its,r,p,z⟩
 ·refine ⟨its.toList,r,⟨o,I.kIn a o hk,hc,n,by simpa using hs⟩,?_⟩
  have e:=r.length
  simp only [Array.length_toList] at e
  omega
theorem Inv.list_inj (I:Inv X pins σ H s) (h:SqL X.K H a xs) (h':SqL X.K H a ys):xs = ys:=by
 obtain ⟨its,r,⟨o,n,e,_,_,d⟩,_⟩:=I.list h
 obtain ⟨its',r',⟨o',n',e',_,_,d'⟩,_⟩:=I.list h'
 rw [e] at e'; cases e'
 rw [d] at d'
 injection d' with d1 _
 have:its = its':=by simpa using congrArg Array.toList d1
 subst this
 exact r.inj r'
theorem Inv.tuple_inj (I:Inv X pins σ H s) (h:SqT X.K H a xs) (h':SqT X.K H a ys):xs = ys:=by
 obtain ⟨its,r,⟨o,e,_,n,d⟩,_⟩:=I.tuple h
 obtain ⟨its',r',⟨o',e',_,n',d'⟩,_⟩:=I.tuple h'
 rw [e] at e'; cases e'
 rw [d] at d'
 injection d' with d1 _
 have:its = its':=by simpa using congrArg Array.toList d1
 subst this
 exact r.inj r'
end
abbrev Cx.wish (X:Cx) (E:VS7):Cx:={ X with xe:=E }
abbrev Cx.nox (X:Cx):Cx:=X.wish fun _ _=>False
theorem Cx.Ok.wish {X:Cx} (ok:X.Ok) (E:VS7):(X.wish E).Ok :=
 ⟨ok.mod,ok.kind,ok.glob,ok.blt,ok.above,ok.inj,ok.has,ok.cab,ok.hd,ok.frames,ok.stk,ok.exf,ok.bs,ok.bsz,ok.noex,ok.exfs,ok.funs,ok.frf⟩
theorem Cx.Ok.unwish {X:Cx} {E:VS7} (ok:(X.wish E).Ok):X.Ok :=
 ⟨ok.mod,ok.kind,ok.glob,ok.blt,ok.above,ok.inj,ok.has,ok.cab,ok.hd,ok.frames,ok.stk,ok.exf,ok.bs,ok.bsz,ok.noex,ok.exfs,ok.funs,ok.frf⟩
section
variable {X:Cx} {pins:List (Addr × Obj)} {σ:St} {H:Hp} {s:Shared} {E:VS7}
theorem Inv.wish (I:Inv X pins σ H s) (E:VS7):Inv (X.wish E) pins σ H s:=⟨I.ok.wish E,I.os,I.bare,I.base,I.loc,I.cell,I.free,I.freeC,I.pin,I.hok,I.len⟩
theorem Inv.unwish (I:Inv (X.wish E) pins σ H s):Inv X pins σ H s:=⟨I.ok.unwish,I.os,I.bare,I.base,I.loc,I.cell,I.free,I.freeC,I.pin,I.hok,I.len⟩
theorem SP.unwish {D:Ends} {f:Flow} {s':Shared} (h:SP (X.wish E) pins D f s'):SP X pins D f s':=by
 cases f with
 | next=>obtain ⟨σ',H',I,q⟩:=h; exact ⟨σ',H',I.unwish,q⟩
 | brk=>obtain ⟨σ',H',I,q⟩:=h; exact ⟨σ',H',I.unwish,q⟩
 | cont=>obtain ⟨σ',H',I,q⟩:=h; exact ⟨σ',H',I.unwish,q⟩
 | ret u=>obtain ⟨v,σ',H',I,r,q⟩:=h; exact ⟨v,σ',H',I.unwish,r,q⟩
theorem PE.nox {e:Expr} {t:TE} (h:PE X.nox e t):PE X e t:=fun pins s σ H Q I hw =>
 wpAny_mono (h pins s σ H Q (I.wish _) hw) (fun _ _ ⟨v,H',I',r,q⟩=>⟨v,H',I'.unwish,r,q⟩) fun _ _ z=>False.elim z
theorem PT.nox {e:Expr} {t:TT} (h:PT X.nox e t):PT X e t:=fun pins s σ H Q I hw =>
 wpAny_mono (h pins s σ H Q (I.wish _) hw) (fun _ _ ⟨H',I',q⟩=>⟨H',I'.unwish,q⟩) fun _ _ z=>False.elim z
theorem PSs.nox {st:List Stmt} {t:TS} (h:PSs X.nox st t):PSs X st t:=fun pins s σ H D I hw =>
 wpAny_mono (h pins s σ H D (I.wish _) hw) (fun _ _ q=>q.unwish) fun _ _ z=>False.elim z
end
section
variable {X:Cx} {st:Stmt} {rest:List Stmt} {t u:TS} {e:Expr} {te:TE} {pos:Pos}
def Tc:TS:=fun D σ H=>D.nx σ H
def tSeq (t u:TS):TS:=fun D σ H=>t { D with nx:=u D } σ H
theorem zw:PSs X [] Tc:=fun _ _ σ H _ I h=>wpAny_execs_nil ⟨σ,H,I,h⟩
theorem zc (h1:PS X st t) (h2:PSs X rest u):PSs X (st :: rest) (tSeq t u):=by
 intro pins s σ H D I h
 refine wpAny_execs_cons (thn (h1 pins s σ H { D with nx:=u D } I h) fun f s1 q=>?_)
 cases f with
 | next =>
  obtain ⟨σ',H',I',q⟩:=q
  exact h2 pins s1 σ' H' D I' q
 | ret v=>exact q
 | brk=>exact q
 | cont=>exact q
theorem zi (h1:PS X st t):PSs X [st] t:=by
 intro pins s σ H D I h
 refine wpAny_execs_cons (thn (h1 pins s σ H D I h) fun f s1 q=>?_)
 cases f with
 | next=>exact wpAny_execs_nil q
 | ret v=>exact q
 | brk=>exact q
 | cont=>exact q
theorem Inv.quiet {pins:List (Addr × Obj)} {σ:St} {H:Hp} {s:Shared} (I:Inv X pins σ H s):interactive X.env = false:=by simp [interactive,I.ok.kind]
def Su (te:TE):TS:=fun D σ H=>te σ H fun _ H1=>D.nx σ H1
theorem zK (he:PE X e te) (hs:swapsWith e none pos.line X.env = pure false:=by rfl):PS X (.Expr e pos) (Su te):=by
 intro pins s σ H D I h
 exact wpAny_Expr_any (thn (he pins s σ H _ I h) fun v s1 ⟨x,H1,I1,r1,q1⟩=>⟨σ,H1,I1,q1⟩) I.quiet hs
def tRet (te:TE):TS:=fun D σ H=>te σ H D.rt
theorem zu (he:PE X e te):PS X (.Return (some e) pos) (tRet te):=by
 intro pins s σ H D I h
 exact wpAny_Return_some (thn (he pins s σ H _ I h) fun v s1 ⟨x,H1,I1,r1,q1⟩=>⟨x,σ,H1,I1,r1,q1⟩)
def Sv:TS:=fun D _ H=>D.rt .non H
theorem V2:PS X (.Return none pos) Sv:=fun _ _ σ H _ I h=>wpAny_Return_none ⟨.non,σ,H,I,rfl,h⟩
def tIfS (c:TT) (t u:TS):TS:=fun D σ H=>c σ H fun b H1=>if b = true then t D σ H1 else u D σ H1
theorem z9 {c:Expr} {a b:List Stmt} {tc:TT} (hc:PT X c tc) (ha:PSs X a t) (hb:PSs X b u):PS X (.If c a b pos) (tIfS tc t u):=by
 intro pins s σ H D I h
 refine wpAny_If (thn (hc pins s σ H _ I h) fun d s1 ⟨H1,I1,q1⟩=>?_)
 cases d with
 | true=>exact ha pins s1 σ H1 D I1 q1
 | false=>exact hb pins s1 σ H1 D I1 q1
def Td:TS:=fun _ _ _=>False
theorem yP:PS X st Td:=fun _ _ _ _ _ _ h=>h.elim
end
abbrev TG:=V -> St -> Hp -> (St -> Hp -> Prop) -> Prop
abbrev TGs:=List V -> St -> Hp -> (St -> Hp -> Prop) -> Prop
def PG (X:Cx) (target:Expr) (t:TG):Prop :=
 ∀ (pins:List (Addr × Obj)) (s:Shared) (σ:St) (H:Hp) (v:V) (u:Value) (Q:St -> Hp -> Prop),Inv X pins σ H s -> RelV v u -> t v σ H Q →
  wpAny (model X.prog X.w) X.A (assign target X.env u) (fun _ s'=>∃ σ' H',Inv X pins σ' H' s' /\ Q σ' H') X.xe s
def PGs (X:Cx) (ts:List Expr) (t:TGs):Prop :=
 ∀ (pins:List (Addr × Obj)) (s:Shared) (σ:St) (H:Hp) (vs:List V) (us:List Value) (Q:St -> Hp -> Prop),Inv X pins σ H s -> Vals vs us -> t vs σ H Q →
  wpAny (model X.prog X.w) X.A (assignInOrder ((assignEach ts X.env).map (·.2)) us) (fun _ s'=>∃ σ' H',Inv X pins σ' H' s' /\ Q σ' H') X.xe s
abbrev TSet:=V -> V -> V -> Hp -> (Hp -> Prop) -> Prop
def PSet (X:Cx) (t:TSet):Prop :=
 ∀ (pins:List (Addr × Obj)) (s:Shared) (σ:St) (H:Hp) (o i v:V) (ov iv u:Value) (Q:Hp -> Prop),Inv X pins σ H s -> RelV o ov -> RelV i iv -> RelV v u -> t o i v H Q →
  wpAny (model X.prog X.w) X.A (setItem ov iv u) (fun _ s'=>∃ H',Inv X pins σ H' s' /\ Q H') X.xe s
abbrev TIp:=V -> V -> Hp -> VK -> Prop
def PIp (X:Cx) (op:Operator) (t:TIp):Prop :=
 ∀ (pins:List (Addr × Obj)) (s:Shared) (σ:St) (H:Hp) (x y:V) (v u:Value) (Q:VK),Inv X pins σ H s -> RelV x v -> RelV y u -> t x y H Q →
  wpAny (model X.prog X.w) X.A (inplaceOp op v u) (EP X pins σ Q) X.xe s
section
variable {X:Cx} {pos:Pos}
def vb (i:Nat):TG:=fun v σ H Q=>Q (σ.set i (some v)) H
theorem zk {i:Nat} {x:Str} (hN:X.N.Nodup) (hi:X.N[i]? = some x) (hx:Loc X.env.scope x) (hf:X.fn x = true \/ X.env.scope.names.lookup x = some .local :=by first | exact .inl rfl | exact .inr rfl | assumption):PG X (.Name x pos) (vb i):=by
 intro pins s σ H v u Q I r h
 exact wpAny_assign_Name (Zd I hN hi hx r (fun s' I'=>⟨_,H,I',h⟩) hf)
def gNil:TGs:=fun vs σ H Q=>vs = [] /\ Q σ H
def Sw (t:TG) (u:TGs):TGs:=fun vs σ H Q=>∃ v r,vs = v :: r /\ t v σ H fun σ' H'=>u r σ' H' Q
theorem yn:PGs X [] gNil:=by
 intro pins s σ H vs us Q I r h
 obtain ⟨e,h⟩:=h
 subst e
 cases r
 exact assignInOrder_nil ⟨σ,H,I,h⟩
theorem zo {e:Expr} {es:List Expr} {t:TG} {u:TGs} (h1:PG X e t) (h2:PGs X es u)
  (hs:(assignEach (e :: es) X.env).map (·.2) = assign e X.env :: (assignEach es X.env).map (·.2):=by rfl):PGs X (e :: es) (Sw t u):=by
 intro pins s σ H vs us Q I r h
 obtain ⟨v,vr,e1,h⟩:=h
 subst e1
 cases r with
 | cons r rr =>
  rw [hs]
  refine assignInOrder_cons (thn (h1 pins s σ H _ _ _ I r h) fun _ s1 ⟨σ1,H1,I1,q1⟩=>?_)
  exact h2 pins s1 σ1 H1 _ _ Q I1 rr q1
def gTup (K:FG7) (n:Nat) (t:TGs):TG:=fun v σ H Q=>∃ a xs,v = .ref a /\ SqT K H a xs /\ xs.length = n /\ t xs σ H Q
theorem xJ {es:List Expr} {k:Nat} {t:TGs} {n:Nat} (hc:X.calm = true) (h:PGs X es t)
  (hn:(assignEach es X.env).length = n:=by rfl) (hst:(assignEach es X.env).findIdx? (·.1) = none:=by rfl):PG X (.Tuple es k pos) (gTup X.K n t):=by
 intro pins s σ H v u Q I r hw
 obtain ⟨a,xs,e1,hq,hl,hw⟩:=hw
 subst e1
 cases r
 obtain ⟨its,rv,ht,hz⟩:=I.tuple hq
 refine assign_Tuple_tuple (I.ok.hd hc) ht (by simp [hn,← hl,rv.length]) hst fun h' hx=>?_
 have I1:Inv X pins σ H { s with heap:=h' }:=I.kept (t':=s.toks) fun b o e=>hx b o (Nat.ne_of_lt (Heap.lt_size e)) e
 exact h pins _ σ H xs _ Q I1 (by simpa using rv) hw
def gSub (to ti:TE) (t:TSet):TG:=fun v σ H Q=>to σ H fun o H1=>ti σ H1 fun i H2=>t o i v H2 fun H3=>Q σ H3
theorem Zf {o i:Expr} {to ti:TE} {t:TSet} (ho:PE X o to) (hi:PE X i ti) (hs:PSet X t)
  (ha:∀ v,assign (.Subscript o i pos) X.env v = (do
   let ov ← holding [v] (eval o X.env)
   let iv ← holding [v,ov] (eval i X.env)
   standAt pos
   holding [v,ov,iv] (setItem ov iv v)
   release [v,ov,iv] []):=by intro _; rfl):PG X (.Subscript o i pos) (gSub to ti t):=by
 intro pins s σ H v u Q I r h
 rw [ha]
 refine wpAny_bind (wpAny_holding (thn (ho pins s σ H _ I h) fun ov s1 ⟨x,H1,I1,r1,q1⟩=>?_))
 refine wpAny_bind (wpAny_holding (thn (hi pins s1 σ H1 _ I1 q1) fun iv s2 ⟨y,H2,I2,r2,q2⟩=>?_))
 refine wpAny_bind (wpAny_standAt (wpAny_bind (wpAny_holding (thn (hs pins s2 σ H2 x y v ov iv u _ I2 r1 r2 r q2) fun _ s3 ⟨H3,I3,q3⟩=>?_))))
 exact wpAny_release ⟨σ,H3,I3,q3⟩
def tAsg (te:TE) (g:TG):TS:=fun D σ H=>te σ H fun x H1=>g x σ H1 D.nx
theorem xK {tg e:Expr} {te:TE} {g:TG} (he:PE X e te) (hg:PG X tg g) (hs:swapsWithSole [tg] e pos.line X.env = pure false:=by rfl) (hw:swappedStores [tg] e X.env = pure none:=by rfl)
  (h1:(assignEach [tg] X.env).map (·.2) = [assign tg X.env]:=by rfl):PS X (.Assign [tg] e pos) (tAsg te g):=by
 intro pins s σ H D I h
 refine wpAny_Assign_stores (thn (he pins s σ H _ I h) fun v s1 ⟨x,H1,I1,r1,q1⟩=>?_) hs hw
 rw [h1]
 exact thn (hg pins s1 σ H1 x v _ I1 r1 q1) fun _ s2 q=>q
theorem zG {i:Nat} {x:Str} {e:Expr} {te:TE} {pos':Pos} (hN:X.N.Nodup) (hi:X.N[i]? = some x) (hx:Loc X.env.scope x) (he:PE X e te) (hs:swapsWith e (some (.Name x pos')) pos.line X.env = pure false:=by rfl) (hf:X.fn x = true \/ X.env.scope.names.lookup x = some .local :=by first | exact .inl rfl | exact .inr rfl | assumption) :
  PS X (.Assign [.Name x pos'] e pos) (tAsg te (vb i)):=by
 intro pins s σ H D I h
 refine wpAny_Assign_Name (thn (he pins s σ H _ I h) fun v s1 ⟨y,H1,I1,r1,q1⟩=>?_) hs
 exact Zd I1 hN hi hx r1 (fun s2 I2=>⟨_,H1,I2,q1⟩) hf
def ipI (f:Int -> Int -> Int):TIp:=fun x y H Q=>∃ i j,x = .int i /\ y = .int j /\ Q (.int (f i j)) H
theorem Vu:PIp X .Add (ipI fun i j=>i + j):=by
 intro pins s σ H x y v u Q I r1 r2 h
 obtain ⟨i,j,e1,e2,q⟩:=h
 subst e1; subst e2
 obtain ⟨t,rfl⟩:=r1
 obtain ⟨t',rfl⟩:=r2
 exact iadd_int ⟨.int _,H,I.tok _,⟨_,rfl⟩,q⟩
theorem Te:PIp X .Sub (ipI fun i j=>i - j):=by
 intro pins s σ H x y v u Q I r1 r2 h
 obtain ⟨i,j,e1,e2,q⟩:=h
 subst e1; subst e2
 obtain ⟨t,rfl⟩:=r1
 obtain ⟨t',rfl⟩:=r2
 exact isub_int ⟨.int _,H,I.tok _,⟨_,rfl⟩,q⟩
end
structure It where
 go:Nat -> Hp -> Prop
 yld:Nat -> Hp -> V -> Hp -> Prop
 stop:Nat -> Hp -> Prop
def FpOk (X:Cx) (pins:List (Addr × Obj)) (H:Hp) (b:Addr):Prop :=
 H b = none /\ b ≠ X.env.locals /\ b ∉ X.fs /\ (b ∈ X.ex \/ X.s₀.heap.objs.size <= b) /\ (∀ x c,X.env.cells.lookup x = some c -> c ≠ b) /\ ∀ p ∈ X.pn ++ pins,p.1 ≠ b
theorem Inv.fpOk {X:Cx} {pins:List (Addr × Obj)} {σ:St} {H H':Hp} {s:Shared} {b:Addr} (I:Inv X pins σ H s) (hb:s.heap.objs.size <= b) (hn:H' b = none):FpOk X pins H' b:=by
 refine ⟨hn,Nat.ne_of_gt (Nat.lt_of_lt_of_le I.lt hb),I.nofs hb,.inr (Nat.le_trans I.sz hb),fun x c e z=>?_,fun p hp z=>?_⟩
 ·obtain ⟨v,q⟩:=I.cell x c e
  exact absurd (Nat.lt_of_lt_of_le q.lt (by rw [z]; exact hb)) (Nat.lt_irrefl _)
 ·exact absurd (Nat.lt_of_lt_of_le (Heap.lt_size (I.pin p hp).1) (by rw [z]; exact hb)) (Nat.lt_irrefl _)
structure Turn (P:Program) (w:World) (K:FG7) (tg:Expr) (J:It) (fp:List Addr) (it:Addr) (tn:Nat -> Heap -> Prop):Prop where
 mem:it ∈ fp
 obj:∀ i h,tn i h -> ∀ b ∈ fp,∃ o,h.get? b = some o /\ ∀ v,o.data ≠ .cell v
 keep:∀ i h h',tn i h -> (∀ b ∈ fp,∀ o,h.get? b = some o -> h'.get? b = some o) -> tn i h'
 item:∀ (X:Cx),X.prog = P -> X.w = w -> X.K = K -> X.calm = true -> ∀ (i:Nat) (pins:List (Addr × Obj)) (s:Shared) (σ:St) (H:Hp) (E:VS7),Inv X pins σ H s -> (∀ b ∈ fp,FpOk X pins H b) -> tn i s.heap -> J.go i H →
  wpAny (model P w) X.A (pyNext (.ref it)) (fun r s1=>∃ u,r = some u ∧
   wpAny (model P w) X.A (letOwnedTupleGo tg (.ref it) u) (fun _ s2=>∃ x H',Inv X pins σ H' s2 /\ RelV x u /\ J.yld i H x H' /\ tn (i + 1) s2.heap /\ ∀ b ∈ fp,H' b = none) E s1) E s
 done:∀ (X:Cx),X.prog = P -> X.w = w -> X.K = K -> X.calm = true -> ∀ (i:Nat) (pins:List (Addr × Obj)) (s:Shared) (σ:St) (H:Hp) (E:VS7),Inv X pins σ H s -> (∀ b ∈ fp,FpOk X pins H b) -> tn i s.heap -> J.stop i H →
  wpAny (model P w) X.A (pyNext (.ref it)) (fun r s1=>r = none /\ Inv X pins σ H s1) E s
 self:∀ (A:Around) (i:Nat) (s:Shared) (Q:VS7) (E:VS7),tn i s.heap -> Q (.ref it) s -> wpAny (model P w) A (pyIter (.ref it)) Q E s
abbrev TI:=St -> Hp -> (It -> Hp -> Prop) -> Prop
def PIE (X:Cx) (pins:List (Addr × Obj)) (σ:St) (tg:Expr) (R:It -> Hp -> Prop) (itv:Value) (s2:Shared):Prop :=
 ∃ (it:Addr) (fp:List Addr) (tn:Nat -> Heap -> Prop) (J:It) (H':Hp),itv = .ref it /\ Inv X pins σ H' s2 /\ Turn X.prog X.w X.K tg J fp it tn /\ tn 0 s2.heap /\ (∀ b ∈ fp,FpOk X pins H' b) /\ R J H'
def PI (X:Cx) (tg iter:Expr) (wi:TI):Prop :=
 ∀ (pins:List (Addr × Obj)) (s:Shared) (σ:St) (H:Hp) (R:It -> Hp -> Prop),Inv X pins σ H s -> wi σ H R →
  wpAny (model X.prog X.w) X.A (eval iter X.env) (fun v s1=>wpAny (model X.prog X.w) X.A (pyIter v) (PIE X pins σ tg R) X.xe s1) X.xe s
theorem Wv {M:Model} {A:Around} {E:VS7} {s:Shared} {tg:Expr} {it:Addr} {u:Value} {o:Obj} {n:String} {vs:Array Value} {Q:Unit -> Shared -> Prop} (ho:s.heap.get? it = some o) (hc:o.cls = .type n) (hd:o.data = .fields vs)
    (hn:["enumerate","zip","dict_itemiterator","dict_reverseitemiterator","odict_iterator","itertools.zip_longest","itertools.pairwise"].contains n = false) (hQ:Q () s):wpAny M A (letOwnedTupleGo tg (.ref it) u) Q E s:=by
  unfold letOwnedTupleGo
  cases tg <;> first
    | exact wpAny_pure hQ
    | (cases u <;> first
        | exact wpAny_pure hQ
        | (refine wpAny_bind (wpAny_load ho ?_)
           rw [hc,hd]
           show wpAny M A (if (["enumerate","zip","dict_itemiterator","dict_reverseitemiterator","odict_iterator","itertools.zip_longest","itertools.pairwise"].contains n && vs[0]? == some (rawInt _)) = true then _ else _) Q E s
           rw [if_neg (by intro h; rw [hn,Bool.false_and] at h; cases h)]
           exact wpAny_pure hQ))
def Itl (K:FG7) (a:Addr):It :=
 ⟨fun i H=>∃ xs x,SqL K H a xs /\ xs[i]? = some x,fun i H x H'=>H' = H /\ ∀ xs,SqL K H a xs -> xs[i]? = some x,fun i H=>∃ xs,SqL K H a xs /\ xs.length <= i⟩
def Itt (K:FG7) (a:Addr):It :=
 ⟨fun i H=>∃ xs x,SqT K H a xs /\ xs[i]? = some x,fun i H x H'=>H' = H /\ ∀ xs,SqT K H a xs -> xs[i]? = some x,fun i H=>∃ xs,SqT K H a xs /\ xs.length <= i⟩
def Itr (lo:Int) (n:Nat):It:=⟨fun i _=>i < n,fun i H x H'=>H' = H /\ x = .int (lo + i),fun i _=>n <= i⟩
theorem rJ {P:Program} {w:World} {K:FG7} {tg:Expr} (a it:Addr):Turn P w K tg (Itl K a) [it] it (fun i h=>h.IsListIter it a i) where
 mem:=by simp
 obj:=fun i h st b hb=>by
  have e:b = it:=by simpa using hb
  subst e
  obtain ⟨o,e,c,d⟩:=st
  exact ⟨o,e,fun v z=>by rw [d] at z; cases z⟩
 keep:=fun i h h' st k=>st.at fun o e=>k it (by simp) o e
 item:=by
  intro X hP hw hK hc i pins s σ H E I hf st hg
  subst hP hw hK
  obtain ⟨xs,x,hq,hx⟩:=hg
  obtain ⟨its,rv,p,hz⟩:=I.list hq
  obtain ⟨u,hu,ru⟩:=rv.get hx
  obtain ⟨f0,f1,f2,f3,f4,f5⟩:=hf it (by simp)
  refine wpAny_pyNext_list_item st p.isList (x:=u) (by simpa using hu) fun h' st' sb=>?_
  have I1:Inv X pins σ H { s with heap:=h' }:=I.turned (t':=s.toks) (fun b o hb e=>(sb.2 b hb).trans e) f0 f1 f3 f4 f5
  obtain ⟨o,e,c,d⟩:=id st'
  exact ⟨u,rfl,Wv (s:={ s with heap:=h' }) e c d (by decide) ⟨x,H,I1,ru,⟨rfl,fun ys hy=>by rw [I.list_inj hy hq]; exact hx⟩,st',fun b hb=>(hf b hb).1⟩⟩
 done:=by
  intro X hP hw hK hc i pins s σ H E I hf st hg
  subst hP hw hK
  obtain ⟨xs,hq,hx⟩:=hg
  obtain ⟨its,rv,p,hz⟩:=I.list hq
  obtain ⟨f0,f1,f2,f3,f4,f5⟩:=hf it (by simp)
  have hl:=rv.length
  exact wpAny_pyNext_list_end (I.ok.hd hc) st p.isList (by simp; omega) fun h' eb=>⟨rfl,I.turned (t':=s.toks) (fun b o hb e=>eb b o hb e) f0 f1 f3 f4 f5⟩
 self:=fun _ _ _ _ _ st h=>wpAny_pyIter_listiter st h
theorem u5 {P:Program} {w:World} {K:FG7} {tg:Expr} (a it:Addr):Turn P w K tg (Itt K a) [it] it (fun i h=>h.IsTupleIter it a i) where
 mem:=by simp
 obj:=fun i h st b hb=>by
  have e:b = it:=by simpa using hb
  subst e
  obtain ⟨o,e,c,d⟩:=st
  exact ⟨o,e,fun v z=>by rw [d] at z; cases z⟩
 keep:=fun i h h' st k=>st.at fun o e=>k it (by simp) o e
 item:=by
  intro X hP hw hK hc i pins s σ H E I hf st hg
  subst hP hw hK
  obtain ⟨xs,x,hq,hx⟩:=hg
  obtain ⟨its,rv,p,hz⟩:=I.tuple hq
  obtain ⟨u,hu,ru⟩:=rv.get hx
  obtain ⟨f0,f1,f2,f3,f4,f5⟩:=hf it (by simp)
  refine wpAny_pyNext_tuple_item st (show s.heap.IsTuple a its.toArray from p) (x:=u) (by simpa using hu) fun h' st' sb=>?_
  have I1:Inv X pins σ H { s with heap:=h' }:=I.turned (t':=s.toks) (fun b o hb e=>(sb.2 b hb).trans e) f0 f1 f3 f4 f5
  obtain ⟨o,e,c,d⟩:=id st'
  exact ⟨u,rfl,Wv (s:={ s with heap:=h' }) e c d (by decide) ⟨x,H,I1,ru,⟨rfl,fun ys hy=>by rw [I.tuple_inj hy hq]; exact hx⟩,st',fun b hb=>(hf b hb).1⟩⟩
 done:=by
  intro X hP hw hK hc i pins s σ H E I hf st hg
  subst hP hw hK
  obtain ⟨xs,hq,hx⟩:=hg
  obtain ⟨its,rv,p,hz⟩:=I.tuple hq
  obtain ⟨f0,f1,f2,f3,f4,f5⟩:=hf it (by simp)
  have hl:=rv.length
  exact wpAny_pyNext_tuple_end (I.ok.hd hc) st (show s.heap.IsTuple a its.toArray from p) (by simp; omega) fun h' eb=>⟨rfl,I.turned (t':=s.toks) (fun b o hb e=>eb b o hb e) f0 f1 f3 f4 f5⟩
 self:=fun _ _ _ _ _ st h=>wpAny_pyIter_tupleiter st h
theorem ZV {P:Program} {w:World} {K:FG7} {tg:Expr} (it:Addr) (lo:Int) (n:Nat):Turn P w K tg (Itr lo n) [it] it (fun i h=>IsRangeIter h it (lo + (i:Nat) * 1) ((n:Int) - (i:Nat)) 1) where
 mem:=by simp
 obj:=fun i h st b hb=>by
  have e:b = it:=by simpa using hb
  subst e
  exact ⟨_,st,fun v z=>by
   have z':Data.fields _ = Data.cell v:=z
   cases z'⟩
 keep:=fun i h h' st k=>k it (by simp) _ st
 item:=by
  intro X hP hw hK hc i pins s σ H E I hf st hg
  subst hP hw hK
  obtain ⟨f0,f1,f2,f3,f4,f5⟩:=hf it (by simp)
  have W:=Walks.range (prog:=X.prog) (w:=X.w) (I.ok.hd hc) it lo 1 n
  refine W.item i s _ _ hg st fun v h' tk hv st' kk=>?_
  obtain ⟨t,rfl⟩:=hv
  have I1:Inv X pins σ H { s with heap:=h',toks:=tk }:=I.turned (fun b o hb e=>kk b o (by simpa using hb) e) f0 f1 f3 f4 f5
  refine ⟨_,rfl,Wv (s:={ s with heap:=h',toks:=tk }) (n:="range_iterator") st' rfl rfl (by decide) ⟨.int (lo + i),H,I1,⟨t,?_⟩,⟨rfl,rfl⟩,st',fun b hb=>(hf b hb).1⟩⟩
  rw [Int.mul_one]
 done:=by
  intro X hP hw hK hc i pins s σ H E I hf st hg
  subst hP hw hK
  obtain ⟨f0,f1,f2,f3,f4,f5⟩:=hf it (by simp)
  exact wpAny_pyNext_range_end (I.ok.hd hc) st (by have:n <= i:=hg; omega) fun h' eb=>⟨rfl,I.turned (t':=s.toks) (fun b o hb e=>eb b o hb e) f0 f1 f3 f4 f5⟩
 self:=fun _ _ _ _ _ st h=>wpAny_pyIter_rangeiter st h
end L2
namespace L2
open PySem PySem.Spec PyProof.Rows
section
variable {X:Cx} {tg:Expr}
def Sx (K:FG7) (tl:TE):TI:=fun σ H R=>tl σ H fun x H1=>∃ a,x = .ref a /\ (∃ xs,SqL K H1 a xs) /\ R (Itl K a) H1
def iTup (K:FG7) (tl:TE):TI:=fun σ H R=>tl σ H fun x H1=>∃ a,x = .ref a /\ (∃ xs,SqT K H1 a xs) /\ R (Itt K a) H1
theorem vP {l:Expr} {tl:TE} (hl:PE X l tl):PI X tg l (Sx X.K tl):=by
 intro pins s σ H R I h
 refine thn (hl pins s σ H _ I h) fun v s1 ⟨x,H1,I1,r1,q1⟩=>?_
 obtain ⟨a,e,⟨xs,hq⟩,q⟩:=q1
 subst e
 cases r1
 obtain ⟨its,rv,p,hz⟩:=I1.list hq
 refine wpAny_pyIter_list p.isList ?_
 refine ⟨s1.heap.objs.size,[s1.heap.objs.size],_,_,H1,rfl,I1.kept (t':=s1.toks) fun b o e=>Heap.get?_push_of_some _ e,rJ a _,⟨_,Heap.get?_push_size _ rfl,rfl,rfl⟩,fun b hb=>?_,q⟩
 have e:b = s1.heap.objs.size:=by simpa using hb
 subst e
 exact I1.fpOk (Nat.le_refl _) (I1.hok.fresh (Nat.le_refl _))
theorem rK {l:Expr} {tl:TE} (hl:PE X l tl):PI X tg l (iTup X.K tl):=by
 intro pins s σ H R I h
 refine thn (hl pins s σ H _ I h) fun v s1 ⟨x,H1,I1,r1,q1⟩=>?_
 obtain ⟨a,e,⟨xs,hq⟩,q⟩:=q1
 subst e
 cases r1
 obtain ⟨its,rv,p,hz⟩:=I1.tuple hq
 refine wpAny_pyIter_tuple (show s1.heap.IsTuple a its.toArray from p) ?_
 refine ⟨s1.heap.objs.size,[s1.heap.objs.size],_,_,H1,rfl,I1.kept (t':=s1.toks) fun b o e=>Heap.get?_push_of_some _ e,u5 a _,⟨_,Heap.get?_push_size _ rfl,rfl,rfl⟩,fun b hb=>?_,q⟩
 have e:b = s1.heap.objs.size:=by simpa using hb
 subst e
 exact I1.fpOk (Nat.le_refl _) (I1.hok.fresh (Nat.le_refl _))
theorem Zg {pins:List (Addr × Obj)} {σ:St} {H:Hp} {s:Shared} {R:It -> Hp -> Prop} {E:VS7} {lo hi:Int} {t u v:Tok} {tk:Nat} (I:Inv X pins σ H s) (h1:-(2 ^ 62) <= lo) (h2:lo < 2 ^ 62) (h3:-(2 ^ 62) <= hi) (h4:hi < 2 ^ 62)
  (q:R (Itr lo (hi - lo).toNat) H):wpAny (model X.prog X.w) X.A (pyIter (.ref s.heap.objs.size)) (PIE X pins σ tg R) E { s with heap:=s.heap.push { cls:=.type "range",data:=.fields #[.int lo t,.int hi u,.int 1 v] },toks:=tk }:=by
 refine wpAny_pyIter_range (IsRange.new ..) (small_one h1 h2 h3 h4) ?_
 have I1:Inv X pins σ H { s with heap:=s.heap.push { cls:=.type "range",data:=.fields #[.int lo t,.int hi u,.int 1 v] },toks:=tk }:=I.kept fun b o e=>Heap.get?_push_of_some _ e
 refine ⟨(s.heap.push { cls:=.type "range",data:=.fields #[.int lo t,.int hi u,.int 1 v] }).objs.size,[(s.heap.push { cls:=.type "range",data:=.fields #[.int lo t,.int hi u,.int 1 v] }).objs.size],_,_,H,rfl,
  I1.kept (t':=tk) fun b o e=>Heap.get?_push_of_some _ e,ZV _ lo (hi - lo).toNat,?_,fun b hb=>?_,q⟩
 ·have e1:lo + ((0:Nat):Int) * 1 = lo:=by simp
  have e2:(((hi - lo).toNat:Nat):Int) - ((0:Nat):Int) = Builtin.Range.rangeSize lo hi 1:=by rw [rangeSize_one]; split <;> omega
  show IsRangeIter _ _ (lo + ((0:Nat):Int) * 1) ((((hi - lo).toNat:Nat):Int) - ((0:Nat):Int)) 1
  rw [e1,e2]
  exact Heap.get?_push_size _ rfl
 ·have e:b = (s.heap.push { cls:=.type "range",data:=.fields #[.int lo t,.int hi u,.int 1 v] }).objs.size:=by simpa using hb
  subst e
  exact I1.fpOk (Nat.le_refl _) (I1.hok.fresh (Nat.le_refl _))
def Sy (ta:TA):TI:=fun σ H R=>ta σ H fun vs H1=>∃ j:Int,vs = [.int j] /\ -(2 ^ 62) <= j /\ j < 2 ^ 62 /\ R (Itr 0 j.toNat) H1
def Sz (ta:TA):TI:=fun σ H R=>ta σ H fun vs H1=>∃ i j:Int,vs = [.int i,.int j] /\ (-(2 ^ 62) <= i /\ i < 2 ^ 62 /\ -(2 ^ 62) <= j /\ j < 2 ^ 62) /\ R (Itr i (j - i).toNat) H1
theorem zM {a:Expr} {ta:TA} {p pos:Pos} (hg:Gl X "range") (hm:X.mg "range" = none) (ha:PA X [a] ta) (hs:starEach [a] X.env = [(false,eval a X.env)]:=by rfl):PI X tg (.Call (.Name "range" p) [a] [] pos) (Sy ta):=by
 intro pins s σ H R I h
 refine Call_ (wE I hg hm boot_range (PyProof.Rows.callWith_type1 (thn (ha pos pins s σ H _ I h) fun us s1 ⟨vs,H1,I1,r1,q1⟩=>?_) hs rfl))
 obtain ⟨j,e,q1,q2,q⟩:=q1
 subst e
 cases r1 with
 | cons r rr =>
  cases rr
  obtain ⟨t,rfl⟩:=r
  exact call_range_1 (Zg I1 (by omega) (by omega) q1 q2 (by simpa using q))
theorem vQ {a b:Expr} {ta:TA} {p pos:Pos} (hg:Gl X "range") (hm:X.mg "range" = none) (ha:PA X [a,b] ta) (hs:starEach [a,b] X.env = [(false,eval a X.env),(false,eval b X.env)]:=by rfl) (hs2:starEach [b] X.env = [(false,eval b X.env)]:=by rfl) :
  PI X tg (.Call (.Name "range" p) [a,b] [] pos) (Sz ta):=by
 intro pins s σ H R I h
 refine Call_ (wE I hg hm boot_range (PyProof.Rows.callWith_type1 (thn (ha pos pins s σ H _ I h) fun us s1 ⟨vs,H1,I1,r1,q1⟩=>?_) (by rw [hs,hs2]) (by rw [hs2]; rfl)))
 obtain ⟨i,j,e,⟨q1,q2,q3,q4⟩,q⟩:=q1
 subst e
 cases r1 with
 | cons r rr =>
  cases rr with
  | cons r' rr =>
   cases rr
   obtain ⟨t,rfl⟩:=r
   obtain ⟨t',rfl⟩:=r'
   exact call_range_2 (Zg I1 q1 q2 q3 q4 q)
def tFor (wi:TI) (g:TG) (tb:TS):TS:=fun D σ H=>wi σ H fun J H1=>∃ W:Nat -> Nat -> St -> Hp -> Prop,(∃ m,W 0 m σ H1) /\ ∀ i m σ H,W i m σ H →
 (J.stop i H /\ D.nx σ H) \/ (J.go i H /\ ∃ N:St -> Hp -> Prop,(∀ σ' H',N σ' H' -> ∃ m',m' < m /\ W (i + 1) m' σ' H') /\ ∀ x H',J.yld i H x H' -> g x σ H' fun σ2 H2=>tb { D with nx:=N,ct:=N,bk:=D.nx } σ2 H2)
def wI (fp:List Addr) (h:Heap):List (Addr × Obj):=fp.filterMap fun b=>(h.get? b).map fun o=>(b,o)
theorem yx {fp:List Addr} {h:Heap} {b:Addr} {o:Obj} (hb:b ∈ fp) (e:h.get? b = some o):(b,o) ∈ wI fp h:=List.mem_filterMap.mpr ⟨b,hb,by rw [e]; rfl⟩
theorem YS {fp:List Addr} {h:Heap} {p:Addr × Obj} (hp:p ∈ wI fp h):p.1 ∈ fp /\ h.get? p.1 = some p.2:=by
 obtain ⟨b,hb,e⟩:=List.mem_filterMap.mp hp
 cases q:h.get? b with
 | none=>rw [q] at e; cases e
 | some o =>
  rw [q] at e
  have e':(b,o) = p:=Option.some.inj e
  subst e'
  exact ⟨hb,q⟩
theorem Inv.pinned {pins:List (Addr × Obj)} {σ:St} {H:Hp} {s:Shared} {fp:List Addr} (I:Inv X pins σ H s) (hf:∀ b ∈ fp,FpOk X pins H b) (ho:∀ b ∈ fp,∃ o,s.heap.get? b = some o /\ ∀ v,o.data ≠ .cell v):Inv X (pins ++ wI fp s.heap) σ H s :=
 I.pins_of fun p hp=>(List.mem_append.mp hp).elim (fun z=>I.pin p (List.mem_append_right _ z)) fun z=>by
  obtain ⟨hb,e⟩:=YS z
  obtain ⟨f0,f1,f2,_⟩:=hf p.1 hb
  obtain ⟨o,e',d⟩:=ho p.1 hb
  rw [e] at e'; cases e'
  exact ⟨e,f0,f1,f2,d⟩
theorem Inv.unpinned {pins pl:List (Addr × Obj)} {σ:St} {H:Hp} {s:Shared} (I:Inv X (pins ++ pl) σ H s):Inv X pins σ H s:=I.pins_of fun p hp=>I.pin p (List.mem_append_right _ (List.mem_append_left _ hp))
theorem yG {iter:Expr} {body:List Stmt} {wi:TI} {g:TG} {tb:TS} {pos:Pos} (hp:PassesOwn (model X.prog X.w) X.A X.env X.xe) (hc:X.calm = true) (hi:PI X tg iter wi) (hg:PG X tg g) (hb:PSs X body tb)
  (hs:∀ x,foldedSetIterable iter X.env x = pure x:=by intro _; rfl):PS X (.For tg iter body [] pos) (tFor wi g tb):=by
 intro pins s σ H D I h
 refine wpAny_For (thn (hi pins s σ H _ I h) fun v s1 h1=>thn h1 fun itv s2 h2=>?_) hs
 obtain ⟨it,fp,tn,J,H2,e,I2,T,st2,f2,W,⟨m0,w0⟩,turn⟩:=h2
 subst e
 -- what stays true of the iterator's objects through the loop
 have stat:∀ {H':Hp},(∀ b ∈ fp,H' b = none) -> ∀ b ∈ fp,FpOk X pins H' b:=fun hn b hb=>⟨hn b hb,(f2 b hb).2⟩
 refine codeAny_forLoop_any (fun n s'=>∃ i σ' H',Inv X pins σ' H' s' /\ tn i s'.heap /\ (∀ b ∈ fp,H' b = none) /\ W i n σ' H') ?_ m0 ⟨0,σ,H2,I2,st2,fun b hb=>(f2 b hb).1,w0⟩
 rintro n s3 ⟨i,σ3,H3,I3,st3,fr3,w3⟩
 rcases turn i n σ3 H3 w3 with ⟨stop,qn⟩ | ⟨go,N,hN,step⟩
 ·refine wpAny_passesOwn hp (thn (T.done X rfl rfl rfl hc i pins s3 σ3 H3 X.xe I3 (stat fr3) st3 stop) fun r s4 ⟨hr,I4⟩=>?_)
  subst hr
  exact wpAny_execs_nil ⟨σ3,H3,I4,qn⟩
 ·refine wpAny_passesOwn hp (thn (T.item X rfl rfl rfl hc i pins s3 σ3 H3 X.xe I3 (stat fr3) st3 go) fun r s4 ⟨u,hr,h4⟩=>?_)
  subst hr
  refine wpAny_passesOwn hp (thn h4 fun _ s5 ⟨x,H5,I5,r5,y5,st5,fr5⟩=>?_)
  have I5':=I5.pinned (stat fr5) (T.obj _ _ st5)
  refine wpAny_passesOwn hp (thn (hg _ s5 σ3 H5 x u _ I5' r5 (step x H5 y5)) fun _ s6 ⟨σ6,H6,I6,q6⟩=>?_)
  refine wpAny_passesOwn hp (thn (hb _ s6 σ6 H6 _ I6 q6) fun f s7 q7=>?_)
  have again:∀ {σ7:St} {H7:Hp},Inv X (pins ++ wI fp s5.heap) σ7 H7 s7 -> N σ7 H7 -> ∃ m,m < n /\ ∃ i σ' H',Inv X pins σ' H' s7 /\ tn i s7.heap /\ (∀ b ∈ fp,H' b = none) /\ W i m σ' H':=fun {σ7 H7} I7 n7=>by
   obtain ⟨m',hm,w7⟩:=hN σ7 H7 n7
   refine ⟨m',hm,i + 1,σ7,H7,I7.unpinned,T.keep _ _ _ st5 fun b hb o e=>(I7.pin (b,o) (List.mem_append_right _ (List.mem_append_right _ (yx hb e)))).1,fun b hb=>?_,w7⟩
   obtain ⟨o,e,d⟩:=T.obj _ _ st5 b hb
   exact (I7.pin (b,o) (List.mem_append_right _ (List.mem_append_right _ (yx hb e)))).2.1
  cases f with
  | next=>obtain ⟨σ7,H7,I7,n7⟩:=q7; exact again I7 n7
  | cont=>obtain ⟨σ7,H7,I7,n7⟩:=q7; exact again I7 n7
  | brk=>obtain ⟨σ7,H7,I7,q7⟩:=q7; exact ⟨σ7,H7,I7.unpinned,q7⟩
  | ret v=>obtain ⟨x7,σ7,H7,I7,r7,q7⟩:=q7; exact ⟨x7,σ7,H7,I7.unpinned,r7,q7⟩
end
theorem vH {K:FG7} {a:Addr} {xs:List V} {g:TG} {tb:TS} {D:Ends} {σ:St} {H:Hp} (Pv:Nat -> St -> Hp -> Prop) (h0:Pv 0 σ H) (hl:∀ i σ H,i <= xs.length -> Pv i σ H -> SqL K H a xs)
  (hs:∀ i x σ H,xs[i]? = some x -> Pv i σ H -> g x σ H fun σ2 H2=>tb { D with nx:=Pv (i + 1),ct:=Pv (i + 1),bk:=D.nx } σ2 H2) (hd:∀ σ H,Pv xs.length σ H -> D.nx σ H) :
  ∃ W:Nat -> Nat -> St -> Hp -> Prop,(∃ m,W 0 m σ H) /\ ∀ i m σ H,W i m σ H →
   ((Itl K a).stop i H /\ D.nx σ H) \/ ((Itl K a).go i H /\ ∃ N:St -> Hp -> Prop,(∀ σ' H',N σ' H' -> ∃ m',m' < m /\ W (i + 1) m' σ' H') /\ ∀ x H',(Itl K a).yld i H x H' -> g x σ H' fun σ2 H2=>tb { D with nx:=N,ct:=N,bk:=D.nx } σ2 H2):=by
 refine ⟨fun i m σ H=>m = xs.length - i /\ i <= xs.length /\ Pv i σ H,⟨xs.length,by simp,Nat.zero_le _,h0⟩,?_⟩
 rintro i m σ H ⟨rfl,hi,p⟩
 have q:=hl i σ H hi p
 by_cases hlt:i < xs.length
 ·refine .inr ⟨⟨xs,xs[i],q,by simp [hlt]⟩,Pv (i + 1),fun σ' H' p'=>⟨xs.length - (i + 1),by omega,rfl,hlt,p'⟩,fun x H' y=>?_⟩
  obtain ⟨e,y⟩:=y
  subst e
  exact hs i x σ _ (y xs q) p
 ·have e:i = xs.length:=by omega
  subst e
  exact .inl ⟨⟨xs,q,Nat.le_refl _⟩,hd σ H p⟩
theorem sf {K:FG7} {a:Addr} {xs:List V} {g:TG} {tb:TS} {D:Ends} {σ:St} {H:Hp} (Pv:Nat -> St -> Hp -> Prop) (h0:Pv 0 σ H) (hl:∀ i σ H,i <= xs.length -> Pv i σ H -> SqT K H a xs)
  (hs:∀ i x σ H,xs[i]? = some x -> Pv i σ H -> g x σ H fun σ2 H2=>tb { D with nx:=Pv (i + 1),ct:=Pv (i + 1),bk:=D.nx } σ2 H2) (hd:∀ σ H,Pv xs.length σ H -> D.nx σ H) :
  ∃ W:Nat -> Nat -> St -> Hp -> Prop,(∃ m,W 0 m σ H) /\ ∀ i m σ H,W i m σ H →
   ((Itt K a).stop i H /\ D.nx σ H) \/ ((Itt K a).go i H /\ ∃ N:St -> Hp -> Prop,(∀ σ' H',N σ' H' -> ∃ m',m' < m /\ W (i + 1) m' σ' H') /\ ∀ x H',(Itt K a).yld i H x H' -> g x σ H' fun σ2 H2=>tb { D with nx:=N,ct:=N,bk:=D.nx } σ2 H2):=by
 refine ⟨fun i m σ H=>m = xs.length - i /\ i <= xs.length /\ Pv i σ H,⟨xs.length,by simp,Nat.zero_le _,h0⟩,?_⟩
 rintro i m σ H ⟨rfl,hi,p⟩
 have q:=hl i σ H hi p
 by_cases hlt:i < xs.length
 ·refine .inr ⟨⟨xs,xs[i],q,by simp [hlt]⟩,Pv (i + 1),fun σ' H' p'=>⟨xs.length - (i + 1),by omega,rfl,hlt,p'⟩,fun x H' y=>?_⟩
  obtain ⟨e,y⟩:=y
  subst e
  exact hs i x σ _ (y xs q) p
 ·have e:i = xs.length:=by omega
  subst e
  exact .inl ⟨⟨xs,q,Nat.le_refl _⟩,hd σ H p⟩
theorem yd {lo:Int} {n:Nat} {g:TG} {tb:TS} {D:Ends} {σ:St} {H:Hp} (Pv:Nat -> St -> Hp -> Prop) (h0:Pv 0 σ H)
  (hs:∀ i σ H,i < n -> Pv i σ H -> g (.int (lo + i)) σ H fun σ2 H2=>tb { D with nx:=Pv (i + 1),ct:=Pv (i + 1),bk:=D.nx } σ2 H2) (hd:∀ σ H,Pv n σ H -> D.nx σ H) :
  ∃ W:Nat -> Nat -> St -> Hp -> Prop,(∃ m,W 0 m σ H) /\ ∀ i m σ H,W i m σ H →
   ((Itr lo n).stop i H /\ D.nx σ H) \/ ((Itr lo n).go i H /\ ∃ N:St -> Hp -> Prop,(∀ σ' H',N σ' H' -> ∃ m',m' < m /\ W (i + 1) m' σ' H') /\ ∀ x H',(Itr lo n).yld i H x H' -> g x σ H' fun σ2 H2=>tb { D with nx:=N,ct:=N,bk:=D.nx } σ2 H2):=by
 refine ⟨fun i m σ H=>m = n - i /\ i <= n /\ Pv i σ H,⟨n,by simp,Nat.zero_le _,h0⟩,?_⟩
 rintro i m σ H ⟨rfl,hi,p⟩
 by_cases hlt:i < n
 ·refine .inr ⟨hlt,Pv (i + 1),fun σ' H' p'=>⟨n - (i + 1),by omega,rfl,hlt,p'⟩,fun x H' y=>?_⟩
  obtain ⟨e,y⟩:=y
  subst e y
  exact hs i σ _ hlt p
 ·have e:i = n:=by omega
  subst e
  exact .inl ⟨Nat.le_refl _,hd σ H p⟩
end L2
namespace L2
open PySem PySem.Spec PyProof.Rows
abbrev R2:=V -> V -> Hp -> VK -> Prop
def OpR (X:Cx) (f:Value -> Value -> Sem Value) (r:R2):Prop :=
 ∀ (pins:List (Addr × Obj)) (s:Shared) (σ:St) (H:Hp) (x y:V) (v u:Value) (Q:VK),Inv X pins σ H s -> RelV x v -> RelV y u -> r x y H Q →
  wpAny (model X.prog X.w) X.A (f v u) (EP X pins σ Q) X.xe s
def UnR (X:Cx) (f:Value -> Sem Value) (r:V -> Hp -> VK -> Prop):Prop :=
 ∀ (pins:List (Addr × Obj)) (s:Shared) (σ:St) (H:Hp) (x:V) (v:Value) (Q:VK),Inv X pins σ H s -> RelV x v -> r x H Q →
  wpAny (model X.prog X.w) X.A (f v) (EP X pins σ Q) X.xe s
def xq (X:Cx) (f:Value) (r:List V -> Hp -> VK -> Prop):Prop :=
 ∀ (pins:List (Addr × Obj)) (s:Shared) (σ:St) (H:Hp) (xs:List V) (us:List Value) (Q:VK),Inv X pins σ H s -> Vals xs us -> r xs H Q →
  wpAny (model X.prog X.w) X.A (call f us) (EP X pins σ Q) X.xe s
def TruR (X:Cx) (r:V -> Hp -> (Bool -> Hp -> Prop) -> Prop):Prop :=
 ∀ (pins:List (Addr × Obj)) (s:Shared) (σ:St) (H:Hp) (x:V) (v:Value) (Q:Bool -> Hp -> Prop),Inv X pins σ H s -> RelV x v -> r x H Q →
  wpAny (model X.prog X.w) X.A (truthy v) (TP X pins σ Q) X.xe s
def tOp (r:R2) (ta tb:TE):TE:=fun σ H Q=>ta σ H fun x H1=>tb σ H1 fun y H2=>r x y H2 Q
def tUn (r:V -> Hp -> VK -> Prop) (ta:TE):TE:=fun σ H Q=>ta σ H fun x H1=>r x H1 Q
def rI (C:Int -> Int -> Prop) (g:Int -> Int -> V):R2:=fun x y H Q=>∃ i j,x = .int i /\ y = .int j /\ C i j /\ Q (g i j) H
def rI0 (g:Int -> Int -> V):R2:=fun x y H Q=>∃ i j,x = .int i /\ y = .int j /\ Q (g i j) H
def rU (g:Int -> V):V -> Hp -> VK -> Prop:=fun x H Q=>∃ i,x = .int i /\ Q (g i) H
section
variable {X:Cx} {a b c:Expr} {ta tb tc:TE} {pos:Pos}
theorem binT (ha:PE X a ta) (hb:PE X b tb) {pins:List (Addr × Obj)} {s:Shared} {σ:St} {H:Hp} {R:V -> V -> Hp -> Prop} (I:Inv X pins σ H s)
  (h:ta σ H fun x H1=>tb σ H1 fun y H2=>R x y H2) {Q:VS7} {f:Value -> Value -> Sem Value}
  (hf:∀ v u s2 x y H2,Inv X pins σ H2 s2 -> RelV x v -> RelV y u -> R x y H2 -> wpAny (model X.prog X.w) X.A (f v u) Q X.xe s2) :
  wpAny (model X.prog X.w) X.A (eval a X.env) (fun v s₁=>wpAny (model X.prog X.w) X.A (eval b X.env) (fun u s₂=>wpAny (model X.prog X.w) X.A (f v u) Q X.xe s₂) X.xe s₁) X.xe s:=by
 refine thn (ha pins s σ H _ I h) fun v s1 ⟨x,H1,I1,r1,q1⟩=>?_
 refine thn (hb pins s1 σ H1 _ I1 q1) fun u s2 ⟨y,H2,I2,r2,q2⟩=>?_
 exact hf v u s2 x y H2 I2 r1 r2 q2
theorem zp {op:Operator} {r:R2} (ho:OpR X (binaryOp op) r) (ha:PE X a ta) (hb:PE X b tb):PE X (.BinOp a op b pos) (tOp r ta tb):=by
 intro pins s σ H Q I h
 exact wpAny_BinOp (binT ha hb I h fun v u s2 x y H2 I2 rx ry q=>ho pins s2 σ H2 x y v u Q I2 rx ry q)
theorem Ww {op:UnaryOp} {r:V -> Hp -> VK -> Prop} (ho:UnR X (unaryOp op) r) (ha:PE X a ta):PE X (.UnaryOp op a pos) (tUn r ta):=by
 intro pins s σ H Q I h
 exact UnaryOp_ (thn (ha pins s σ H _ I h) fun v s1 ⟨x,H1,I1,r1,q1⟩=>ho pins s1 σ H1 x v Q I1 r1 q1)
theorem opI {f:Value -> Value -> Sem Value} {C:Int -> Int -> Prop} {g:Int -> Int -> Int}
  (rule:∀ (i j:Int) (t u:Tok) (s:Shared) (Q:VS7) (E:VS7),C i j -> Q (.int (g i j) s.toks) { s with toks:=s.toks + 1 } -> wpAny (model X.prog X.w) X.A (f (.int i t) (.int j u)) Q E s) :
  OpR X f (rI C fun i j=>.int (g i j)):=by
 intro pins s σ H x y v u Q I rx ry h
 obtain ⟨i,j,rfl,rfl,hc,q⟩:=h
 obtain ⟨t,rfl⟩:=rx
 obtain ⟨t',rfl⟩:=ry
 exact rule i j t t' s _ _ hc ⟨.int (g i j),H,I.tok _,⟨_,rfl⟩,q⟩
theorem opI0 {f:Value -> Value -> Sem Value} {g:Int -> Int -> Int}
  (rule:∀ (i j:Int) (t u:Tok) (s:Shared) (Q:VS7) (E:VS7),Q (.int (g i j) s.toks) { s with toks:=s.toks + 1 } -> wpAny (model X.prog X.w) X.A (f (.int i t) (.int j u)) Q E s) :
  OpR X f (rI0 fun i j=>.int (g i j)):=by
 intro pins s σ H x y v u Q I rx ry h
 obtain ⟨i,j,rfl,rfl,q⟩:=h
 obtain ⟨t,rfl⟩:=rx
 obtain ⟨t',rfl⟩:=ry
 exact rule i j t t' s _ _ ⟨.int (g i j),H,I.tok _,⟨_,rfl⟩,q⟩
theorem opB0 {f:Value -> Value -> Sem Value} {g:Int -> Int -> Bool}
  (rule:∀ (i j:Int) (t u:Tok) (s:Shared) (Q:VS7) (E:VS7),Q (.bool (g i j)) s -> wpAny (model X.prog X.w) X.A (f (.int i t) (.int j u)) Q E s) :
  OpR X f (rI0 fun i j=>.bl (g i j)):=by
 intro pins s σ H x y v u Q I rx ry h
 obtain ⟨i,j,rfl,rfl,q⟩:=h
 obtain ⟨t,rfl⟩:=rx
 obtain ⟨t',rfl⟩:=ry
 exact rule i j t t' s _ _ ⟨.bl (g i j),H,I,rfl,q⟩
def CPow (i j:Int):Prop:=0 <= j /\ j <= 1000000 /\ i.natAbs < 2 ^ 64
def CMul (i j:Int):Prop:=(-(2 ^ 64) < i /\ i < 2 ^ 64) \/ (-(2 ^ 64) < j /\ j < 2 ^ 64)
theorem CMul.ok {i j:Int} (h:CMul i j):IntMulOk i j:=by
 rcases h with ⟨h1,h2⟩ | ⟨h1,h2⟩
 ·exact .of_left (intBits_le_64 h1 h2)
 ·exact .of_right (intBits_le_64 h1 h2)
theorem ZW (k:Nat):(0:Int) <= 2 ^ k:=by
 rw [two_pow_cast]
 exact Int.natCast_nonneg _
theorem ya:OpR X (binaryOp .Add) (rI0 fun i j=>.int (i + j)):=opI0 fun _ _ _ _ _ _ _ q=>add_int q
theorem zY:OpR X (binaryOp .Sub) (rI0 fun i j=>.int (i - j)):=opI0 fun _ _ _ _ _ _ _ q=>sub_int q
theorem rL:OpR X (binaryOp .Mod) (rI (fun _ j=>0 < j) fun i j=>.int (i % j)):=opI fun i j _ _ _ _ _ hc q=>by
 have h1:(0:Int) < j:=hc
 exact mod_int' (by omega) (by rw [Int.fmod_eq_emod_of_nonneg i (by omega)]; exact q)
theorem YT:OpR X (binaryOp .Pow) (rI CPow fun i j=>.int (i ^ j.toNat)):=opI fun _ _ _ _ _ _ _ hc q=>pow_int_small hc.1 hc.2.1 hc.2.2 q
theorem yQ:OpR X (binaryOp .LShift) (rI CPow fun i j=>.int (i * 2 ^ j.toNat)):=opI fun _ _ _ _ _ _ _ hc q=>lshift_int_small hc.1 hc.2.1 hc.2.2 q
theorem YU:OpR X (binaryOp .RShift) (rI (fun _ j=>0 <= j) fun i j=>.int (i / 2 ^ j.toNat)):=opI fun i j _ _ _ _ _ hc q =>
 rshift_int hc (by rw [Int.fdiv_eq_ediv_of_nonneg i (ZW _)]; exact q)
theorem rM:OpR X (binaryOp .BitAnd) (rI0 fun i j=>.int (Builtin.bitAnd i j)):=opI0 fun _ _ _ _ _ _ _ q=>and_int q
theorem V3:OpR X (binaryOp .BitOr) (rI0 fun i j=>.int (Builtin.bitOr i j)):=opI0 fun _ _ _ _ _ _ _ q=>or_int q
theorem Vv:OpR X (binaryOp .BitXor) (rI0 fun i j=>.int (Builtin.bitXor i j)):=opI0 fun _ _ _ _ _ _ _ q=>xor_int q
theorem unI {f:Value -> Sem Value} {g:Int -> Int}
  (rule:∀ (i:Int) (t:Tok) (s:Shared) (Q:VS7) (E:VS7),Q (.int (g i) s.toks) { s with toks:=s.toks + 1 } -> wpAny (model X.prog X.w) X.A (f (.int i t)) Q E s) :
  UnR X f (rU fun i=>.int (g i)):=by
 intro pins s σ H x v Q I rx h
 obtain ⟨i,rfl,q⟩:=h
 obtain ⟨t,rfl⟩:=rx
 exact rule i t s _ _ ⟨.int (g i),H,I.tok _,⟨_,rfl⟩,q⟩
theorem Zh:UnR X (unaryOp .USub) (rU fun i=>.int (-i)):=unI fun _ _ _ _ _ q=>neg_int q
end
def scal:V -> V -> Bool
 | .non,.non=>true | .non,.int _=>true | .int _,.non=>true | .non,.bl _=>true | .bl _,.non=>true | .non,.str _=>true | .str _,.non=>true
 | .int _,.int _=>true | .bl _,.bl _=>true | .str _,.str _=>true | .byt _,.byt _=>true
 | .int _,.str _=>true | .str _,.int _=>true | .bl _,.str _=>true | .str _,.bl _=>true
 | _,_=>false
def rEq:R2:=fun x y H Q=>scal x y = true /\ Q (.bl (decide (x = y))) H
def rNe:R2:=fun x y H Q=>scal x y = true /\ Q (.bl (!decide (x = y))) H
theorem YV {i j:Int}:decide (V.int i = V.int j) = (i == j):=by
 rw [Bool.eq_iff_iff]
 simp
theorem Vw {i j:Bool}:decide (V.bl i = V.bl j) = (i == j):=by
 rw [Bool.eq_iff_iff]
 simp
theorem YW {i j:Str}:decide (V.str i = V.str j) = (i == j):=by
 rw [Bool.eq_iff_iff]
 simp
theorem YX {i j:Array UInt8}:decide (V.byt i = V.byt j) = (i.toList == j.toList):=by
 rw [Bool.eq_iff_iff]
 cases i
 cases j
 simp
section
variable {X:Cx} {a b c:Expr} {ta tb tc:TE} {pos:Pos}
theorem zQ {pins:List (Addr × Obj)} {σ:St} {H:Hp} {s:Shared} {Q:VK} {k k':Bool} (I:Inv X pins σ H s) (q:Q (.bl k) H) (e:k = k'):EP X pins σ Q (.bool k') s:=by
 subst e
 exact ⟨.bl k,H,I,rfl,q⟩
theorem wJ:OpR X (compareOp .Eq) rEq:=by
 intro pins s σ H x y v u Q I rx ry h
 obtain ⟨hs,q⟩:=h
 cases x with
 | non =>
  cases rx
  cases y with
  | non=>cases ry; exact PySem.EqNone.eq_none_none (zQ I q (by simp))
  | bl j=>cases ry; exact PySem.EqNone.eq_none_bool (zQ I q (by simp))
  | int j=>obtain ⟨t',rfl⟩:=ry; exact PySem.EqNone.eq_none_int (zQ I q (by simp))
  | str j=>obtain ⟨t',rfl⟩:=ry; exact PySem.EqNone.eq_none_str (zQ I q (by simp))
  | _=>exact absurd (show false = true from hs) Bool.false_ne_true
 | bl i =>
  cases rx
  cases y with
  | non=>cases ry; exact PySem.EqNone.eq_bool_none (zQ I q (by simp))
  | bl j=>cases ry; exact eq_bool (zQ I q Vw)
  | str j=>obtain ⟨t',rfl⟩:=ry; exact PySem.EqMixed.eq_bool_str (zQ I q (by simp))
  | _=>exact absurd (show false = true from hs) Bool.false_ne_true
 | int i =>
  obtain ⟨t,rfl⟩:=rx
  cases y with
  | non=>cases ry; exact PySem.EqNone.eq_int_none (zQ I q (by simp))
  | int j=>obtain ⟨t',rfl⟩:=ry; exact eq_int (zQ I q YV)
  | str j=>obtain ⟨t',rfl⟩:=ry; exact PySem.EqMixed.eq_int_str (zQ I q (by simp))
  | _=>exact absurd (show false = true from hs) Bool.false_ne_true
 | str i =>
  obtain ⟨t,rfl⟩:=rx
  cases y with
  | non=>cases ry; exact PySem.EqNone.eq_str_none (zQ I q (by simp))
  | bl j=>cases ry; exact PySem.EqMixed.eq_str_bool (zQ I q (by simp))
  | int j=>obtain ⟨t',rfl⟩:=ry; exact PySem.EqMixed.eq_str_int (zQ I q (by simp))
  | str j=>obtain ⟨t',rfl⟩:=ry; exact eq_str (zQ I q YW)
  | _=>exact absurd (show false = true from hs) Bool.false_ne_true
 | byt i =>
  obtain ⟨t,rfl⟩:=rx
  cases y with
  | byt j=>obtain ⟨t',rfl⟩:=ry; exact PySem.W.eq_bytes (zQ I q YX)
  | _=>exact absurd (show false = true from hs) Bool.false_ne_true
 | _=>cases y <;> exact absurd (show false = true from hs) Bool.false_ne_true
theorem Wx:OpR X (compareOp .NotEq) rNe:=by
 intro pins s σ H x y v u Q I rx ry h
 obtain ⟨hs,q⟩:=h
 cases x with
 | non =>
  cases rx
  cases y with
  | non=>cases ry; exact PySem.EqNone.ne_none_none (zQ I q (by simp))
  | bl j=>cases ry; exact PySem.EqNone.ne_none_bool (zQ I q (by simp))
  | int j=>obtain ⟨t',rfl⟩:=ry; exact PySem.EqNone.ne_none_int (zQ I q (by simp))
  | str j=>obtain ⟨t',rfl⟩:=ry; exact PySem.EqNone.ne_none_str (zQ I q (by simp))
  | _=>exact absurd (show false = true from hs) Bool.false_ne_true
 | bl i =>
  cases rx
  cases y with
  | non=>cases ry; exact PySem.EqNone.ne_bool_none (zQ I q (by simp))
  | bl j=>cases ry; exact ne_bool (zQ I q (congrArg not Vw))
  | str j=>obtain ⟨t',rfl⟩:=ry; exact PySem.EqMixed.ne_bool_str (zQ I q (by simp))
  | _=>exact absurd (show false = true from hs) Bool.false_ne_true
 | int i =>
  obtain ⟨t,rfl⟩:=rx
  cases y with
  | non=>cases ry; exact PySem.EqNone.ne_int_none (zQ I q (by simp))
  | int j=>obtain ⟨t',rfl⟩:=ry; exact ne_int (zQ I q (congrArg not YV))
  | str j=>obtain ⟨t',rfl⟩:=ry; exact PySem.EqMixed.ne_int_str (zQ I q (by simp))
  | _=>exact absurd (show false = true from hs) Bool.false_ne_true
 | str i =>
  obtain ⟨t,rfl⟩:=rx
  cases y with
  | non=>cases ry; exact PySem.EqNone.ne_str_none (zQ I q (by simp))
  | bl j=>cases ry; exact PySem.EqMixed.ne_str_bool (zQ I q (by simp))
  | int j=>obtain ⟨t',rfl⟩:=ry; exact PySem.EqMixed.ne_str_int (zQ I q (by simp))
  | str j=>obtain ⟨t',rfl⟩:=ry; exact ne_str (zQ I q (congrArg not YW))
  | _=>exact absurd (show false = true from hs) Bool.false_ne_true
 | byt i =>
  obtain ⟨t,rfl⟩:=rx
  cases y with
  | byt j=>obtain ⟨t',rfl⟩:=ry; exact PySem.W.ne_bytes (zQ I q (congrArg not YX))
  | _=>exact absurd (show false = true from hs) Bool.false_ne_true
 | _=>cases y <;> exact absurd (show false = true from hs) Bool.false_ne_true
theorem jm:OpR X (compareOp .Lt) (rI0 fun i j=>.bl (decide (i < j))):=opB0 fun _ _ _ _ _ _ _ q=>lt_int q
theorem Wy:OpR X (compareOp .LtE) (rI0 fun i j=>.bl (decide (i <= j))):=opB0 fun _ _ _ _ _ _ _ q=>le_int q
theorem Wz:OpR X (compareOp .Gt) (rI0 fun i j=>.bl (decide (j < i))):=opB0 fun _ _ _ _ _ _ _ q=>gt_int q
theorem OpR.or {f:Value -> Value -> Sem Value} {r r':R2} (h:OpR X f r) (h':OpR X f r'):OpR X f (fun x y H Q=>r x y H Q \/ r' x y H Q):=by
 intro pins s σ H x y v u Q I rx ry q
 rcases q with q | q
 ·exact h pins s σ H x y v u Q I rx ry q
 ·exact h' pins s σ H x y v u Q I rx ry q
theorem zP (b:Expr) {op:CmpOp} (h:op ≠ .In:=by decide) (h2:op ≠ .NotIn:=by decide):behindInMarks op b = false:=by
 have e1:(op == CmpOp.In) = false:=by cases op <;> first | rfl | exact absurd rfl h
 have e2:(op == CmpOp.NotIn) = false:=by cases op <;> first | rfl | exact absurd rfl h2
 cases b <;> simp [behindInMarks,e1,e2]
theorem xP {op:CmpOp} {r:R2} (ho:OpR X (compareOp op) r) (ha:PE X a ta) (hb:PE X b tb) (hm:behindInMarks op b = false):PE X (.Compare a [op] [b] pos) (tOp r ta tb):=by
 intro pins s σ H Q I h
 exact wpAny_Compare1 (binT ha hb I h fun v u s2 x y H2 I2 rx ry q=>ho pins s2 σ H2 x y v u Q I2 rx ry q) hm
def Tf (t:TE):TT:=fun σ H Q=>t σ H fun x H'=>∃ k,x = .bl k /\ Q k H'
theorem zI {op:CmpOp} {r:R2} (ho:OpR X (compareOp op) r) (ha:PE X a ta) (hb:PE X b tb) (hm:behindInMarks op b = false):PT X (.Compare a [op] [b] pos) (Tf (tOp r ta tb)):=by
 intro pins s σ H Q I h
 refine wpAny_isTrue_Compare1 (thn (ha pins s σ H _ I h) fun v s1 ⟨x,H1,I1,r1,q1⟩=>thn (hb pins s1 σ H1 _ I1 q1) fun u s2 ⟨y,H2,I2,r2,q2⟩ =>
  thn (ho pins s2 σ H2 x y v u _ I2 r1 r2 q2) fun c s3 ⟨z,H3,I3,r3,k,e,q3⟩=>?_) hm
 subst e
 cases r3
 exact wpAny_truthy_bool ⟨H3,I3,q3⟩
def Vx (r r':R2) (ta tb tc:TE):TE:=fun σ H Q=>ta σ H fun x H1=>tb σ H1 fun y H2=>r x y H2 fun z H3=>∃ k,z = .bl k ∧
 (if k = true then tc σ H3 fun w' H4=>r' y w' H4 Q else Q (.bl false) H3)
theorem WA {op op':CmpOp} {r r':R2} (ho:OpR X (compareOp op) r) (ho':OpR X (compareOp op') r') (ha:PE X a ta) (hb:PE X b tb) (hc:PE X c tc)
  (hm:lastMarks [op,op'] [b,c] = false:=by with_unfolding_all rfl):PE X (.Compare a [op,op'] [b,c] pos) (Vx r r' ta tb tc):=by
 intro pins s σ H Q I h
 refine Compare_chain (thn (ha pins s σ H _ I h) fun v s1 ⟨x,H1,I1,r1,q1⟩=>chain_link (thn (hb pins s1 σ H1 _ I1 q1) fun u s2 ⟨y,H2,I2,r2,q2⟩ =>
  thn (ho pins s2 σ H2 x y v u _ I2 r1 r2 q2) fun d s3 ⟨z,H3,I3,r3,k,e,q3⟩=>?_)) hm
 subst e
 cases r3
 refine wpAny_truthy_bool ?_
 cases k with
 | false=>exact ite_ff ⟨.bl false,H3,I3,rfl,q3⟩
 | true=>exact ite_tt (chain_last (thn (hc pins s3 σ H3 _ I3 q3) fun w' s4 ⟨z',H4,I4,r4,q4⟩=>ho' pins s4 σ H4 y z' u w' Q I4 r2 r4 q4))
theorem WB {op op':CmpOp} {r r':R2} (ho:OpR X (compareOp op) r) (ho':OpR X (compareOp op') r') (ha:PE X a ta) (hb:PE X b tb) (hc:PE X c tc)
  (hm:lastMarks [op,op'] [b,c] = false:=by with_unfolding_all rfl):PT X (.Compare a [op,op'] [b,c] pos) (Tf (Vx r r' ta tb tc)):=by
 intro pins s σ H Q I h
 refine isTrue_chain (thn (ha pins s σ H _ I h) fun v s1 ⟨x,H1,I1,r1,q1⟩=>test_link (thn (hb pins s1 σ H1 _ I1 q1) fun u s2 ⟨y,H2,I2,r2,q2⟩ =>
  thn (ho pins s2 σ H2 x y v u _ I2 r1 r2 q2) fun d s3 ⟨z,H3,I3,r3,k,e,q3⟩=>?_)) hm
 subst e
 cases r3
 refine wpAny_truthy_bool ?_
 cases k with
 | false =>
  obtain ⟨k',e',q'⟩:=q3
  cases e'
  exact ite_ff ⟨H3,I3,q'⟩
 | true =>
  refine ite_tt (test_last (thn (hc pins s3 σ H3 _ I3 q3) fun w' s4 ⟨z',H4,I4,r4,q4⟩=>thn (ho' pins s4 σ H4 y z' u w' _ I4 r2 r4 q4) fun d' s5 ⟨z2,H5,I5,r5,k2,e2,q5⟩=>?_))
  subst e2
  cases r5
  exact wpAny_truthy_bool ⟨H5,I5,q5⟩
def TruV (K:FG7) (x:V) (H:Hp) (k:Bool):Prop :=
 match x with
 | .non=>k = false
 | .bl b=>k = b
 | .int i=>k = (i != 0)
 | .str y=>y.length <= sizeLine /\ k = ((y.length:Int) != 0)
 | .byt y=>y.size <= sizeLine /\ k = ((y.size:Int) != 0)
 | .ref p=>(∃ xs,SqL K H p xs /\ k = !xs.isEmpty) \/ (∃ xs,SqT K H p xs /\ k = !xs.isEmpty) \/ ∃ kvs,H p = some (.dK kvs) /\ k = !kvs.isEmpty
 | _=>False
theorem ZX {κ:Type} {kvs:List (κ × V)} {vs:List (κ × Value)} (r:KV kvs vs):(!vs.isEmpty) = !kvs.isEmpty:=by
 cases r <;> rfl
theorem u7 {xs:List V} {its:List Value} (r:Vals xs its):(!its.toArray.isEmpty) = !xs.isEmpty:=by
 cases r <;> simp
theorem rN:(sizeLine:Nat) < 2 ^ 63:=by rw [sizeLine_eq]; decide
theorem Tg:TruR X (fun x H Q=>∃ k,TruV X.K x H k /\ Q k H):=by
 intro pins s σ H x v Q I rx h
 obtain ⟨k,e,q⟩:=h
 have hl:=rN
 have hs:sizeLine = 16777216:=sizeLine_eq
 cases x with
 | non =>
  cases rx
  have e':k = false:=e
  subst e'
  exact truthy_none ⟨H,I,q⟩
 | bl b =>
  cases rx
  have e':k = b:=e
  subst e'
  exact wpAny_truthy_bool ⟨H,I,q⟩
 | int i =>
  obtain ⟨t,rfl⟩:=rx
  have e':k = (i != 0):=e
  subst e'
  exact PySem.P.truthy_int ⟨H,I,q⟩
 | str y =>
  obtain ⟨t,rfl⟩:=rx
  obtain ⟨hy,e'⟩:y.length <= sizeLine /\ k = ((y.length:Int) != 0):=e
  subst e'
  exact PySem.P.truthy_str (by omega) ⟨H,I.tok _,q⟩
 | byt y =>
  obtain ⟨t,rfl⟩:=rx
  obtain ⟨hy,e'⟩:y.size <= sizeLine /\ k = ((y.size:Int) != 0):=e
  subst e'
  exact PySem.W.truthy_bytes (by omega) ⟨H,I.tok _,q⟩
 | ref p =>
  cases rx
  have e':(∃ xs,SqL X.K H p xs /\ k = !xs.isEmpty) \/ (∃ xs,SqT X.K H p xs /\ k = !xs.isEmpty) \/ ∃ kvs,H p = some (.dK kvs) /\ k = !kvs.isEmpty:=e
  rcases e' with ⟨xs,hx,e'⟩ | ⟨xs,hx,e'⟩ | ⟨kvs,hx,e'⟩
  ·subst e'
   obtain ⟨its,r,pl,hz⟩:=I.list hx
   have hlen:=r.length
   exact wpAny_truthy_list pl.isList (by simp only [List.size_toArray]; omega) ⟨H,I.tok _,by rw [u7 r]; exact q⟩
  ·subst e'
   obtain ⟨its,r,pl,hz⟩:=I.tuple hx
   have hlen:=r.length
   exact truthy_tuple pl (by simp only [List.size_toArray]; omega) ⟨H,I.tok _,by rw [u7 r]; exact q⟩
  ·subst e'
   obtain ⟨hz,hS,vs,r,m⟩:kvs.length <= sizeLine /\ (p == sysModules) = false /\ ∃ vs,KV kvs vs /\ s.heap.DictOf (zH X.prog X.w) p vs:=I.hok p _ hx
   have hlen:kvs.length = vs.length:=Paired.length r
   exact wpAny_truthy_dict hS m (by omega) ⟨H,I.tok _,by rw [ZX r]; exact q⟩
 | _=>exact (show False from e).elim
theorem sg (ha:PE X a ta) (he:∀ whole,isTrue a X.env whole = (do let v ← whole; standAt a.pos; holding [v] (truthy v))) :
  PT X a (fun σ H Q=>ta σ H fun x H'=>∃ k,TruV X.K x H' k /\ Q k H'):=by
 intro pins s σ H Q I h
 exact isTrue_plain (thn (ha pins s σ H _ I h) fun v s1 ⟨x,H1,I1,r1,q1⟩=>Tg pins s1 σ H1 x v Q I1 r1 q1) (he _)
theorem wK {x:V} {us:List Value} (r:Vals [x] us):∃ u,us = [u] /\ RelV x u:=by
 cases r with
 | cons r1 r2=>cases r2; exact ⟨_,rfl,r1⟩
theorem YY {x y:V} {us:List Value} (r:Vals [x,y] us):∃ u w',us = [u,w'] /\ RelV x u /\ RelV y w':=by
 cases r with
 | cons r1 r2 =>
  cases r2 with
  | cons r3 r4=>cases r4; exact ⟨_,_,rfl,r1,r3⟩
theorem vR (hc:X.calm = true):xq X (.builtin "max") (fun xs H Q=>∃ i j,xs = [.int i,.int j] /\ Q (.int (if j > i then j else i)) H):=by
 intro pins s σ H xs us Q I r h
 obtain ⟨i,j,rfl,q⟩:=h
 obtain ⟨u,w',rfl,⟨t,rfl⟩,⟨t',rfl⟩⟩:=YY r
 refine max_two_ints (I.ok.hd hc) fun h' tk k=>⟨_,H,I.kept k,?_,q⟩
 by_cases hj:j > i
 ·rw [if_pos hj,if_pos hj]; exact ⟨_,rfl⟩
 ·rw [if_neg hj,if_neg hj]; exact ⟨_,rfl⟩
theorem vS (hc:X.calm = true):xq X (.builtin "min") (fun xs H Q=>∃ i j,xs = [.int i,.int j] /\ Q (.int (if j < i then j else i)) H):=by
 intro pins s σ H xs us Q I r h
 obtain ⟨i,j,rfl,q⟩:=h
 obtain ⟨u,w',rfl,⟨t,rfl⟩,⟨t',rfl⟩⟩:=YY r
 refine min_two_ints (I.ok.hd hc) fun h' tk k=>⟨_,H,I.kept k,?_,q⟩
 by_cases hj:j < i
 ·rw [if_pos hj,if_pos hj]; exact ⟨_,rfl⟩
 ·rw [if_neg hj,if_neg hj]; exact ⟨_,rfl⟩
theorem vT:xq X (.type "int") (fun xs H Q=>(∃ i,xs = [.int i] /\ Q (.int i) H) \/ ∃ k,xs = [.bl k] /\ Q (.int (if k then 1 else 0)) H):=by
 intro pins s σ H xs us Q I r h
 rcases h with ⟨i,rfl,q⟩ | ⟨k,rfl,q⟩
 ·obtain ⟨u,rfl,t,rfl⟩:=wK r
  exact call_int_int ⟨.int i,H,I,⟨_,rfl⟩,q⟩
 ·obtain ⟨u,rfl,r1⟩:=wK r
  cases r1
  exact call_int_bool ⟨.int (if k then 1 else 0),H,I.tok _,⟨_,rfl⟩,q⟩
end
end L2
namespace L2
open PySem PySem.Spec PyProof.Rows
structure ObjM (h:Heap) (x dx C:Addr) (mA:Str -> Option Value):Prop where
 obj:h.get? x = some (PySem.W.instObj C dx)
 ns:h.Ns1 dx mA
 ne:dx ≠ x
theorem YZ {h:Heap} {dx:Addr} {mA:Str -> Option Value} (n:h.Ns1 dx mA):∃ od,h.get? dx = some od /\ ∀ name,PySem.W.lookIn name od = some (mA name):=by
 obtain ⟨o,es,ep,ho,hd,hk,_,hm⟩:=n
 refine ⟨o,ho,fun name=>?_⟩
 have e:=hm name
 unfold nsFind findBy at e
 rw [← Array.find?_toList] at e
 unfold PySem.W.lookIn
 rw [hd]
 dsimp only
 split
 ·rename_i y q
  rw [q] at e
  exact congrArg some e
 ·rename_i q
  rw [q] at e
  have a:es.toList.any (·.refKey) = false:=by
   rw [List.any_eq_false]
   intro y hy
   obtain ⟨z,t,hkey⟩:=hk y (Array.mem_toList_iff.mp hy)
   simp [DictEntry.refKey,hkey]
  have a':¬ es.toList.any (·.refKey) = true:=by rw [a]; exact Bool.false_ne_true
  rw [if_neg a']
  exact congrArg some e
theorem ObjM.look {h:Heap} {x dx C:Addr} {mA:Str -> Option Value} (I:ObjM h x dx C mA):∃ od,PySem.W.InstAt h x (PySem.W.instObj C dx) C (some od) /\ ∀ name,PySem.W.lookIn name od = some (mA name) :=
 let ⟨od,ho,hl⟩:=YZ I.ns
 ⟨od,⟨I.obj,rfl,rfl,ho⟩,hl⟩
section
variable {prog:Program} {w:World} {A:Around} {E:VS7} {s:Shared} {K:FG7} {x dx C f:Addr} {mA:Str -> Option Value} {name:Str} {v:Value}
theorem V4 {expr:Bool} {Q:VS7} (X:K.In s.heap) (I:ObjM s.heap x dx C mA) (hg:PySem.W.plainGet K C name = true) (hh:PySem.W.hasDictIn K C = true)
  (ha:PySem.W.findIn K (.ref C) name = some none) (hv:mA name = some v) (hv':PySem.W.handedIn v = true) (h:Q v { s with toks:=s.toks + 1 }) :
  wpAny (model prog w) A (getAttr (.ref x) name expr) Q E s:=by
 obtain ⟨od,J,hl⟩:=I.look
 exact PySem.W.get_value X J (PySem.W.plainGet_of hg).1 (PySem.W.findObj_own hh ha rfl (by rw [hl,hv])) hv' h
theorem WC {pl:Sem Bool} {Q:Value × List Value -> Shared -> Prop} (X:K.In s.heap) (I:ObjM s.heap x dx C mA) (hg:PySem.W.plainGet K C name = true)
  (hf:PySem.W.findIn K (.ref C) name = some (some (.ref f))) (ht:PySem.W.isFn K (.ref f) = true) (hv:mA name = none) (h:Q (.ref f,[.ref x]) s) :
  wpAny (model prog w) A (getMethod (.ref x) name pl) Q E s:=by
 obtain ⟨od,J,hl⟩:=I.look
 exact PySem.W.method_fn X J (PySem.W.plainGet_of hg).1 (PySem.W.plainGet_of hg).2 hf (beq_iff_eq.mp ht) (by show (PySem.W.lookIn name od).map (·.isSome) = some false; rw [hl,hv]; rfl) h
theorem V5 {ns:List Str} {Q:Unit -> Shared -> Prop} (X:K.In s.heap) (I:ObjM s.heap x dx C mA)
  (hs:PySem.W.findIn K (.ref C) "__setattr__" = some (some (.builtin "object.__setattr__"))) (hp:PySem.W.plainOver K C = true) (ht:PySem.W.takerIn K C name = some none) (hh:PySem.W.hasDictIn K C = true)
  (hw:PySem.Within mA ns) (hsz:ns.length <= sizeLine)
  (h:∀ h',ObjM h' x dx C (fun y=>if y = name then some v else mA y) -> Heap.SameBut dx s.heap h' -> Q () { s with heap:=h',toks:=s.toks + 2 }) :
  wpAny (model prog w) A (setAttr (.ref x) name v) Q E s:=by
 obtain ⟨od,J,hl⟩:=I.look
 refine PySem.W.set_plain X J hs (PySem.W.osa_open (s:={ s with toks:=s.toks + 1 }) (r:=none) X J hp ht fun b=>?_)
 obtain ⟨cd,hc,hd'⟩:=PySem.W.any_some hh
 have hx:s.heap.get? x = some ⟨.ref C,some dx,.plain,#[]⟩:=I.obj
 refine wpAny_bind (wpAny_pure (wpAny_bind (wpAny_bind (wpAny_loadPart hx (wpAny_bind (PySem.W.Looks.here (s:={ s with toks:=s.toks + 1 }) (PySem.W.looks_clsIn X hc) ?_))))))
 rw [hd']
 refine wpAny_pure (a:=some dx) (wpAny_bind (wpAny_pure (wpAny_bind ?_)))
 refine wpAny_nsSet1 (s:={ s with toks:=s.toks + 1 }) I.ns fun h' hn2 hs2=>?_
 obtain ⟨oD,esD,epD,hoD,hdD,hcD⟩:=hn2.count (PySem.Within.cons name v hw)
 refine wpAny_bind (wpAny_lookBehind hoD (by rw [hdD]; exact pastItsLine_dict (Nat.le_trans hcD (by rw [List.length_cons]; omega))) ?_)
 exact wpAny_pure (h _ ⟨(hs2.2 _ (Ne.symm I.ne)).trans I.obj,hn2,I.ne⟩ hs2)
theorem WD {R:Result -> Shared -> Prop} {vs:List Value} {kw:List (Str × Value)} (X:K.In s.heap) (hm:PySem.W.makesIn K C = true)
  (hi:PySem.W.findIn K (.ref C) "__init__" = some (some (.ref f))) (hf:PySem.W.typeIn K (.ref f) = some (.type "function"))
  (h:codeAny (model prog w) (A.under (.builtin "type.__call__" ⟨.ref C :: vs,kw⟩)) (.call (.ref f) ⟨.ref (s.heap.objs.size + 1) :: vs,kw⟩) (PySem.W.InitBack (s.heap.objs.size + 1) R)
   { s with heap:=(s.heap.push PySem.W.emptyDict).push (PySem.W.instObj C s.heap.objs.size) }) :
  codeAny (model prog w) A (.call (.ref C) ⟨vs,kw⟩) R s:=by
 obtain ⟨hh,g,d,t,os⟩:=s
 exact PySem.W.make_core (PySem.W.makes_of X hm) (PySem.W.looks_findIn X hi) (fun self=>PySem.W.bind_fn X self hf) (.inl rfl) h
end
def putF (f:Str) (v:V):List (Str × V) -> List (Str × V)
 | []=>[(f,v)]
 | (g,x) :: r=>if g = f then (g,v) :: r else (g,x) :: putF f v r
theorem vU (f g:Str) (v:V):∀ fs:List (Str × V),(putF f v fs).lookup g = if g = f then some v else fs.lookup g
 | []=>by
  show List.lookup g [(f,v)] = _
  by_cases h:g = f
  ·have hb:(g == f) = true:=beq_iff_eq.mpr h
   simp only [List.lookup,hb,if_pos h]
  ·have hb:(g == f) = false:=beq_eq_false_iff_ne.mpr h
   simp only [List.lookup,hb,if_neg h]
 | (k,x) :: r=>by
  have ih:=vU f g v r
  rw [show putF f v ((k,x) :: r) = (if k = f then (k,v) :: r else (k,x) :: putF f v r) from rfl]
  by_cases hk:k = f
  ·rw [if_pos hk]
   by_cases h:g = k
   ·have hb:(g == k) = true:=beq_iff_eq.mpr h
    simp only [List.lookup,hb,if_pos (h.trans hk)]
   ·have hb:(g == k) = false:=beq_eq_false_iff_ne.mpr h
    simp only [List.lookup,hb,if_neg (fun e:g = f=>h (e.trans hk.symm))]
  ·rw [if_neg hk]
   by_cases h:g = k
   ·have hb:(g == k) = true:=beq_iff_eq.mpr h
    simp only [List.lookup,hb,if_neg (fun e:g = f=>hk (h.symm.trans e))]
   ·have hb:(g == k) = false:=beq_eq_false_iff_ne.mpr h
    simp only [List.lookup,hb]
    exact ih
theorem vV (f:Str) (v:V):∀ fs:List (Str × V),f ∈ (putF f v fs).map (·.1) /\ ∀ g,g ∈ fs.map (·.1) -> g ∈ (putF f v fs).map (·.1)
 | []=>⟨by simp [putF],fun g h=>by simp at h⟩
 | (k,x) :: r=>by
  obtain ⟨i1,i2⟩:=vV f v r
  rw [show putF f v ((k,x) :: r) = (if k = f then (k,v) :: r else (k,x) :: putF f v r) from rfl]
  by_cases hk:k = f
  ·rw [if_pos hk]
   subst hk
   exact ⟨by simp,fun g h=>by simpa using h⟩
  ·rw [if_neg hk]
   refine ⟨?_,fun g h=>?_⟩
   ·rw [List.map_cons]
    exact List.mem_cons_of_mem _ i1
   ·rw [List.map_cons] at h ⊢
    rcases List.mem_cons.mp h with e | e
    ·exact List.mem_cons.mpr (.inl e)
    ·exact List.mem_cons_of_mem _ (i2 g e)
theorem vW (f:Str) (v:V):∀ fs:List (Str × V),(putF f v fs).length <= fs.length + 1
 | []=>by simp [putF]
 | (k,x) :: r=>by
  have ih:=vW f v r
  rw [show putF f v ((k,x) :: r) = (if k = f then (k,v) :: r else (k,x) :: putF f v r) from rfl]
  by_cases hk:k = f
  ·rw [if_pos hk,List.length_cons,List.length_cons]; omega
  ·rw [if_neg hk,List.length_cons,List.length_cons]; omega
theorem RelO.some_of {v:V} {o:Option Value} (r:RelO (some v) o):∃ u,o = some u /\ RelV v u:=by
 cases o with
 | none=>exact (show False from r).elim
 | some u=>exact ⟨u,rfl,r⟩
theorem RelO.none_of {o:Option Value} (r:RelO none o):o = none:=by
 cases o with
 | none=>rfl
 | some u=>exact (show False from r).elim
theorem Y0 {v:V} {u:Value} (r:RelV v u):PySem.W.handedIn u = true:=by
 cases v with
 | non=>cases (show u = Value.none from r); rfl
 | bl b=>cases (show u = Value.bool b from r); rfl
 | int i=>obtain ⟨t,e⟩:=(show ∃ t,u = Value.int i t from r); cases e; rfl
 | str x=>obtain ⟨t,e⟩:=(show ∃ t,u = Value.str x t from r); cases e; rfl
 | byt b=>obtain ⟨t,e⟩:=(show ∃ t,u = Value.bytes b t from r); cases e; rfl
 | flt b=>obtain ⟨t,e⟩:=(show ∃ t,u = Value.float b t from r); cases e; rfl
 | ref a=>cases (show u = Value.ref a from r); rfl
 | ty n=>cases (show u = Value.type n from r); rfl
section
variable {P:Program} {w:World} {H H':Hp} {h h':Heap} {a C dx:Addr} {fs fs':List (Str × V)}
theorem sh (hok:HOk P w H h) (e:H a = some (.ins C dx fs)):∃ mA,ObjM h a dx C mA /\ (∀ f,RelO (fs.lookup f) (mA f)) /\ PySem.Within mA (fs.map (·.1)) /\ fs.length <= 1000 /\ H dx = some (.own a):=by
 obtain ⟨d,z,ne,ob,mA,n,r,q⟩:=(show z5 P w H h a (.ins C dx fs) from hok a _ e)
 exact ⟨mA,⟨ob,n,ne⟩,r,q,z,d⟩
end
structure Cls (K:FG7) (C:Addr):Prop where
 pg:PySem.W.plainGet K C Str.empty = true
 hd:PySem.W.hasDictIn K C = true
 po:PySem.W.plainOver K C = true
 sa:PySem.W.findIn K (.ref C) "__setattr__" = some (some (.builtin "object.__setattr__"))
theorem Cls.get {K:FG7} {C:Addr} (c:Cls K C) (f:Str):PySem.W.plainGet K C f = true:=c.pg
def yy (K:FG7) (C:Addr) (f:Str):Prop:=PySem.W.findIn K (.ref C) f = some none
theorem yy.taker {K:FG7} {C:Addr} {f:Str} (n:yy K C f):PySem.W.takerIn K C f = some none:=by
 unfold PySem.W.takerIn
 rw [show PySem.W.findIn K (.ref C) f = some none from n]
 rfl
structure Meth (K:FG7) (C:Addr) (m:Str) (f:Addr):Prop where
 at_:PySem.W.findIn K (.ref C) m = some (some (.ref f))
 fn:PySem.W.isFn K (.ref f) = true
 kp:PySem.W.keepIn K (.ref f) = true
section
variable {X:Cx} {pins:List (Addr × Obj)} {σ:St} {H:Hp} {s:Shared} {a C dx:Addr} {fs:List (Str × V)} {f:Str} {v:V} {A:Around} {E:VS7}
theorem u9 {b:Bool} {Q:VS7} (I:Inv X pins σ H s) (e:H a = some (.ins C dx fs)) (c:Cls X.K C) (n:yy X.K C f) (l:fs.lookup f = some v)
  (h:∀ u s',Inv X pins σ H s' -> RelV v u -> Q u s'):wpAny (model X.prog X.w) A (getAttr (.ref a) f b) Q E s:=by
 obtain ⟨mA,O,r,_,_,_⟩:=sh I.hok e
 obtain ⟨u,hu,ru⟩:=RelO.some_of (v:=v) (o:=mA f) (by rw [← l]; exact r f)
 exact V4 I.kIn O (c.get f) c.hd n hu (Y0 ru) (h u _ (I.tok _) ru)
theorem tf {m:Str} {g:Addr} {pl:Sem Bool} {Q:Value × List Value -> Shared -> Prop} (I:Inv X pins σ H s) (e:H a = some (.ins C dx fs)) (c:Cls X.K C) (k:Meth X.K C m g) (l:fs.lookup m = none)
  (h:Q (.ref g,[.ref a]) s):wpAny (model X.prog X.w) A (getMethod (.ref a) m pl) Q E s:=by
 obtain ⟨mA,O,r,_,_,_⟩:=sh I.hok e
 have hn:mA m = none:=RelO.none_of (by rw [← l]; exact r m)
 exact WC I.kIn O (c.get m) k.at_ k.fn hn h
theorem tj {y:V} {u:Value} {Q:Unit -> Shared -> Prop} (I:Inv X pins σ H s) (e:H a = some (.ins C dx fs)) (c:Cls X.K C) (n:yy X.K C f) (hl:fs.length < 1000) (ry:RelV y u)
  (h:∀ s',Inv X pins σ (upd H a (.ins C dx (putF f y fs))) s' -> Q () s'):wpAny (model X.prog X.w) A (setAttr (.ref a) f u) Q E s:=by
 obtain ⟨mA,O,r,wi,_,ho⟩:=sh I.hok e
 have hz:(fs.map (·.1)).length <= sizeLine:=by rw [List.length_map,sizeLine_eq]; omega
 refine V5 I.kIn O c.sa c.po n.taker c.hd wi hz fun h' O' sb=>h _ ?_
 have hd:∃ o,h'.get? dx = some o:=let ⟨o,_,_,e',_⟩:=O'.ns; ⟨o,e'⟩
 refine I.write (x:=a) (e:=dx) (by rw [e]; exact True.intro) (.inr ho) (fun b q hb z=>(sb.2 b hb).trans z) hd ?_
 refine ⟨by rw [zt O.ne]; exact ho,?_,O.ne,O'.obj,_,O'.ns,fun g=>?_,fun g hg=>?_⟩
 ·have:=vW f y fs; omega
 ·show RelO ((putF f y fs).lookup g) (if g = f then some u else mA g)
  rw [vU]
  by_cases q:g = f
  ·rw [if_pos q,if_pos q]; exact ry
  ·rw [if_neg q,if_neg q]; exact r g
 ·by_cases q:g = f
  ·rw [q]; exact (vV f y fs).1
  ·refine (vV f y fs).2 g (wi g fun z=>hg ?_)
   show (if g = f then some u else mA g) = none
   rw [if_neg q]; exact z
theorem Inv.made (I:Inv X pins σ H s):Inv X pins σ (upd (upd H s.heap.objs.size (.own (s.heap.objs.size + 1))) (s.heap.objs.size + 1) (.ins C s.heap.objs.size []))
  { s with heap:=(s.heap.push PySem.W.emptyDict).push (PySem.W.instObj C s.heap.objs.size) }:=by
 have e1:(s.heap.push PySem.W.emptyDict).get? s.heap.objs.size = some PySem.W.emptyDict:=Heap.get?_push_size s.heap rfl
 have e2:((s.heap.push PySem.W.emptyDict).push (PySem.W.instObj C s.heap.objs.size)).get? (s.heap.objs.size + 1) = some (PySem.W.instObj C s.heap.objs.size):=by
  have:=Heap.get?_push_size (s.heap.push PySem.W.emptyDict) (o:=PySem.W.instObj C s.heap.objs.size) rfl
  rwa [Heap.size_push] at this
 have e3:(s.heap.push PySem.W.emptyDict).Ns s.heap.objs.size (fun _=>none):=⟨PySem.W.emptyDict,#[],_,e1,rfl,(fun e he=>absurd he (by simp)),fun _=>rfl⟩
 have I1:=I.laid (a:=s.heap.objs.size) (o:=.own (s.heap.objs.size + 1)) (h':=s.heap.push PySem.W.emptyDict) (t':=s.toks) (fun b u q=>Heap.get?_push_of_some _ q) (Nat.le_refl _) ⟨_,e1⟩
 refine I1.laid (a:=s.heap.objs.size + 1) (o:=.ins C s.heap.objs.size []) (t':=s.toks) (fun b u q=>Heap.get?_push_of_some _ q) (Nat.le_of_eq (Heap.size_push _ _)) ?_
 have ne:s.heap.objs.size ≠ s.heap.objs.size + 1:=Nat.ne_of_lt (Nat.lt_succ_self _)
 refine ⟨by rw [zt ne,ze],Nat.zero_le _,ne,e2,fun _=>none,(Heap.Ns1.of_empty e3).at fun o q=>Heap.get?_push_of_some _ q,fun _=>True.intro,fun y hy=>absurd rfl hy⟩
theorem V6 {prog:Program} {w:World} {env:Env} {e:Expr} {f:Str} {pos:Pos} {s:Shared} {Q:VS7} (hb:attributeBase e f env (eval e env) = eval e env)
  (h:wpAny (model prog w) A (eval e env) (fun o s₁=>wpAny (model prog w) A (getAttr o f true) Q E s₁) E s):wpAny (model prog w) A (eval (.Attribute e f pos) env) Q E s :=
 Attribute_any_ h (by rw [arm_eval_Attribute,hb])
end
def tFld (K:FG7) (ta:TE) (f:Str):TE:=fun σ H Q=>ta σ H fun x H1=>∃ a C dx fs v,x = .ref a /\ H1 a = some (.ins C dx fs) /\ Cls K C /\ yy K C f /\ fs.lookup f = some v /\ Q v H1
def sFld (K:FG7) (ta tv:TE) (f:Str):TS:=fun D σ H=>tv σ H fun y H1=>ta σ H1 fun x H2=>∃ a C dx fs,x = .ref a /\ H2 a = some (.ins C dx fs) /\ Cls K C /\ yy K C f /\ fs.length < 1000 ∧
 D.nx σ (upd H2 a (.ins C dx (putF f y fs)))
def InOp (X:Cx) (op:Operator) (rd:V -> V -> Hp -> VK -> Prop):Prop :=
 ∀ (pins:List (Addr × Obj)) (s:Shared) (σ:St) (H:Hp) (x y:V) (u v:Value) (Q:VK),Inv X pins σ H s -> RelV x u -> RelV y v -> rd x y H Q -> wpAny (model X.prog X.w) X.A (inplaceOp op u v) (EP X pins σ Q) X.xe s
def V7 (K:FG7) (ta tv:TE) (rd:V -> V -> Hp -> VK -> Prop) (f:Str):TS:=fun D σ H=>ta σ H fun x H1=>∃ a C dx fs v,x = .ref a /\ H1 a = some (.ins C dx fs) /\ Cls K C /\ yy K C f /\ fs.lookup f = some v ∧
 tv σ H1 fun y H2=>rd v y H2 fun z H3=>∃ dx' fs',H3 a = some (.ins C dx' fs') /\ fs'.length < 1000 /\ D.nx σ (upd H3 a (.ins C dx' (putF f z fs')))
section
variable {X:Cx} {o e value:Expr} {f:Str} {pos pos' tpos:Pos} {ta tv:TE}
theorem zy (he:PE X e ta) (hb:attributeBase e f X.env (eval e X.env) = eval e X.env):PE X (.Attribute e f pos) (tFld X.K ta f):=by
 intro pins s σ H Q I h
 refine V6 hb (thn (he pins s σ H _ I h) fun u s1 ⟨x,H1,I1,rx,a,C,dx,fs,v,ex,ea,c,n,l,q⟩=>?_)
 subst ex
 obtain rfl:u = Value.ref a:=rx
 exact u9 I1 ea c n l fun u' s2 I2 ru=>⟨v,H1,I2,ru,q⟩
theorem xL (ha:PE X o ta) (hv:PE X value tv) (hs:swapsWith value (some (.Attribute o f pos')) pos.line X.env = pure false):PS X (.Assign [.Attribute o f pos'] value pos) (sFld X.K ta tv f):=by
 intro pins s σ H D I h
 refine plainObj_wpAny_Assign_Attribute (thn (hv pins s σ H _ I h) fun u s1 ⟨y,H1,I1,ry,q⟩=>thn (ha pins s1 σ H1 _ I1 q) fun ov s2 ⟨x,H2,I2,rx,a,C,dx,fs,ex,ea,c,n,l,q2⟩=>?_) hs
 subst ex
 obtain rfl:ov = Value.ref a:=rx
 exact tj I2 ea c n l ry fun s3 I3=>⟨σ,_,I3,q2⟩
theorem Y1 {op:Operator} {rd:V -> V -> Hp -> VK -> Prop} (ha:PE X o ta) (hv:PE X value tv) (hop:InOp X op rd):PS X (.AugAssign (.Attribute o f tpos) op value pos) (V7 X.K ta tv rd f):=by
 intro pins s σ H D I h
 refine wpAny_AugAssign_AttributeAny (thn (ha pins s σ H _ I h) fun ov s1 ⟨x,H1,I1,rx,a,C,dx,fs,v,ex,ea,c,n,l,q⟩=>?_)
 subst ex
 obtain rfl:ov = Value.ref a:=rx
 refine u9 I1 ea c n l fun u s2 I2 ru=>thn (hv pins s2 σ H1 _ I2 q) fun w3 s3 ⟨y,H2,I3,ry,q3⟩=>thn (hop pins s3 σ H2 v y u w3 _ I3 ru ry q3) fun w4 s4 ⟨z,H3,I4,rz,dx',fs',ea',l',q4⟩=>?_
 exact tj I4 ea' c n l' rz fun s5 I5=>⟨σ,_,I5,q4⟩
end
section
variable {X:Cx} {pins:List (Addr × Obj)} {σ:St} {H:Hp} {s:Shared} {A:Around} {E:VS7} {Q:VS7} {c:Value} {b:Bool}
inductive TyOf (K:FG7) (H:Hp):V -> Value -> Prop where
 | non:TyOf K H .non (.type "NoneType")
 | bl (x:Bool):TyOf K H (.bl x) (.type "bool")
 | int (i:Int):TyOf K H (.int i) (.type "int")
 | str (x:Str):TyOf K H (.str x) (.type "str")
 | flt (x:UInt64):TyOf K H (.flt x) (.type "float")
 | lst {a:Addr} {xs:List V} (e:H a = some (.lst xs)):TyOf K H (.ref a) (.type "list")
 | frz {a:Addr} {o:Obj} {xs:List V} (e:H a = some (.frz o (.lst xs))):TyOf K H (.ref a) (.type "list")
 | tup {a:Addr} {xs:List V} (e:H a = some (.tup xs)):TyOf K H (.ref a) (.type "tuple")
 | dK {a:Addr} {kvs:List (Key × V)} (e:H a = some (.dK kvs)):TyOf K H (.ref a) (.type "dict")
 | dT {a:Addr} {kvs:List (List Key × V)} (e:H a = some (.dT kvs)):TyOf K H (.ref a) (.type "dict")
 | ins {a C dx:Addr} {fs:List (Str × V)} (e:H a = some (.ins C dx fs)) (cl:Cls K C) (ha:PySem.W.findIn K (.ref C) "__class__" = some (some (.builtin "object.__class__")))
   (hn:PySem.W.specialIn K (.builtin "object.__class__") "__get__" = some (some (.builtin "getset_descriptor.__get__"))) (htk:PySem.W.takesIn K (.builtin "object.__class__") = some true)
   (hm:PySem.W.mroIn K C (.type "object") = some true):TyOf K H (.ref a) (.ref C)
theorem xQ {x:V} {u t:Value} (I:Inv X pins σ H s) (rx:RelV x u) (ty:TyOf X.K H x t) (e:PySem.W.kitOne X.K t c = some b) (h:∀ tk,Q (.bool b) { s with toks:=tk }) :
  wpAny (model X.prog X.w) A (call (.builtin "isinstance") [u,c]) Q E s:=by
 cases ty with
 | non=>cases (show u = Value.none from rx); exact PySem.W.kia_one PySem.W.kitx_none I.kIn True.intro e (fun z=>nomatch z) h
 | bl y=>cases (show u = Value.bool y from rx); exact PySem.W.kia_one PySem.W.kitx_bool I.kIn True.intro e (fun z=>nomatch z) h
 | int i=>obtain ⟨t,q⟩:=(show ∃ t,u = Value.int i t from rx); cases q; exact PySem.W.kia_one PySem.W.kitx_int I.kIn True.intro e (fun z=>nomatch z) h
 | str y=>obtain ⟨t,q⟩:=(show ∃ t,u = Value.str y t from rx); cases q; exact PySem.W.kia_one PySem.W.kitx_str I.kIn True.intro e (fun z=>nomatch z) h
 | flt y=>obtain ⟨t,q⟩:=(show ∃ t,u = Value.float y t from rx); cases q; exact PySem.W.kia_one PySem.W.kitx_float I.kIn True.intro e (fun z=>nomatch z) h
 | @lst a xs ea =>
  cases (show u = Value.ref a from rx)
  obtain ⟨_,_,n,_,h1⟩:=(show z5 X.prog X.w H s.heap a (.lst xs) from I.hok a _ ea)
  exact PySem.W.kia_one PySem.W.kitx_list I.kIn ⟨_,h1,rfl⟩ e (fun z=>nomatch z) h
 | @frz a ob xs ea =>
  cases (show u = Value.ref a from rx)
  obtain ⟨_,_,_,n,_,h1⟩:=(show z5 X.prog X.w H s.heap a (.frz ob (.lst xs)) from I.hok a _ ea)
  exact PySem.W.kia_one PySem.W.kitx_list I.kIn ⟨_,h1,rfl⟩ e (fun z=>nomatch z) h
 | @tup a xs ea =>
  cases (show u = Value.ref a from rx)
  obtain ⟨_,_,_,p⟩:=(show z5 X.prog X.w H s.heap a (.tup xs) from I.hok a _ ea)
  obtain ⟨o,h1,h2,_⟩:=p
  exact PySem.W.kia_one PySem.W.kitx_tuple I.kIn ⟨o,h1,h2⟩ e (fun z=>nomatch z) h
 | @dK a kvs ea =>
  cases (show u = Value.ref a from rx)
  obtain ⟨_,_,vs,_,p⟩:=(show z5 X.prog X.w H s.heap a (.dK kvs) from I.hok a _ ea)
  obtain ⟨o,es,ep,h1,h2,_⟩:=p
  exact PySem.W.kia_one PySem.W.kitx_dict I.kIn ⟨o,h1,h2.1⟩ e (fun z=>nomatch z) h
 | @dT a kvs ea =>
  cases (show u = Value.ref a from rx)
  obtain ⟨_,_,xs,_,o,es,ep,h1,h2,_⟩:=(show z5 X.prog X.w H s.heap a (.dT kvs) from I.hok a _ ea)
  exact PySem.W.kia_one PySem.W.kitx_dict I.kIn ⟨o,h1,h2.1⟩ e (fun z=>nomatch z) h
 | @ins a C dx fs ea cl ha hn htk hm =>
  cases (show u = Value.ref a from rx)
  obtain ⟨mA,O,_⟩:=sh I.hok ea
  obtain ⟨od,J,_⟩:=O.look
  exact PySem.W.kia_one (PySem.W.kitx_own (cl.get _) cl.hd ha hn htk hm) I.kIn J e (fun z=>nomatch z) h
end
end L2
namespace L2
open PySem PySem.Spec PyProof.Rows
structure Room (k:Nat) (A:Around):Prop where
 hd:A.handled = none
 dp:A.depth + 3 * k + 5 < recursionLimit
 un:A.units + 16 * k + 200 < cLine
 gd:A.guards = some []
theorem Room.mono {j k:Nat} {A:Around} (r:Room k A) (h:j <= k):Room j A:=⟨r.hd,by have:=r.dp; omega,by have:=r.un; omega,r.gd⟩
theorem Room.deeper {k:Nat} {A:Around} (r:Room (k + 1) A) (env:Env):Room k (A.deeper env) :=
 ⟨r.hd,by have:=r.dp; show A.depth + 1 + 3 * k + 5 < _; omega,by have:=r.un; show A.units + 3 + 16 * k + 200 < _; omega,r.gd⟩
theorem Room.in1 {k:Nat} {A:Around} (r:Room (k + 1) A):Room k A.in1 :=
 ⟨r.hd,by have:=r.dp; show A.depth + 3 * k + 5 < _; omega,by have:=r.un; show A.units + 1 + 16 * k + 200 < _; omega,r.gd⟩
theorem ZY {A:Around} {C:Addr} {us:List Value} {kw:List (Str × Value)}:(A.under (.builtin "type.__call__" ⟨.ref C :: us,kw⟩)).depth = A.depth + 1:=by
 first | rfl | simp [Around.under,Code.weight,Code.isCreation,Code.isGuard,Code.isCaller,Code.frames,Code.isFrame,guardIds]
theorem ZZ {A:Around} {C:Addr} {us:List Value} {kw:List (Str × Value)}:(A.under (.builtin "type.__call__" ⟨.ref C :: us,kw⟩)).units = A.units + 1:=by
 first | rfl | simp [Around.under,Code.cUnits,Code.frames,Code.isFrame]
theorem Room.make {k:Nat} {A:Around} (r:Room (k + 1) A) (C:Addr) (us:List Value) (kw:List (Str × Value)):Room k (A.under (.builtin "type.__call__" ⟨.ref C :: us,kw⟩)) :=
 ⟨r.hd,by have:=r.dp; rw [ZY]; omega,by have:=r.un; rw [ZZ]; omega,r.gd⟩
theorem Room.depth {k:Nat} {A:Around} (r:Room k A):A.depth < recursionLimit:=by have:=r.dp; omega
theorem Room.units {k:Nat} {A:Around} (r:Room k A):A.units + 64 < cLine:=by have:=r.un; omega
theorem Room.units0 {k:Nat} {A:Around} (r:Room k A):A.units < cLine:=by have:=r.un; omega
def tNil:TA:=fun _ H Q=>Q [] H
def SA (ta:TE) (tr:TA):TA:=fun σ H Q=>ta σ H fun x H1=>tr σ H1 fun xs H2=>Q (x :: xs) H2
section
variable {X:Cx} {e:Expr} {es:List Expr} {te:TE} {t:TA} {pos:Pos}
theorem zb:PA X [] tNil:=fun _ _ _ _ H Q I h=>Calls.spliced_nil ⟨[],H,I,.nil,h⟩
theorem za (ha:PE X e te) (hr:PA X es t) (hs:starEach (e :: es) X.env = (false,eval e X.env) :: starEach es X.env:=by rfl):PA X (e :: es) (SA te t):=by
 intro pos pins s σ H Q I h
 rw [hs]
 show wpAny _ _ (spliced ((false,eval e X.env) :: backTo pos (starEach es X.env))) _ _ s
 refine Calls.spliced_cons (thn (ha pins s σ H _ I h) fun u s1 ⟨x,H1,I1,r1,q1⟩=>?_)
 exact thn (hr pos pins s1 σ H1 _ I1 q1) fun us s2 ⟨xs,H2,I2,r2,q2⟩=>⟨x :: xs,H2,I2,.cons r1 r2,q2⟩
def tTup (t:TA):TE:=fun σ H Q=>t σ H fun xs H1=>xs.length <= sizeLine /\ ∀ p,H1 p = none -> Q (.ref p) (upd H1 p (.tup xs))
def tLst (t:TA):TE:=fun σ H Q=>t σ H fun xs H1=>xs.length <= sizeLine /\ ∀ p,H1 p = none -> Q (.ref p) (upd H1 p (.lst xs))
theorem zN {x1} (h:PA X es t):PE X (.Tuple es x1 pos) (tTup t):=by
 intro pins s σ H Q I hq
 refine wpAny_Tuple_spliced (thn (h pos pins s σ H _ I hq) fun us s1 ⟨xs,H1,I1,r,z,q⟩=>⟨by rw [← r.length]; exact z,?_⟩)
 have hf:H1 s1.heap.objs.size = none:=I1.hok.fresh (Nat.le_refl _)
 refine ⟨.ref s1.heap.objs.size,upd H1 s1.heap.objs.size (.tup xs),I1.laid (t':=s1.toks) (fun b u e=>Heap.get?_push_of_some _ e) (Nat.le_refl _) ?_,rfl,q _ hf⟩
 exact ⟨z,us,r,⟨_,Heap.get?_push_size _ rfl,rfl,_,rfl⟩⟩
theorem xr (h:PA X es t):PE X (.List es pos) (tLst t):=by
 intro pins s σ H Q I hq
 refine wpAny_List_spliced (thn (h pos pins s σ H _ I hq) fun us s1 ⟨xs,H1,I1,r,z,q⟩=>⟨by rw [← r.length]; exact z,?_⟩)
 have hf:H1 s1.heap.objs.size = none:=I1.hok.fresh (Nat.le_refl _)
 refine ⟨.ref s1.heap.objs.size,upd H1 s1.heap.objs.size (.lst xs),I1.laid (t':=s1.toks) (fun b u e=>Heap.get?_push_of_some _ e) (Nat.le_refl _) ?_,rfl,q _ hf⟩
 exact ⟨z,us,0,r,Heap.get?_push_size _ rfl⟩
end
abbrev Sp:=List V -> Hp -> VK -> XK -> Prop
abbrev CXT:=List Env -> Hp -> Shared -> XK -> Value -> Shared -> Prop
structure Env0 (P:Program) (w:World) (K:FG7) (mg:Str -> Option Value) (base:Heap) (A:Around) (outer:List Env) (s:Shared) (H:Hp):Prop where
 frames:A.frames = some outer
 mod:Mod K mg base
 bs:∀ b o,base.get? b = some o -> s.heap.get? b = some o /\ H b = none
 bsz:base.objs.size <= s.heap.objs.size
 funs:s.heap.FunFrames base outer
 frf:∀ b ∈ frs outer,H b = none
 hok:HOk P w H s.heap
 bare:AllBare s.gens
def CE (outer:List Env) (P:Program) (w:World) (H:Hp) (s:Shared) (Q:VK) (u:Value) (s':Shared):Prop :=
 ∃ v H',s'.os = s.os /\ AllBare s'.gens /\ Un (frs outer) [] H H' s.heap s'.heap /\ HOk P w H' s'.heap /\ RelV v u /\ Q v H'
def CR (CX:CXT) (outer:List Env) (P:Program) (w:World) (H:Hp) (s:Shared) (Q:VK) (E:XK) (r:Result) (s':Shared):Prop :=
 match r with
 | .ok (.ret u)=>CE outer P w H s Q u s'
 | .ok _=>False
 | .error e=>CX outer H s E e s'
structure FnOk (P:Program) (w:World) (K:FG7) (mg:Str -> Option Value) (base:Heap) (CX:CXT) (k:Nat) (f:Addr) (fd:FuncData) (ps:List Str) (sp:Sp):Prop where
 len:∀ vs H Q E,sp vs H Q E -> vs.length = ps.length
 run:∀ (A:Around) (outer:List Env) (s:Shared) (H:Hp) (args:Args) (us:List Value) (vs:List V) (Q:VK) (E:XK),Room k A -> Env0 P w K mg base A outer s H -> BindsTo s fd args (ps.zip us) -> Vals vs us -> sp vs H Q E →
  codeAny (model P w) A (.call (.ref f) args) (CR CX outer P w H s Q E) s
theorem FnOk.mono {P:Program} {w:World} {K:FG7} {mg:Str -> Option Value} {base:Heap} {CX:CXT} {j k:Nat} {f:Addr} {fd:FuncData} {ps:List Str} {sp:Sp} (F:FnOk P w K mg base CX j f fd ps sp) (h:j <= k) :
  FnOk P w K mg base CX k f fd ps sp:=⟨F.len,fun A outer s H args us vs Q E hr=>F.run A outer s H args us vs Q E (hr.mono h)⟩
theorem FnOk.imp {P:Program} {w:World} {K:FG7} {mg:Str -> Option Value} {base:Heap} {CX:CXT} {k:Nat} {f:Addr} {fd:FuncData} {ps:List Str} {sp sp':Sp} (F:FnOk P w K mg base CX k f fd ps sp)
  (h:∀ vs H Q E,sp' vs H Q E -> sp vs H Q E):FnOk P w K mg base CX k f fd ps sp' :=
 ⟨fun vs H Q E q=>F.len vs H Q E (h _ _ _ _ q),fun A outer s H args us vs Q E hr he hb hv hs=>F.run A outer s H args us vs Q E hr he hb hv (h _ _ _ _ hs)⟩
theorem Env0.make {P:Program} {w:World} {K:FG7} {mg:Str -> Option Value} {base:Heap} {A:Around} {outer:List Env} {s:Shared} {H:Hp} (e:Env0 P w K mg base A outer s H) (C:Addr) (us:List Value) (kw:List (Str × Value)) :
  Env0 P w K mg base (A.under (.builtin "type.__call__" ⟨.ref C :: us,kw⟩)) outer s H:=⟨by first | exact e.frames | (simpa [Around.under,Code.envs,Code.isFrame,pushEnvs] using e.frames),e.mod,e.bs,e.bsz,e.funs,e.frf,e.hok,e.bare⟩
theorem Env0.in1 {P:Program} {w:World} {K:FG7} {mg:Str -> Option Value} {base:Heap} {A:Around} {outer:List Env} {s:Shared} {H:Hp} (e:Env0 P w K mg base A outer s H) :
  Env0 P w K mg base A.in1 outer s H:=⟨e.frames,e.mod,e.bs,e.bsz,e.funs,e.frf,e.hok,e.bare⟩
section
variable {X:Cx} {pins:List (Addr × Obj)} {σ:St} {H:Hp} {s s':Shared}
theorem Inv.env0 (I:Inv X pins σ H s):Env0 X.prog X.w X.K X.mg X.base X.A X.stack s H :=
 ⟨I.ok.frames,I.ok.mod,I.bs,Nat.le_trans I.ok.bsz I.sz,I.stack,I.stkFree,I.hok,I.bare⟩
theorem Inv.after {Q:VK} {u:Value} (I:Inv X pins σ H s) (h:CE X.stack X.prog X.w H s Q u s'):EP X pins σ Q u s':=by
 obtain ⟨v,H',os,bare,un,hok,r,q⟩:=h
 obtain ⟨hh,g,d,t,os'⟩:=s'
 obtain rfl:os' = s.os:=os
 exact ⟨v,H',I.call (h':=hh) (g':=g) (d':=d) (t':=t) (ch:=[]) un hok bare (fun b z=>absurd z (by simp)),r,q⟩
end
def Th (sp:Sp) (dvs:List V) (E:XK) (t:TA):TE:=fun σ H Q=>t σ H fun vs H1=>sp (vs ++ dvs) H1 Q E
def Y2 (C:Addr) (m:Str) (sp:Sp) (dvs:List V) (E:XK) (ta:TE) (t:TA):TE:=fun σ H Q=>ta σ H fun x H1=>∃ a dx fs,x = .ref a /\ H1 a = some (.ins C dx fs) /\ fs.lookup m = none ∧
 t σ H1 fun vs H2=>sp (x :: (vs ++ dvs)) H2 Q E
def Ti (C:Addr) (sp:Sp) (dvs:List V) (E:XK) (t:TA):TE:=fun σ H Q=>t σ H fun vs H1=>∀ x dx,H1 x = none -> H1 dx = none -> dx ≠ x →
 sp (.ref x :: (vs ++ dvs)) (upd (upd H1 dx (.own x)) x (.ins C dx [])) (fun v H2=>v = .non /\ Q (.ref x) H2) E
def xA (K:FG7) (fd:FuncData) (ps:List Str) (ds:List Value):Prop :=
 ∀ (s:Shared) (us:List Value),K.In s.heap -> (us ++ ds).length = ps.length -> BindsTo s fd ⟨us,[]⟩ (ps.zip (us ++ ds))
theorem xA.all {K:FG7} {fd:FuncData} {ps:List Str} (h:∀ us:List Value,us.length = ps.length -> bindArgs fd ⟨us,[]⟩ = pure (ps.zip us)):xA K fd ps []:=fun s us _ hl=>by
 rw [List.append_nil] at hl ⊢
 exact .of_eq (h us hl)
def vX (CX:CXT) (X:Cx) (E:XK):Prop:=∀ (pins:List (Addr × Obj)) (σ:St) (H:Hp) (s:Shared) (e:Value) (s':Shared),Inv X pins σ H s -> CX X.stack H s E e s' -> X.xe e s'
section
variable {X:Cx} {CX:CXT} {k:Nat} {f C:Addr} {fd:FuncData} {ps:List Str} {sp:Sp} {dvs:List V} {ds:List Value} {E:XK} {x m:Str} {p pos apos:Pos} {e o:Expr} {es:List Expr} {ta:TE} {t:TA}
theorem Y3 {pins:List (Addr × Obj)} {σ:St} {H:Hp} {s:Shared} {Q:VK} {us:List Value} {vs:List V} (F:FnOk X.prog X.w X.K X.mg X.base CX k f fd ps sp) (hr:Room k X.A) (hb:xA X.K fd ps ds) (hd:Vals dvs ds) (hx:vX CX X E)
  (I:Inv X pins σ H s) (r:Vals vs us) (h:sp (vs ++ dvs) H Q E):wpAny (model X.prog X.w) X.A (call (.ref f) us) (EP X pins σ Q) X.xe s:=by
 have r2:Vals (vs ++ dvs) (us ++ ds):=r.append hd
 have hl:(us ++ ds).length = ps.length:=by rw [← r2.length]; exact F.len _ _ _ _ h
 refine wpAny_call (codeAny_mono (F.run X.A X.stack s H ⟨us,[]⟩ (us ++ ds) (vs ++ dvs) Q E hr I.env0 (hb s us I.kIn hl) r2 h) fun r s' hq=>?_)
 cases r with
 | error e=>exact hx pins σ H s e s' I hq
 | ok fl =>
  cases fl with
  | ret u=>exact I.after hq
  | next=>exact False.elim hq
  | brk=>exact False.elim hq
  | cont=>exact False.elim hq
theorem V8 (F:FnOk X.prog X.w X.K X.mg X.base CX k f fd ps sp) (hr:Room k X.A) (hg:Gl X x) (hm:X.mg x = some (.ref f)) (hk:PySem.W.keepIn X.K (.ref f) = true) (hb:xA X.K fd ps ds) (hd:Vals dvs ds) (hx:vX CX X E)
  (ha:PA X (e :: es) t) (hdb:(x == ("__debug__":Str)) = false:=by decide) (he:starEach (e :: es) X.env = (false,eval e X.env) :: starEach es X.env:=by rfl) (hpl:(backTo pos (starEach es X.env)).any (·.1) = false:=by rfl) :
  PE X (.Call (.Name x p) (e :: es) [] pos) (Th sp dvs E t):=by
 intro pins s σ H Q I h
 refine wpAny_Call_Name_kw (jk I hg hm ?_ hdb)
 refine PySem.W.callWith_K (h₀:=X.base) I.ok.mod.kin hk (thn (ha pos pins s σ H _ I h) fun us s1 ⟨vs,H1,I1,r,q⟩=>⟨I1.kIn,?_⟩) he hpl
 exact Y3 F hr hb hd hx I1 r q
theorem V9 {pl:Sem Bool} (he:PE X o ta) (c:Cls X.K C) (hm:Meth X.K C m f) (F:FnOk X.prog X.w X.K X.mg X.base CX k f fd ps sp) (hr:Room k X.A) (hb:xA X.K fd ps ds) (hd:Vals dvs ds) (hx:vX CX X E) (ha:PA X (e :: es) t)
  (hst:starEach (e :: es) X.env = (false,eval e X.env) :: starEach es X.env:=by rfl) (hpl:(backTo pos (starEach es X.env)).any (·.1) = false:=by rfl)
  (ht:eval (.Call (.Attribute o m apos) (e :: es) [] pos) X.env = (do
   let ov ← eval o X.env
   standAt apos.atName
   let (f,first) ← holding [ov] (getMethod ov m pl)
   callWith pos f first (backTo pos (starEach (e :: es) X.env)) (backToKw pos (keywordEach [] X.env))):=by rfl) :
  PE X (.Call (.Attribute o m apos) (e :: es) [] pos) (Y2 C m sp dvs E ta t):=by
 intro pins s σ H Q I h
 refine PySem.W.methodCall_KW (pl:=pl) (thn (he pins s σ H _ I h) fun u s1 ⟨x,H1,I1,rx,a,dx,fs,ex,ea,l,q⟩=>?_) ht
 subst ex
 obtain rfl:u = Value.ref a:=rx
 refine tf I1 ea c hm l ?_
 refine PySem.W.callWith_K (first:=[.ref a]) (h₀:=X.base) I.ok.mod.kin hm.kp (thn (ha pos pins s1 σ H1 _ I1 q) fun us s2 ⟨vs,H2,I2,r,q2⟩=>⟨I2.kIn,?_⟩) hst hpl
 exact Y3 (us:=.ref a :: us) (vs:=.ref a :: vs) F hr hb hd hx I2 (.cons rfl r) q2
theorem Zi {pl:Sem Bool} (he:PE X o ta) (c:Cls X.K C) (hm:Meth X.K C m f) (F:FnOk X.prog X.w X.K X.mg X.base CX k f fd ps sp) (hr:Room k X.A) (hb:xA X.K fd ps ds) (hd:Vals dvs ds) (hx:vX CX X E)
  (ht:eval (.Call (.Attribute o m apos) [] [] pos) X.env = (do
   let ov ← eval o X.env
   standAt apos.atName
   let (f,first) ← holding [ov] (getMethod ov m pl)
   callWith pos f first (backTo pos (starEach [] X.env)) (backToKw pos (keywordEach [] X.env))):=by rfl) :
  PE X (.Call (.Attribute o m apos) [] [] pos) (Y2 C m sp dvs E ta tNil):=by
 intro pins s σ H Q I h
 refine PySem.W.methodCall_KW (pl:=pl) (thn (he pins s σ H _ I h) fun u s1 ⟨x,H1,I1,rx,a,dx,fs,ex,ea,l,q⟩=>?_) ht
 subst ex
 obtain rfl:u = Value.ref a:=rx
 refine tf I1 ea c hm l ?_
 exact PySem.W.callWith_K0 (first:=[.ref a]) I1.kIn hm.kp (Y3 (us:=[.ref a]) (vs:=[.ref a]) F hr hb hd hx I1 (.cons rfl .nil) q)
structure Mk (K:FG7) (C f:Addr):Prop where
 makes:PySem.W.makesIn K C = true
 init:PySem.W.findIn K (.ref C) "__init__" = some (some (.ref f))
 fn:PySem.W.isFn K (.ref f) = true
 kp:PySem.W.keepIn K (.ref C) = true
theorem WE {pins:List (Addr × Obj)} {σ:St} {H:Hp} {s:Shared} {Q:VK} {us:List Value} {vs:List V} (M:Mk X.K C f) (F:FnOk X.prog X.w X.K X.mg X.base CX k f fd ps sp) (hr:Room (k + 1) X.A) (hb:xA X.K fd ps ds) (hd:Vals dvs ds)
  (hx:vX CX X E) (I:Inv X pins σ H s) (r:Vals vs us)
  (h:∀ x dx,H x = none -> H dx = none -> dx ≠ x -> sp (.ref x :: (vs ++ dvs)) (upd (upd H dx (.own x)) x (.ins C dx [])) (fun v H2=>v = .non /\ Q (.ref x) H2) E) :
  wpAny (model X.prog X.w) X.A (call (.ref C) us) (EP X pins σ Q) X.xe s:=by
 have hq:=h (s.heap.objs.size + 1) s.heap.objs.size (I.hok.fresh (Nat.le_succ _)) (I.hok.fresh (Nat.le_refl _)) (Nat.ne_of_lt (Nat.lt_succ_self _))
 have I2:=Inv.made (C:=C) I
 have r2:Vals (V.ref (s.heap.objs.size + 1) :: (vs ++ dvs)) (Value.ref (s.heap.objs.size + 1) :: (us ++ ds)):=.cons rfl (r.append hd)
 have hl:(Value.ref (s.heap.objs.size + 1) :: us ++ ds).length = ps.length:=by
  have e:=r2.length
  rw [F.len _ _ _ _ hq] at e
  exact e.symm
 refine wpAny_call (WD (f:=f) I.kIn M.makes M.init (beq_iff_eq.mp M.fn) (codeAny_mono (F.run _ X.stack _ _ ⟨Value.ref (s.heap.objs.size + 1) :: us,[]⟩ (Value.ref (s.heap.objs.size + 1) :: (us ++ ds)) _ _ E (hr.make C us [])
  (I2.env0.make C us []) (hb _ (Value.ref (s.heap.objs.size + 1) :: us) I2.kIn hl) r2 hq) fun r s' hq'=>?_))
 cases r with
 | error e=>exact hx pins σ _ _ e s' I2 hq'
 | ok fl =>
  cases fl with
  | ret u =>
   obtain ⟨v,H',I3,rv,ev,q3⟩:=I2.after hq'
   subst ev
   exact ⟨rv,⟨V.ref (s.heap.objs.size + 1),H',I3,rfl,q3⟩⟩
  | next=>exact False.elim hq'
  | brk=>exact False.elim hq'
  | cont=>exact False.elim hq'
theorem Ua (M:Mk X.K C f) (F:FnOk X.prog X.w X.K X.mg X.base CX k f fd ps sp) (hr:Room (k + 1) X.A) (hg:Gl X x) (hm:X.mg x = some (.ref C)) (hb:xA X.K fd ps ds) (hd:Vals dvs ds) (hx:vX CX X E)
  (ha:PA X (e :: es) t) (hdb:(x == ("__debug__":Str)) = false:=by decide) (he:starEach (e :: es) X.env = (false,eval e X.env) :: starEach es X.env:=by rfl) (hpl:(backTo pos (starEach es X.env)).any (·.1) = false:=by rfl) :
  PE X (.Call (.Name x p) (e :: es) [] pos) (Ti C sp dvs E t):=by
 intro pins s σ H Q I h
 refine wpAny_Call_Name_kw (jk I hg hm ?_ hdb)
 refine PySem.W.callWith_K (h₀:=X.base) I.ok.mod.kin M.kp (thn (ha pos pins s σ H _ I h) fun us s1 ⟨vs,H1,I1,r,q⟩=>⟨I1.kIn,?_⟩) he hpl
 exact WE M F hr hb hd hx I1 r q
end
structure FnScope (N P:List Str) (sc:Scope):Prop where
 kind:sc.kind = .function
 co:sc.isCoroutine = false
 gen:sc.isGenerator = false
 nd:N.Nodup
 pre:N.take P.length = P
 par:∀ x ∈ P,sc.names.lookup x = some .local \/ sc.names.lookup x = some .cell
 nofree:∀ y ∈ sc.names,y.2 ≠ .free
theorem rO {kindOf:Str -> Option NameKind} {x:Str}:∀ {binds:List (Str × Value)} {m:Str -> Option Value},(∀ v,(x,v) ∉ binds) -> bindL kindOf binds m x = m x
 | [],_,_=>rfl
 | (n,v) :: r,m,h=>by
  unfold bindL
  rw [rO fun w hw=>h w (List.mem_cons_of_mem _ hw)]
  split
  ·have:x ≠ n:=by rintro rfl; exact h v List.mem_cons_self
   simp [this]
  ·rfl
theorem rP {kindOf:Str -> Option NameKind} {x:Str}:∀ {binds:List (Str × Value)} {m:Str -> Option Value},(∀ v,(x,v) ∉ binds) -> bindC kindOf binds m x = m x
 | [],_,_=>rfl
 | (n,v) :: r,m,h=>by
  unfold bindC
  rw [rP fun w hw=>h w (List.mem_cons_of_mem _ hw)]
  split
  ·rfl
  ·have:x ≠ n:=by rintro rfl; exact h v List.mem_cons_self
   simp [this]
theorem rQ {kindOf:Str -> Option NameKind} {x:Str} {v:Value}:∀ {P:List Str} {vs:List Value} {i:Nat} {m:Str -> Option Value},P.Nodup -> P[i]? = some x -> vs[i]? = some v -> kindOf x = some .local →
  bindL kindOf (P.zip vs) m x = some v
 | [],_,_,_,_,h,_,_=>by simp at h
 | _ :: _,[],_,_,_,_,h,_=>by simp at h
 | p :: P,w :: vs,0,m,nd,h1,h2,hk=>by
  simp at h1 h2; subst h1; subst h2
  show bindL kindOf ((p,w) :: P.zip vs) m p = _
  unfold bindL
  rw [rO fun v hv=>(List.nodup_cons.mp nd).1 (List.of_mem_zip hv).1,if_pos hk]
  simp
 | p :: P,w :: vs,i + 1,m,nd,h1,h2,hk=>by
  show bindL kindOf ((p,w) :: P.zip vs) m x = _
  unfold bindL
  exact rQ (i:=i) (List.nodup_cons.mp nd).2 (by simpa using h1) (by simpa using h2) hk
theorem rR {kindOf:Str -> Option NameKind} {x:Str} {v:Value}:∀ {P:List Str} {vs:List Value} {i:Nat} {m:Str -> Option Value},P.Nodup -> P[i]? = some x -> vs[i]? = some v -> kindOf x ≠ some .local →
  bindC kindOf (P.zip vs) m x = some v
 | [],_,_,_,_,h,_,_=>by simp at h
 | _ :: _,[],_,_,_,_,h,_=>by simp at h
 | p :: P,w :: vs,0,m,nd,h1,h2,hk=>by
  simp at h1 h2; subst h1; subst h2
  show bindC kindOf ((p,w) :: P.zip vs) m p = _
  unfold bindC
  rw [rP fun v hv=>(List.nodup_cons.mp nd).1 (List.of_mem_zip hv).1,if_neg hk]
  simp
 | p :: P,w :: vs,i + 1,m,nd,h1,h2,hk=>by
  show bindC kindOf ((p,w) :: P.zip vs) m x = _
  unfold bindC
  exact rR (i:=i) (List.nodup_cons.mp nd).2 (by simpa using h1) (by simpa using h2) hk
def si (N:List Str) (vs:List V):St:=vs.map some ++ List.replicate (N.length - vs.length) none
def cxOf (CX:CXT) (P:Program) (w:World) (K:FG7) (mg:Str -> Option Value) (base:Heap) (N:List Str) (qual:Str) (scope:Scope) (f:Addr) (cd:Value) (A:Around) (outer:List Env) (s:Shared) (H:Hp) (E:XK):Cx where
 prog:=P
 w:=w
 K:=K
 mg:=mg
 base:=base
 A:=A.deeper (envOfC qual scope s.heap.objs.size f cd)
 N:=N
 s₀:=s
 H₀:=H
 env:=envOfC qual scope s.heap.objs.size f cd
 outer:=outer
 stack:=envOfC qual scope s.heap.objs.size f cd :: outer
 ex:=[]
 calm:=true
 fn:=fun _=>true
 pn:=[]
 xe:=fun e s'=>wpAny (model P w) (A.deeper (envOfC qual scope s.heap.objs.size f cd)) (leaving (envOfC qual scope s.heap.objs.size f cd) e) (fun _ s''=>CX outer H s E e s'') (fun e' s''=>CX outer H s E e' s'') s'
theorem Zj {sc:Scope} {n:Nat} {x:Str} (h:sc.names.lookup x = some .cell):∃ c,(cellsFrom n sc.names []).lookup x = some c:=by
 have q:=PySem.W.cellsFrom_some sc.names n [] (.inl h)
 exact Option.isSome_iff_exists.mp q
theorem Y4 {CX:CXT} {P:Program} {w:World} {K:FG7} {mg:Str -> Option Value} {base:Heap} {N ps:List Str} {qual:Str} {scope:Scope} {f:Addr} {cd:Value} {A:Around} {outer:List Env} {s s1:Shared} {H:Hp} {E:XK} {us:List Value} {vs:List V}
  (S:FnScope N ps scope) (hd:A.handled = none) (e0:Env0 P w K mg base A outer s H) (hl:vs.length = ps.length) (r:Vals vs us)
  (x:InCallC s s.heap.objs.size (bindL (envOfC qual scope s.heap.objs.size f cd).kindOf (ps.zip us) fun _=>none) (cellsFrom (s.heap.objs.size + 1) scope.names []) (bindC (envOfC qual scope s.heap.objs.size f cd).kindOf (ps.zip us) fun _=>none) s1) :
  Inv (cxOf CX P w K mg base N qual scope f cd A outer s H E) [] (si N vs) H s1:=by
 have hpl:ps.length <= N.length:=by have:=congrArg List.length S.pre; rw [List.length_take] at this; omega
 obtain ⟨h1,tk,rfl,hk⟩:=x.done
 have noA:∀ b:Addr,b ∉ (cxOf CX P w K mg base N qual scope f cd A outer s H E).ex:=fun b z=>absurd (show b ∈ ([]:List Addr) from z) (by simp)
 refine ⟨⟨e0.mod,S.kind,rfl,rfl,Nat.le_refl _,fun y z c h1 h2=>?_,fun y hy=>?_,fun y c _ h=>?_,fun _=>hd,Around.frames_deeper e0.frames,.inr ⟨rfl,rfl⟩,fun b z=>absurd z (noA b),e0.bs,e0.bsz,fun b _ _=>noA b,fun b z=>absurd z (noA b),e0.funs,e0.frf⟩,
  rfl,e0.bare,Un.kept hk,⟨_,x.toInCall.ns,fun i y v h1 h2 h3=>?_⟩,fun y c h=>⟨_,x.cell y c h⟩,e0.hok.fresh (Nat.le_refl _),fun y c h=>?_,fun p hp=>absurd (show p ∈ ([]:List (Addr × Obj)) from hp) (by simp),e0.hok.kept hk,?_⟩
 ·exact name_of_addr x.apart (PySem.mem_of_lookup h1) (PySem.mem_of_lookup h2)
 ·have hy:scope.names.lookup y = some .cell \/ scope.names.lookup y = some .free:=hy
  rcases hy with hy | hy
  ·exact Zj hy
  ·exact absurd rfl (S.nofree _ (PySem.mem_of_lookup hy))
 ·exact Nat.le_of_lt (x.above y c (PySem.mem_of_lookup h))
 ·have hi:i < vs.length:=by
   unfold si at h2
   by_cases hi:i < vs.length
   ·exact hi
   ·rw [List.getElem?_append_right (by simpa using hi)] at h2
    rw [List.getElem?_replicate] at h2
    split at h2 <;> cases h2
  have ha:vs[i]? = some v:=by
   unfold si at h2
   rw [List.getElem?_append_left (by simpa using hi),List.getElem?_map] at h2
   cases e:vs[i]? with
   | none=>rw [e] at h2; cases h2
   | some a=>rw [e] at h2; cases h2; rfl
  obtain ⟨u,hu,rv⟩:=r.get ha
  have hp:ps[i]? = some y:=by
   rw [← S.pre,List.getElem?_take_of_lt (by omega)]; exact h1
  have ndP:ps.Nodup:=by rw [← S.pre]; exact S.nd.sublist (List.take_sublist _ _)
  refine ⟨u,rv,?_⟩
  rcases S.par y (List.mem_of_getElem? hp) with k | k
  ·exact .inl ⟨k,rQ ndP hp hu k⟩
  ·obtain ⟨c,e⟩:=Zj (n:=s.heap.objs.size + 1) k
   refine .inr ⟨.inl k,c,e,?_⟩
   have q:=x.cell y c e
   rw [rR ndP hp hu (by show scope.names.lookup y ≠ _; rw [k]; decide)] at q
   exact q
 ·exact e0.hok.fresh (Nat.le_of_lt (x.above y c (PySem.mem_of_lookup h)))
 ·unfold si
  show _ = N.length
  rw [List.length_append,List.length_map,List.length_replicate]
  omega
theorem Tj {CX:CXT} {P:Program} {w:World} {K:FG7} {mg:Str -> Option Value} {base:Heap} {k:Nat} {f:Addr} {name qual:Str} {params:Arguments} {body:List Stmt} {scope:Scope} {dV kV doc pm cdv ct oc:Value} {an od:Option Addr}
  {osl:Array (Option Value)} {N ps:List Str} {sp:Sp} (lk:K.lookup f = some ⟨oc,od,.func (PySem.W.fnOf name qual params body scope dV kV doc pm an cdv ct),osl⟩) (hcd:PySem.W.codeIn K cdv qual = true) (S:FnScope N ps scope)
  (len:∀ vs H Q E,sp vs H Q E -> vs.length = ps.length)
  (hbody:∀ (A:Around) (outer:List Env) (s:Shared) (H:Hp) (vs:List V) (Q:VK) (E:XK),Room k (A.deeper (envOfC qual scope s.heap.objs.size f cdv)) -> sp vs H Q E →
   ∃ t,PSs (cxOf CX P w K mg base N qual scope f cdv A outer s H E) body t /\ t { nx:=fun _ H'=>Q .non H',rt:=Q } (si N vs) H) :
  FnOk P w K mg base CX (k + 1) f (PySem.W.fnOf name qual params body scope dV kV doc pm an cdv ct) ps sp:=by
 refine ⟨len,fun A outer s H args us vs Q E hr e0 hb r hsp=>?_⟩
 have hl:=len _ _ _ _ hsp
 have KX:K.In s.heap:=e0.mod.kin.keeps fun b o e=>(e0.bs b o e).1
 have lim:s.heap.NoLimit:=e0.mod.nolimit.keeps fun b o e=>(e0.bs b o e).1
 have hkind:∀ y ∈ ps.zip us,scope.names.lookup y.1 = some .local \/ (scope.names.lookup y.1 = some .cell /\ ((cellsFrom (s.heap.objs.size + 1) scope.names []).lookup y.1).isSome = true):=fun ⟨n,v⟩ hy=>by
  rcases S.par n (List.of_mem_zip hy).1 with q | q
  ·exact .inl q
  ·exact .inr ⟨q,PySem.W.cellsFrom_some _ _ _ (.inl q)⟩
 refine codeAny_call_function hr.depth (KX _ _ lk) rfl S.co S.gen rfl (PySem.W.codeRec_of KX hcd) (hb _ _ _ _ ?_)
 refine wpAny_newFunctionEnv_cells S.kind hkind fun env he s1 x=>?_
 subst he
 refine ⟨lim.keeps x.toInCall.keep,codeAny_func ?_⟩
 obtain ⟨t,ht,hq⟩:=hbody A outer s H vs Q E (hr.deeper _) hsp
 have I:Inv (cxOf CX P w K mg base N qual scope f cdv A outer s H E) [] (si N vs) H s1:=Y4 S hr.hd e0 hl r x
 refine wpAny_mono (ht [] s1 (si N vs) H _ I hq) (fun fl s' hs=>?_) fun e s' hs=>hs
 have fin:∀ {σ':St} {H':Hp} {v:V} {u:Value},Inv (cxOf CX P w K mg base N qual scope f cdv A outer s H E) [] σ' H' s' -> RelV v u -> Q v H' -> CE outer P w H s Q u s' :=
  fun {σ' H' v u} J rv q=>⟨v,H',J.os,J.bare,J.base,J.hok,rv,q⟩
 cases fl with
 | ret u =>
  obtain ⟨v,σ',H',J,rv,q⟩:=hs
  exact fin J rv q
 | next =>
  obtain ⟨σ',H',J,q⟩:=hs
  exact fin (v:=V.non) (u:=Value.none) J rfl q
 | brk =>
  obtain ⟨_,_,_,q⟩:=hs
  exact False.elim q
 | cont =>
  obtain ⟨_,_,_,q⟩:=hs
  exact False.elim q
end L2
namespace L2
open PySem PySem.Spec PyProof.Rows
section
variable {X:Cx} {x:Str} {p pos:Pos} {e:Expr} {es:List Expr} {t:TA} {id T:String} {r:List V -> Hp -> VK -> Prop}
def tCB (r:List V -> Hp -> VK -> Prop) (t:TA):TE:=fun σ H Q=>t σ H fun vs H1=>r vs H1 Q
theorem zq (hc:xq X (.builtin id) r) (hg:Gl X x) (hm:X.mg x = none) (hv:bootBuiltins x = some (.builtin id)) (ha:PA X (e :: es) t) (hn:x ≠ "__name__":=by decide) (hdb:(x == ("__debug__":Str)) = false:=by decide)
  (he:starEach (e :: es) X.env = (false,eval e X.env) :: starEach es X.env:=by rfl) (hpl:(backTo pos (starEach es X.env)).any (·.1) = false:=by rfl):PE X (.Call (.Name x p) (e :: es) [] pos) (tCB r t):=by
 intro pins s σ H Q I h
 refine wpAny_Call_Name_kw (wE I hg hm hv ?_ hn hdb)
 exact PyProof.Rows.callWith_builtin1 (thn (ha pos pins s σ H _ I h) fun us s1 ⟨vs,H1,I1,r1,q1⟩=>hc pins s1 σ H1 vs us Q I1 r1 q1) he hpl
theorem yp (hc:xq X (.type T) r) (hg:Gl X x) (hm:X.mg x = none) (hv:bootBuiltins x = some (.type T)) (ha:PA X (e :: es) t) (hn:x ≠ "__name__":=by decide) (hdb:(x == ("__debug__":Str)) = false:=by decide)
  (he:starEach (e :: es) X.env = (false,eval e X.env) :: starEach es X.env:=by rfl) (hpl:(backTo pos (starEach es X.env)).any (·.1) = false:=by rfl):PE X (.Call (.Name x p) (e :: es) [] pos) (tCB r t):=by
 intro pins s σ H Q I h
 refine wpAny_Call_Name_kw (wE I hg hm hv ?_ hn hdb)
 exact PyProof.Rows.callWith_type1 (thn (ha pos pins s σ H _ I h) fun us s1 ⟨vs,H1,I1,r1,q1⟩=>hc pins s1 σ H1 vs us Q I1 r1 q1) he hpl
end
end L2
namespace HT
open PySem PyProof.Rows
section
variable {prog:Program} {w:World} {A:Around} {E:VS7} {s:Shared}
theorem cat_tup {t b:Addr} {vs ws:List Value} {Q:VS7} (ht:IsTup s.heap t vs.toArray) (hb:IsTup s.heap b ws.toArray) (hv:vs ≠ [])
  (h1:ws = [] -> Q (.ref t) s) (h2:ws ≠ [] -> Q (.ref s.heap.objs.size) { s with heap:=s.heap.push { cls:=.type "tuple",data:=.seq (vs ++ ws).toArray } })
  (hsz:vs.length + ws.length <= sizeLine):wpAny (model prog w) A (binaryOp .Add (.ref t) (.ref b)) Q E s:=by
 obtain ⟨⟨cls,dd,data,sl⟩,ho,hc,n,hd⟩:=id ht
 obtain ⟨⟨cls2,dd2,data2,sl2⟩,ho2,hc2,n2,hd2⟩:=id hb
 simp only at hc hd hc2 hd2
 subst hc hd hc2 hd2
 have e:vs.toArray ++ ws.toArray = (vs ++ ws).toArray:=by simp
 by_cases hw:ws = []
 ·exact concat_meets ⟨_,ho,rfl⟩ ⟨_,ho2,rfl⟩ noFill_tuple_add seq_tuple_add PySem.F.slot_tuple_add PySem.F.entry_tuple_add (PySem.F.args_tuple_add_2 _ _)
   (tuple_addW1 t b vs.toArray ws.toArray n n2 dd dd2 sl sl2 (by simpa using hv) (by simp [hw])) ⟨ho,ho2,h1 hw⟩
 ·refine concat_meets ⟨_,ho,rfl⟩ ⟨_,ho2,rfl⟩ noFill_tuple_add seq_tuple_add PySem.F.slot_tuple_add PySem.F.entry_tuple_add (PySem.F.args_tuple_add_2 _ _)
   (tuple_addW2 t b vs.toArray ws.toArray n n2 dd dd2 sl sl2 (by simpa using hv) (by simpa using hw) (by rw [List.size_toArray,List.size_toArray]; exact hsz)) ⟨ho,ho2,?_⟩
  rw [e]
  exact h2 hw
def sIx (n d:Nat):Option Int -> Nat
 | none=>d
 | some v=>if v < 0 then (v + (n:Int)).toNat else min v.toNat n
end
end HT
namespace L2
open PySem PySem.Spec PyProof.Rows
abbrev TO:=St -> Hp -> (Option Int -> Hp -> Prop) -> Prop
def PO (X:Cx) (e:Option Expr) (t:TO):Prop :=
 ∀ (pins:List (Addr × Obj)) (s:Shared) (σ:St) (H:Hp) (Q:Option Int -> Hp -> Prop),Inv X pins σ H s -> t σ H Q →
  wpAny (model X.prog X.w) X.A (evalPart e X.env) (fun u s'=>∃ o H',Inv X pins σ H' s' /\ IsPart u o /\ Q o H') X.xe s
def Ub:TO:=fun _ H Q=>Q none H
def SB (t:TE):TO:=fun σ H Q=>t σ H fun x H1=>∃ i,x = .int i /\ Q (some i) H1
theorem tm {ns:List Int}:∀ {us:List Value},Vals (ns.map V.int) us -> IntsAre us ns:=by
 induction ns with
 | nil=>intro us r; rw [List.map_nil] at r; cases r; exact .nil
 | cons n ns ih =>
  intro us r
  rw [List.map_cons] at r
  cases r with
  | cons r1 r2 =>
   obtain ⟨t,e⟩:=r1
   subst e
   exact .cons n t (ih r2)
section
variable {X:Cx} {e:Expr} {te:TE} {lo hi:Option Expr} {tl th:TO} {pos p2:Pos}
theorem Uc:PO X none Ub:=by
 intro pins s σ H Q I h
 rw [evalPart_none]
 exact wpAny_pure ⟨none,H,I,.none,h⟩
theorem Ud (h:PE X e te):PO X (some e) (SB te):=by
 intro pins s σ H Q I hw
 rw [evalPart_some]
 refine thn (h pins s σ H _ I hw) fun u s1 ⟨x,H1,I1,r1,q1⟩=>?_
 obtain ⟨i,rfl,q⟩:=q1
 obtain ⟨t,rfl⟩:=r1
 exact ⟨some i,H1,I1,.int i t,q⟩
def SlR (X:Cx) (r:V -> Option Int -> Option Int -> Hp -> VK -> Prop):Prop :=
 ∀ (pins:List (Addr × Obj)) (s:Shared) (σ:St) (H:Hp) (x:V) (v vl vu:Value) (lo hi:Option Int) (sl:Addr) (Q:VK),Inv X pins σ H s -> RelV x v -> s.heap.IsSliceOf sl vl vu .none -> IsPart vl lo -> IsPart vu hi -> r x lo hi H Q →
  ∃ T id,typeLookup (.type T) "__getitem__" = pure (some (.builtin id)) /\ s.TypeIs v T /\ wpAny (model X.prog X.w) X.A (getItem v (.ref sl)) (EP X pins σ Q) X.xe s
theorem SlR.or {r r':V -> Option Int -> Option Int -> Hp -> VK -> Prop} (h:SlR X r) (h':SlR X r'):SlR X (fun x lo hi H Q=>r x lo hi H Q \/ r' x lo hi H Q):=by
 intro pins s σ H x v vl vu lo hi sl Q I rx hs pl pu q
 rcases q with q | q
 ·exact h pins s σ H x v vl vu lo hi sl Q I rx hs pl pu q
 ·exact h' pins s σ H x v vl vu lo hi sl Q I rx hs pl pu q
def tSl (r:V -> Option Int -> Option Int -> Hp -> VK -> Prop) (te:TE) (tl th:TO):TE:=fun σ H Q=>te σ H fun x H1=>tl σ H1 fun l H2=>th σ H2 fun u H3=>r x l u H3 Q
theorem WF {r:V -> Option Int -> Option Int -> Hp -> VK -> Prop} (hr:SlR X r) (he:PE X e te) (hl:PO X lo tl) (hu:PO X hi th):PE X (.Subscript e (.Slice lo hi none p2) pos) (tSl r te tl th):=by
 intro pins s σ H Q I h
 refine Subscript_ (thn (he pins s σ H _ I h) fun v s1 ⟨x,H1,I1,r1,q1⟩=>?_)
 refine wpAny_Slice (thn (hl pins s1 σ H1 _ I1 q1) fun vl s2 ⟨l,H2,I2,pl,q2⟩=>thn (hu pins s2 σ H2 _ I2 q2) fun vu s3 ⟨u,H3,I3,pu,q3⟩=>?_)
 rw [evalPart_none]
 refine wpAny_pure ?_
 have I4:Inv X pins σ H3 { s3 with heap:=s3.heap.push { cls:=.type "slice",data:=.fields #[vl,vu,.none] } }:=I3.kept (t':=s3.toks) fun b ob q=>Heap.get?_push_of_some _ q
 obtain ⟨T,id,hT,ht,hg⟩:=hr pins { s3 with heap:=s3.heap.push { cls:=.type "slice",data:=.fields #[vl,vu,.none] } } σ H3 x v vl vu l u s3.heap.objs.size Q I4 r1 (Heap.IsSliceOf.new ..) pl pu q3
 show wpAny (model X.prog X.w) X.A (subscriptTail e (.Slice lo hi none p2) v (.ref s3.heap.objs.size)) (EP X pins σ Q) X.xe { s3 with heap:=s3.heap.push { cls:=.type "slice",data:=.fields #[vl,vu,.none] } }
 exact tail_any (ops:=[.ref s3.heap.objs.size,v]) ht hT hg (by with_unfolding_all rfl)
def cutV (xs:List V) (lo hi:Option Int):List V:=(xs.drop (HT.sIx xs.length 0 lo)).take (HT.sIx xs.length xs.length hi - HT.sIx xs.length 0 lo)
theorem jn (xs:List V) (lo hi:Option Int):(cutV xs lo hi).length <= xs.length:=by
 unfold cutV
 rw [List.length_take,List.length_drop]
 omega
def SC (K:FG7):R2:=fun x y H Q=>∃ a b xs ys,x = .ref a /\ y = .ref b /\ SqT K H a xs /\ SqT K H b ys /\ xs ≠ [] /\ xs.length + ys.length <= sizeLine ∧
 (ys = [] -> Q (.ref a) H) /\ (ys ≠ [] -> ∀ p,H p = none -> Q (.ref p) (upd H p (.tup (xs ++ ys))))
theorem Vals.nil_iff {xs:List V} {us:List Value} (r:Vals xs us):us = [] ↔ xs = []:=by
 cases r with
 | nil=>simp
 | cons _ _=>simp
theorem Ue:OpR X (binaryOp .Add) (SC X.K):=by
 intro pins s σ H x y v u Q I rx ry h
 obtain ⟨a,b,xs,ys,rfl,rfl,ha,hb,hx,hz,q1,q2⟩:=h
 cases rx
 cases ry
 obtain ⟨its,r1,p1,_⟩:=I.tuple ha
 obtain ⟨its2,r2,p2,_⟩:=I.tuple hb
 refine HT.cat_tup p1 p2 (fun z=>hx (r1.nil_iff.mp z)) (fun z=>⟨.ref a,H,I,rfl,q1 (r2.nil_iff.mp z)⟩) (fun z=>?_) (by rw [← r1.length,← r2.length]; exact hz)
 refine ⟨.ref s.heap.objs.size,_,I.laid (t':=s.toks) (o:=.tup (xs ++ ys)) (fun b ob q=>Heap.get?_push_of_some _ q) (Nat.le_refl _) ?_,rfl,q2 (fun w=>z (r2.nil_iff.mpr w)) _ (I.hok.fresh (Nat.le_refl _))⟩
 exact ⟨by rw [List.length_append]; exact hz,_,r1.append r2,IsTup.new _ _⟩
end
end L2
namespace L2
open PySem PySem.Spec PyProof.Rows
def ixN (n:Nat) (i:Int):Option Nat:=if 0 <= i then (if i < n then some i.toNat else none) else if -(n:Int) <= i then some (i + n).toNat else none
def atI {α:Type} (xs:List α) (i:Int):Option α:=(ixN xs.length i).bind fun j=>xs[j]?
theorem jo {n:Nat} {i:Int} {j:Nat} (h:ixN n i = some j):seqIndex? i n = some j /\ j < n /\ -(n:Int) <= i /\ i < n:=by
 unfold ixN at h
 by_cases h0:0 <= i
 ·rw [if_pos h0] at h
  by_cases h1:i < n
  ·rw [if_pos h1] at h
   have e:i.toNat = j:=Option.some.inj h
   exact ⟨by rw [seqIndex_of h0 h1,e],by omega,by omega,h1⟩
  ·rw [if_neg h1] at h; cases h
 ·rw [if_neg h0] at h
  by_cases h1:-(n:Int) <= i
  ·rw [if_pos h1] at h
   have e:(i + n).toNat = j:=Option.some.inj h
   exact ⟨by rw [seqIndex_neg (by omega) h1,e],by omega,h1,by omega⟩
  ·rw [if_neg h1] at h; cases h
theorem Y5 {α:Type} {xs:List α} {i:Int} {v:α} (h:atI xs i = some v):∃ j,seqIndex? i xs.length = some j /\ xs[j]? = some v /\ j < xs.length /\ -(xs.length:Int) <= i /\ i < xs.length:=by
 unfold atI at h
 cases e:ixN xs.length i with
 | none=>rw [e] at h; cases h
 | some j =>
  rw [e] at h
  obtain ⟨h1,h2,h3,h4⟩:=jo e
  exact ⟨j,h1,h,h2,h3,h4⟩
theorem zO {α:Type} {xs:List α} {j:Nat} {v:α} (h:xs[j]? = some v):atI xs (j:Int) = some v:=by
 have hj:j < xs.length:=(List.getElem?_eq_some_iff.mp h).1
 have e:ixN xs.length (j:Int) = some j:=by
  unfold ixN
  rw [if_pos (by omega),if_pos (by omega)]; simp
 unfold atI; rw [e]; exact h
def Uf (b:Expr):Prop:=∀ o i,subscripted b false o i = operate [o,i] (getItem o i)
def IxR (X:Cx) (r:R2):Prop :=
 ∀ (value slice:Expr) (pins:List (Addr × Obj)) (s:Shared) (σ:St) (H:Hp) (x y:V) (v u:Value) (Q:VK),Inv X pins σ H s -> RelV x v -> RelV y u -> r x y H Q →
  subscripted slice false v u = operate [v,u] (getItem v u) -> wpAny (model X.prog X.w) X.A (subscriptTail value slice v u) (EP X pins σ Q) X.xe s
def MtR (X:Cx) (id:String) (r:V -> List V -> Hp -> VK -> Prop):Prop :=
 ∀ (pins:List (Addr × Obj)) (s:Shared) (σ:St) (H:Hp) (x:V) (xs:List V) (v:Value) (us:List Value) (Q:VK),Inv X pins σ H s -> RelV x v -> Vals xs us -> r x xs H Q →
  wpAny (model X.prog X.w) X.A (call (.builtin id) (v :: us)) (EP X pins σ Q) X.xe s
section
variable {X:Cx} {a b:Expr} {ta tb:TE} {pos:Pos}
theorem IxR.or {r r':R2} (h:IxR X r) (h':IxR X r'):IxR X (fun x y H Q=>r x y H Q \/ r' x y H Q):=by
 intro value slice pins s σ H x y v u Q I rx ry q hs
 rcases q with q | q
 ·exact h value slice pins s σ H x y v u Q I rx ry q hs
 ·exact h' value slice pins s σ H x y v u Q I rx ry q hs
theorem MtR.or {id:String} {r r':V -> List V -> Hp -> VK -> Prop} (h:MtR X id r) (h':MtR X id r'):MtR X id (fun x xs H Q=>r x xs H Q \/ r' x xs H Q):=by
 intro pins s σ H x xs v us Q I rx rs q
 rcases q with q | q
 ·exact h pins s σ H x xs v us Q I rx rs q
 ·exact h' pins s σ H x xs v us Q I rx rs q
theorem yq {r:R2} (hr:IxR X r) (ha:PE X a ta) (hb:PE X b tb) (hs:Uf b):PE X (.Subscript a b pos) (tOp r ta tb):=by
 intro pins s σ H Q I h
 exact Subscript_ (binT ha hb I h fun v u s2 x y H2 I2 rx ry q=>hr a b pins s2 σ H2 x y v u Q I2 rx ry q (hs _ _))
def rIxL (K:FG7):R2:=fun x y H Q=>∃ p xs i v,x = .ref p /\ y = .int i /\ SqL K H p xs /\ atI xs i = some v /\ Q v H
def rIxT (K:FG7):R2:=fun x y H Q=>∃ p xs i v,x = .ref p /\ y = .int i /\ SqT K H p xs /\ atI xs i = some v /\ Q v H
theorem ye:IxR X (rIxL X.K):=by
 intro value slice pins s σ H x y v u Q I rx ry h hs
 obtain ⟨p,xs,i,z,rfl,rfl,hq,he,q⟩:=h
 cases rx
 obtain ⟨t,rfl⟩:=ry
 obtain ⟨its,r,pl,hz⟩:=I.list hq
 obtain ⟨j,h1,h2,h3,h4,h5⟩:=Y5 he
 obtain ⟨w,ew,rw'⟩:=r.get h2
 have hl:=r.length
 have hn:=rN
 have fin:EP X pins σ Q w s:=⟨z,H,I,rw',q⟩
 by_cases h0:0 <= i
 ·have hj:i.toNat = j:=by
   rw [seqIndex_of h0 h5] at h1
   exact Option.some.inj h1
  exact item_listR pl.isList h0 (by omega) (by rw [hj]; simpa using ew) fin hs
 ·have hj:(i + (its.toArray.size:Int)).toNat = j:=by
   rw [seqIndex_neg (by omega) h4] at h1
   rw [List.size_toArray,← hl]
   exact Option.some.inj h1
  exact subscriptTail_builtinR (x:=w) pl.isList.typeIs slot_list_getitem.lookup
   (wpAny_getItem_list_neg (Q:=fun r s'=>r = w /\ EP X pins σ Q r s') pl.isList (by omega) (by rw [List.size_toArray] <;> omega) (by omega) (by rw [hj]; simpa using ew) ⟨rfl,fin⟩) hs
theorem y9:IxR X (rIxT X.K):=by
 intro value slice pins s σ H x y v u Q I rx ry h hs
 obtain ⟨p,xs,i,z,rfl,rfl,hq,he,q⟩:=h
 cases rx
 obtain ⟨t,rfl⟩:=ry
 obtain ⟨its,r,pl,hz⟩:=I.tuple hq
 obtain ⟨j,h1,h2,h3,h4,h5⟩:=Y5 he
 obtain ⟨w,ew,rw'⟩:=r.get h2
 have hl:=r.length
 have hn:=rN
 have fin:EP X pins σ Q w s:=⟨z,H,I,rw',q⟩
 exact subscriptTail_builtinR (x:=w) pl.typeIs slot_tuple_getitem.lookup
  (getItem_tuple (j:=j) (Q:=fun r s'=>r = w /\ EP X pins σ Q r s') pl (by omega) (by omega) (by rw [List.size_toArray,← hl]; exact h1) (by simpa using ew) ⟨rfl,fin⟩) hs
theorem Z0 (its:List Value) (n j:Nat) (u:Value):Obj.mapSeq (·.setIfInBounds j u) { cls:=.type "list",data:=.seq its.toArray n } = { cls:=.type "list",data:=.seq (its.set j u).toArray n }:=by
 simp [Obj.mapSeq]
theorem Inv.lst {pins:List (Addr × Obj)} {σ:St} {H:Hp} {s:Shared} {p:Addr} {xs:List V} (I:Inv X pins σ H s) (h:H p = some (.lst xs)) :
  ∃ (its:List Value) (n:Nat),Vals xs its /\ s.heap.get? p = some { cls:=.type "list",data:=.seq its.toArray n } /\ xs.length <= sizeLine:=by
 obtain ⟨z,its,n,r,e⟩:=I.hok p _ h
 exact ⟨its,n,r,e,z⟩
theorem Inv.lstUpd {pins:List (Addr × Obj)} {σ:St} {H:Hp} {s:Shared} {p:Addr} {xs ys:List V} {its its':List Value} {n n':Nat} {f:Obj -> Obj} (I:Inv X pins σ H s) (h:H p = some (.lst xs))
  (ho:s.heap.get? p = some { cls:=.type "list",data:=.seq its.toArray n }) (hf:f { cls:=.type "list",data:=.seq its.toArray n } = { cls:=.type "list",data:=.seq its'.toArray n' }) (r:Vals ys its') (hz:ys.length <= sizeLine) (t:Nat) :
  Inv X pins σ (upd H p (.lst ys)) { s with heap:=s.heap.update p f,toks:=t }:=by
 have e:(s.heap.update p f).get? p = some { cls:=.type "list",data:=.seq its'.toArray n' }:=by
  rw [Heap.get?_update_self f ho (by rw [hf] <;> rfl),hf]
 refine I.write (x:=p) (e:=p) (by rw [h]; trivial) (.inl rfl) (fun b u hb q=>(Heap.get?_update_other _ _ (Ne.symm hb)).trans q) ⟨_,e⟩ ?_
 exact ⟨hz,its',n',r,e⟩
def SD:V -> V -> V -> Hp -> (Hp -> Prop) -> Prop:=fun o i v H Q=>∃ p xs k j,o = .ref p /\ i = .int k /\ H p = some (.lst xs) /\ ixN xs.length k = some j /\ Q (upd H p (.lst (xs.set j v)))
theorem vI:PSet X SD:=by
 intro pins s σ H o i v ov iv u Q I ro ri rv h
 obtain ⟨p,xs,k,j,rfl,rfl,hp,hj,q⟩:=h
 cases ro
 obtain ⟨t,rfl⟩:=ri
 obtain ⟨its,n,r,ho,hz⟩:=I.lst hp
 obtain ⟨h1,h2,h3,h4⟩:=jo hj
 have hl:=r.length
 have hn:=rN
 have I':Inv X pins σ (upd H p (.lst (xs.set j v))) { s with heap:=s.heap.update p (Obj.mapSeq (·.setIfInBounds j u)) } :=
  I.lstUpd hp ho (Z0 its n j u) (r.set rv j) (by rw [List.length_set]; exact hz) s.toks
 by_cases h0:0 <= k
 ·have hk:k.toNat = j:=by
   rw [seqIndex_of h0 h4] at h1
   exact Option.some.inj h1
  exact PySem.W.ki_setAt ho h0 (by omega) (by rw [List.size_toArray,← hl]; exact h4) (by rw [hk]; exact ⟨_,I',q⟩)
 ·have hk:(k + (its.toArray.size:Int)).toNat = j:=by
   rw [seqIndex_neg (by omega) h3] at h1
   rw [List.size_toArray,← hl]
   exact Option.some.inj h1
  exact PySem.W.ki_setBack ho (by omega) (by rw [List.size_toArray,← hl]; exact h3) (by omega) (by rw [hk]; exact ⟨_,I',q⟩)
theorem rS (lo hi:Option Int) (n:Nat):(sliceBounds lo hi none n).1 = ((HT.sIx n 0 lo:Nat):Int) /\ (sliceBounds lo hi none n).2.1 = ((HT.sIx n n hi:Nat):Int) /\ (sliceBounds lo hi none n).2.2 = 1:=by
 refine ⟨?_,?_,rfl⟩
 ·cases lo with
  | none=>simp [sliceBounds,HT.sIx]
  | some i =>
   simp only [sliceBounds,HT.sIx,Option.getD_none,show (1:Int) > 0 by decide,if_true]
   by_cases h:i < 0
   ·simp only [h,if_true] <;> omega
   ·simp only [h,if_false] <;> omega
 ·cases hi with
  | none=>simp [sliceBounds,HT.sIx]
  | some i =>
   simp only [sliceBounds,HT.sIx,Option.getD_none,show (1:Int) > 0 by decide,if_true]
   by_cases h:i < 0
   ·simp only [h,if_true] <;> omega
   ·simp only [h,if_false] <;> omega
theorem sj (its:List Value) (lo hi:Option Int):slicePick its.toArray lo hi none = ((its.drop (HT.sIx its.length 0 lo)).take (HT.sIx its.length its.length hi - HT.sIx its.length 0 lo)).toArray:=by
 obtain ⟨h1,h2,h3⟩:=rS lo hi its.toArray.size
 unfold slicePick
 rw [h1,h2,h3]
 simp only [sliceRange_one,pick_run,List.size_toArray] <;> rfl
def rSlL (K:FG7):V -> Option Int -> Option Int -> Hp -> VK -> Prop:=fun x lo hi H Q=>∃ a xs,x = .ref a /\ SqL K H a xs /\ ∀ p,H p = none -> Q (.ref p) (upd H p (.lst (cutV xs lo hi)))
theorem Ug:SlR X (rSlL X.K):=by
 intro pins s σ H x v vl vu lo hi sl Q I rx hs pl pu h
 obtain ⟨a,xs,rfl,hx,q⟩:=h
 cases rx
 obtain ⟨its,r,ht,hz⟩:=I.list hx
 have hlen:=r.length
 refine ⟨"list",_,slot_list_getitem.lookup,ht.isList.typeIs,?_⟩
 refine wpAny_getItem_list_slice ht.isList hs pl pu .none (by simp) ?_ (by rw [List.size_toArray] <;> omega)
 rw [sj,← hlen]
 refine ⟨.ref s.heap.objs.size,_,I.laid (t':=s.toks) (o:=.lst (cutV xs lo hi)) (fun b ob q=>Heap.get?_push_of_some _ q) (Nat.le_refl _) ?_,rfl,q _ (I.hok.fresh (Nat.le_refl _))⟩
 exact ⟨Nat.le_trans (jn xs lo hi) hz,_,0,(r.drop (HT.sIx xs.length 0 lo)).take (HT.sIx xs.length xs.length hi - HT.sIx xs.length 0 lo),Heap.get?_push_size _ rfl⟩
def wn:V -> Bool
 | .non=>true
 | .bl _=>true
 | .int _=>true
 | .str _=>true
 | _=>false
def eqV:V -> V -> Bool
 | .non,.non=>true
 | .bl a,.bl b=>a == b
 | .bl a,.int b=>(if a then 1 else 0) == b
 | .int a,.bl b=>a == (if b then 1 else 0)
 | .int a,.int b=>a == b
 | .str a,.str b=>a == b
 | _,_=>false
theorem Vy {A:Around} {s:Shared} {y x:V} {u v:Value} (ry:RelV y u) (rx:RelV x v) (fy:wn y = true) (fx:wn x = true):SeqAt.EqAt A s u v (eqV y x):=by
 cases y with
 | non =>
  cases ry
  cases x with
  | non=>cases rx; exact SeqAt.EqAt.same _
  | bl b=>cases rx; exact SeqAt.EqAt.none_bool b
  | int b=>obtain ⟨t,rfl⟩:=rx; exact SeqAt.EqAt.none_int b t
  | str b=>obtain ⟨t,rfl⟩:=rx; exact SeqAt.EqAt.none_str b t
  | _=>exact absurd (show false = true from fx) Bool.false_ne_true
 | bl a =>
  cases ry
  cases x with
  | non=>cases rx; exact SeqAt.EqAt.bool_none a
  | bl b=>cases rx; exact SeqAt.EqAt.bool_bool a b
  | int b=>obtain ⟨t,rfl⟩:=rx; exact SeqAt.EqAt.bool_int a b t
  | str b=>obtain ⟨t,rfl⟩:=rx; exact SeqAt.EqAt.bool_str a b t
  | _=>exact absurd (show false = true from fx) Bool.false_ne_true
 | int a =>
  obtain ⟨t',rfl⟩:=ry
  cases x with
  | non=>cases rx; exact SeqAt.EqAt.int_none a t'
  | bl b=>cases rx; exact SeqAt.EqAt.int_bool a t' b
  | int b=>obtain ⟨t,rfl⟩:=rx; exact SeqAt.EqAt.int_int a t' b t
  | str b=>obtain ⟨t,rfl⟩:=rx; exact SeqAt.EqAt.int_str a t' b t
  | _=>exact absurd (show false = true from fx) Bool.false_ne_true
 | str a =>
  obtain ⟨t',rfl⟩:=ry
  cases x with
  | non=>cases rx; exact SeqAt.EqAt.str_none a t'
  | bl b=>cases rx; exact SeqAt.EqAt.str_bool a t' b
  | int b=>obtain ⟨t,rfl⟩:=rx; exact SeqAt.EqAt.str_int a t' b t
  | str b=>obtain ⟨t,rfl⟩:=rx; exact SeqAt.EqAt.str_str a t' b t
  | _=>exact absurd (show false = true from fx) Bool.false_ne_true
 | _=>exact absurd (show false = true from fy) Bool.false_ne_true
def eqU (x:V) (u:Value):Bool:=match u with
 | .none=>eqV .non x
 | .bool b=>eqV (.bl b) x
 | .int i _=>eqV (.int i) x
 | .str z _=>eqV (.str z) x
 | _=>false
theorem Vz {x y:V} {u:Value} (r:RelV y u) (f:wn y = true):eqU x u = eqV y x:=by
 cases y with
 | non=>cases r; rfl
 | bl b=>cases r; rfl
 | int i=>obtain ⟨t,rfl⟩:=r; rfl
 | str z=>obtain ⟨t,rfl⟩:=r; rfl
 | _=>exact absurd (show false = true from f) Bool.false_ne_true
theorem jp {x:V}:∀ {xs:List V} {us:List Value},Vals xs us -> xs.all wn = true -> us.any (eqU x) = xs.any fun y=>eqV y x
 | _,_,.nil,_=>rfl
 | y :: xs,u :: us,.cons r t,f=>by
  rw [List.all_cons,Bool.and_eq_true] at f
  rw [List.any_cons,List.any_cons,Vz r f.1,jp t f.2]
theorem sn {A:Around} {s:Shared} {x:V} {v:Value} (rx:RelV x v) (fx:wn x = true):∀ {xs:List V} {us:List Value},Vals xs us -> xs.all wn = true -> ∀ u ∈ us,SeqAt.EqAt A s u v (eqU x u)
 | _,_,.nil,_=>fun u hu=>by cases hu
 | y :: xs,u :: us,.cons r t,f=>fun u' hu=>by
  rw [List.all_cons,Bool.and_eq_true] at f
  rcases List.mem_cons.mp hu with rfl | hu
  ·rw [Vz r f.1]; exact Vy r rx f.1 fx
  ·exact sn rx fx t f.2 u' hu
def inV (x:V) (xs:List V):Bool:=xs.any fun y=>eqV y x
def rIn (K:FG7) (neg:Bool):R2:=fun x y H Q=>∃ p xs,y = .ref p /\ (SqL K H p xs \/ SqT K H p xs) /\ wn x = true /\ xs.all wn = true /\ Q (.bl (if neg then !inV x xs else inV x xs)) H
theorem Y6:OpR X (compareOp .In) (rIn X.K false):=by
 intro pins s σ H x y v u Q I rx ry h
 obtain ⟨p,xs,rfl,hq,fx,fs,q⟩:=h
 cases ry
 rcases hq with hq | hq
 ·obtain ⟨its,r,pl,hz⟩:=I.list hq
  refine SeqAt.in_listAt (eqU x) pl.isList (fun w hw=>sn rx fx r fs w (by simpa using hw)) ⟨.bl _,H,I,rfl,?_⟩
  rw [show its.toArray.any (eqU x) = its.any (eqU x) by simp,jp r fs]
  exact q
 ·obtain ⟨its,r,pl,hz⟩:=I.tuple hq
  refine SeqAt.in_tupleAt (eqU x) pl (fun w hw=>sn rx fx r fs w (by simpa using hw)) ⟨.bl _,H,I,rfl,?_⟩
  rw [show its.toArray.any (eqU x) = its.any (eqU x) by simp,jp r fs]
  exact q
theorem zC:xq X (.builtin "len") (fun xs H Q=>∃ p ys,xs = [.ref p] /\ (SqL X.K H p ys \/ SqT X.K H p ys) /\ Q (.int ys.length) H):=by
 intro pins s σ H xs us Q I r h
 obtain ⟨p,ys,rfl,hq,q⟩:=h
 obtain ⟨u,rfl,rx⟩:=wK r
 cases rx
 have hn:=rN
 rcases hq with hq | hq
 ·obtain ⟨its,r',pl,hz⟩:=I.list hq
  have hlen:=r'.length
  exact Calls.call_len_list pl.isList (by simp only [List.size_toArray] <;> omega) ⟨.int ys.length,H,I.tok _,⟨s.toks + 1,by rw [List.size_toArray,hlen]⟩,q⟩
 ·obtain ⟨its,r',pl,hz⟩:=I.tuple hq
  have hlen:=r'.length
  exact len_tuple pl (by simp only [List.size_toArray] <;> omega) ⟨.int ys.length,H,I.tok _,⟨s.toks + 1,by rw [List.size_toArray,hlen]⟩,q⟩
theorem xq.or {f:Value} {r r':List V -> Hp -> VK -> Prop} (h:xq X f r) (h':xq X f r'):xq X f (fun xs H Q=>r xs H Q \/ r' xs H Q):=by
 intro pins s σ H xs us Q I rs q
 rcases q with q | q
 ·exact h pins s σ H xs us Q I rs q
 ·exact h' pins s σ H xs us Q I rs q
theorem rT:xq X (.type "list") (fun xs H Q=>∃ p ys,xs = [.ref p] /\ (SqL X.K H p ys \/ SqT X.K H p ys) /\ ∀ l,H l = none -> Q (.ref l) (upd H l (.lst ys))):=by
 intro pins s σ H xs us Q I r h
 obtain ⟨p,ys,rfl,hq,q⟩:=h
 obtain ⟨u,rfl,rx⟩:=wK r
 cases rx
 have fin:∀ (its:List Value),Vals ys its -> ys.length <= sizeLine -> ∀ (h':Heap) (c':Nat),(∀ b o',s.heap.get? b = some o' -> h'.get? b = some o') →
   h'.get? s.heap.objs.size = some { cls:=.type "list",dict:=none,data:=.seq its.toArray c',slots:=#[] } -> EP X pins σ Q (.ref s.heap.objs.size) { s with heap:=h' }:=fun its r' hz h' c' kp e =>
  ⟨.ref s.heap.objs.size,_,I.laid (t':=s.toks) kp (Nat.le_refl _) (show z5 X.prog X.w _ h' _ (.lst ys) from ⟨hz,its,c',r',e⟩),rfl,q _ (I.hok.fresh (Nat.le_refl _))⟩
 rcases hq with hq | hq
 ·obtain ⟨its,r',pl,hz⟩:=I.list hq
  have hlen:=r'.length
  obtain ⟨o,ho,hc,n,hd⟩:=pl.isList
  exact call_list_seq p (.inl rfl) ho hc hd (fun h' c' kp e=>fin its r' hz h' c' kp e) (by simp only [List.size_toArray] <;> omega)
 ·obtain ⟨its,r',pl,hz⟩:=I.tuple hq
  have hlen:=r'.length
  obtain ⟨o,ho,hc,n,hd⟩:=pl
  exact call_list_seq p (.inr rfl) ho hc hd (fun h' c' kp e=>fin its r' hz h' c' kp e) (by simp only [List.size_toArray] <;> omega)
theorem yz:xq X (.type "tuple") (fun xs H Q=>∃ p ys,xs = [.ref p] /\ ((SqL X.K H p ys /\ ∀ l,H l = none -> Q (.ref l) (upd H l (.tup ys))) \/ (SqT X.K H p ys /\ Q (.ref p) H))):=by
 intro pins s σ H xs us Q I r h
 obtain ⟨p,ys,rfl,h⟩:=h
 obtain ⟨u,rfl,rx⟩:=wK r
 cases rx
 rcases h with ⟨hq,q⟩ | ⟨hq,q⟩
 ·obtain ⟨its,r',pl,hz⟩:=I.list hq
  have hlen:=r'.length
  refine call_tuple_list pl.isList (fun h' kp=>?_) (by simp only [List.size_toArray] <;> omega)
  have I1:Inv X pins σ H { s with heap:=h' }:=I.kept (t':=s.toks) kp
  have I2:Inv X pins σ (upd H h'.objs.size (.tup ys)) { s with heap:=h'.push { cls:=.type "tuple",data:=.seq its.toArray } } :=
   I1.laid (t':=s.toks) (fun b o e=>Heap.get?_push_of_some _ e) (Nat.le_refl _) (show z5 X.prog X.w _ _ _ (.tup ys) from ⟨hz,its,r',IsTup.new _ _⟩)
  exact ⟨.ref h'.objs.size,_,I2,rfl,q _ (I1.hok.fresh (Nat.le_refl _))⟩
 ·obtain ⟨its,r',pl,hz⟩:=I.tuple hq
  exact call_tuple_same pl ⟨.ref p,H,I,rfl,q⟩
def tyV (K:FG7) (T:String) (x:V) (H:Hp):Prop:=match x with
 | .str _=>T = "str"
 | .int _=>T = "int"
 | .ref p=>(T = "list" /\ ∃ xs,SqL K H p xs) \/ (T = "tuple" /\ ∃ o,K.lookup p = some o /\ o.cls = .type "tuple" /\ o.dict = none) ∨
   (T = "dict" /\ ((∃ kvs,H p = some (.dK kvs)) \/ ∃ kvs,H p = some (.dT kvs))) \/ (T = "set" /\ ∃ S n,H p = some (.set S n))
 | _=>False
theorem Tk {pins:List (Addr × Obj)} {σ:St} {H:Hp} {s:Shared} {T:String} {x:V} {v:Value} (I:Inv X pins σ H s) (r:RelV x v) (ty:tyV X.K T x H) :
  s.TypeIs v T /\ ∀ a,v = .ref a -> ∃ ob,s.heap.get? a = some ob /\ ob.dict = none:=by
 cases x with
 | str z =>
  obtain ⟨t,rfl⟩:=r
  cases (show T = "str" from ty)
  exact ⟨typeIs_str s z t,fun _ e=>nomatch e⟩
 | int i =>
  obtain ⟨t,rfl⟩:=r
  cases (show T = "int" from ty)
  exact ⟨typeIs_int s i t,fun _ e=>nomatch e⟩
 | ref p =>
  cases r
  rcases ty with ⟨rfl,xs,hq⟩ | ⟨rfl,o,hk,hc,hd⟩ | ⟨rfl,hk⟩ | ⟨rfl,S,n,hk⟩
  ·obtain ⟨its,_,pl,_⟩:=I.list hq
   refine ⟨pl.isList.typeIs,fun a e=>?_⟩
   cases e
   obtain ⟨o,n,e,c,hd,_⟩:=pl
   exact ⟨o,e,hd⟩
  ·refine ⟨⟨o,I.kIn p o hk,hc⟩,fun a e=>?_⟩
   cases e
   exact ⟨o,I.kIn _ o hk,hd⟩
  ·have z:∃ o,s.heap.get? p = some o /\ o.ExactDict:=by
    rcases hk with ⟨kvs,hk⟩ | ⟨kvs,hk⟩
    ·obtain ⟨_,_,_,_,o,_,_,e,ex,_⟩:=I.hok p _ hk
     exact ⟨o,e,ex⟩
    ·obtain ⟨_,_,_,_,o,_,_,e,ex,_⟩:=I.hok p _ hk
     exact ⟨o,e,ex⟩
   obtain ⟨o,e,ex⟩:=z
   refine ⟨⟨o,e,ex.1⟩,fun a e2=>?_⟩
   cases e2
   exact ⟨o,e,ex.2.1⟩
  ·obtain ⟨o,_,_,_,e,ex,_⟩:=I.hok p _ hk
   refine ⟨⟨o,e,ex.1⟩,fun a e2=>?_⟩
   cases e2
   exact ⟨o,e,ex.2.1⟩
 | _=>exact False.elim ty
def tBM (K:FG7) (T:String) (r:V -> List V -> Hp -> VK -> Prop) (to:TE) (t:TA):TE:=fun σ H Q=>to σ H fun x H1=>tyV K T x H1 /\ t σ H1 fun xs H2=>r x xs H2 Q
variable {o e:Expr} {es:List Expr} {to:TE} {t:TA} {name:Str} {apos cpos:Pos} {T id:String} {r:V -> List V -> Hp -> VK -> Prop}
theorem vF (pa:PlainAttrs T) (slot:Slot T name id) (hty:typeOf (.builtin id) = pure (.type "method_descriptor")) (hm:MtR X id r) (ho:PE X o to) (ha:PA X (e :: es) t)
  (hbase:attributeBase o name X.env (eval o X.env) = eval o X.env:=by rfl)
  (hfew:((backTo cpos (starEach (e :: es) X.env)).all (fun x=>!x.1) && (backToKw cpos (keywordEach [] X.env)).all (fun x=>x.1.isSome)
   && decide ((e :: es).length + ([]:List Keyword).length + (if ([]:List Keyword).isEmpty then 0 else 1) < 30)) = true:=by rfl)
  (hline:(apos.endLine == cpos.line) = true:=by rfl) (hs:starEach (e :: es) X.env = (false,eval e X.env) :: starEach es X.env:=by rfl) (hplain:(backTo cpos (starEach es X.env)).any (·.1) = false:=by rfl) :
  PE X (.Call (.Attribute o name apos) (e :: es) [] cpos) (tBM X.K T r to t):=by
 intro pins s σ H Q I h
 refine wpAny_Call_method_late hbase hfew hline rfl (thn (ho pins s σ H _ I h) fun v s1 ⟨x,H1,I1,r1,ty,q1⟩=>?_)
 obtain ⟨h1,h2⟩:=Tk I1 r1 ty
 refine ⟨T,id,pa,slot,hty,h1,h2,?_⟩
 have hA:=ha cpos pins s1 σ H1 _ I1 q1
 rw [hs] at hA ⊢
 refine Calls.callWith_builtin (by show (false || (backTo cpos (starEach es X.env)).any (·.1)) = false; rw [hplain] <;> rfl) (Calls.evalArgs_plain ?_)
 exact thn hA fun us s2 ⟨vs,H2,I2,r2,q2⟩=>hm pins s2 σ H2 x vs v us Q I2 r1 r2 q2
end
end L2
namespace L2
open PySem PySem.Spec PyProof.Rows
def MtM (X:Cx) (id:String) (r:V -> List V -> Hp -> VK -> Prop):Prop :=
 ∀ (pins:List (Addr × Obj)) (s:Shared) (σ:St) (H:Hp) (x:V) (xs:List V) (v:Value) (us:List Value) (Q:VK),Inv X pins σ H s -> RelV x v -> Vals xs us -> r x xs H Q →
  wpAny (model X.prog X.w) X.A (call (.builtin id) (v :: us)) (EP X pins σ Q) X.xe s
theorem Vals.one:∀ {x:V} {us:List Value},Vals [x] us -> ∃ u,us = [u] /\ RelV x u
 | _,_,.cons r .nil=>⟨_,rfl,r⟩
theorem Vals.dropLast {xs:List V} {us:List Value} (h:Vals xs us):Vals xs.dropLast us.dropLast:=by
 induction h with
 | nil=>exact .nil
 | cons r t ih =>
  cases t with
  | nil=>exact .nil
  | cons q t'=>exact .cons r ih
theorem Vals.eraseIdx:∀ {xs:List V} {us:List Value} (i:Nat),Vals xs us -> Vals (xs.eraseIdx i) (us.eraseIdx i)
 | _,_,_,.nil=>.nil
 | _,_,0,.cons _ t=>t
 | _,_,i + 1,.cons r t=>.cons r (Vals.eraseIdx i t)
theorem Vals.rep {xs:List V} {us:List Value} (h:Vals xs us):∀ k:Nat,Vals (List.replicate k xs).flatten (List.replicate k us).flatten
 | 0=>.nil
 | k + 1=>by
  rw [List.replicate_succ,List.replicate_succ,List.flatten_cons,List.flatten_cons]
  exact Vals.append h (Vals.rep h k)
theorem rV {α:Type}:∀ (l:List α) (i:Nat),(l.eraseIdx i).length <= l.length
 | [],_=>Nat.le_refl _
 | _ :: _,0=>Nat.le_succ _
 | _ :: r,i + 1=>Nat.succ_le_succ (rV r i)
theorem rW (its:List Value):∀ (k:Nat) (acc:List Value),
  List.foldl (fun x1 x2=>x1 ++ x2) acc.toArray (List.replicate k its.toArray) = (acc ++ (List.replicate k its).flatten).toArray
 | 0,acc=>by simp
 | k + 1,acc=>by
  have e:acc.toArray ++ its.toArray = (acc ++ its).toArray:=by simp
  have e2:(acc ++ its) ++ (List.replicate k its).flatten = acc ++ (List.replicate (k + 1) its).flatten:=by
   rw [List.replicate_succ,List.flatten_cons,List.append_assoc]
  rw [← e2,← rW its k (acc ++ its),← e,List.replicate_succ,List.foldl_cons]
section
variable {X:Cx} {pins:List (Addr × Obj)} {σ:St} {H:Hp} {s:Shared} {l b:Addr} {xs ys zs:List V}
theorem Inv.lset {its its':List Value} {n:Nat} {f:Array Value -> Array Value} {t':Nat} (I:Inv X pins σ H s) (hH:H l = some (.lst xs))
  (e:s.heap.get? l = some { cls:=.type "list",data:=.seq its.toArray n }) (hf:f its.toArray = its'.toArray) (hv:Vals ys its') (hz:ys.length <= sizeLine) :
  Inv X pins σ (upd H l (.lst ys)) { s with heap:=s.heap.update l (Obj.mapSeq f),toks:=t' }:=by
 have q:=PySem.IsL.update e f
 rw [hf] at q
 refine I.write (x:=l) (e:=l) (by rw [hH]; exact trivial) (.inl rfl) (fun b' u hb hu=>(Heap.get?_update_other s.heap (Obj.mapSeq f) (Ne.symm hb)).trans hu) ⟨_,q⟩ ?_
 exact ⟨hz,its',_,hv,q⟩
theorem Inv.lnew {its:List Value} {t':Nat} (I:Inv X pins σ H s) (hv:Vals ys its) (hz:ys.length <= sizeLine) :
  Inv X pins σ (upd H s.heap.objs.size (.lst ys)) { s with heap:=s.heap.push { cls:=.type "list",data:=.seq its.toArray },toks:=t' } :=
 I.laid (fun _ _ q=>Heap.get?_push_of_some _ q) (Nat.le_refl _) ⟨hz,its,0,hv,Heap.get?_push_size _ rfl⟩
theorem Inv.fresh (I:Inv X pins σ H s):H s.heap.objs.size = none:=I.hok.fresh (Nat.le_refl _)
theorem Inv.lstM (I:Inv X pins σ H s) (hH:H l = some (.lst xs)):xs.length <= sizeLine /\ ∃ (its:List Value) (n:Nat),Vals xs its /\ xs.length = its.length /\ s.heap.get? l = some { cls:=.type "list",data:=.seq its.toArray n }:=by
 obtain ⟨z,its,n,r,e⟩:=I.hok l _ hH
 exact ⟨z,its,n,r,r.length,e⟩
theorem Zk {n:Nat} (h:n <= sizeLine):Builtin.List.listTooLong n = false:=by
 unfold Builtin.List.listTooLong
 exact decide_eq_false (by omega)
end
section
variable {X:Cx}
def Uh:V -> List V -> Hp -> VK -> Prop:=fun x vs H Q=>∃ l xs y,x = .ref l /\ vs = [y] /\ H l = some (.lst xs) /\ xs.length < sizeLine /\ Q .non (upd H l (.lst (xs ++ [y])))
theorem xR:MtM X "list.append" Uh:=by
 intro pins s σ H x vs v us Q I rx rv h
 obtain ⟨l,xs,y,rfl,rfl,hH,hz,q⟩:=h
 cases rx
 obtain ⟨u,rfl,ru⟩:=rv.one
 obtain ⟨z,its,n,r,hl,e⟩:=I.lstM hH
 refine call_meets F.slot_list_append ⟨_,e,rfl⟩ F.entry_list_append (F.args_list_append_2 _ _) (PySem.list_append l its.toArray n u (by rw [List.size_toArray]; omega)) ⟨e,?_⟩
 refine ⟨.non,_,I.lset (its':=its ++ [u]) hH e (by simp) (r.append (.cons ru .nil)) ?_,rfl,q⟩
 rw [List.length_append,List.length_singleton]
 omega
def Ui:V -> List V -> Hp -> VK -> Prop:=fun x vs H Q=>∃ l b xs zs,x = .ref l /\ vs = [.ref b] /\ H l = some (.lst xs) /\ H b = some (.lst zs) /\ xs.length + zs.length <= sizeLine /\ Q .non (upd H l (.lst (xs ++ zs)))
theorem vY:MtM X "list.extend" Ui:=by
 intro pins s σ H x vs v us Q I rx rv h
 obtain ⟨l,b,xs,zs,rfl,rfl,hH,hB,hz,q⟩:=h
 cases rx
 obtain ⟨u,rfl,ru⟩:=rv.one
 cases ru
 obtain ⟨z,its,n,r,hl,e⟩:=I.lstM hH
 obtain ⟨z2,its2,n2,r2,hl2,e2⟩:=I.lstM hB
 have hsz:its.toArray.size + its2.toArray.size <= sizeLine:=by rw [List.size_toArray,List.size_toArray]; omega
 have hlong:¬ (!its.toArray.isEmpty && Builtin.List.listTooLong (its.toArray.size + its2.toArray.size)) = true:=by
  rw [Zk hsz,Bool.and_false]
  exact Bool.false_ne_true
 refine call_meets F.slot_list_extend ⟨_,e,rfl⟩ F.entry_list_extend (F.args_list_extend_2 _ _)
  (AutoSeq1.list_extend_list_list_0 l its.toArray n b its2.toArray n2 hlong (by rw [List.size_toArray]; omega) (by omega)) ⟨e,e2,?_⟩
 refine ⟨.non,_,I.lset (its':=its ++ its2) hH e (by simp) (r.append r2) ?_,rfl,q⟩
 rw [List.length_append]
 omega
def Tl:V -> List V -> Hp -> VK -> Prop:=fun x vs H Q=>∃ l xs i k y,x = .ref l /\ vs = [.int i] /\ H l = some (.lst xs) /\ -(2 ^ 63) <= i /\ i < 2 ^ 63 /\ seqIndex? i xs.length = some k /\ xs[k]? = some y /\ Q y (upd H l (.lst (xs.eraseIdx k)))
theorem sr:MtM X "list.pop" Tl:=by
 intro pins s σ H x vs v us Q I rx rv h
 obtain ⟨l,xs,i,k,y,rfl,rfl,hH,h1,h2,hk,hy,q⟩:=h
 cases rx
 obtain ⟨u,rfl,ru⟩:=rv.one
 obtain ⟨t,rfl⟩:=ru
 obtain ⟨z,its,n,r,hl,e⟩:=I.lstM hH
 obtain ⟨w,hw,rw'⟩:=r.get hy
 refine call_meets F.slot_list_pop ⟨_,e,rfl⟩ F.entry_list_pop (F.args_list_pop_2 _ _)
  (MeetsSeq.list_pop_at l its.toArray n i t k w (fitsIndex_both h1 h2) (by rw [List.size_toArray,← hl]; exact hk) (by rw [← Array.getElem?_toList]; exact hw) (by rw [List.size_toArray]; omega)) ⟨e,?_⟩
 refine ⟨y,_,I.lset (its':=its.eraseIdx k) hH e ?_ (r.eraseIdx k) ?_,rw',q⟩
 ·show its.toArray.eraseIdxIfInBounds k = (its.eraseIdx k).toArray
  rw [List.eraseIdxIfInBounds_toArray]
 ·have:=rV xs k
  omega
def rRep:R2:=fun x y H Q=>∃ l k xs,x = .ref l /\ y = .int k /\ H l = some (.lst xs) /\ -(2 ^ 63) <= k /\ k < 2 ^ 63 /\ xs.length * k.toNat <= sizeLine ∧
 ∀ p,H p = none -> Q (.ref p) (upd H p (.lst (List.replicate k.toNat xs).flatten))
theorem Uj {α:Type} (xs:List α) (k:Nat):(List.replicate k xs).flatten.length = k * xs.length:=by
 induction k with
 | zero=>simp
 | succ k ih=>rw [List.replicate_succ,List.flatten_cons,List.length_append,ih,Nat.succ_mul,Nat.add_comm]
theorem Tm:OpR X (binaryOp .Mult) rRep:=by
 intro pins s σ H x y v u Q I rx ry h
 obtain ⟨l,k,xs,rfl,rfl,hH,h1,h2,hz,q⟩:=h
 cases rx
 obtain ⟨t,rfl⟩:=ry
 obtain ⟨z,its,n,r,hl,e⟩:=I.lstM hH
 have hlen:its.toArray.size * k.toNat <= sizeLine:=by rw [List.size_toArray,← hl]; exact hz
 have hcap:¬ its.toArray.size * k.toNat > (2 ^ 63 - 1) / 8:=by
  have:(sizeLine:Nat) <= (2 ^ 63 - 1) / 8:=by decide
  omega
 have hfit:¬ (!Builtin.List.listFitsIndex k) = true:=by
  rw [fitsIndex_both h1 h2]
  exact Bool.false_ne_true
 have hlong:¬ Builtin.List.listTooLong (its.toArray.size * k.toNat) = true:=by
  rw [Zk hlen]
  exact Bool.false_ne_true
 have hnew:List.foldl (fun x1 x2=>x1 ++ x2) #[] (List.replicate (if its.toArray.isEmpty = true then 0 else k.toNat) its.toArray) = (List.replicate k.toNat its).flatten.toArray:=by
  have f0:∀ m:Nat,List.foldl (fun x1 x2=>x1 ++ x2) #[] (List.replicate m its.toArray) = (List.replicate m its).flatten.toArray:=fun m=>by
   have:=rW its m []
   rw [List.nil_append] at this
   exact this
  rw [f0]
  cases its with
  | nil=>simp
  | cons a r'=>rw [if_neg (by simp)]
 refine wpAny_binaryOp_repeat_ref (T:="list") (U:="int") (by decide) ⟨_,e,rfl⟩ (fun s'=>typeIs_int s' k t) noFill_list_mul F.fills_int_mul F.slot_int_rmul repeat_list F.slot_int_index.lookup
  (call_meets F.slot_int_rmul (typeIs_int s k t) F.entry_int_rmul (F.args_int_rmul_2 _ _) (int___rmul___int_list k t l its.toArray n)
   ⟨e,rfl,⟨_,e,rfl⟩,call_meets F.slot_list_mul ⟨_,e,rfl⟩ F.entry_list_mul (F.args_list_mul_2 _ _) (AutoListH.list___mul___list_int_3 l its.toArray n k t hfit hcap hlong) ⟨e,?_⟩⟩)
 rw [hnew]
 exact ⟨.ref _,_,I.lnew (t':=s.toks) (r.rep k.toNat) (by rw [Uj,Nat.mul_comm]; exact hz),rfl,q _ I.fresh⟩
end
end L2
namespace Att
open PySem PySem.W PySem.Calls PyProof.Rows
theorem vZ {P:Params} {h:Heap}:∀ (ns:List Int) (vs:List Value),WellAll P h vs (ns.map WData.int) -> IntsAre vs ns:=by
 intro ns
 induction ns with
 | nil =>
  intro vs w
  rw [List.map_nil] at w
  cases w
  exact .nil
 | cons n ns ih =>
  intro vs w
  rw [List.map_cons] at w
  cases w with
  | cons a b =>
   cases a
   exact .cons _ _ (ih _ b)
theorem Y7 {l:OpenLaw} {n:Nat} (hn:l.most = some n) {P:Params} {h:Heap} {args:List WData} {vals:List Value}
  (hpre:l.row.toRowW.claim.pre args = true) (hwl:WellAll P h vals args) :
  ∃ a vs ns,vals = [Value.ref a] /\ args = [WData.list (ns.map WData.int)] /\ h.get? a = some { cls:=.type "list",data:=.seq vs.toArray } /\ IntsAre vs ns /\ ns.length <= n:=by
 have hsh:WShape.hasAll [] args [.list .int] = true:=(pre_splitW hpre).1
 have hc:l.pre.holds [] { args:=args } = true:=(pre_splitW hpre).2
 obtain ⟨d,r,rfl,h1,h2⟩:=hasAllW_cons hsh
 obtain rfl:=hasAllW_nil h2
 obtain ⟨xs,rfl,h3⟩:=hasW_list h1
 obtain ⟨ns,rfl⟩:=items_int h3
 have hlen:ns.length <= n:=by
  unfold OpenLaw.pre at hc
  have h4:(WTm.not (.lt (.lit (.int (n:Int))) (.len (.arg 0)))).holds [] { args:=[.list (ns.map .int)] } = true:=by
   have h4:=(holds_andW hc).1
   rw [hn] at h4
   exact h4
  have h5:=condW_of h4 (w_not (w_lt w_lit (w_len_list (w_arg rfl))))
  rw [List.length_map] at h5
  refine Nat.le_of_not_lt fun q=>?_
  have q':(n:Int) < ((ns.length:Nat):Int):=by omega
  first
   | (rw [decide_eq_true q'] at h5; exact absurd h5 (by decide))
   | (simp at h5; omega)
 cases hwl with
 | cons w1 w2 =>
  cases w2
  cases w1 with
  | list ho hall=>exact ⟨_,_,ns,rfl,rfl,ho,vZ ns _ hall,hlen⟩
theorem Y8 (l:OpenLaw) (args:List WData):l.row.toRowW.claim.post args (.bool true) args = true :=
 postW_of (r:=l.row.toRowW) (X:=(true == true))
  (show WShape.has [] (.bool true) .bool = true by first | rfl | decide | simp [WShape.has,WShape.arms,WShape.armsAll])
  (show (WTm.eq .res (.lit (.bool true))).value [] { args:=args,res:=some (.bool true),after:=args } = some (.bool (true == true)) from w_eq_bool (w_res rfl) w_lit) rfl
theorem attach_call {l:OpenLaw} {n:Nat} {q:Program} {loose:List Str} {XP:(Str -> Option Value) -> Heap -> Prop} {YP:World -> Heap -> Prop} {d:DefRec}
  (hn:l.most = some n) (hdf:d.params.defaults = [])
  (call:∀ (w:World) (s₀ s₁:Shared) (mg mb:Str -> Option Value) (fa:Addr) (o:Obj) (pm cd doc:Value) (a:Addr) (vs:List Value) (ns:List Int),
   Ground q loose [] XP w s₀ mg mb s₁.heap -> YP w s₁.heap →
   s₁.heap.get? fa = some o -> o.data = .func (docDef d.name d.params d.body d.scope pm cd doc) -> s₁.heap.CodeRec cd d.name -> mg d.name = some (.ref fa) →
   s₁.heap.get? a = some { cls:=.type "list",data:=.seq vs.toArray } -> IntsAre vs ns -> ns.length <= n -> s₁.gens = #[] →
   codeAny (model l.prog w) callerA (.call (.ref fa) ⟨[.ref a],[]⟩) (fun r s'=>r = .ok (.ret (.bool true)) /\ OldK s₁.heap s'.heap /\ s'.os = s₁.os /\ AllBare s'.gens) s₁) :
  WalkO q loose XP YP l.row.toRowW d [] (fun f vs=>PySem.call f vs):=by
 intro w s₀ s₁ mg mb G Y fa o pm cd doc dV kV ho hd hcd hD hmg hg args vals as hpre hlay hrd hwl hlo
 obtain rfl:dV = .none:=Dflts.none hD hdf
 obtain rfl:kV = .none:=Dflts.noKw hD
 obtain ⟨a,vs,ns,rfl,rfl,hobj,hints,hlen⟩:=Y7 hn hpre hwl
 refine enter_call (codeAny_mono (call w s₀ s₁ mg mb fa o pm cd doc a vs ns G Y ho (fd_plain hd) hcd hmg hobj hints hlen hg) fun r s' hq=>?_)
 obtain ⟨rfl,h2,h3,h4⟩:=hq
 exact ⟨.inl ⟨.bool true,.bool true,[],rfl,fun _=>rfl,.bool true,Y8 l _,fun _=>⟨List.Pairwise.nil,fun _ hm=>(nomatch hm)⟩⟩,h2,h3,h4⟩
end Att
namespace L2
open PySem PySem.Spec PyProof.Rows
theorem xS:∀ {vs:List Value} {ns:List Int},IntsAre vs ns -> Vals (ns.map V.int) vs
 | _,_,.nil=>.nil
 | _,_,.cons n t h=>.cons ⟨t,rfl⟩ (xS h)
def Only (H:Hp):Prop:=∀ b,H b = none \/ ∃ o xs,H b = some (.frz o (.lst xs))
theorem WG {P:Program} {w:World} {K:FG7} {mg mb:Str -> Option Value} {CX:CXT} {k:Nat} {fa a:Addr} {fd:FuncData} {x:Str} {sp:Sp} {s₁:Shared} {vs:List Value} {ns:List Int}
  (KX:K.In s₁.heap) (hns:s₁.heap.Ns mainGlobals mg) (hb:s₁.heap.Ns builtinsNs mb) (hbb:∀ x:Str,x ≠ "__name__" -> mb x = bootBuiltins x) (hlim:s₁.heap.NoLimit) (hg:s₁.gens = #[])
  (ha:s₁.heap.get? a = some { cls:=.type "list",data:=.seq vs.toArray }) (hi:IntsAre vs ns) (hl:ns.length <= sizeLine) (hr:Room k callerA)
  (F:∀ base:Heap,K.In base -> base.Ns mainGlobals mg -> FnOk P w K mg base CX k fa fd [x] sp) (hbind:∀ (s:Shared) (u:Value),BindsTo s fd ⟨[u],[]⟩ [(x,u)])
  (hsp:∀ H:Hp,Only H -> SqL K H a (ns.map V.int) -> sp [.ref a] H (fun v _=>v = .bl true) fun _ _ _=>False)
  (hCX:∀ H e s',CX [] H s₁ (fun _ _ _=>False) e s' -> False) :
  codeAny (model P w) callerA (.call (.ref fa) ⟨[.ref a],[]⟩) (fun r s'=>r = .ok (.ret (.bool true)) /\ OldK s₁.heap s'.heap /\ s'.os = s₁.os /\ AllBare s'.gens) s₁:=by
 have rv:=xS hi
 have lenV:=hi.length
 -- from an abstract heap in which nothing but the script may be tracked
 have core:∀ H:Hp,Only H -> SqL K H a (ns.map V.int) -> HOk P w H s₁.heap -> (∀ b,H b ≠ none -> b = a) -> (H a ≠ none -> K.lookup a = none) →
   codeAny (model P w) callerA (.call (.ref fa) ⟨[.ref a],[]⟩) (fun r s'=>r = .ok (.ret (.bool true)) /\ OldK s₁.heap s'.heap /\ s'.os = s₁.os /\ AllBare s'.gens) s₁:=by
  intro H hO hS hok hA hK
  have base_of:∀ {b:Addr} {o:Obj},s₁.heap.get? b = some o -> H b = none -> (hidT s₁.heap H).get? b = some o:=fun e n=>Wu e n
  have noA:∀ {b:Addr} {o:Obj} {es:Array DictEntry} {ep:Nat},s₁.heap.get? b = some o -> o.data = .dict es ep -> H b = none:=fun {b o es ep} e d=>by
   cases q:H b with
   | none=>rfl
   | some u =>
    have e':b = a:=hA b (by rw [q]; simp)
    subst e'
    rw [ha] at e; cases e
    have d':Data.seq vs.toArray _ = Data.dict es ep:=d
    cases d'
  have nsK:∀ {b:Addr} {m:Str -> Option Value},s₁.heap.Ns b m -> (hidT s₁.heap H).Ns b m:=fun {b m} ⟨o,es,ep,e,d,r⟩=>⟨o,es,ep,base_of e (noA e d),d,r⟩
  have hKb:K.In (hidT s₁.heap H):=fun b o e=>base_of (KX b o e) (by
   cases q:H b with
   | none=>rfl
   | some u =>
    have e':b = a:=hA b (by rw [q]; simp)
    subst e'
    rw [hK (by rw [q]; simp)] at e; cases e)
  have hM:Mod K mg (hidT s₁.heap H):=⟨hKb,nsK hns,⟨mb,nsK hb,hbb⟩,let ⟨mc,h1,h2⟩:=hlim; ⟨mc,nsK h1,h2⟩⟩
  have e0:Env0 P w K mg (hidT s₁.heap H) callerA [] s₁ H:=⟨rfl,hM,fun b o e=>VY e,Nat.le_of_eq (YQ _ _),trivial,fun b hb=>absurd (show b ∈ ([]:List Addr) from hb) (by simp),hok,.of_eq hg⟩
  refine codeAny_mono ((F _ hKb (nsK hns)).run callerA [] s₁ H ⟨[.ref a],[]⟩ [.ref a] [.ref a] _ _ hr e0 (hbind s₁ (.ref a)) (.cons rfl .nil) (hsp H hO hS)) fun r s' h=>?_
  cases r with
  | error e=>exact (hCX H e s' h).elim
  | ok fl =>
   cases fl with
   | next=>exact False.elim h
   | brk=>exact False.elim h
   | cont=>exact False.elim h
   | ret u =>
    obtain ⟨v,H',os,bare,un,hok',r',q⟩:=h
    have q':v = .bl true:=q
    subst q'
    obtain rfl:u = Value.bool true:=r'
    refine ⟨rfl,OldK.of_keep fun b o e=>?_,os,bare⟩
    cases q:H b with
    | none=>exact un.keep b o e q (by intro z; exact absurd (show b ∈ ([]:List Addr) from z) (by simp)) (by simp)
    | some u =>
     rcases hO b with z | ⟨ob,xs,z⟩
     ·rw [q] at z; cases z
     ·have z2:=un.frzs b ob _ z
      obtain ⟨e1,_⟩:=hok b _ z
      obtain ⟨e2,_⟩:=hok' b _ z2
      rw [e] at e1; cases e1
      exact e2
 cases hk:K.lookup a with
 | some o =>
  -- the script is one of the module's own objects
  have e:=KX a o hk
  rw [ha] at e
  cases e
  refine core (fun _=>none) (fun _=>.inl rfl) (.inr ⟨_,vs.toArray,_,hk,rfl,rfl,rfl,by rw [List.size_toArray,lenV]; exact hl,by simpa using rv⟩) (fun b u z=>by have z':(none:Option HO) = some u:=z; cases z') (fun b z=>absurd rfl z) fun z=>absurd rfl z
 | none =>
  refine core (fun b=>if b = a then some (.frz { cls:=.type "list",data:=.seq vs.toArray } (.lst (ns.map V.int))) else none) (fun b=>?_) (.inl (.inr ⟨{ cls:=.type "list",data:=.seq vs.toArray },if_pos rfl⟩)) (fun b u z=>?_) (fun b z=>?_) fun _=>hk
  ·by_cases hb:b = a
   ·exact .inr ⟨_,_,if_pos hb⟩
   ·exact .inl (if_neg hb)
  ·by_cases hb:b = a
   ·have z':=(if_pos hb).symm.trans z
    cases z'
    subst hb
    exact ⟨ha,by rw [List.length_map]; exact hl,vs,_,rv,ha⟩
   ·have z':=(if_neg hb).symm.trans z
    cases z'
  ·by_cases hb:b = a
   ·exact hb
   ·exact absurd (if_neg hb) z
end L2
namespace L2
open PySem PySem.Spec PyProof.Rows
theorem walk_of {l:PySem.W.OpenLaw} {n k:Nat} {q:Program} {loose:List Str} {XP:(Str -> Option Value) -> Heap -> Prop} {YP:World -> Heap -> Prop} {d:DefRec} {K:Params -> FG7} {CX:World -> CXT} {sp:World -> Sp} {x:Str}
  (hn:l.most = some n) (hn2:n <= sizeLine) (hdf:d.params.defaults = []) (hr:Room k callerA)
  (hY:∀ (w:World) (h:Heap),YP w h -> (K w.params).In h)
  (F:∀ (w:World) (mg:Str -> Option Value) (fa:Addr) (h:Heap),(K w.params).In h -> h.Ns mainGlobals mg -> mg d.name = some (.ref fa) →
   ∃ fd:FuncData,(∀ (s:Shared) (u:Value),BindsTo s fd ⟨[u],[]⟩ [(x,u)]) ∧
    ∀ base:Heap,(K w.params).In base -> base.Ns mainGlobals mg -> FnOk l.prog w (K w.params) mg base (CX w) k fa fd [x] (sp w))
  (hsp:∀ (w:World) (H:Hp) (a:Addr) (ns:List Int),ns.length <= n -> Only H -> SqL (K w.params) H a (ns.map V.int) -> sp w [.ref a] H (fun v _=>v = .bl true) fun _ _ _=>False)
  (hCX:∀ (w:World) (H:Hp) (s:Shared) (e:Value) (s':Shared),CX w [] H s (fun _ _ _=>False) e s' -> False) :
  PySem.W.WalkO q loose XP YP l.row.toRowW d [] (fun f vs=>PySem.call f vs):=by
 refine Att.attach_call hn hdf fun w s₀ s₁ mg mb fa o pm cd doc a vs ns G Y ho hd hcd hmg hobj hints hlen hg=>?_
 have KX:=hY w _ Y
 obtain ⟨fd,hb,hF⟩:=F w mg fa _ KX G.T.g hmg
 exact WG KX G.T.g G.T.b G.T.builtins G.T.nolimit hg hobj hints (Nat.le_trans hlen hn2) hr hF hb (fun H hO hS=>hsp w H a ns hlen hO hS) fun H e s'=>hCX w H s₁ e s'
end L2
namespace L2
open PySem PySem.Spec PyProof.Rows
def zj (s:Stmt) (j:Nat):Stmt:=match s with
 | .ClassDef _ _ _ body _ _ _ _ _ _ _=>body.getD j (.Pass ⟨0,0,0,0⟩)
 | _=>.Pass ⟨0,0,0,0⟩
def zL (s:Stmt):Arguments:=match s with
 | .FunctionDef _ a _ _ _ _ _ _ _ _=>a
 | _=>{ posonlyargs:=[],args:=[],vararg:=none,kwonlyargs:=[],kw_defaults:=[],kwarg:=none,defaults:=[] }
def zJ (s:Stmt):List Stmt:=match s with
 | .FunctionDef _ _ b _ _ _ _ _ _ _=>b
 | _=>[]
def zf (s:Stmt):Scope:=match s with
 | .FunctionDef _ _ _ _ _ _ sc _ _ _=>sc
 | _=>{ kind:=.function,names:=[],isGenerator:=false,isCoroutine:=false }
abbrev CX0:CXT:=fun _ _ _ _ _ _=>False
abbrev E0:XK:=fun _ _ _=>False
theorem Y9 {X:Cx}:vX CX0 X E0:=fun _ _ _ _ _ _ _ h=>h.elim
structure Fun (K:FG7) (x qual:Str) (st:Stmt) (f:Addr) (fd:FuncData):Prop where
 ex:∃ (oc:Value) (od:Option Addr) (kV doc pm:Value) (an:Option Addr) (cdv ct:Value) (osl:Array (Option Value)),
  fd = PySem.W.fnOf x qual (zL st) (zJ st) (zf st) .none kV doc pm an cdv ct /\ K.lookup f = some ⟨oc,od,.func fd,osl⟩ /\ PySem.W.codeIn K cdv qual = true
 kp:PySem.W.keepIn K (.ref f) = true
section
variable {P:Program} {w:World} {K:FG7} {mg:Str -> Option Value} {base:Heap}
theorem Fun.ok {x qual:Str} {st:Stmt} {f:Addr} {fd:FuncData} {N ps:List Str} {k:Nat} {sp:Sp} (F:Fun K x qual st f fd) (S:FnScope N ps (zf st)) (len:∀ vs H Q E,sp vs H Q E -> vs.length = ps.length)
  (hbody:∀ (cdv:Value) (A:Around) (outer:List Env) (s:Shared) (H:Hp) (vs:List V) (Q:VK) (E:XK),Room k (A.deeper (envOfC qual (zf st) s.heap.objs.size f cdv)) -> sp vs H Q E →
   ∃ t,PSs (cxOf CX0 P w K mg base N qual (zf st) f cdv A outer s H E).nox (zJ st) t /\ t { nx:=fun _ H'=>Q .non H',rt:=Q } (si N vs) H):FnOk P w K mg base CX0 (k + 1) f fd ps sp:=by
 obtain ⟨oc,od,kV,doc,pm,an,cdv,ct,osl,rfl,lk,hcd⟩:=F.ex
 refine Tj lk hcd S len fun A outer s H vs Q E hr hsp=>?_
 obtain ⟨t,h,q⟩:=hbody cdv A outer s H vs Q E hr hsp
 exact ⟨t,h.nox,q⟩
theorem Fun.binds {x qual:Str} {st:Stmt} {f:Addr} {fd:FuncData} {ps:List Str} (F:Fun K x qual st f fd)
  (h:∀ (kV doc pm:Value) (an:Option Addr) (cdv ct:Value) (us:List Value),us.length = ps.length -> bindArgs (PySem.W.fnOf x qual (zL st) (zJ st) (zf st) .none kV doc pm an cdv ct) ⟨us,[]⟩ = pure (ps.zip us)):xA K fd ps []:=by
 obtain ⟨oc,od,kV,doc,pm,an,cdv,ct,osl,rfl,lk,hcd⟩:=F.ex
 exact .all (h kV doc pm an cdv ct)
theorem fun_mk {x qual:Str} {st:Stmt} {f:Addr} {oc:Value} {od an:Option Addr} {osl:Array (Option Value)} {kV doc pm cdv ct:Value} (l:K.lookup f = some ⟨oc,od,.func (PySem.W.fnOf x qual (zL st) (zJ st) (zf st) .none kV doc pm an cdv ct),osl⟩)
  (c:PySem.W.codeIn K cdv qual = true) (k:PySem.W.keepIn K (.ref f) = true):Fun K x qual st f (PySem.W.fnOf x qual (zL st) (zJ st) (zf st) .none kV doc pm an cdv ct):=⟨⟨oc,od,kV,doc,pm,an,cdv,ct,osl,rfl,l,c⟩,k⟩
end
theorem zr {n:Nat} (h:n <= 1000):n < sizeLine:=Nat.lt_of_le_of_lt h (by decide)
section
variable {X:Cx}
theorem pv (i:Nat) {x:Str} {pos:Pos} (hN:X.N[i]? = some x:=by rfl) (hv:Vis X.env.scope x:=by first | exact Or.inl rfl | exact Or.inr (Or.inl rfl) | exact Or.inr (Or.inr rfl)) (hd:(x == ("__debug__":Str)) = false:=by decide)
  (hcd:(x == ("__classdict__":Str)) = false:=by decide):PE X (.Name x pos) (tVar i):=U9 hN hv hd hcd
end
theorem iteF {A B:Prop} (h:B):if false = true then A else B:=by
 rw [if_neg Bool.false_ne_true]
 exact h
theorem iteT {A B:Prop} (h:A):if true = true then A else B:=by
 rw [if_pos rfl]
 exact h
theorem ite2 {c A B:Prop} [Decidable c] (h1:c -> A) (h2:¬ c -> B):if c then A else B:=by
 by_cases h:c
 ·rw [if_pos h]
  exact h1 h
 ·rw [if_neg h]
  exact h2 h
def Same (H H':Hp):Prop:=∀ b o,H b = some o -> H' b = some o
theorem Same.refl (H:Hp):Same H H:=fun _ _ h=>h
theorem Same.trans {H H1 H2:Hp} (a:Same H H1) (b:Same H1 H2):Same H H2:=fun c o h=>b c o (a c o h)
theorem Same.free {H H':Hp} (e:Same H H') {l:Addr} (h:H' l = Option.none):H l = Option.none:=by
 cases q:H l with
 | none=>rfl
 | some o =>
  rw [e l o q] at h
  cases h
theorem Same.seq {K:FG7} {H H':Hp} {a:Addr} {xs:List V} (e:Same H H') (h:SqL K H a xs):SqL K H' a xs:=by
 rcases h with (h | ⟨o,h⟩) | h
 ·exact .inl (.inl (e _ _ h))
 ·exact .inl (.inr ⟨o,e _ _ h⟩)
 ·exact .inr h
end L2
namespace L3
open PySem PySem.Spec PyProof.Rows L2
theorem wL:bootBuiltins "len" = some (.builtin "len"):=by decide +kernel
theorem Uk:bootBuiltins "max" = some (.builtin "max"):=by decide +kernel
theorem Ul:bootBuiltins "min" = some (.builtin "min"):=by decide +kernel
theorem WH:bootBuiltins "divmod" = some (.builtin "divmod"):=by decide +kernel
theorem yf:bootBuiltins "isinstance" = some (.builtin "isinstance"):=by decide +kernel
theorem WI:bootBuiltins "all" = some (.builtin "all"):=by decide +kernel
theorem ss:bootBuiltins "sorted" = some (.builtin "sorted"):=by decide +kernel
theorem WJ:bootBuiltins "int" = some (.type "int"):=by decide +kernel
theorem Tn:bootBuiltins "bool" = some (.type "bool"):=by decide +kernel
theorem xj:bootBuiltins "tuple" = some (.type "tuple"):=by decide +kernel
theorem VA:bootBuiltins "list" = some (.type "list"):=by decide +kernel
theorem To:bootBuiltins "dict" = some (.type "dict"):=by decide +kernel
def TyV (K:FG7) (H:Hp) (x:V) (T:String):Prop:=match x with
 | .non=>T = "NoneType"
 | .bl _=>T = "bool"
 | .int _=>T = "int"
 | .str _=>T = "str"
 | .ref a=>(T = "tuple" /\ ∃ xs,SqT K H a xs) \/ (T = "list" /\ ∃ xs,SqL K H a xs) \/ (T = "dict" /\ ∃ kvs,H a = some (.dK kvs))
 | _=>False
section
variable {X:Cx} {a b c:Expr} {ta tb tc:TE} {pos:Pos}
def rIsi (K:FG7):List V -> Hp -> VK -> Prop:=fun xs H Q=>∃ x T t k,xs = [x,.ty T] /\ TyV K H x t /\ PySem.W.kitOne K (.type t) (.type T) = some k /\ Q (.bl k) H
theorem xB:xq X (.builtin "isinstance") (rIsi X.K):=by
 intro pins s σ H xs us Q I r h
 obtain ⟨x,T,t,k,rfl,ty,e,q⟩:=h
 obtain ⟨u,w',rfl,rx,rt⟩:=YY r
 cases (show w' = Value.type T from rt)
 have fin:∀ tk,EP X pins σ Q (.bool k) { s with toks:=tk }:=fun tk=>⟨.bl k,H,I.tok _,rfl,q⟩
 cases x with
 | non=>cases (show t = "NoneType" from ty); exact xQ I rx .non e fin
 | bl y=>cases (show t = "bool" from ty); exact xQ I rx (.bl y) e fin
 | int i=>cases (show t = "int" from ty); exact xQ I rx (.int i) e fin
 | str y=>cases (show t = "str" from ty); exact xQ I rx (.str y) e fin
 | byt y=>exact ty.elim
 | flt y=>exact ty.elim
 | ty y=>exact ty.elim
 | ref a =>
  cases (show u = Value.ref a from rx)
  rcases ty with ⟨rfl,xs,hq⟩ | ⟨rfl,xs,hq⟩ | ⟨rfl,kvs,hq⟩
  ·obtain ⟨its,_,⟨o,h1,h2,_⟩,_⟩:=I.tuple hq
   exact PySem.W.kia_one PySem.W.kitx_tuple I.kIn ⟨o,h1,h2⟩ e (fun z=>nomatch z) fin
  ·obtain ⟨its,_,pl,_⟩:=I.list hq
   obtain ⟨o,h1,h2,_⟩:=pl.isList
   exact PySem.W.kia_one PySem.W.kitx_list I.kIn ⟨o,h1,h2⟩ e (fun z=>nomatch z) fin
  ·exact xQ (x:=V.ref a) I (show RelV (.ref a) (.ref a) from rfl) (.dK hq) e fin
theorem ua {x:Str} {T:String} {pos:Pos} (hg:Gl X x) (hm:X.mg x = none) (hv:bootBuiltins x = some (.type T)) (hn:x ≠ "__name__":=by decide) (hd:(x == ("__debug__":Str)) = false:=by decide):PE X (.Name x pos) (tC (.ty T)) :=
 V0 hg hm hv (show RelV (.ty T) (Value.type T) from rfl) hn hd
theorem xC:OpR X (binaryOp .Mult) (rI IntMulOk fun i j=>.int (i * j)):=opI fun _ _ _ _ _ _ _ hc q=>mul_int q hc
def WK (i j:Int):Prop:=0 < j /\ j < 2 ^ 200
theorem WK.py {i j:Int} (h:WK i j):Builtin.divisionGoesByPylong i j = false:=by
 refine PyProof.noPylong_of_log2 ?_
 obtain ⟨h1,h2⟩:=h
 have h0:j.natAbs ≠ 0:=by omega
 have h3:j.natAbs < 2 ^ 200:=by
  have:(j.natAbs:Int) = j:=by omega
  have h4:((j.natAbs:Nat):Int) < ((2 ^ 200:Nat):Int):=by rw [this]; exact h2
  exact Int.ofNat_lt.mp h4
 exact Nat.lt_of_lt_of_le ((Nat.log2_lt h0).mpr h3) (by decide)
theorem su:OpR X (binaryOp .FloorDiv) (rI WK fun i j=>.int (i / j)):=opI fun i j _ _ _ _ _ hc q=>by
 have:=hc.1
 refine floordiv_int (by omega) ?_ (.inl hc.py)
 rw [Int.fdiv_eq_ediv_of_nonneg i (by omega)]
 exact q
theorem rX:xq X (.builtin "divmod") (fun xs H Q=>∃ i j,xs = [.int i,.int j] /\ WK i j /\ ∀ p,H p = none -> Q (.ref p) (upd H p (.tup [.int (i / j),.int (i % j)]))):=by
 intro pins s σ H xs us Q I r h
 obtain ⟨i,j,rfl,hc,q⟩:=h
 have h1:=hc.1
 obtain ⟨u,w',rfl,⟨t,rfl⟩,⟨t',rfl⟩⟩:=YY r
 refine divmod_int (by omega) ?_ (.inl hc.py)
 rw [Int.fdiv_eq_ediv_of_nonneg i (by omega),Int.fmod_eq_emod_of_nonneg i (by omega)]
 have hn:H s.heap.objs.size = none:=I.hok.fresh (Nat.le_refl _)
 refine ⟨.ref s.heap.objs.size,_,?_,rfl,q _ hn⟩
 refine I.laid (fun b o e=>Heap.get?_push_of_some _ e) (Nat.le_refl _) ⟨by simp only [List.length_cons,List.length_nil]; rw [sizeLine_eq]; decide,[.int (i / j) s.toks,.int (i % j) (s.toks + 1)],.cons ⟨_,rfl⟩ (.cons ⟨_,rfl⟩ .nil),?_⟩
 exact ⟨_,Heap.get?_push_size s.heap rfl,rfl,0,rfl⟩
end
def zn (P:Program) (w:World) (K:FG7) (mg:Str -> Option Value) (base:Heap) (k:Nat) (x:Str) (ps:List Str) (sp:Sp):Prop :=
 ∃ (f:Addr) (fd:FuncData),FnOk P w K mg base CX0 k f fd ps sp /\ xA K fd ps [] /\ PySem.W.keepIn K (.ref f) = true /\ mg x = some (.ref f)
theorem zn.mono {P:Program} {w:World} {K:FG7} {mg:Str -> Option Value} {base:Heap} {j k:Nat} {x:Str} {ps:List Str} {sp:Sp} (C:zn P w K mg base j x ps sp) (h:j <= k):zn P w K mg base k x ps sp:=by
 obtain ⟨f,fd,F,b,kp,m⟩:=C
 exact ⟨f,fd,F.mono h,b,kp,m⟩
section
variable {X:Cx} {k:Nat} {ps:List Str} {sp:Sp} {x:Str} {p pos:Pos} {e:Expr} {es:List Expr} {t:TA}
theorem zh (C:zn X.prog X.w X.K X.mg X.base k x ps sp) (hr:Room k X.A) (hg:Gl X x)
  (ha:PA X (e :: es) t) (hdb:(x == ("__debug__":Str)) = false:=by decide) (he:starEach (e :: es) X.env = (false,eval e X.env) :: starEach es X.env:=by rfl) (hpl:(backTo pos (starEach es X.env)).any (·.1) = false:=by rfl) :
  PE X (.Call (.Name x p) (e :: es) [] pos) (Th sp [] E0 t):=by
 obtain ⟨f,fd,F,b,kp,m⟩:=C
 exact V8 F hr hg m kp b .nil Y9 ha hdb he hpl
end
structure Grow (m:List Addr) (H H':Hp):Prop where
 keep:∀ b o,b ∉ m -> H b = some o -> H' b = some o
 tup:∀ b xs,H b = some (.tup xs) -> H' b = some (.tup xs)
 frz:∀ b o u,H b = some (.frz o u) -> H' b = some (.frz o u)
theorem Grow.refl (m:List Addr) (H:Hp):Grow m H H:=⟨fun _ _ _ h=>h,fun _ _ h=>h,fun _ _ _ h=>h⟩
theorem Grow.trans {m:List Addr} {H H1 H2:Hp} (a:Grow m H H1) (b:Grow m H1 H2):Grow m H H2 :=
 ⟨fun c o n h=>b.keep c o n (a.keep c o n h),fun c xs h=>b.tup c xs (a.tup c xs h),fun c o u h=>b.frz c o u (a.frz c o u h)⟩
theorem Grow.new {m:List Addr} {H:Hp} {p:Addr} (h:H p = none) (o:HO):Grow m H (upd H p o) :=
 ⟨fun b u _ q=>by rw [zt (zv q h)]; exact q,fun b xs q=>by rw [zt (zv q h)]; exact q,fun b u v q=>by rw [zt (zv q h)]; exact q⟩
theorem Grow.set {m:List Addr} {H:Hp} {p:Addr} {xs:List V} (h:H p = some (.lst xs)) (hm:p ∈ m) (ys:List V):Grow m H (upd H p (.lst ys)) :=
 ⟨fun b u hb q=>by rw [zt (show b ≠ p from fun z=>hb (by rw [z]; exact hm))]; exact q,fun b zs q=>by rw [zt (fun z=>by subst z; rw [h] at q; cases q)]; exact q,fun b u v q=>by rw [zt (fun z=>by subst z; rw [h] at q; cases q)]; exact q⟩
theorem Grow.mono {m m':List Addr} {H H':Hp} (a:Grow m H H') (h:∀ b ∈ m,b ∈ m'):Grow m' H H':=⟨fun b o n q=>a.keep b o (fun z=>n (h b z)) q,a.tup,a.frz⟩
theorem Grow.same {H H':Hp} (a:Grow [] H H'):Same H H':=fun b o h=>a.keep b o (by simp) h
theorem Grow.sqT {m:List Addr} {H H':Hp} (g:Grow m H H') {K:FG7} {a:Addr} {xs:List V} (h:SqT K H a xs):SqT K H' a xs:=by
 rcases h with (h | ⟨o,h⟩) | h
 ·exact .inl (.inl (g.tup _ _ h))
 ·exact .inl (.inr ⟨o,g.frz _ _ _ h⟩)
 ·exact .inr h
theorem Grow.free {H H':Hp} {m:List Addr} (g:Grow m H H') {l:Addr} (hm:l ∉ m) (h:H' l = none):H l = none:=by
 cases q:H l with
 | none=>rfl
 | some o=>rw [g.keep l o hm q] at h; cases h
def Scr (K:FG7) (H:Hp) (a:Addr) (ns:List Int):Prop :=
 (∃ o,H a = some (.frz o (.lst (ns.map V.int)))) ∨
  ∃ (o:Obj) (its:Array Value) (n:Nat),K.lookup a = some o /\ o.cls = .type "list" /\ o.dict = none /\ o.data = .seq its n /\ its.size <= sizeLine /\ Vals (ns.map V.int) its.toList
theorem Scr.sq {K:FG7} {H:Hp} {a:Addr} {ns:List Int} (h:Scr K H a ns):SqL K H a (ns.map V.int):=by
 rcases h with ⟨o,h⟩ | h
 ·exact .inl (.inr ⟨o,h⟩)
 ·exact .inr h
theorem Scr.of {K:FG7} {H:Hp} {a:Addr} {ns:List Int} (hO:Only H) (h:SqL K H a (ns.map V.int)):Scr K H a ns:=by
 rcases h with (h | ⟨o,h⟩) | h
 ·rcases hO a with z | ⟨o,xs,z⟩
  ·rw [h] at z; cases z
  ·rw [h] at z; cases z
 ·exact .inl ⟨o,h⟩
 ·exact .inr h
theorem Grow.scr {m:List Addr} {H H':Hp} (g:Grow m H H') {K:FG7} {a:Addr} {ns:List Int} (h:Scr K H a ns):Scr K H' a ns:=by
 rcases h with ⟨o,h⟩ | h
 ·exact .inl ⟨o,g.frz _ _ _ h⟩
 ·exact .inr h
structure Blt (mg:Str -> Option Value):Prop where
 abs:mg "abs" = none
 len:mg "len" = none
 max:mg "max" = none
 min:mg "min" = none
 divmod:mg "divmod" = none
 repr:mg "repr" = none
 isinstance:mg "isinstance" = none
 all:mg "all" = none
 range:mg "range" = none
 int:mg "int" = none
 bool:mg "bool" = none
 str:mg "str" = none
 tuple:mg "tuple" = none
 list:mg "list" = none
 dict:mg "dict" = none
def sp1 (b:V -> Hp -> VK -> Prop):Sp:=fun vs H Q _=>∃ x,vs = [x] /\ b x H Q
def sp2 (b:V -> V -> Hp -> VK -> Prop):Sp:=fun vs H Q _=>∃ x y,vs = [x,y] /\ b x y H Q
def sp3 (b:V -> V -> V -> Hp -> VK -> Prop):Sp:=fun vs H Q _=>∃ x y z,vs = [x,y,z] /\ b x y z H Q
theorem yJ {b:V -> Hp -> VK -> Prop} {p:Str}:∀ vs H Q E,sp1 b vs H Q E -> vs.length = [p].length:=fun vs H Q E h=>by
 obtain ⟨x,rfl,_⟩:=h; rfl
theorem yg {b:V -> V -> Hp -> VK -> Prop} {p q:Str}:∀ vs H Q E,sp2 b vs H Q E -> vs.length = [p,q].length:=fun vs H Q E h=>by
 obtain ⟨x,y,rfl,_⟩:=h; rfl
theorem yK {b:V -> V -> V -> Hp -> VK -> Prop} {p q r:Str}:∀ vs H Q E,sp3 b vs H Q E -> vs.length = [p,q,r].length:=fun vs H Q E h=>by
 obtain ⟨x,y,z,rfl,_⟩:=h; rfl
def rY:V -> Bool
 | .int _=>true
 | _=>false
def endV:V -> Bool
 | .non=>true
 | .int _=>true
 | _=>false
def Kn (K:FG7) (H:Hp) (x:V):Prop:=∃ T,TyV K H x T
structure Deed where
 add:Int
 lo:Option Int
 hi:Option Int
 deriving DecidableEq
def ov:Option Int -> V
 | none=>.non
 | some i=>.int i
def Deed.vs (d:Deed):List V:=[.int d.add,ov d.lo,ov d.hi]
def Deed.Ok (d:Deed):Prop:=∀ l h,d.lo = some l -> d.hi = some h -> l < h \/ (l = h /\ d.add = 0)
def Um (lo:Option Int) (r:Int):Int:=match lo with
 | none=>r
 | some l=>if l > r then l else r
def Xa (hi:Option Int) (r:Int):Int:=match hi with
 | none=>r
 | some h=>if h < r then h else r
def Deed.mk' (d:Deed) (v:Int):Int:=Xa d.hi (Um d.lo (v + d.add))
def ordV:V -> V -> V -> Bool
 | .int a,.int l,.int h=>decide (l < h) || (decide (l = h) && decide (a = 0))
 | _,_,_=>true
def vc:List V -> Bool
 | [x,y,z]=>rY x && (endV y && (endV z && ordV x y z))
 | _=>false
theorem Z1 {d:Deed} (h:d.Ok):vc d.vs = true:=by
 obtain ⟨a,lo,hi⟩:=d
 cases lo with
 | none=>cases hi <;> rfl
 | some l =>
  cases hi with
  | none=>rfl
  | some u =>
   have:=h l u rfl rfl
   show (decide (l < u) || (decide (l = u) && decide (a = 0))) = true
   rcases this with q | ⟨q,q2⟩
   ·simp [q]
   ·have q2':a = 0:=q2
    simp [q,q2']
theorem Xb {x:V} (h:rY x = true):∃ i,x = .int i:=by
 cases x <;> first | exact ⟨_,rfl⟩ | cases h
theorem VB {x:V} (h:endV x = true):∃ o,x = ov o:=by
 cases x <;> first | exact ⟨none,rfl⟩ | exact ⟨some _,rfl⟩ | cases h
theorem len3 {xs:List V} (h:xs.length = 3):∃ x y z,xs = [x,y,z]:=by
 match xs,h with
 | [x,y,z],_=>exact ⟨x,y,z,rfl⟩
theorem jq {xs:List V} (h:xs.length ≠ 3):vc xs = false:=by
 match xs,h with
 | [],_=>rfl
 | [_],_=>rfl
 | [_,_],_=>rfl
 | [_,_,_],h=>exact absurd rfl h
 | _ :: _ :: _ :: _ :: _,_=>rfl
def yR (K:FG7) (H:Hp) (x:V) (d:Deed):Prop:=∃ a,x = .ref a /\ SqT K H a d.vs
theorem Grow.deed {m:List Addr} {H H':Hp} (g:Grow m H H') {K:FG7} {x:V} {d:Deed} (h:yR K H x d):yR K H' x d:=by
 obtain ⟨a,e,h⟩:=h
 exact ⟨a,e,g.sqT h⟩
theorem Zl {K:FG7} {H:Hp} {i:Int}:Kn K H (.int i):=⟨"int",rfl⟩
theorem Tp {K:FG7} {H:Hp}:Kn K H .non:=⟨"NoneType",rfl⟩
theorem Tq {K:FG7} {H:Hp} (o:Option Int):Kn K H (ov o):=by cases o; exact Tp; exact Zl
def xb (K:FG7):Sp:=sp1 fun x H Q=>Kn K H x /\ Q (.bl (rY x)) H
def rZ (K:FG7):Sp:=sp1 fun x H Q=>Kn K H x /\ Q (.bl (endV x)) H
def tq (K:FG7):Sp:=sp1 fun x H Q=>(∃ T,T ≠ "tuple" /\ TyV K H x T /\ Q (.bl false) H) \/ ∃ a xs,x = .ref a /\ SqT K H a xs /\ (∀ y ∈ xs,Kn K H y) /\ Q (.bl (vc xs)) H
def jr (K:FG7):Sp:=sp2 fun x y H Q=>∃ d v,yR K H x d /\ y = .int v /\ Q (.int (d.mk' v)) H
def Pot (H:Hp) (a:Addr):Prop:=∃ p0 p1:Int,H a = some (.lst [.int p0,.int p1]) /\ 0 <= p0
def Sm (n:Int):Prop:=-(10 ^ 30) < n /\ n < 10 ^ 30
def Deed.Sm (d:Deed):Prop:=L3.Sm d.add /\ (∀ l,d.lo = some l -> L3.Sm l) /\ ∀ h,d.hi = some h -> L3.Sm h
def VC (K:FG7):Sp:=sp2 fun x y H Q=>∃ a ns k,x = .ref a /\ y = .int k /\ Scr K H a ns /\ 0 <= k /\ k < 1000 /\ ∀ p H',H p = none -> Grow [] H H' -> Pot H' p -> Q (.ref p) H'
def vd (_:FG7):Sp:=sp2 fun x y H Q=>∃ a m,x = .ref a /\ y = .int m /\ Pot H a /\ 0 < m /\ m < 2 ^ 200 /\ ∀ n H',0 <= n -> n < m -> Grow [a] H H' -> Pot H' a -> Q (.int n) H'
theorem Sm.of {n:Int} (h1:-(10 ^ 30) < n) (h2:n < 10 ^ 30):Sm n:=⟨h1,h2⟩
def Zm (K:FG7):Sp:=sp1 fun x H Q=>∃ a ns,x = .ref a /\ Scr K H a ns /\ ns.length <= 63 /\ ∀ H',Q (.bl true) H'
theorem szl {n:Nat} (h:Nat.ble n 1000 = true):n <= sizeLine:=Nat.le_of_lt (zr (Nat.le_of_ble_eq_true h))
theorem Grow.wk {m:List Addr} {H H':Hp} (g:Grow [] H H'):Grow m H H':=g.mono (by simp)
theorem Pot.grow {H H':Hp} {a:Addr} (p:Pot H a) (g:Grow [] H H'):Pot H' a:=by
 obtain ⟨u0,u1,hu,hn⟩:=p
 exact ⟨u0,u1,g.keep _ _ (by simp) hu,hn⟩
theorem Pot.new {H:Hp} {a l:Addr} (p:Pot H a) (hl:H l = none) (o:HO):Pot (upd H l o) a:=p.grow (Grow.new hl o)
theorem tw {i j:Int} (h2:-(2 ^ 60) < j /\ j < 2 ^ 60):IntMulOk i j:=PySem.IntMulOk.of_right (Nat.le_trans ((PySem.intBits_le_iff (m:=60)).mpr (by obtain ⟨a,b⟩:=h2; omega)) (by decide))
section
variable {prog:Program} {w:World} {A:Around} {R:Result -> Shared -> Prop} {s:Shared}
theorem Xc {elt target iter:Expr} {ifs:List Expr} {scope:Scope} {pos:Pos} {it acc:Value} {env:Env} (I:Nat -> Shared -> Prop)
  (turn:∀ n s,I n s -> wpAny (model prog w) A (pyNext it) (fun r s₁=>match r with
   | none=>R (.ok .next) s₁
   | some v=>wpAny (model prog w) A (letOwnedTupleGo target it v) (fun _ s₂=>wpAny (model prog w) A (assign target env v) (fun _ s₃ =>
     wpAny (model prog w) A (forIn ifs true fun c r=>if r = true then do let ok ← isTrue c env (eval c env); pure (ForInStep.yield ok) else pure (ForInStep.yield r)) (fun ok s₄ =>
      if ok = true then wpAny (model prog w) A (eval elt env) (fun x s₅ =>
       wpAny (model prog w) A (call (.builtin "list.append") [acc,x]) (fun _ s₆=>∃ m,m < n /\ I m s₆) (fun _ _=>False) s₅) (fun _ _=>False) s₄
      else ∃ m,m < n /\ I m s₄) (fun _ _=>False) s₃) (fun _ _=>False) s₂) (fun _ _=>False) s₁) (fun _ _=>False) s)
  (n:Nat) (h:I n s) :
  codeAny (model prog w) A (.compLoop (.ListComp elt [⟨target,iter,ifs,0⟩] scope pos) 0 it acc env) R s:=by
 refine codeAny_loop rfl I (fun n s hI=>?_) n h
 show wpAny _ A ((compTurn (.ListComp elt [⟨target,iter,ifs,0⟩] scope pos) 0 it acc env).onRaise (fun x=>do noteFrame x env; theTreesLotGoes x)) _ _ s
 refine wpAny_noted ?_
 rw [compTurn_list]
 have no:∀ (E:VS7) (e:Value) (s:Shared),(fun (_:Value) (_:Shared)=>False) e s -> E e s:=fun _ _ _ f=>f.elim
 refine wpAny_bind (wpAny_standAt (wpAny_bind (wpAny_mono (turn n s hI) (fun r s₁ h₁=>?_) (no _))))
 cases r with
 | none=>exact wpAny_pure h₁
 | some v =>
  refine wpAny_bind (wpAny_mono h₁ (fun _ s₂ h₂=>?_) (no _))
  refine wpAny_bind (wpAny_mono h₂ (fun _ s₃ h₃=>wpAny_bind (wpAny_mono h₃ (fun ok s₄ h₄=>?_) (no _))) (no _))
  cases ok with
  | true =>
   simp only [if_true] at h₄ ⊢
   exact wpAny_bind (wpAny_bind (wpAny_mono h₄ (fun x s₅ h₅=>wpAny_bind (wpAny_mono h₅ (fun _ s₆ h₆=>wpAny_pure (wpAny_pure ⟨rfl,h₆⟩)) (no _))) (no _)))
  | false =>
   simp only [Bool.false_eq_true,if_false] at h₄ ⊢
   first
    | exact wpAny_bind (wpAny_pure (wpAny_pure ⟨rfl,h₄⟩))
    | exact wpAny_pure ⟨rfl,h₄⟩
end
theorem tz {scope:Scope} {env:Env} (hfree:∀ y ∈ scope.names,y.2 = .free -> ∃ c,env.cells.lookup y.1 = some c) :
  ∃ cl,closureFor scope env = pure cl /\ (∀ x c,cl.lookup x = some c -> env.cells.lookup x = some c) /\ ∀ y ∈ scope.names,y.2 = .free -> ∃ c,cl.lookup y.1 = some c:=by
 have key:∀ (l:List (Str × NameKind)) (cs:List (Str × Addr)),(∀ y ∈ l,y.2 = .free -> ∃ c,env.cells.lookup y.1 = some c) -> (∀ x c,cs.lookup x = some c -> env.cells.lookup x = some c) →
   ∃ cl,(forIn l cs (fun (x:Str × NameKind) r=>do if x.2 == .free then do let c ← cellOf env x.1; pure (ForInStep.yield ((x.1,c) :: r)) else pure (ForInStep.yield r)):Sem (List (Str × Addr))) = pure cl ∧
    (∀ x c,cl.lookup x = some c -> env.cells.lookup x = some c) /\ (∀ y ∈ l,y.2 = .free -> ∃ c,cl.lookup y.1 = some c) /\ ∀ x c,cs.lookup x = some c -> ∃ c',cl.lookup x = some c':=by
  intro l
  induction l with
  | nil=>intro cs _ h2; exact ⟨cs,rfl,h2,fun y hy=>absurd hy (by simp),fun x c h=>⟨c,h⟩⟩
  | cons y r ih =>
   intro cs h1 h2
   obtain ⟨n,k⟩:=y
   by_cases hk:k = .free
   ·subst hk
    obtain ⟨c,hc⟩:=h1 (n,.free) (by simp) rfl
    have hc':env.cells.lookup n = some c:=hc
    have e0:cellOf env n = pure c:=by unfold cellOf; rw [hc']
    obtain ⟨cl,e,p1,p2,p3⟩:=ih ((n,c) :: cs) (fun z hz=>h1 z (List.mem_cons_of_mem _ hz)) (fun x d h=>by
     by_cases hx:x = n
     ·subst hx
      rw [List.lookup_cons_self] at h
      cases h; exact hc'
     ·rw [List.lookup_cons,beq_eq_false_iff_ne.mpr hx] at h
      exact h2 x d h)
    refine ⟨cl,?_,p1,fun z hz=>?_,fun x d h=>?_⟩
    ·rw [List.forIn_cons]
     simp only [beq_self_eq_true,if_true,e0,pure_bind]
     exact e
    ·rcases List.mem_cons.mp hz with rfl | hz
     ·intro _
      exact p3 n c List.lookup_cons_self
     ·exact p2 z hz
    ·by_cases hx:x = n
     ·subst hx; exact p3 x c List.lookup_cons_self
     ·exact p3 x d (by rw [List.lookup_cons,beq_eq_false_iff_ne.mpr hx]; exact h)
   ·have hb:(k == NameKind.free) = false:=beq_eq_false_iff_ne.mpr hk
    obtain ⟨cl,e,p1,p2,p3⟩:=ih cs (fun z hz=>h1 z (List.mem_cons_of_mem _ hz)) h2
    refine ⟨cl,?_,p1,fun z hz=>?_,p3⟩
    ·rw [List.forIn_cons]
     simp only [hb,Bool.false_eq_true,if_false,pure_bind]
     exact e
    ·rcases List.mem_cons.mp hz with rfl | hz
     ·intro h; exact absurd h hk
     ·exact p2 z hz
 obtain ⟨cl,e,p1,p2,_⟩:=key scope.names [] hfree (fun x c h=>by cases h)
 refine ⟨cl,?_,p1,p2⟩
 unfold closureFor
 first
  | (rw [show (forIn scope.names [] _:Sem (List (Str × Addr))) = pure cl from e]; rfl)
  | (simp only [bind_pure]; exact e)
  | exact e
def PIfs (X:Cx) (ifs:List Expr) (t:TT):Prop :=
 ∀ (pins:List (Addr × Obj)) (s:Shared) (σ:L2.St) (H:Hp) (Q:Bool -> Hp -> Prop),Inv X pins σ H s -> t σ H Q →
  wpAny (model X.prog X.w) X.A (forIn ifs true fun c r=>if r = true then do let ok ← isTrue c X.env (eval c X.env); pure (ForInStep.yield ok) else pure (ForInStep.yield r)) (TP X pins σ Q) X.xe s
def Xd:TT:=fun _ H Q=>Q true H
theorem yv {X:Cx}:PIfs X [] Xd:=fun pins s σ H Q I h=>wpAny_pure ⟨H,I,h⟩
theorem WL {X:Cx} {c:Expr} {t:TT} (hc:PT X c t):PIfs X [c] t:=fun pins s σ H Q I h=>wpAny_tests_one (hc pins s σ H Q I h)
abbrev cxC (X:Cx) (N':List Str) (scope:Scope) (cl:List (Str × Addr)) (C D:Addr) (fp:List Addr) (s:Shared) (H:Hp):Cx :=
 { X with N:=N',s₀:=s,H₀:=H,env:=compEnvC scope cl C X.env,outer:=X.stack,ex:=D :: fp,fn:=fun _=>false,xe:=fun _ _=>False }
def capt (sub:List (Option Nat)) (σ:L2.St):L2.St:=sub.map fun o=>match o with
 | none=>none
 | some i=>(match σ[i]? with | some v=>v | none=>none)
def sv (J:It) (σ0:L2.St) (H1:Hp) (g:TG) (tt:TT) (te:TE) (Q:VK):Prop :=
 ∃ W:Nat -> Nat -> List V -> L2.St -> Hp -> Prop,(∃ m,W 0 m [] σ0 H1) /\ ∀ i m ys σ' H',W i m ys σ' H' →
  (J.stop i H' /\ ∀ l,H' l = none -> Q (.ref l) (upd H' l (.lst ys))) ∨
  (J.go i H' /\ ∃ Nn:List V -> L2.St -> Hp -> Prop,(∀ zs σ2 H2,Nn zs σ2 H2 -> ∃ m',m' < m /\ W (i + 1) m' zs σ2 H2) ∧
   ∀ x H2,J.yld i H' x H2 -> g x σ' H2 fun σ2 H3=>tt σ2 H3 fun b H4=>if b = true then te σ2 H4 fun y H5=>ys.length < sizeLine /\ Nn (ys ++ [y]) σ2 H5 else Nn ys σ2 H4)
def Ts (wi:TI) (sub:List (Option Nat)) (g:TG) (tt:TT) (te:TE):TE:=fun σ H Q=>wi σ H fun J H1=>sv J (capt sub σ) H1 g tt te Q
structure CSc (X:Cx) (scope:Scope) (N':List Str) (sub:List (Option Nat)):Prop where
 free:∀ y ∈ scope.names,y.2 = .free -> X.env.kindOf y.1 = some .cell
 nocell:∀ y ∈ scope.names,y.2 ≠ .cell
 kind:scope.kind = .function
 names:∀ y ∈ scope.names,y.2 = .local -> scope.names.lookup y.1 = some .local
 len:sub.length = N'.length
 cap:∀ (j:Nat) (y:Str) (i:Nat),N'[j]? = some y -> sub[j]? = some (some i) -> X.N[i]? = some y /\ X.env.scope.names.lookup y = some .cell /\ scope.names.lookup y = some .free
theorem HOk.track {P:Program} {w:World} {H:Hp} {h:Heap} {a:Addr} {o:HO} (x:HOk P w H h) (hn:H a = none) (new:z5 P w (upd H a o) h a o):HOk P w (upd H a o) h:=fun b u e=>by
 by_cases hb:b = a
 ·subst hb; rw [ze] at e; cases e; exact new
 ·rw [zt hb] at e
  exact (x b u e).stay (fun c v _ q=>q) (fun c q=>by rw [zt (zv q hn)]; exact q) fun c xs q=>by rw [zt (zv q hn)]; exact q
theorem wq {scope:Scope} {env:Env} {y:Str} {k:NameKind} (h:(relabel scope env).names.lookup y = some k) :
  ∃ k',scope.names.lookup y = some k' /\ (k = k' \/ (k = .cell /\ k' = .free)):=by
 have key:∀ l:List (Str × NameKind),(l.map fun (n,k)=>if (k == NameKind.free && env.scope.kind == .function && env.kindOf n == some .cell) then (n,NameKind.cell) else (n,k)).lookup y = some k →
   ∃ k',l.lookup y = some k' /\ (k = k' \/ (k = .cell /\ k' = .free)):=by
  intro l
  induction l with
  | nil=>intro h; cases h
  | cons p r ih =>
   obtain ⟨n,k0⟩:=p
   intro h
   rw [List.map_cons] at h
   by_cases hc:(k0 == NameKind.free && env.scope.kind == .function && env.kindOf n == some .cell) = true
   ·have hf:k0 = .free:=by
     simp only [Bool.and_eq_true,beq_iff_eq] at hc
     exact hc.1.1
    dsimp only at h
    rw [if_pos hc,List.lookup_cons] at h
    rw [List.lookup_cons]
    cases hx:y == n with
    | true=>rw [hx] at h; cases h; exact ⟨k0,rfl,.inr ⟨rfl,hf⟩⟩
    | false=>rw [hx] at h; exact ih h
   ·dsimp only at h
    rw [if_neg hc,List.lookup_cons] at h
    rw [List.lookup_cons]
    cases hx:y == n with
    | true=>rw [hx] at h; cases h; exact ⟨_,rfl,.inl rfl⟩
    | false=>rw [hx] at h; exact ih h
 exact key scope.names h
theorem qa {scope:Scope} {env:Env} {y:Str} (hk:env.scope.kind = .function) (hc:env.kindOf y = some .cell) (h:scope.names.lookup y = some .free):(relabel scope env).names.lookup y = some .cell:=by
 have key:∀ l:List (Str × NameKind),l.lookup y = some .free -> (l.map fun (n,k)=>if (k == NameKind.free && env.scope.kind == .function && env.kindOf n == some .cell) then (n,NameKind.cell) else (n,k)).lookup y = some .cell:=by
  intro l
  induction l with
  | nil=>intro h; cases h
  | cons p r ih =>
   obtain ⟨n,k0⟩:=p
   intro h
   rw [List.map_cons]
   rw [List.lookup_cons] at h
   dsimp only
   cases hx:y == n with
   | true =>
    rw [hx] at h
    cases h
    have e:y = n:=by simpa using hx
    subst e
    rw [if_pos (by simp [hk,hc]),List.lookup_cons,hx]
   | false =>
    rw [hx] at h
    by_cases hc2:(k0 == NameKind.free && env.scope.kind == .function && env.kindOf n == some .cell) = true
    ·rw [if_pos hc2,List.lookup_cons,hx]; exact ih h
    ·rw [if_neg hc2,List.lookup_cons,hx]; exact ih h
 exact key scope.names h
section
variable {X:Cx} {pins:List (Addr × Obj)} {σ:L2.St} {H2:Hp} {s₂:Shared} {it:Addr} {fp:List Addr} {tn:Nat -> Heap -> Prop} {J:It} {scope:Scope} {cl:List (Str × Addr)} {N':List Str} {sub:List (Option Nat)}
theorem tD {h₁:Heap} {tk:Nat} (I:Inv X pins σ H2 s₂) (S:CSc X scope N' sub) (hcl1:∀ x c,cl.lookup x = some c -> X.env.cells.lookup x = some c) (hcl2:∀ y ∈ scope.names,y.2 = .free -> ∃ c,cl.lookup y.1 = some c)
    (f2:∀ b ∈ fp,FpOk X pins H2 b) (hfp:∀ b ∈ fp,b < s₂.heap.objs.size) {m:Str -> Option Value} {ob:Obj}
    (hns:h₁.Ns (s₂.heap.objs.size + 1) m) (hk:∀ b o,(s₂.heap.push ob).get? b = some o -> h₁.get? b = some o) :
    Inv (cxC X N' scope cl (s₂.heap.objs.size + 1) s₂.heap.objs.size fp { s₂ with heap:=s₂.heap.push ob } H2) pins (capt sub σ) H2 { s₂ with heap:=h₁,toks:=tk }:=by
  have old:∀ b o,s₂.heap.get? b = some o -> (s₂.heap.push ob).get? b = some o:=fun b o e=>Heap.get?_push_of_some _ e
  have old2:∀ b o,s₂.heap.get? b = some o -> h₁.get? b = some o:=fun b o e=>hk b o (old b o e)
  have sz:(s₂.heap.push ob).objs.size = s₂.heap.objs.size + 1:=Heap.size_push ..
  have cells:∀ x c,cl.lookup x = some c -> c < s₂.heap.objs.size:=fun x c e=>let ⟨v,q⟩:=I.cell x c (hcl1 x c e); q.lt
  have has:∀ x,((relabel scope X.env).names.lookup x = some .cell \/ (relabel scope X.env).names.lookup x = some .free) -> ∃ c,cl.lookup x = some c:=fun x hx=>by
    rcases hx with hx | hx
    · obtain ⟨k',e,z⟩:=wq hx
      rcases z with z | ⟨_,z⟩
      · subst z; exact absurd rfl (S.nocell _ (PySem.mem_of_lookup e))
      · subst z; exact hcl2 _ (PySem.mem_of_lookup e) rfl
    · obtain ⟨k',e,z⟩:=wq hx
      rcases z with z | ⟨z,_⟩
      · subst z; exact hcl2 _ (PySem.mem_of_lookup e) rfl
      · cases z
  have frsz:∀ b ∈ frs X.stack,b < s₂.heap.objs.size:=fun b hb=>by
    rcases List.mem_cons.mp (I.stkSub b hb) with z | z
    · rw [z]; exact I.lt
    · exact Nat.lt_of_not_le fun q=>I.nofs q z
  refine
    { ok :=
      { mod:=I.ok.mod,kind:=S.kind,glob:=I.ok.glob,blt:=I.ok.blt
        above:=by show (s₂.heap.push ob).objs.size <= s₂.heap.objs.size + 1; rw [sz]; exact Nat.le_refl _
        inj:=fun x y c h1 h2=>I.ok.inj x y c (hcl1 x c h1) (hcl1 y c h2)
        has:=has
        cab:=fun x c z=>by cases z
        hd:=I.ok.hd,frames:=I.ok.frames,stk:=.inl rfl
        exf:=fun b hb=>?exf
        bs:=fun b o e=>⟨old b o (I.bk b o e),(I.bs b o e).2⟩
        bsz:=by show X.base.objs.size <= (s₂.heap.push ob).objs.size; rw [sz]; exact Nat.le_succ_of_le (Nat.le_trans I.ok.bsz I.sz)
        noex:=fun b o e hb=>?noex
        exfs:=fun b hb=>?exfs
        funs:=?funs
        frf:=I.stkFree }
      os:=rfl,bare:=I.bare,base:=Un.kept fun b u e=>hk b u e
      loc:=⟨m,hns,?loc⟩
      cell:=fun x c e=>?cell
      free:=I.hok.fresh (Nat.le_succ _)
      freeC:=fun x c e=>I.freeC x c (hcl1 x c e)
      pin:=fun p hp=>?pin
      hok:=I.hok.kept old2
      len:=?len }
  case exf =>
    rcases List.mem_cons.mp hb with rfl | hb
    · exact ⟨Nat.ne_of_lt (Nat.lt_succ_self _),fun x c e=>Nat.ne_of_lt (cells x c e)⟩
    · exact ⟨Nat.ne_of_lt (Nat.lt_succ_of_lt (hfp b hb)),fun x c e=>(f2 b hb).2.2.2.2.1 x c (hcl1 x c e)⟩
  case noex =>
    have hl:b < X.s₀.heap.objs.size:=Nat.lt_of_lt_of_le (Heap.lt_size e) I.ok.bsz
    rcases List.mem_cons.mp hb with rfl | hb
    · exact absurd (Nat.lt_of_lt_of_le hl I.sz) (Nat.lt_irrefl _)
    · rcases (f2 b hb).2.2.2.1 with z | z
      · exact I.ok.noex b o e z
      · exact absurd (Nat.lt_of_lt_of_le hl z) (Nat.lt_irrefl _)
  case exfs =>
    intro hs
    rcases List.mem_cons.mp hb with rfl | hb
    · exact absurd (frsz _ hs) (Nat.lt_irrefl _)
    · rcases List.mem_cons.mp (I.stkSub b hs) with z | z
      · exact (f2 b hb).2.1 z
      · exact (f2 b hb).2.2.1 z
  case funs=>exact Heap.FunFrames.of_keeps (fun b o e _=>⟨o,old b o e,rfl⟩) I.stack
  case loc =>
    intro j y v hj hv hvis
    obtain ⟨mX,_,lX⟩:=I.loc
    unfold capt at hv
    rw [List.getElem?_map] at hv
    cases hs:sub[j]? with
    | none=>rw [hs] at hv; cases hv
    | some o =>
      rw [hs] at hv
      cases o with
      | none=>cases hv
      | some i =>
        obtain ⟨hN,hc,hf⟩:=S.cap j y i hj hs
        have hv':σ[i]? = some (some v):=by
          have z:(match σ[i]? with | some v=>v | none=>none) = some v:=Option.some.inj hv
          cases q:σ[i]? with
          | none=>rw [q] at z; cases z
          | some w=>rw [q] at z; rw [show w = some v from z]
        obtain ⟨u,ru,hl⟩:=lX i y v hN hv' (.inr (.inl hc))
        refine ⟨u,ru,?_⟩
        have kc:(relabel scope X.env).names.lookup y = some .cell:=qa I.ok.kind hc hf
        rcases hl with ⟨z,_⟩ | ⟨_,c,e,ic⟩
        · have z':X.env.scope.names.lookup y = some .local :=z
          rw [hc] at z'; cases z'
        · obtain ⟨c',e'⟩:=hcl2 _ (PySem.mem_of_lookup hf) rfl
          have:=hcl1 _ _ e'
          rw [e] at this; cases this
          refine .inr ⟨.inl kc,c,e',?_⟩
          obtain ⟨oc,h1,h2⟩:=ic
          exact ⟨oc,old2 _ _ h1,h2⟩
  case cell =>
    obtain ⟨v,oc,h1,h2⟩:=I.cell x c (hcl1 x c e)
    exact ⟨v,oc,old2 _ _ h1,h2⟩
  case pin =>
    obtain ⟨p1,p2,p3,p4,p5⟩:=I.pin p hp
    refine ⟨old2 _ _ p1,p2,Nat.ne_of_lt (Nat.lt_succ_of_lt (Heap.lt_size p1)),fun hs=>?_,p5⟩
    rcases List.mem_cons.mp (I.stkSub _ hs) with z | z
    · exact p3 z
    · exact p4 z
  case len =>
    show (capt sub σ).length = N'.length
    unfold capt
    rw [List.length_map]; exact S.len
theorem WM {C D:Addr} {s₀:Shared} {s':Shared} {σ':L2.St} {H':Hp} {ys:List V} {us:List Value} {k:Nat} {oC:Obj} (I:Inv X pins σ H2 s₂)
    (hs₀:∀ b o,s₂.heap.get? b = some o -> s₀.heap.get? b = some o) (hos:s₀.os = s₂.os) (hD:s₂.heap.objs.size <= D) (hC:s₂.heap.objs.size <= C) (hDC:D ≠ C) (f2:∀ b ∈ fp,FpOk X pins H2 b)
    (I':Inv (cxC X N' scope cl C D fp s₀ H2) pins σ' H' s') (hn:H' D = none) (hy:s'.heap.get? D = some { cls:=.type "list",data:=.seq us.toArray k }) (rv:Vals ys us) (hz:ys.length <= sizeLine)
    (ho:s'.heap.get? C = some oC) (hd:∀ v,oC.data ≠ .cell v):Inv X (pins ++ [(C,oC)]) σ (upd H' D (.lst ys)) s' /\ FpOk X pins (upd H' D (.lst ys)) C:=by
  have neD:∀ b o,s₂.heap.get? b = some o -> b ≠ D:=fun b o e=>Nat.ne_of_lt (Nat.lt_of_lt_of_le (Heap.lt_size e) hD)
  have nm:∀ b o,s₂.heap.get? b = some o -> b ∉ fp -> b ∉ D :: fp:=fun b o e h z=>(List.mem_cons.mp z).elim (neD b o e) h
  have U:=I'.base
  have HC:upd H' D (.lst ys) C = none:=by rw [zt (Ne.symm hDC)]; exact I'.free
  have fpc:FpOk X pins (upd H' D (.lst ys)) C:=I.fpOk hC HC
  have un:Un (frs X.stack) fp H2 (upd H' D (.lst ys)) s₂.heap s'.heap :=
    { keep:=fun b o e n h1 h2=>U.keep b o (hs₀ b o e) n h1 (nm b o e h2)
      slot:=fun b o e n h1 h2=>U.slot b o (hs₀ b o e) n h1 (nm b o e h2)
      free:=fun b o e n h2=>by rw [zt (neD b o e)]; exact U.free b o (hs₀ b o e) n (nm b o e h2)
      there:=fun b o e h2=>U.there b o (hs₀ b o e) (nm b o e h2)
      tups:=fun b xs e=>by have z:=U.tups b xs e; rw [zt (zv z hn)]; exact z
      frzs:=fun b o u e=>by have z:=U.frzs b o u e; rw [zt (zv z hn)]; exact z
      tbls:=fun b ps e=>by obtain ⟨more,z⟩:=U.tbls b ps e; exact ⟨more,by rw [zt (zv z hn)]; exact z⟩ }
  have hok:HOk X.prog X.w (upd H' D (.lst ys)) s'.heap:=HOk.track I'.hok hn ⟨hz,us,k,rv,hy⟩
  have IX:Inv X pins σ (upd H' D (.lst ys)) s':=I.call' (I'.os.trans hos) un hok I'.bare fun b hb=>⟨(f2 b hb).2.2.2.1,(f2 b hb).2.1,(f2 b hb).2.2.2.2.1,(f2 b hb).2.2.2.2.2⟩
  refine ⟨IX.pins_of fun p hp=>?_,fpc⟩
  rcases List.mem_append.mp hp with hp | hp
  · exact IX.pin p (List.mem_append_right _ hp)
  · rw [List.mem_singleton.mp hp]
    exact ⟨ho,HC,fpc.2.1,fpc.2.2.1,hd⟩
end
section
variable {X:Cx} {scope:Scope} {N':List Str} {sub:List (Option Nat)} {x:Str} {px pos:Pos} {elt iter:Expr} {ifs:List Expr} {wi:TI} {g:TG} {tt:TT} {te:TE}
theorem CSc.clos {pins:List (Addr × Obj)} {σ:L2.St} {H:Hp} {s:Shared} (S:CSc X scope N' sub) (I:Inv X pins σ H s):∃ cl,closureFor scope X.env = pure cl /\ (∀ x c,cl.lookup x = some c -> X.env.cells.lookup x = some c) /\ ∀ y ∈ scope.names,y.2 = .free -> ∃ c,cl.lookup y.1 = some c :=
 tz fun y hy hf=>I.ok.has y.1 (.inl (S.free y hy hf))
end
def eqVs:List V -> List V -> Bool
 | [],[]=>true
 | x :: xs,y :: ys=>eqV x y && eqVs xs ys
 | _,_=>false
theorem Zn:∀ {xs ys:List V},eqVs xs ys = true -> xs.length = ys.length
 | [],[],_=>rfl
 | x :: xs,y :: ys,h=>by
  have h':(eqV x y && eqVs xs ys) = true:=h
  rw [Bool.and_eq_true] at h'
  simp [Zn h'.2]
 | [],_ :: _,h=>by cases h
 | _ :: _,[],h=>by cases h
theorem Zo:∀ {xs ys:List V},eqVs xs ys = true ↔ xs.length = ys.length /\ ∀ (j:Nat) (x y:V),xs[j]? = some x -> ys[j]? = some y -> eqV x y = true
 | [],[]=>by simp [eqVs]
 | x :: xs,y :: ys=>by
  show (eqV x y && eqVs xs ys) = true ↔ _
  rw [Bool.and_eq_true,Zo]
  constructor
  ·rintro ⟨h1,h2,h3⟩
   refine ⟨by simp [h2],fun j a b ha hb=>?_⟩
   cases j with
   | zero=>simp at ha hb; subst ha hb; exact h1
   | succ j=>exact h3 j a b (by simpa using ha) (by simpa using hb)
  ·rintro ⟨h1,h2⟩
   exact ⟨h2 0 x y rfl rfl,by simpa using h1,fun j a b ha hb=>h2 (j + 1) a b (by simpa using ha) (by simpa using hb)⟩
 | [],_ :: _=>by simp [eqVs]
 | _ :: _,[]=>by simp [eqVs]
theorem tE {xs ys:List V}:((List.range (min xs.length ys.length)).all (fun j=>match xs[j]?,ys[j]? with | some x,some y=>eqV x y | _,_=>true) && xs.length == ys.length) = eqVs xs ys:=by
 rw [Bool.eq_iff_iff,Bool.and_eq_true,List.all_eq_true,beq_iff_eq,Zo]
 constructor
 ·rintro ⟨h1,h2⟩
  refine ⟨h2,fun j x y hx hy=>?_⟩
  have hj:j < xs.length:=(List.getElem?_eq_some_iff.mp hx).1
  have:=h1 j (List.mem_range.mpr (by rw [← h2]; simpa using hj))
  rw [hx,hy] at this
  exact this
 ·rintro ⟨h1,h2⟩
  refine ⟨fun j hj=>?_,h1⟩
  have hj':=List.mem_range.mp hj
  have a:j < xs.length:=by omega
  have b:j < ys.length:=by omega
  rw [List.getElem?_eq_getElem a,List.getElem?_eq_getElem b]
  exact h2 j _ _ (List.getElem?_eq_getElem a) (List.getElem?_eq_getElem b)
theorem Xe {xs:List V} {us:List Value} (r:Vals xs us) (j:Nat) (h:j < us.length):∃ x,xs[j]? = some x /\ RelV x us[j]:=by
 have hl:=r.length
 have hx:xs[j]? = some xs[j]:=List.getElem?_eq_getElem (by omega)
 obtain ⟨u,e,q⟩:=r.get hx
 rw [List.getElem?_eq_getElem h] at e
 cases e
 exact ⟨_,hx,q⟩
theorem VD {A:Around} {s:Shared} {xs ys:List V} {us ws:List Value} (r1:Vals xs us) (r2:Vals ys ws) (f1:xs.all wn = true) (f2:ys.all wn = true) :
  ∀ j (h1:j < us.toArray.size) (h2:j < ws.toArray.size),SeqAt.EqAt A s us.toArray[j] ws.toArray[j] ((fun j=>match xs[j]?,ys[j]? with | some x,some y=>eqV x y | _,_=>true) j):=by
 intro j h1 h2
 obtain ⟨x,ex,qx⟩:=Xe r1 j (by simpa using h1)
 obtain ⟨y,ey,qy⟩:=Xe r2 j (by simpa using h2)
 have fx:wn x = true:=List.all_eq_true.mp f1 x (List.mem_of_getElem? ex)
 have fy:wn y = true:=List.all_eq_true.mp f2 y (List.mem_of_getElem? ey)
 show SeqAt.EqAt A s _ _ (match xs[j]?,ys[j]? with | some x,some y=>eqV x y | _,_=>true)
 rw [ex,ey]
 simpa using Vy qx qy fx fy
section
variable {X:Cx}
theorem y6 {h:Heap} {a:Addr} {its:Array Value} (t:IsTup h a its):h.IsTuple a its:=t
end
section
variable {X:Cx} {pos:Pos}
theorem qb:∀ {bs:List Bool} {us:List Value},Vals (bs.map V.bl) us -> LSm.BoolsAre us bs
 | [],_,.nil=>.nil
 | b :: bs,_,.cons r t=>by
  cases r
  exact .cons b (qb t)
theorem wM (hcalm:X.calm = true):xq X (.builtin "all") (fun xs H Q=>∃ (l:Addr) (bs:List Bool),xs = [.ref l] /\ SqL X.K H l (bs.map V.bl) /\ Q (.bl (bs.all id)) H):=by
 intro pins s σ H xs us Q I r h
 obtain ⟨l,bs,rfl,hl,q⟩:=h
 obtain ⟨u,rfl,rx⟩:=wK r
 cases (show u = Value.ref l from rx)
 obtain ⟨vs,rv,pl,_⟩:=I.list hl
 have hl':s.heap.IsList l vs.toArray:=pl.isList
 have hb:LSm.BoolsAre vs bs:=qb rv
 have hlt:l < s.heap.objs.size:=by obtain ⟨_,e,_⟩:=hl'; exact Heap.lt_size e
 refine call_all_walk (wpAny_pyIter_list hl' ?_)
 refine ⟨s.heap.objs.size,[s.heap.objs.size,l],[s.heap.objs.size],vs.toArray.size,_,_,fun i=>(bs[i]?).getD true,rfl,Walks.list (A:=X.A.in1) (I.ok.hd hcalm) _ l (Nat.ne_of_lt hlt) vs.toArray,
  ⟨⟨_,Heap.get?_push_size _ rfl,rfl,rfl⟩,hl'.push _⟩,fun i v s' Q' E' hP hQ=>?_,fun h' tk hk=>?_⟩
 ·obtain ⟨b,e,rfl⟩:=hb.get i v (by simpa using hP)
  simp only [e,Option.getD_some] at hQ
  exact wpAny_truthy_bool hQ
 ·have e:((List.range vs.toArray.size).all fun i=>(bs[i]?).getD true) = bs.all id:=by
   have hlen:bs.length = vs.length:=by rw [← rv.length,List.length_map]
   rw [List.size_toArray,← hlen,Bool.eq_iff_iff,List.all_eq_true,List.all_eq_true]
   constructor
   ·intro z b hb'
    obtain ⟨i,hi,rfl⟩:=List.getElem_of_mem hb'
    have:=z i (List.mem_range.mpr hi)
    simpa [List.getElem?_eq_getElem hi] using this
   ·intro z i hi
    have hi':=List.mem_range.mp hi
    simpa [List.getElem?_eq_getElem hi'] using z _ (List.getElem_mem hi')
  rw [e]
  exact ⟨.bl (bs.all id),H,I.kept (t':=tk) (h':=h') (LSm.kept_iter hk),rfl,q⟩
end
theorem CSc.of {X:Cx} {scope:Scope} {N':List Str} {sub:List (Option Nat)} (sc:Scope) (NN:List Str) (e:X.env.scope = sc) (en:X.N = NN)
  (h:((scope.names.all fun y=>(y.2 != .free || sc.names.lookup y.1 == some .cell) && (y.2 != .cell) && (y.2 != .local || scope.names.lookup y.1 == some .local)) && (sub.length == N'.length) &&
   ((N'.zip sub).all fun p=>match p.2 with | none=>true | some i=>NN[i]? == some p.1 && sc.names.lookup p.1 == some .cell && scope.names.lookup p.1 == some .free)) = true)
  (hk:scope.kind = .function):CSc X scope N' sub:=by
 rw [Bool.and_eq_true,Bool.and_eq_true] at h
 obtain ⟨⟨h1,h2⟩,h3⟩:=h
 have k1:=fun y hy=>List.all_eq_true.mp h1 y hy
 refine ⟨fun y hy hf=>?_,fun y hy hc=>?_,hk,fun y hy hl=>?_,by simpa using h2,fun j y i hj hs=>?_⟩
 ·have:=k1 y hy
  simp only [hf,Bool.and_eq_true] at this
  have z:=this.1.1
  show X.env.scope.names.lookup y.1 = _
  rw [e]; simpa using z
 ·have:=k1 y hy
  simp only [hc,Bool.and_eq_true] at this
  simp at this
 ·have:=k1 y hy
  simp only [hl,Bool.and_eq_true] at this
  simpa using this.2
 ·have hm:(y,some i) ∈ N'.zip sub:=by
   have:(N'.zip sub)[j]? = some (y,some i):=by
    rw [List.getElem?_zip_eq_some]; exact ⟨hj,hs⟩
   exact List.mem_of_getElem? this
  have:=List.all_eq_true.mp h3 _ hm
  simp only [Bool.and_eq_true,beq_iff_eq] at this
  rw [e,en]
  exact ⟨this.1.1,this.1.2,this.2⟩
def uN (a:Int) (lo hi:Option Int):Deed:=if lo ≠ none /\ lo = hi then ⟨0,lo,hi⟩ else ⟨a,lo,hi⟩
def thrO (e:Deed) (o:Option Int) (d:Option Int):Option Int:=match o with
 | none=>d
 | some l=>some (e.mk' l)
def Z2 (d e:Deed):Deed:=uN (d.add + e.add) (thrO e d.lo e.lo) (thrO e d.hi e.hi)
def Deed.Bd (B:Int) (d:Deed):Prop:=(-B <= d.add /\ d.add <= B) /\ (∀ l,d.lo = some l -> -B <= l /\ l <= B) /\ ∀ h,d.hi = some h -> -B <= h /\ h <= B
def optA (o:Option Int):Int:=match o with | none=>0 | some i=>(i.natAbs:Int)
def Deed.big (d:Deed):Int:=(d.add.natAbs:Int) + optA d.lo + optA d.hi + 1
theorem Xf {a:Int} {lo hi:Option Int} (h:∀ l u,lo = some l -> hi = some u -> l <= u):(uN a lo hi).Ok:=by
 unfold uN
 split
 ·rename_i c
  intro l u e1 e2
  have e1':lo = some l:=e1
  have e2':hi = some u:=e2
  right
  refine ⟨?_,rfl⟩
  have:=c.2
  rw [e1',e2'] at this
  exact Option.some.inj this
 ·rename_i c
  intro l u e1 e2
  have e1':lo = some l:=e1
  have e2':hi = some u:=e2
  left
  have:=h l u e1' e2'
  have ne:l ≠ u:=fun z=>c ⟨by rw [e1']; simp,by rw [e1',e2',z]⟩
  omega
theorem yD {c:Bool} {A B:Prop} (e:c = false) (h:B):if c = true then A else B:=by rw [e]; exact iteF h
theorem yY {c:Bool} {A B:Prop} (e:c = true) (h:A):if c = true then A else B:=by rw [e]; exact iteT h
theorem Zp {K:FG7} {a:Addr} {xs:List V} {g:TG} {tt:TT} {te:TE} {Q:VK} {σ:L2.St} {H:Hp} (Pv:Nat -> List V -> L2.St -> Hp -> Prop) (h0:Pv 0 [] σ H) (hl:∀ i ys σ H,i <= xs.length -> Pv i ys σ H -> SqT K H a xs)
  (hs:∀ i x ys σ H,xs[i]? = some x -> Pv i ys σ H -> g x σ H fun σ2 H3=>tt σ2 H3 fun b H4=>if b = true then te σ2 H4 fun y H5=>ys.length < sizeLine /\ Pv (i + 1) (ys ++ [y]) σ2 H5 else Pv (i + 1) ys σ2 H4)
  (hd:∀ ys σ H,Pv xs.length ys σ H -> ∀ l,H l = none -> Q (.ref l) (upd H l (.lst ys))) :
  sv (Itt K a) σ H g tt te Q:=by
 refine ⟨fun i m ys σ H=>m = xs.length - i /\ i <= xs.length /\ Pv i ys σ H,⟨xs.length,by simp,Nat.zero_le _,h0⟩,?_⟩
 rintro i m ys σ H ⟨rfl,hi,p⟩
 have q:=hl i ys σ H hi p
 by_cases hlt:i < xs.length
 ·refine .inr ⟨⟨xs,xs[i],q,by simp [hlt]⟩,Pv (i + 1),fun zs σ' H' p'=>⟨xs.length - (i + 1),by omega,rfl,hlt,p'⟩,fun x H' y=>?_⟩
  obtain ⟨e,y⟩:=y
  subst e
  exact hs i x ys σ _ (y xs q) p
 ·have e:i = xs.length:=by omega
  subst e
  exact .inl ⟨⟨xs,q,Nat.le_refl _⟩,hd ys σ H p⟩
theorem ub {K:FG7} {a:Addr} {xs:List V} {g:TG} {tt:TT} {te:TE} {Q:VK} {σ:L2.St} {H:Hp} (Pv:Nat -> List V -> L2.St -> Hp -> Prop) (h0:Pv 0 [] σ H) (hl:∀ i ys σ H,i <= xs.length -> Pv i ys σ H -> SqL K H a xs)
  (hs:∀ i x ys σ H,xs[i]? = some x -> Pv i ys σ H -> g x σ H fun σ2 H3=>tt σ2 H3 fun b H4=>if b = true then te σ2 H4 fun y H5=>ys.length < sizeLine /\ Pv (i + 1) (ys ++ [y]) σ2 H5 else Pv (i + 1) ys σ2 H4)
  (hd:∀ ys σ H,Pv xs.length ys σ H -> ∀ l,H l = none -> Q (.ref l) (upd H l (.lst ys))) :
  sv (Itl K a) σ H g tt te Q:=by
 refine ⟨fun i m ys σ H=>m = xs.length - i /\ i <= xs.length /\ Pv i ys σ H,⟨xs.length,by simp,Nat.zero_le _,h0⟩,?_⟩
 rintro i m ys σ H ⟨rfl,hi,p⟩
 have q:=hl i ys σ H hi p
 by_cases hlt:i < xs.length
 ·refine .inr ⟨⟨xs,xs[i],q,by simp [hlt]⟩,Pv (i + 1),fun zs σ' H' p'=>⟨xs.length - (i + 1),by omega,rfl,hlt,p'⟩,fun x H' y=>?_⟩
  obtain ⟨e,y⟩:=y
  subst e
  exact hs i x ys σ _ (y xs q) p
 ·have e:i = xs.length:=by omega
  subst e
  exact .inl ⟨⟨xs,q,Nat.le_refl _⟩,hd ys σ H p⟩
theorem Xg {K:FG7} {a:Addr} {xs:List V} {n:Nat} {te:TE} {Q:VK} {σ:L2.St} {H:Hp} (Pv:Nat -> List V -> L2.St -> Hp -> Prop) (h0:Pv 0 [] σ H) (hl:∀ i ys σ H,i <= xs.length -> Pv i ys σ H -> SqT K H a xs)
  (hs:∀ i x ys σ H,xs[i]? = some x -> Pv i ys σ H -> te (σ.set n (some x)) H fun y H5=>ys.length < sizeLine /\ Pv (i + 1) (ys ++ [y]) (σ.set n (some x)) H5)
  (hd:∀ ys σ H,Pv xs.length ys σ H -> ∀ l,H l = none -> Q (.ref l) (upd H l (.lst ys))):sv (Itt K a) σ H (vb n) Xd te Q :=
 Zp Pv h0 hl (fun i x ys σ H hx p=>by
  show if true = true then te (σ.set n (some x)) H (fun y H5=>ys.length < sizeLine /\ Pv (i + 1) (ys ++ [y]) (σ.set n (some x)) H5) else Pv (i + 1) ys (σ.set n (some x)) H
  rw [if_pos rfl]; exact hs i x ys σ H hx p) hd
theorem Uo {X:Cx} {K:FG7} (h:X.K = K):IxR X (rIxT K):=by subst h; exact y9
theorem Tt {a:Int} {hi:Option Int}:uN a none hi = ⟨a,none,hi⟩:=by simp [uN]
theorem Tu {a l:Int}:uN a (some l) (some l) = ⟨0,some l,some l⟩:=by simp [uN]
theorem VE {a l:Int} {hi:Option Int} (h:some l ≠ hi):uN a (some l) hi = ⟨a,some l,hi⟩:=by simp [uN,h]
def Xh (_:FG7):Sp:=sp3 fun x y z H Q=>∃ a lo hi,x = .int a /\ y = ov lo /\ z = ov hi /\ ∀ t,H t = none -> Q (.ref t) (upd H t (.tup (uN a lo hi).vs))
def qc (K:FG7):Sp:=sp2 fun x y H Q=>∃ d e,yR K H x d /\ yR K H y e /\ ∀ t,H t = none -> Q (.ref t) (upd H t (.tup (Z2 d e).vs))
theorem Deed.Bd.mono {d:Deed} {B C:Int} (b:d.Bd B) (h:B <= C):d.Bd C:=by
 obtain ⟨⟨b1,b2⟩,b3,b4⟩:=b
 exact ⟨⟨by omega,by omega⟩,fun l e=>by have:=b3 l e; omega,fun l e=>by have:=b4 l e; omega⟩
section
variable {X:Cx}
def rEqL (K:FG7) (neg:Bool):R2:=fun x y H Q=>∃ a b xs ys,x = .ref a /\ y = .ref b /\ SqL K H a xs /\ SqL K H b ys /\ xs.all wn = true /\ ys.all wn = true /\ Q (.bl (if neg then !eqVs xs ys else eqVs xs ys)) H
theorem Tv {k:Nat} (hr:Room k X.A):OpR X (compareOp .NotEq) (rEqL X.K true):=by
 intro pins s σ H x y v u Q I rx ry h
 obtain ⟨a,b,xs,ys,rfl,rfl,ha,hb,f1,f2,q⟩:=h
 cases rx; cases ry
 obtain ⟨us,r1,t1,_⟩:=I.list ha
 obtain ⟨ws,r2,t2,_⟩:=I.list hb
 by_cases hl:us.length = ws.length
 ·refine SeqAt.RcNeAt.lists t1.isList t2.isList (by simpa using hl) hr.units0 (VD r1 r2 f1 f2) _ _ _ _ ?_
  have e:=tE (xs:=xs) (ys:=ys)
  have e2:(xs.length == ys.length) = true:=by rw [beq_iff_eq,r1.length,r2.length]; exact hl
  rw [e2,Bool.and_true,show min xs.length ys.length = xs.length by rw [r1.length,r2.length]; omega] at e
  rw [List.size_toArray,← r1.length,e]
  exact ⟨.bl _,H,I,rfl,q⟩
 ·refine SeqAt.RcNeAt.lists_lengths t1.isList t2.isList (by simpa using hl) hr.units0 _ _ _ _ ?_
  have e:eqVs xs ys = false:=by
   cases z:eqVs xs ys with
   | false=>rfl
   | true=>exact absurd (by rw [← r1.length,← r2.length]; exact Zn z) hl
  rw [e] at q
  exact ⟨.bl _,H,I,rfl,q⟩
end
theorem Up {i j:Int}:eqV (.int i) (.int j) = decide (i = j):=by rw [Bool.eq_iff_iff]; simp [eqV]
theorem uc:∀ {xs ys:List Int},eqVs (xs.map V.int) (ys.map V.int) = decide (xs = ys)
 | [],[]=>rfl
 | x :: xs,y :: ys=>by
  show (eqV (.int x) (.int y) && eqVs (xs.map V.int) (ys.map V.int)) = _
  rw [Up,uc,Bool.eq_iff_iff]
  simp
 | [],_ :: _=>by simp [eqVs]
 | _ :: _,[]=>by simp [eqVs]
theorem Grow.sqL {H H':Hp} (g:Grow [] H H') {K:FG7} {a:Addr} {xs:List V} (h:SqL K H a xs):SqL K H' a xs:=by
 rcases h with (h | ⟨o,h⟩) | h
 ·exact .inl (.inl (g.keep _ _ (by simp) h))
 ·exact .inl (.inr ⟨o,g.frz _ _ _ h⟩)
 ·exact .inr h
section
variable {K:FG7} {a:Addr} {xs:List V} {n:Nat} {tt:TT} {te:TE} {Q:VK} {σ:L2.St} {H:Hp}
theorem qd {p:V -> Bool} {f:V -> V} {i:Nat} {x:V} (hx:xs[i]? = some x):((xs.take (i + 1)).filter p).map f = ((xs.take i).filter p).map f ++ (if p x = true then [f x] else []):=by
 rw [List.take_add_one,hx,List.filter_append,List.map_append]
 congr 1
 show ((([x]:List V)).filter p).map f = _
 by_cases c:p x = true
 ·rw [if_pos c,List.filter_cons_of_pos c]; rfl
 ·rw [if_neg c,List.filter_cons_of_neg c]; rfl
theorem WN {p:V -> Bool} {f:V -> V} {i:Nat} (h:xs.length <= 1000):(((xs.take i).filter p).map f).length < sizeLine:=by
 rw [List.length_map]
 refine zr ?_
 have:=List.length_filter_le p (xs.take i)
 have:=List.length_take_le i xs
 have:(xs.take i).length <= xs.length:=by rw [List.length_take]; omega
 omega
theorem WO {p:V -> Bool} {f:V -> V}:((xs.take xs.length).filter p).map f = (xs.filter p).map f:=by rw [List.take_length]
theorem Z3 (p:V -> Bool) (f:V -> V) (hl:SqT K H a xs) (hlen:xs.length <= 1000)
  (ht:∀ x H' (R:Bool -> Hp -> Prop),x ∈ xs -> Grow [] H H' -> (∀ H2,Grow [] H' H2 -> R (p x) H2) -> tt (σ.set n (some x)) H' R)
  (hs:∀ x H' (R:VK),x ∈ xs -> p x = true -> Grow [] H H' -> (∀ H2,Grow [] H' H2 -> R (f x) H2) -> te (σ.set n (some x)) H' R)
  (hd:∀ H' l,Grow [] H H' -> H' l = none -> Q (.ref l) (upd H' l (.lst ((xs.filter p).map f)))):sv (Itt K a) σ H (vb n) tt te Q:=by
 refine Zp (xs:=xs) (fun i ys σ' H'=>Grow [] H H' /\ (σ' = σ \/ ∃ e,σ' = σ.set n e) /\ ys = ((xs.take i).filter p).map f) ⟨Grow.refl _ _,.inl rfl,rfl⟩ ?_ ?_ ?_
 ·rintro i ys σ' H' _ ⟨g,_⟩
  exact g.sqT hl
 ·rintro i x ys σ' H' hx ⟨g,hσ,rfl⟩
  have e:σ'.set n (some x) = σ.set n (some x):=by
   rcases hσ with rfl | ⟨e,rfl⟩
   ·rfl
   ·rw [List.set_set]
  show tt (σ'.set n (some x)) H' _
  rw [e]
  refine ht x H' _ (List.mem_of_getElem? hx) g fun H2 g2=>?_
  by_cases c:p x = true
  ·rw [if_pos c]
   refine hs x H2 _ (List.mem_of_getElem? hx) c (g.trans g2) fun H3 g3=>⟨WN hlen,(g.trans g2).trans g3,.inr ⟨_,rfl⟩,?_⟩
   rw [qd hx,if_pos c]
  ·rw [if_neg c]
   refine ⟨g.trans g2,.inr ⟨_,rfl⟩,?_⟩
   rw [qd hx,if_neg c,List.append_nil]
 ·rintro ys σ' H' ⟨g,_,rfl⟩ l hl
  rw [WO]
  exact hd H' l g hl
theorem WP {p:V -> Bool} (h:∀ x,p x = true):xs.filter p = xs:=List.filter_eq_self.mpr fun x _=>h x
theorem qe (f:V -> V) (hl:SqT K H a xs) (hlen:xs.length <= 1000)
  (hs:∀ x H' (R:VK),x ∈ xs -> Grow [] H H' -> (∀ H2,Grow [] H' H2 -> R (f x) H2) -> te (σ.set n (some x)) H' R)
  (hd:∀ H' l,Grow [] H H' -> H' l = none -> Q (.ref l) (upd H' l (.lst (xs.map f)))):sv (Itt K a) σ H (vb n) Xd te Q :=
 Z3 (fun _=>true) f hl hlen (fun x H' R _ _ k=>k H' (Grow.refl _ _)) (fun x H' R hx _ g k=>hs x H' R hx g k) (fun H' l g hl=>by rw [WP fun _=>rfl]; exact hd H' l g hl)
end
theorem nd {d e:Deed} (h:d = e):(!decide (d = e)) = false:=by rw [decide_eq_true h]; rfl
mutual
inductive Dat (K:FG7) (H:Hp):V -> PyData -> Prop
 | non:Dat K H .non .none
 | bl (b:Bool):Dat K H (.bl b) (.bool b)
 | int (i:Int):Dat K H (.int i) (.int i)
 | tup {a:Addr} {xs:List V} {ds:List PyData}:SqT K H a xs -> DatAll K H xs ds -> Dat K H (.ref a) (.tuple ds)
 | lst {a:Addr} {xs:List V} {ds:List PyData}:SqL K H a xs -> DatAll K H xs ds -> Dat K H (.ref a) (.list ds)
inductive DatAll (K:FG7) (H:Hp):List V -> List PyData -> Prop
 | nil:DatAll K H [] []
 | cons {x:V} {xs:List V} {d:PyData} {ds:List PyData}:Dat K H x d -> DatAll K H xs ds -> DatAll K H (x :: xs) (d :: ds)
end
mutual
/-- a bound of the text's length -/
def wtD:PyData -> Nat
 | .list xs | .tuple xs=>wtAll xs + 3
 | .int _=>1921
 | .none | .bool _=>5
 | _=>20000000
def wtAll:List PyData -> Nat
 | []=>0
 | x :: xs=>wtD x + 2 + wtAll xs
end
def oD:Option Int -> PyData
 | none=>.none
 | some i=>.int i
theorem qf {α:Type} (xs:List α):(xs.map (fun _=>true)).all id = true:=by rw [List.all_eq_true]; intro x hx; obtain ⟨_,_,rfl⟩:=List.mem_map.mp hx; rfl
theorem WQ (gs:List Int):(gs.map V.int).map (fun _=>V.bl true) = (gs.map (fun _=>true)).map V.bl:=by rw [List.map_map,List.map_map]; rfl
section
variable {K:FG7} {a:Addr} {xs:List V} {lo:Int} {n k:Nat} {te:TE} {Q:VK} {σ:L2.St} {H:Hp}
theorem vJ (Pv:Nat -> List V -> Hp -> Prop) (h0:Pv 0 [] H)
  (hs:∀ i ys H',i < n -> Pv i ys H' -> te (σ.set k (some (.int (lo + i)))) H' fun y H5=>ys.length < sizeLine /\ Pv (i + 1) (ys ++ [y]) H5)
  (hd:∀ ys H',Pv n ys H' -> ∀ l,H' l = none -> Q (.ref l) (upd H' l (.lst ys))):sv (Itr lo n) σ H (vb k) Xd te Q:=by
 refine ⟨fun i m ys σ' H'=>m = n - i /\ i <= n /\ (σ' = σ \/ ∃ e,σ' = σ.set k e) /\ Pv i ys H',⟨n,by simp,Nat.zero_le _,.inl rfl,h0⟩,?_⟩
 rintro i m ys σ' H' ⟨rfl,hi,hσ,p⟩
 by_cases hlt:i < n
 ·refine .inr ⟨hlt,fun zs σ2 H2=>(σ2 = σ \/ ∃ e,σ2 = σ.set k e) /\ Pv (i + 1) zs H2,fun zs σ2 H2 p'=>⟨n - (i + 1),by omega,rfl,hlt,p'.1,p'.2⟩,fun x H2 y=>?_⟩
  obtain ⟨e,y⟩:=y
  subst e y
  have e:σ'.set k (some (V.int (lo + i))) = σ.set k (some (V.int (lo + i))):=by
   rcases hσ with rfl | ⟨e,rfl⟩
   ·rfl
   ·rw [List.set_set]
  show if true = true then te (σ'.set k (some (V.int (lo + i)))) H2 (fun y H5=>ys.length < sizeLine /\ ((σ'.set k (some (V.int (lo + i))) = σ \/ ∃ e,σ'.set k (some (V.int (lo + i))) = σ.set k e) /\ Pv (i + 1) (ys ++ [y]) H5)) else ((σ'.set k (some (V.int (lo + i))) = σ \/ ∃ e,σ'.set k (some (V.int (lo + i))) = σ.set k e) /\ Pv (i + 1) ys H2)
  rw [if_pos rfl,e]
  have e2:(fun (y:V) (H5:Hp)=>ys.length < sizeLine /\ ((σ.set k (some (V.int (lo + i))) = σ \/ ∃ e,σ.set k (some (V.int (lo + i))) = σ.set k e) /\ Pv (i + 1) (ys ++ [y]) H5)) = fun y H5=>ys.length < sizeLine /\ Pv (i + 1) (ys ++ [y]) H5:=by
   funext y H5
   exact propext ⟨fun z=>⟨z.1,z.2.2⟩,fun z=>⟨z.1,.inr ⟨_,rfl⟩,z.2⟩⟩
  rw [e2]
  exact hs i ys H2 hlt p
 ·have e:i = n:=by omega
  subst e
  exact .inl ⟨Nat.le_refl _,hd ys H' p⟩
end
theorem Grow.fresh {m:List Addr} {H H':Hp} (h:∀ b ∈ m,H b = none) (g:Grow m H H'):Grow [] H H' :=
 ⟨fun b o _ q=>g.keep b o (fun z=>by rw [h b z] at q; cases q) q,g.tup,g.frz⟩
theorem Grow.less {m m':List Addr} {H H':Hp} (g:Grow m H H') (h:∀ b ∈ m,b ∈ m' \/ H b = none):Grow m' H H' :=
 ⟨fun b o n q=>g.keep b o (fun z=>by
  rcases h b z with w | w
  ·exact n w
  ·rw [w] at q; cases q) q,g.tup,g.frz⟩
theorem Pot.ne {H:Hp} {a l:Addr} (p:Pot H a) (h:H l = none):l ∉ [a]:=by
 intro z
 obtain ⟨z0,z1,hz,_⟩:=p
 rw [List.mem_singleton.mp z,hz] at h
 cases h
theorem Uq {n:Nat} {i:Int} (h0:0 <= i) (h:i.toNat < n):ixN n i = some i.toNat:=by
 unfold ixN; rw [if_pos h0,if_pos (by omega)]
theorem SE {xs:List V} {i:Int} {j:Nat} {v:V} (h:ixN xs.length i = some j) (hv:xs[j]? = some v):atI xs i = some v:=by
 unfold atI; rw [h]; exact hv
structure Ask where
 hand:Int
 box:Int
 deed:Deed
def wN (K:FG7) (H:Hp) (x:V) (k:Ask):Prop:=∃ r rd,x = .ref r /\ SqT K H r [.int k.hand,.int k.box,.ref rd] /\ SqT K H rd k.deed.vs
def AllA (K:FG7) (H:Hp):List V -> List Ask -> Prop
 | [],[]=>True
 | x :: xs,k :: ks=>wN K H x k /\ AllA K H xs ks
 | _,_=>False
def VF (K:FG7) (H:Hp) (x:V) (ks:List Ask):Prop:=∃ r xs,x = .ref r /\ SqT K H r xs /\ AllA K H xs ks
def zV (K:FG7) (H:Hp) (x:V) (b:List Int):Prop:=∃ r,x = .ref r /\ SqT K H r (b.map V.int)
def WR (m:Nat) (k:Ask):Prop:=0 <= k.hand /\ k.hand <= 15 /\ 0 <= k.box /\ k.box < m /\ k.deed.Ok
theorem Grow.ask {m:List Addr} {H H':Hp} (g:Grow m H H') {K:FG7} {x:V} {k:Ask} (h:wN K H x k):wN K H' x k:=by
 obtain ⟨r,rd,e,h1,h2⟩:=h
 exact ⟨r,rd,e,g.sqT h1,g.sqT h2⟩
theorem Grow.allA {m:List Addr} {H H':Hp} (g:Grow m H H') {K:FG7}:∀ {xs:List V} {ks:List Ask},AllA K H xs ks -> AllA K H' xs ks
 | [],[],_=>trivial
 | _ :: _,_ :: _,⟨h,t⟩=>⟨g.ask h,g.allA t⟩
 | [],_ :: _,h=>h.elim
 | _ :: _,[],h=>h.elim
theorem Grow.asks {m:List Addr} {H H':Hp} (g:Grow m H H') {K:FG7} {x:V} {ks:List Ask} (h:VF K H x ks):VF K H' x ks:=by
 obtain ⟨r,xs,e,h1,h2⟩:=h
 exact ⟨r,xs,e,g.sqT h1,g.allA h2⟩
theorem Grow.board {m:List Addr} {H H':Hp} (g:Grow m H H') {K:FG7} {x:V} {b:List Int} (h:zV K H x b):zV K H' x b:=by
 obtain ⟨r,e,h1⟩:=h
 exact ⟨r,e,g.sqT h1⟩
theorem AllA.len {K:FG7} {H:Hp}:∀ {xs:List V} {ks:List Ask},AllA K H xs ks -> xs.length = ks.length
 | [],[],_=>rfl
 | _ :: xs,_ :: ks,⟨_,t⟩=>congrArg (· + 1) (AllA.len t)
 | [],_ :: _,h=>h.elim
 | _ :: _,[],h=>h.elim
theorem AllA.get {K:FG7} {H:Hp}:∀ {xs:List V} {ks:List Ask} {i:Nat} {x:V},AllA K H xs ks -> xs[i]? = some x -> ∃ k,ks[i]? = some k /\ wN K H x k
 | _ :: _,k :: _,0,x,⟨h,_⟩,e=>by
  obtain rfl:=Option.some.inj e
  exact ⟨k,rfl,h⟩
 | _ :: _,_ :: _,i + 1,x,⟨_,t⟩,e=>AllA.get (i:=i) t e
 | [],[],i,x,_,e=>by cases e
 | [],_ :: _,_,_,h,_=>h.elim
 | _ :: _,[],_,_,h,_=>h.elim
theorem AllA.snoc {K:FG7} {H:Hp}:∀ {xs:List V} {ks:List Ask} {x:V} {k:Ask},AllA K H xs ks -> wN K H x k -> AllA K H (xs ++ [x]) (ks ++ [k])
 | [],[],_,_,_,h=>⟨h,trivial⟩
 | _ :: _,_ :: _,_,_,⟨h,t⟩,q=>⟨h,AllA.snoc t q⟩
 | [],_ :: _,_,_,h,_=>h.elim
 | _ :: _,[],_,_,h,_=>h.elim
theorem Ur {xs:List Int} {i:Nat} (h:i < xs.length):xs[i]? = some (xs.getD i 0):=by
 rw [List.getD_eq_getElem?_getD,List.getElem?_eq_getElem h]; rfl
def InB (B:Int) (xs:List Int):Prop:=∀ v ∈ xs,-B < v /\ v < B
theorem WS {K:FG7} {H:Hp}:∀ xs:List Int,DatAll K H (xs.map V.int) (xs.map PyData.int)
 | []=>.nil
 | x :: xs=>.cons (.int x) (WS xs)
def Sh (d:PyData) (w n:Nat):Prop:=d.showable = true /\ d.hasDict = false /\ wtD d <= w /\ d.depth <= n
theorem Sh.mono {d:PyData} {w w' n n':Nat} (h:Sh d w n) (h1:w <= w') (h2:n <= n'):Sh d w' n':=⟨h.1,h.2.1,Nat.le_trans h.2.2.1 h1,Nat.le_trans h.2.2.2 h2⟩
theorem InB.mono {B C:Int} {xs:List Int} (h:InB B xs) (hC:B <= C):InB C xs:=fun v hv=>by have:=h v hv; omega
def zR (K:FG7):Sp:=sp3 fun x y z H Q=>∃ i l u,x = .int i /\ y = .int l /\ z = .int u /\ Q (.bl (decide (l <= i) && decide (i <= u))) H
def ud (K:FG7):Sp:=sp1 fun x H Q=>∃ b,zV K H x b /\ 1 <= b.length /\ b.length <= 16 /\ ∀ H',Grow [] H H' -> Q (.bl true) H'
def wO (K:FG7):Sp:=sp1 fun x H Q=>∃ b,zV K H x b /\ 1 <= b.length /\ b.length <= 16 /\ ∀ H',Grow [] H H' -> Q .non H'
inductive Tr where
 | leaf (n:Int)
 | node (l r:Tr)
def Tr.count:Tr -> Int
 | .leaf _=>1
 | .node l r=>l.count + r.count
def sp4 (b:V -> V -> V -> V -> Hp -> VK -> Prop):Sp:=fun vs H Q _=>∃ x y z u,vs = [x,y,z,u] /\ b x y z u H Q
theorem sx {b:V -> V -> V -> V -> Hp -> VK -> Prop} {p q r s:Str}:∀ vs H Q E,sp4 b vs H Q E -> vs.length = [p,q,r,s].length:=fun vs H Q E h=>by
 obtain ⟨x,y,z,u,rfl,_⟩:=h; rfl
def AllR {α:Type} (R:V -> α -> Prop):List V -> List α -> Prop
 | [],[]=>True
 | x :: xs,k :: ks=>R x k /\ AllR R xs ks
 | _,_=>False
section
variable {α:Type} {R S:V -> α -> Prop}
theorem AllR.imp (h:∀ x k,R x k -> S x k):∀ {xs:List V} {ks:List α},AllR R xs ks -> AllR S xs ks
 | [],[],_=>trivial
 | _ :: _,_ :: _,⟨a,t⟩=>⟨h _ _ a,AllR.imp h t⟩
 | [],_ :: _,z=>z.elim
 | _ :: _,[],z=>z.elim
theorem AllR.len:∀ {xs:List V} {ks:List α},AllR R xs ks -> xs.length = ks.length
 | [],[],_=>rfl
 | _ :: xs,_ :: ks,⟨_,t⟩=>congrArg (· + 1) (AllR.len t)
 | [],_ :: _,h=>h.elim
 | _ :: _,[],h=>h.elim
theorem AllR.get:∀ {xs:List V} {ks:List α} {i:Nat} {x:V},AllR R xs ks -> xs[i]? = some x -> ∃ k,ks[i]? = some k /\ R x k
 | _ :: _,k :: _,0,x,⟨h,_⟩,e=>by
  obtain rfl:=Option.some.inj e
  exact ⟨k,rfl,h⟩
 | _ :: _,_ :: _,i + 1,x,⟨_,t⟩,e=>AllR.get (i:=i) t e
 | [],[],i,x,_,e=>by cases e
 | [],_ :: _,_,_,h,_=>h.elim
 | _ :: _,[],_,_,h,_=>h.elim
theorem AllR.getR:∀ {xs:List V} {ks:List α} {i:Nat} {k:α},AllR R xs ks -> ks[i]? = some k -> ∃ x,xs[i]? = some x /\ R x k
 | x :: _,_ :: _,0,k,⟨h,_⟩,e=>by
  obtain rfl:=Option.some.inj e
  exact ⟨x,rfl,h⟩
 | _ :: _,_ :: _,i + 1,k,⟨_,t⟩,e=>AllR.getR (i:=i) t e
 | [],[],i,k,_,e=>by cases e
 | [],_ :: _,_,_,h,_=>h.elim
 | _ :: _,[],_,_,h,_=>h.elim
theorem AllR.app:∀ {xs ys:List V} {ks js:List α},AllR R xs ks -> AllR R ys js -> AllR R (xs ++ ys) (ks ++ js)
 | [],_,[],_,_,h=>h
 | _ :: _,_,_ :: _,_,⟨h,t⟩,q=>⟨h,AllR.app t q⟩
 | [],_,_ :: _,_,h,_=>h.elim
 | _ :: _,_,[],_,h,_=>h.elim
theorem AllR.one {x:V} {k:α} (h:R x k):AllR R [x] [k]:=⟨h,trivial⟩
theorem AllR.take:∀ {xs:List V} {ks:List α} {n:Nat},AllR R xs ks -> AllR R (xs.take n) (ks.take n)
 | [],[],n,_=>by rw [List.take_nil,List.take_nil]; trivial
 | _ :: _,_ :: _,0,_=>trivial
 | _ :: _,_ :: _,n + 1,⟨h,t⟩=>⟨h,AllR.take t⟩
 | [],_ :: _,_,h=>h.elim
 | _ :: _,[],_,h=>h.elim
end
def look:Deed:=⟨0,none,none⟩
def Tw (ds:List Deed):Prop:=∀ d ∈ ds,d.Ok
theorem AllR.drop {α:Type} {R:V -> α -> Prop}:∀ {xs:List V} {ks:List α} {n:Nat},AllR R xs ks -> AllR R (xs.drop n) (ks.drop n)
 | [],[],n,_=>by rw [List.drop_nil,List.drop_nil]; trivial
 | _ :: _,_ :: _,0,h=>h
 | _ :: _,_ :: _,n + 1,⟨h,t⟩=>AllR.drop (n:=n) t
 | [],_ :: _,_,h=>h.elim
 | _ :: _,[],_,h=>h.elim
def sp5 (b:V -> V -> V -> V -> V -> Hp -> VK -> Prop):Sp:=fun vs H Q _=>∃ x y z u w,vs = [x,y,z,u,w] /\ b x y z u w H Q
theorem Us {b:V -> V -> V -> V -> V -> Hp -> VK -> Prop} {p q r s t:Str}:∀ vs H Q E,sp5 b vs H Q E -> vs.length = [p,q,r,s,t].length:=fun vs H Q E h=>by
 obtain ⟨x,y,z,u,w,rfl,_⟩:=h; rfl
def vw (K:FG7) (H:Hp) (x:V) (rows:List (List Int)):Prop:=∃ r xs,x = .ref r /\ SqT K H r xs /\ AllR (zV K H) xs rows
theorem Grow.boardsR {m:List Addr} {H H':Hp} (g:Grow m H H') {K:FG7} {xs:List V} {rows:List (List Int)} (h:AllR (zV K H) xs rows):AllR (zV K H') xs rows:=h.imp fun _ _ z=>g.board z
theorem Grow.rows {m:List Addr} {H H':Hp} (g:Grow m H H') {K:FG7} {x:V} {rows:List (List Int)} (h:vw K H x rows):vw K H' x rows:=by
 obtain ⟨r,xs,e,h1,h2⟩:=h
 exact ⟨r,xs,e,g.sqT h1,g.boardsR h2⟩
def Rng (m:Int) (xs:List Int):Prop:=∀ v ∈ xs,0 <= v /\ v < m
def Ut (R M:Nat) (rows:List (List Int)):Prop:=rows.length = R /\ ∀ row ∈ rows,row.length = M /\ Rng M row
section
variable {prog:Program} {w:World} {A:Around} {E:VS7} {s:Shared}
theorem ju {jt t:Addr} {i:Nat} {vs:Array Value} {v:Value} {Q:VS7} (hit:s.heap.IsTupleIter jt t i) (ht:s.heap.IsTuple t vs) (hv:vs[i]? = some v)
  (hQ:∀ h',h'.IsTupleIter jt t (i + 1) -> Heap.SameBut jt s.heap h' -> Q v { s with heap:=h' }):wpAny (model prog w) A (Builtin.SmallTypes.nextOf (.ref jt)) Q E s:=by
 obtain ⟨oj,hoj,cj,dj⟩:=id hit
 obtain ⟨ot,hot,_,nt,dt⟩:=ht
 unfold Builtin.SmallTypes.nextOf
 refine wpAny_bind (wpAny_callSpecial?_slot (name:=Str.ofString "__next__") hit.typeIs F.slot_tuple_iterator_next (wpAny_call_entry F.slot_tuple_iterator_next hit.typeIs F.entry_tuple_iterator_next ?_ (F.args_tuple_iterator_next_1 _)))
 show wpAny _ _ (field (.ref jt) 0 >>= _) _ _ s
 refine wpAny_bind (wpAny_field hoj dj (x:=.ref t) rfl ?_); show wpAny _ _ (if (Value.ref t == Value.none) = true then _ else _) _ _ s
 rw [if_neg (show ¬ ((Value.ref t == Value.none) = true) by exact Bool.false_ne_true)]; show wpAny _ _ (field (.ref jt) 1 >>= _) _ _ s
 refine wpAny_bind (wpAny_field hoj dj (x:=.int i 0) rfl ?_); show wpAny _ _ (seqItems? (.ref t) >>= _) _ _ s
 refine wpAny_bind (wpAny_seqItems hot dt ?_); simp only [Int.toNat_natCast,hv]
 refine wpAny_bind (wpAny_setField hoj dj (by simp) (wpAny_pure ⟨v,rfl,wpAny_pure (hQ _ ⟨_,Heap.get?_update_self _ hoj (Obj.isFreed_of_fields (Obj.data_mapFields dj _)),(Obj.cls_mapFields ..).trans cj,by rw [Obj.data_mapFields dj]; simp [rawInt]⟩ (Heap.SameBut.update ..))⟩))
theorem tF {jt t:Addr} {i:Nat} {vs:Array Value} {Q:VS7} (hh:A.handled = none) (hit:s.heap.IsTupleIter jt t i) (ht:s.heap.IsTuple t vs) (hv:vs[i]? = none)
  (hE:∀ h' e,Heap.ExtBut jt s.heap h' -> (∃ o,h'.get? e = some o /\ o.cls = .type "StopIteration") -> E (.ref e) { s with heap:=h' }):wpAny (model prog w) A (Builtin.SmallTypes.nextOf (.ref jt)) Q E s:=by
 obtain ⟨oj,hoj,cj,dj⟩:=id hit
 obtain ⟨ot,hot,_,nt,dt⟩:=ht
 unfold Builtin.SmallTypes.nextOf
 refine wpAny_bind (wpAny_callSpecial?_slot (name:=Str.ofString "__next__") hit.typeIs F.slot_tuple_iterator_next (wpAny_call_entry F.slot_tuple_iterator_next hit.typeIs F.entry_tuple_iterator_next ?_ (F.args_tuple_iterator_next_1 _)))
 show wpAny _ _ (field (.ref jt) 0 >>= _) _ _ s
 refine wpAny_bind (wpAny_field hoj dj (x:=.ref t) rfl ?_); show wpAny _ _ (if (Value.ref t == Value.none) = true then _ else _) _ _ s
 rw [if_neg (show ¬ ((Value.ref t == Value.none) = true) by exact Bool.false_ne_true)]; show wpAny _ _ (field (.ref jt) 1 >>= _) _ _ s
 refine wpAny_bind (wpAny_field hoj dj (x:=.int i 0) rfl ?_); show wpAny _ _ (seqItems? (.ref t) >>= _) _ _ s
 refine wpAny_bind (wpAny_seqItems hot dt ?_); simp only [Int.toNat_natCast,hv]
 refine wpAny_bind (wpAny_rule (wpAny_bind (wpAny_setField hoj dj (by simp) ?_))); show wpAny _ _ (newExc (.type "StopIteration") [] >>= _) _ _ _
 refine wpAny_bind ?_; simp only [newExc,newTuple]
 refine wpAny_bind (wpAny_newObj_type ?_ (by size_fits)); refine wpAny_bind (m:=firstArgMember _ _) (wpAny_of_eq (a:=Value.none) (by first | rfl | (simp only [firstArgMember]; rfl)) ?_)
 refine wpAny_newObj_type ?_ (by size_fits); simp only [raiseNew]
 refine wpAny_bind (wpAny_handled ?_); (first | rw [show A.in1.handled = none from hh] | rw [hh])
 exact wpAny_bind (wpAny_pure (wpAny_throw (hE _ _ (((Heap.SameBut.update ..).extBut.push _).push _) ⟨_,Heap.get?_push_size _ rfl,rfl⟩)))
end
theorem Xi {prog:Program} {w:World} {A:Around} (hh:A.handled = none) (jt t:Addr) (hne:t ≠ jt) (vs:Array Value) :
  Draws prog w A jt [jt,t] vs.size (fun i v=>vs[i]? = some v) (fun i h=>h.IsTupleIter jt t i /\ h.IsTuple t vs) where
 live:=fun _ _ st=>let ⟨o,ho,_⟩:=st.1; ⟨o,ho⟩
 frame:=fun _ _ _ st hk=>⟨st.1.at (hk jt (by simp)),st.2.at (hk t (by simp))⟩
 item:=fun i s Q E hi st hQ=>ju st.1 st.2 (v:=vs[i]) (by simp [hi]) fun h' hit' hs'=>hQ _ h' s.toks (by simp [hi]) ⟨hit',st.2.extBut hs'.extBut hne⟩ hs'
 done:=fun s Q E st hE=>tF hh st.1 st.2 (by simp) hE
theorem Xj {prog:Program} {w:World} {A:Around} (hh:A.handled = none) (jt t:Addr) (vs:Array Value) {i:Nat} (hv:vs[i]? = none) :
  Draws prog w A jt [jt,t] i (fun _ _=>True) (fun j h=>j = i /\ h.IsTupleIter jt t i /\ h.IsTuple t vs) where
 live:=fun _ _ st=>let ⟨o,ho,_⟩:=st.2.1; ⟨o,ho⟩
 frame:=fun _ _ _ st hk=>⟨st.1,st.2.1.at (hk jt (by simp)),st.2.2.at (hk t (by simp))⟩
 item:=fun j s Q E hj st hQ=>absurd st.1 (Nat.ne_of_lt hj)
 done:=fun s Q E st hE=>tF hh st.2.1 st.2.2 hv hE
section
variable {X:Cx} {pins:List (Addr × Obj)} {σ:L2.St} {H:Hp} {s:Shared} {h':Heap}
theorem Xk {fp:List Addr} {t':Nat} (I:Inv X pins σ H s) (k:∀ b o,b ∉ fp -> s.heap.get? b = some o -> h'.get? b = some o) (ff:∀ b ∈ fp,FpOk X pins H b):Inv X pins σ H { s with heap:=h',toks:=t' }:=by
 have nit:∀ b u,H b = some u -> b ∉ fp:=fun b u e z=>by rw [(ff b z).1] at e; cases e
 refine I.step (g':=s.gens) (d':=s.drawn) (ch:=fp) (fun b hb=>?_) (fun b o _ _ hc e _=>k b o hc e) (fun b o _ _ hc e _=>⟨o.slots,k b o hc e⟩) (fun _ _ _ _ n=>n) (fun b o hc e=>⟨o,k b o hc e⟩) (fun _ _ e=>e) (fun _ _ _ e=>e) (fun b ps e=>⟨#[],by rw [e]; simp⟩) (fun m hm=>?_) (fun b u e=>?_) I.bare
 ·obtain ⟨_,f1,_,f3,f4,f5⟩:=ff b hb
  exact ⟨f3,f1,f4,f5⟩
 ·obtain ⟨o,es,ep,ho,r⟩:=hm
  exact ⟨o,es,ep,k _ o (fun z=>(ff _ z).2.1 rfl) ho,r⟩
 ·refine (I.hok b u e).stay (fun c v hc q=>k c v ?_ q) (fun _ q=>q) fun _ _ q=>q
  rcases hc with z | z
  ·rw [z]; exact nit b u e
  ·exact nit c _ z
theorem WT {fp:List Addr} {T:Addr} {o:HO} {t':Nat} (I:Inv X pins σ H s) (k:∀ b o,b ∉ fp -> s.heap.get? b = some o -> h'.get? b = some o) (ff:∀ b ∈ fp,FpOk X pins H b) (hT:s.heap.objs.size <= T)
  (new:z5 X.prog X.w (upd H T o) h' T o):Inv X pins σ (upd H T o) { s with heap:=h',toks:=t' }:=by
 have hn:H T = none:=I.hok.fresh hT
 have I1:Inv X pins σ H { s with heap:=h',toks:=t' }:=Xk I k ff
 have hok:HOk X.prog X.w (upd H T o) h':=HOk.track I1.hok hn new
 refine I.step (g':=s.gens) (d':=s.drawn) (ch:=fp) (fun b hb=>?_) (fun b o _ _ hc e _=>k b o hc e) (fun b o _ _ hc e _=>⟨o.slots,k b o hc e⟩) (fun b u _ e n=>by rw [zt (Nat.ne_of_lt (Nat.lt_of_lt_of_le (Heap.lt_size e) hT))]; exact n) (fun b o hc e=>⟨o,k b o hc e⟩)
  (fun b xs e=>by rw [zt (zv e hn)]; exact e) (fun b u xs e=>by rw [zt (zv e hn)]; exact e) (fun b ps e=>⟨#[],by rw [zt (zv e hn),e]; simp⟩) (fun m hm=>?_) hok I.bare
 ·obtain ⟨_,f1,_,f3,f4,f5⟩:=ff b hb
  exact ⟨f3,f1,f4,f5⟩
 ·obtain ⟨o,es,ep,ho,r⟩:=hm
  exact ⟨o,es,ep,k _ o (fun z=>(ff _ z).2.1 rfl) ho,r⟩
end
section
variable {X:Cx} {elts:List Expr} {kt:Nat} {pt:Pos}
theorem Tx:bootBuiltins "enumerate" = some (.type "enumerate"):=by decide +kernel
end
theorem SF {ds:List Deed} {i:Nat} (h:i < ds.length):ds[i]? = some (ds.getD i look):=by
 rw [List.getD_eq_getElem?_getD,List.getElem?_eq_getElem h]; rfl
theorem AllR.set {α:Type} {R:V -> α -> Prop} {x:V} {k:α} (h:R x k):∀ {xs:List V} {ks:List α} {n:Nat},AllR R xs ks -> AllR R (xs.set n x) (ks.set n k)
 | [],[],n,_=>by cases n <;> trivial
 | _ :: _,_ :: _,0,⟨_,t⟩=>⟨h,t⟩
 | _ :: _,_ :: _,n + 1,⟨a,t⟩=>⟨a,AllR.set h t⟩
 | [],_ :: _,_,z=>z.elim
 | _ :: _,[],_,z=>z.elim
def figI (k st l:Int):Int:=Builtin.bitAnd (l / 2 ^ (k - st).toNat) 1
def wfI (k st l w:Int):Int:=Builtin.bitXor l (Builtin.bitXor (figI k st l) w * 2 ^ (k - st).toNat)
def swI (k st l:Int):Int:=Builtin.bitOr (l / 2 ^ (k - st + 1).toNat * 2 ^ (k - st).toNat) (Builtin.bitAnd l (1 * 2 ^ (k - st).toNat - 1))
def wP (k n:Int):List Int:=(List.range k.toNat).map fun i:Nat=>Builtin.bitAnd (n / 2 ^ (k - 1 - (0 + (i:Int))).toNat) 1
def numL (xs:List Int):Int:=xs.foldl (fun f o=>2 * f + o) 0
def Uu (k h g:Int) (n:Nat):Int:=numL ((wP k g).take n ++ (wP k h).drop n)
def Z4 (k l:Int) (st:Nat):Int:=numL ((wP k l).take (st - 1) ++ (wP k l).drop st)
theorem Xl:∀ k:Fin 5,∀ st:Fin 5,st.val <= k.val -> ∀ l:Fin 16,(figI k.val st.val l.val = 0 \/ figI k.val st.val l.val = 1) /\ ∀ w:Fin 2,(Builtin.bitXor (figI k.val st.val l.val) w.val).natAbs < 2:=by
 decide +kernel
theorem Xm {i j:Int} (h:-(2 ^ 60) < i /\ i < 2 ^ 60):IntMulOk i j:=PySem.IntMulOk.of_left (Nat.le_trans ((PySem.intBits_le_iff (m:=60)).mpr (by obtain ⟨a,b⟩:=h; omega)) (by decide))
theorem wt {k:Nat} (h:k <= 4):CPow 1 (k:Int):=⟨by omega,by omega,by decide⟩
theorem wx {k:Nat} (h:k <= 4):(2:Nat) ^ k <= 16:=Nat.le_trans (Nat.pow_le_pow_right (by decide) h) (by decide)
theorem sy {k:Nat}:(1:Int) * 2 ^ ((k:Int)).toNat = ((2 ^ k:Nat):Int):=by rw [Int.toNat_natCast,Int.one_mul,Int.natCast_pow]; rfl
theorem figF {k st:Nat} {l:Int} (k4:k <= 4) (hs:st <= k) (l0:0 <= l) (l1:l < 16):(figI k st l = 0 \/ figI k st l = 1) /\ ∀ w:Int,w = 0 \/ w = 1 -> (Builtin.bitXor (figI k st l) w).natAbs < 2 ^ 64:=by
 obtain ⟨n,rfl⟩:∃ n:Nat,l = n:=⟨l.toNat,by omega⟩
 have z:=Xl ⟨k,by omega⟩ ⟨st,by omega⟩ hs ⟨n,by omega⟩
 refine ⟨z.1,fun w hw=>?_⟩
 rcases hw with rfl | rfl
 ·exact Nat.lt_trans (z.2 0) (by decide)
 ·exact Nat.lt_trans (z.2 1) (by decide)
theorem SG {ys:List Int} {v:Int}:atI ((ys ++ [v]).map V.int) (-1) = some (V.int v):=by
 refine SE (j:=ys.length) ?_ ?_
 ·unfold ixN
  rw [List.length_map,List.length_append,if_neg (by decide),if_pos (by show -((ys.length + 1:Nat):Int) <= -1; omega)]
  exact congrArg some (by show (-1 + ((ys.length + 1:Nat):Int)).toNat = ys.length; omega)
 ·rw [List.getElem?_map]; simp
def x8 (_:FG7):Sp:=sp2 fun x y H Q=>∃ k l:Nat,x = .int k /\ y = .int l /\ k <= 4 /\ l < 2 ^ k /\ Q (.bl true) H
def ue (_:FG7):Sp:=sp1 fun x H Q=>∃ k:Nat,x = .int k /\ k <= 4 /\ Q .non H
def vy (_:FG7):Sp:=sp2 fun x y H Q=>∃ k l:Nat,x = .int k /\ y = .int l /\ k <= 4 /\ l < 2 ^ k /\ Q .non H
def uf (_:FG7):Sp:=sp3 fun x y z H Q=>∃ (k st:Nat) (l:Int),x = .int k /\ y = .int st /\ z = .int l /\ st <= k /\ Q (.int (figI k st l)) H
def wu (_:FG7):Sp:=sp4 fun x y z u H Q=>∃ (k st:Nat) (l w:Int),x = .int k /\ y = .int st /\ z = .int l /\ u = .int w /\ k <= 4 /\ st <= k /\ 0 <= l /\ l < 16 /\ (w = 0 \/ w = 1) /\ Q (.int (wfI k st l w)) H
def qg (_:FG7):Sp:=sp4 fun x y z u H Q=>∃ (k st:Nat) (l s:Int),x = .int k /\ y = .int st /\ z = .int l /\ u = .int s /\ k <= 4 /\ st <= k /\ 0 <= l /\ l < 16 /\ 0 <= s /\ s < 16 /\ Q (.int (wfI k st l (figI k st s))) H
def vz (_:FG7):Sp:=sp3 fun x y z H Q=>∃ (k st:Nat) (l:Int),x = .int k /\ y = .int st /\ z = .int l /\ k <= 4 /\ st <= k /\ 0 <= l /\ l < 16 /\ Q (.int (swI k st l)) H
section
variable {prog:Program} {w:World} {A:Around} {R:Result -> Shared -> Prop} {s:Shared}
variable {elt t0 i0 t1 i1:Expr} {ifs:List Expr} {scope:Scope} {pos:Pos} {it acc:Value} {env:Env}
def noX:VS7:=fun _ _=>False
end
section
variable {X:Cx} {pins:List (Addr × Obj)} {σ:L2.St} {H2:Hp} {s₂:Shared} {it:Addr} {fp:List Addr} {tn:Nat -> Heap -> Prop} {J:It} {scope:Scope} {cl:List (Str × Addr)} {N':List Str} {sub:List (Option Nat)}
theorem Xn {C D:Addr} {s₀:Shared} {tg:Expr} {pos:Pos} {elt iter:Expr} {ifs:List Expr} {g:TG} {tt:TT} {te:TE} {Q:VK} {RR:Value -> Addr -> Result -> Shared -> Prop} {W:Nat -> Nat -> List V -> L2.St -> Hp -> Prop}
  (I:Inv X pins σ H2 s₂) (hcalm:X.calm = true) (T:Turn X.prog X.w X.K tg J fp it tn) (f2:∀ b ∈ fp,FpOk X pins H2 b) (hfp:∀ b ∈ fp,b < s₂.heap.objs.size)
  (hs₀:∀ b o,s₂.heap.get? b = some o -> s₀.heap.get? b = some o) (hos:s₀.os = s₂.os) (hD:s₂.heap.objs.size <= D) (hC:s₂.heap.objs.size <= C) (hDC:D ≠ C)
  (hcl1:∀ x c,cl.lookup x = some c -> X.env.cells.lookup x = some c)
  (hg:PG (cxC X N' scope cl C D fp s₀ H2) tg g) (ht:PIfs (cxC X N' scope cl C D fp s₀ H2) ifs tt) (he:PE (cxC X N' scope cl C D fp s₀ H2) elt te)
  (turn:∀ i m ys σ' H',W i m ys σ' H' →
   (J.stop i H' /\ ∀ l,H' l = none -> Q (.ref l) (upd H' l (.lst ys))) ∨
   (J.go i H' /\ ∃ Nn:List V -> L2.St -> Hp -> Prop,(∀ zs σ2 H2,Nn zs σ2 H2 -> ∃ m',m' < m /\ W (i + 1) m' zs σ2 H2) ∧
    ∀ x H2,J.yld i H' x H2 -> g x σ' H2 fun σ2 H3=>tt σ2 H3 fun b H4=>if b = true then te σ2 H4 fun y H5=>ys.length < sizeLine /\ Nn (ys ++ [y]) σ2 H5 else Nn ys σ2 H4))
  (hRR:∀ (D C:Addr) (oC:Obj) (m:Str -> Option Value) (s':Shared) (Hf:Hp),Inv X (pins ++ [(C,oC)]) σ Hf s' -> s'.heap.Ns C m -> FpOk X pins Hf C -> Q (.ref D) Hf -> RR (.ref D) C (.ok .next) s')
  (n:Nat) (s:Shared) (h:∃ i ys us k σ' H',Inv (cxC X N' scope cl C D fp s₀ H2) pins σ' H' s /\ tn i s.heap /\ (∀ b ∈ fp,H' b = none) /\ H' D = none ∧
   s.heap.get? D = some { cls:=.type "list",data:=.seq (us:List Value).toArray k } /\ Vals ys us /\ ys.length <= sizeLine /\ W i n ys σ' H') :
  codeAny (model X.prog X.w) X.A (.compLoop (.ListComp elt [⟨tg,iter,ifs,0⟩] scope pos) 0 (.ref it) (.ref D) (compEnvC scope cl C X.env)) (RR (.ref D) C) s:=by
 have frsz:∀ b ∈ frs X.stack,b < s₂.heap.objs.size:=fun b hb=>by
  rcases List.mem_cons.mp (I.stkSub b hb) with z | z
  ·rw [z]; exact I.lt
  ·exact Nat.lt_of_not_le fun q=>I.nofs q z
 have cells:∀ x c,cl.lookup x = some c -> c < s₂.heap.objs.size:=fun x c e=>let ⟨v,q⟩:=I.cell x c (hcl1 x c e); q.lt
 have pinsz:∀ p ∈ X.pn ++ pins,p.1 < s₂.heap.objs.size:=fun p hp=>Heap.lt_size (I.pin p hp).1
 refine Xc (fun n s=>∃ i ys us k σ' H',Inv (cxC X N' scope cl C D fp s₀ H2) pins σ' H' s /\ tn i s.heap /\ (∀ b ∈ fp,H' b = none) /\ H' D = none ∧
   s.heap.get? D = some { cls:=.type "list",data:=.seq (us:List Value).toArray k } /\ Vals ys us /\ ys.length <= sizeLine /\ W i n ys σ' H') ?_ n h
 rintro n s ⟨i,ys,us,k,σ',H',I',st',fr,hn,hy,rv,hz,w'⟩
 have pD:Inv (cxC X N' scope cl C D fp s₀ H2) (pins ++ [(D,{ cls:=.type "list",data:=.seq us.toArray k })]) σ' H' s:=I'.pins_of fun p hp=>by
  rcases List.mem_append.mp hp with hp | hp
  ·exact I'.pin p (List.mem_append_right _ hp)
  ·rw [List.mem_singleton.mp hp]
   exact ⟨hy,hn,hDC,fun z=>absurd (Nat.lt_of_lt_of_le (frsz _ z) hD) (Nat.lt_irrefl _),fun v z=>by cases z⟩
 have fpok:∀ {H'':Hp},(∀ b ∈ fp,H'' b = none) -> ∀ b ∈ fp,FpOk (cxC X N' scope cl C D fp s₀ H2) (pins ++ [(D,{ cls:=.type "list",data:=.seq us.toArray k })]) H'' b:=fun hz b hb=>by
  refine ⟨hz b hb,Nat.ne_of_lt (Nat.lt_of_lt_of_le (hfp b hb) hC),fun z=>?_,.inl (List.mem_cons_of_mem _ hb),fun x c e=>(f2 b hb).2.2.2.2.1 x c (hcl1 x c e),fun p hp=>?_⟩
  ·rcases List.mem_cons.mp (I.stkSub b z) with z | z
   ·exact (f2 b hb).2.1 z
   ·exact (f2 b hb).2.2.1 z
  ·rcases List.mem_append.mp hp with hp | hp
   ·exact (f2 b hb).2.2.2.2.2 p (List.mem_append_left _ hp)
   ·rcases List.mem_append.mp hp with hp | hp
    ·exact (f2 b hb).2.2.2.2.2 p (List.mem_append_right _ hp)
    ·rw [List.mem_singleton.mp hp]
     exact Nat.ne_of_gt (Nat.lt_of_lt_of_le (hfp b hb) hD)
 rcases turn i n ys σ' H' w' with ⟨stop,q⟩ | ⟨go,Nn,hN,step⟩
 ·refine thn (T.done (cxC X N' scope cl C D fp s₀ H2) rfl rfl rfl hcalm i _ s σ' H' (fun _ _=>False) pD (fpok fr) st' stop) fun r s1 ⟨hr,I1⟩=>?_
  subst hr
  have hy1:=(I1.pin (D,{ cls:=.type "list",data:=.seq us.toArray k }) (by simp)).1
  obtain ⟨m,hm,_⟩:=I1.loc
  obtain ⟨oC,es,ep,hoC,hdC,_⟩:=id hm
  obtain ⟨IX,fpc⟩:=WM I hs₀ hos hD hC hDC f2 I1.unpinned hn hy1 rv hz hoC (by intro v z; rw [hdC] at z; cases z)
  exact hRR D C oC m s1 _ IX hm fpc (q D hn)
 ·refine thn (T.item (cxC X N' scope cl C D fp s₀ H2) rfl rfl rfl hcalm i _ s σ' H' (fun _ _=>False) pD (fpok fr) st' go) fun r s1 ⟨u,hr,h4⟩=>?_
  subst hr
  refine thn h4 fun _ s2 ⟨x5,H5,I5,r5,y5,st5,fr5⟩=>?_
  have I5':=I5.pinned (fpok fr5) (T.obj _ _ st5)
  refine thn (hg _ s2 σ' H5 x5 u _ I5' r5 (step x5 H5 y5)) fun _ s3 ⟨σ6,H6,I6,q6⟩=>?_
  refine thn (ht _ s3 σ6 H6 _ I6 q6) fun ok s4 ⟨H7,I7,q7⟩=>?_
  have stay:∀ {σ7:L2.St} {H7:Hp} {s7:Shared},Inv (cxC X N' scope cl C D fp s₀ H2) (pins ++ [(D,{ cls:=.type "list",data:=.seq us.toArray k })] ++ wI fp s2.heap) σ7 H7 s7 →
    (∀ b ∈ fp,∀ o,s2.heap.get? b = some o -> s7.heap.get? b = some o) /\ (∀ b ∈ fp,H7 b = none) /\ H7 D = none /\ s7.heap.get? D = some { cls:=.type "list",data:=.seq us.toArray k }:=fun {σ7 H7 s7} I7=>by
   have d:=I7.pin (D,{ cls:=.type "list",data:=.seq us.toArray k }) (by simp)
   refine ⟨fun b hb o e=>(I7.pin (b,o) (List.mem_append_right _ (List.mem_append_right _ (yx hb e)))).1,fun b hb=>?_,d.2.1,d.1⟩
   obtain ⟨o,e,_⟩:=T.obj _ _ st5 b hb
   exact (I7.pin (b,o) (List.mem_append_right _ (List.mem_append_right _ (yx hb e)))).2.1
  cases ok with
  | false =>
   rw [if_neg (by decide)] at q7 ⊢
   obtain ⟨k1,k2,k3,k4⟩:=stay I7
   obtain ⟨m',hm,w7⟩:=hN ys σ6 H7 q7
   exact ⟨m',hm,i + 1,ys,us,k,σ6,H7,I7.unpinned.unpinned,T.keep _ _ _ st5 k1,k2,k3,k4,rv,hz,w7⟩
  | true =>
   rw [if_pos rfl] at q7 ⊢
   refine thn (he _ s4 σ6 H7 _ I7 q7) fun v s5 ⟨y,H8,I8,r8,hl8,n8⟩=>?_
   obtain ⟨k1,k2,k3,k4⟩:=stay I8
   refine wpAny_list_append_plain (l:=D) ⟨k,k4⟩ (fun h' pl sb=>?_) (by rw [List.size_toArray,← rv.length]; exact hz)
   obtain ⟨k',e'⟩:=pl
   obtain ⟨m',hm,w8⟩:=hN _ σ6 H8 n8
   refine ⟨m',hm,i + 1,ys ++ [y],us ++ [v],k',σ6,H8,?_,T.keep _ _ _ (T.keep _ _ _ st5 k1) fun b hb o e=>sb.extBut b o (Nat.ne_of_lt (Nat.lt_of_lt_of_le (hfp b hb) hD)) e,k2,k3,?_,rv.append (.cons r8 .nil),?_,w8⟩
   ·exact (I8.unpinned.unpinned).turned (it:=D) (t':=s5.toks) (h':=h') (fun b o hb e=>sb.extBut b o hb e) k3 hDC (.inl (by simp)) (fun x c e=>Nat.ne_of_lt (Nat.lt_of_lt_of_le (cells x c e) hD)) (fun p hp=>Nat.ne_of_lt (Nat.lt_of_lt_of_le (pinsz p hp) hD))
   ·rw [e']; simp
   ·rw [List.length_append]; exact hl8
theorem ug {tg:Expr} {pos:Pos} {elt iter:Expr} {ifs:List Expr} {g:TG} {tt:TT} {te:TE} {E:VS7} {Q:VK} {RR:Value -> Addr -> Result -> Shared -> Prop}
  (I:Inv X pins σ H2 s₂) (hcalm:X.calm = true) (T:Turn X.prog X.w X.K tg J fp it tn) (st:tn 0 s₂.heap) (f2:∀ b ∈ fp,FpOk X pins H2 b)
  (S:CSc X scope N' sub) (hcl1:∀ x c,cl.lookup x = some c -> X.env.cells.lookup x = some c) (hcl2:∀ y ∈ scope.names,y.2 = .free -> ∃ c,cl.lookup y.1 = some c)
  (hg:∀ C D fp s H,PG (cxC X N' scope cl C D fp s H) tg g) (ht:∀ C D fp s H,PIfs (cxC X N' scope cl C D fp s H) ifs tt) (he:∀ C D fp s H,PE (cxC X N' scope cl C D fp s H) elt te)
  (hW:sv J (capt sub σ) H2 g tt te Q)
  (hRR:∀ (D C:Addr) (oC:Obj) (m:Str -> Option Value) (s':Shared) (Hf:Hp),Inv X (pins ++ [(C,oC)]) σ Hf s' -> s'.heap.Ns C m -> FpOk X pins Hf C -> Q (.ref D) Hf -> RR (.ref D) C (.ok .next) s') :
  wpAny (model X.prog X.w) X.A (newList []) (fun acc s₃=>wpAny (model X.prog X.w) X.A (newFunctionEnv scope X.env.globals cl [] X.env.qual none .none (some X.env)) (fun cenv s₄ =>
   codeAny (model X.prog X.w) X.A (.compStart (.ListComp elt [⟨tg,iter,ifs,0⟩] scope pos) 0 (.ref it) acc { cenv with scope:=relabel scope X.env }) (RR acc cenv.locals) s₄) E s₃) E s₂:=by
 obtain ⟨W,⟨m0,w0⟩,turn⟩:=hW
 refine wpAny_newObj_type (wpAny_newFunctionEnv S.nocell (by intro y hy; simp at hy) (fun h₁ hns₁ hsb₁=>?_) S.kind)
 dsimp only at hns₁ hsb₁ ⊢
 have hC:(s₂.heap.push { cls:=.type "list",dict:=none,data:=.seq ([]:List Value).toArray }).objs.size = s₂.heap.objs.size + 1:=Heap.size_push ..
 rw [hC] at hns₁ hsb₁ ⊢
 have hk:∀ b o,(s₂.heap.push { cls:=.type "list",dict:=none,data:=.seq ([]:List Value).toArray }).get? b = some o -> h₁.get? b = some o:=fun b o e =>
  hsb₁.extBut b o (by have:=Heap.lt_size e; rw [hC] at this; exact Nat.ne_of_lt this) (Heap.get?_push_of_some _ e)
 have hfp:∀ b ∈ fp,b < s₂.heap.objs.size:=fun b hb=>by
  obtain ⟨o,e,_⟩:=T.obj _ _ st b hb
  exact Heap.lt_size e
 have I0:=tD (tk:=s₂.toks + ([]:List (Str × Value)).length) I S hcl1 hcl2 f2 hfp hns₁ hk
 have hD0:h₁.get? s₂.heap.objs.size = some { cls:=.type "list",data:=.seq ([]:List Value).toArray 0 }:=hk _ _ (Heap.get?_push_size _ rfl)
 have loop:codeAny (model X.prog X.w) X.A (.compLoop (.ListComp elt [⟨tg,iter,ifs,0⟩] scope pos) 0 (.ref it) (.ref s₂.heap.objs.size) (compEnvC scope cl (s₂.heap.objs.size + 1) X.env)) (RR (.ref s₂.heap.objs.size) (s₂.heap.objs.size + 1)) { s₂ with heap:=h₁,toks:=s₂.toks + ([]:List (Str × Value)).length } :=
  Xn (s₀:={ s₂ with heap:=s₂.heap.push { cls:=.type "list",dict:=none,data:=.seq ([]:List Value).toArray } }) (C:=s₂.heap.objs.size + 1) (D:=s₂.heap.objs.size) I hcalm T f2 hfp (fun b o e=>Heap.get?_push_of_some _ e) rfl (Nat.le_refl _) (Nat.le_succ _) (Nat.ne_of_lt (Nat.lt_succ_self _)) hcl1 (hg _ _ _ _ _) (ht _ _ _ _ _) (he _ _ _ _ _) turn hRR m0 _
   ⟨0,[],[],0,capt sub σ,H2,I0,T.keep _ _ _ st fun b hb o e=>hk b o (Heap.get?_push_of_some _ e),fun b hb=>(f2 b hb).1,I.hok.fresh (Nat.le_refl _),hD0,.nil,Nat.zero_le _,w0⟩
 exact codeAny_compStart_list loop (T.self _ _ _ _ _ (T.keep _ _ _ st fun b hb o e=>hk b o (Heap.get?_push_of_some _ e)) loop)
end
section
variable {X:Cx} {scope:Scope} {N':List Str} {sub:List (Option Nat)} {tg:Expr} {pos:Pos} {elt iter:Expr} {ifs:List Expr} {wi:TI} {g:TG} {tt:TT} {te:TE}
theorem yZ (S:CSc X scope N' sub) (hcalm:X.calm = true) (hi:PI X tg iter wi)
  (hg:∀ cl C D fp s H,PG (cxC X N' scope cl C D fp s H) tg g) (ht:∀ cl C D fp s H,PIfs (cxC X N' scope cl C D fp s H) ifs tt) (he:∀ cl C D fp s H,PE (cxC X N' scope cl C D fp s H) elt te)
  (hs:∀ x,foldedSetIterable iter X.env x = pure x:=by intro _; rfl):PE X (.ListComp elt [⟨tg,iter,ifs,0⟩] scope pos) (Ts wi sub g tt te):=by
 intro pins s σ H Q I h
 obtain ⟨cl,hclos,hcl1,hcl2⟩:=S.clos I
 rw [eval_ListComp]
 refine wpAny_comprehension_free (use:=none) rfl hs hclos S.kind S.names (thn (hi pins s σ H _ I h) fun v s1 h1=>thn h1 fun itv s2 h2=>?_)
 obtain ⟨it,fp,tn,J,H2,e,I2,T,st2,f2,hW⟩:=h2
 subst e
 refine ug (RR:=fun acc C=>compPost (model X.prog X.w) X.A X.xe none (EP X pins σ Q) acc C) I2 hcalm T st2 f2 S hcl1 hcl2 (hg cl) (ht cl) (he cl) hW ?_
 intro D C oC m s' Hf IX hm fpc q
 refine ⟨m,hm,fun h' sb=>⟨.ref D,Hf,?_,rfl,q⟩⟩
 exact (IX.unpinned).turned (it:=C) (t':=s'.toks) (h':=h') (fun b o hb e=>sb.extBut b o hb e) fpc.1 fpc.2.1 fpc.2.2.2.1 fpc.2.2.2.2.1 fpc.2.2.2.2.2
theorem Zq {i:Nat} {y:Str} {py spos:Pos} (hN:X.N.Nodup) (hiN:X.N[i]? = some y) (hy:X.env.scope.names.lookup y = some .local) (S:CSc X scope N' sub) (hcalm:X.calm = true) (hi:PI X tg iter wi)
  (hg:∀ cl C D fp s H,PG (cxC X N' scope cl C D fp s H) tg g) (ht:∀ cl C D fp s H,PIfs (cxC X N' scope cl C D fp s H) ifs tt) (he:∀ cl C D fp s H,PE (cxC X N' scope cl C D fp s H) elt te)
  (hsw:swapsWith (.ListComp elt [⟨tg,iter,ifs,0⟩] scope pos) (some (.Name y py)) spos.line X.env = pure true:=by rfl)
  (hs:∀ x,foldedSetIterable iter X.env x = pure x:=by intro _; rfl):PS X (.Assign [.Name y py] (.ListComp elt [⟨tg,iter,ifs,0⟩] scope pos) spos) (tAsg (Ts wi sub g tt te) (vb i)):=by
 intro pins s σ H D I h
 obtain ⟨cl,hclos,hcl1,hcl2⟩:=S.clos I
 rw [exec_Assign_Name_used _ _ _ _ hsw]
 refine wpAny_bind (wpAny_standAt (wpAny_bind ?_))
 show wpAny _ X.A (do let _ ← comprehension (.ListComp elt [⟨tg,iter,ifs,0⟩] scope pos) scope X.env _ (newList []) false (eval iter X.env) (some (assign (.Name y py) X.env))) _ _ s
 refine wpAny_bind (wpAny_mono (wpAny_comprehension_free (use:=some (assign (.Name y py) X.env)) (Q:=fun _ s'=>SP X pins D .next s') rfl hs hclos S.kind S.names
  (thn (hi pins s σ H _ I h) fun v s1 h1=>thn h1 fun itv s2 h2=>?_)) (fun _ s' hq=>wpAny_pure (wpAny_pure hq)) fun _ _ e=>e)
 obtain ⟨it,fp,tn,J,H2,e,I2,T,st2,f2,hW⟩:=h2
 subst e
 refine ug (Q:=fun x H1=>vb i x σ H1 D.nx) (RR:=fun acc C=>compPost (model X.prog X.w) X.A X.xe (some (assign (.Name y py) X.env)) (fun _ s'=>SP X pins D .next s') acc C) I2 hcalm T st2 f2 S hcl1 hcl2 (hg cl) (ht cl) (he cl) hW ?_
 intro L C oC m s' Hf IX hm fpc q
 have st:=zk (X:=X) (pos:=py) hN hiN (.inl hy) (.inr hy) _ s' σ Hf (.ref L) (.ref L) D.nx IX rfl q
 refine thn st fun _ s'' ⟨σ2,H2,I2',q2⟩=>?_
 have p:=I2'.pin (C,oC) (by simp)
 have hm':s''.heap.Ns C m:=by
  obtain ⟨o,es,ep,e1,r⟩:=hm
  have z:=(IX.pin (C,oC) (by simp)).1
  rw [e1] at z; cases z
  exact ⟨_,es,ep,p.1,r⟩
 refine ⟨m,hm',fun h' sb=>⟨σ2,H2,?_,q2⟩⟩
 exact (I2'.unpinned).turned (it:=C) (t':=s''.toks) (h':=h') (fun b o hb e=>sb.extBut b o hb e) p.2.1 fpc.2.1 fpc.2.2.2.1 fpc.2.2.2.2.1 fpc.2.2.2.2.2
end
section
variable {prog:Program} {w:World} {A:Around} {E:VS7} {s:Shared}
def sA (h:Heap) (a:Addr) (cn:String) (vs:Array Value):Prop:=(cn = "tuple_iterator" /\ h.IsTuple a vs) \/ (cn = "list_iterator" /\ h.IsList a vs)
theorem sA.iter {a:Addr} {cn:String} {vs:Array Value} {Q:VS7} (h:sA s.heap a cn vs)
  (q:Q (.ref s.heap.objs.size) { s with heap:=s.heap.push { cls:=.type cn,data:=.fields #[.ref a,.int 0 0] } }):wpAny (model prog w) A (pyIter (.ref a)) Q E s:=by
 rcases h with ⟨rfl,h⟩ | ⟨rfl,h⟩
 ·exact wpAny_pyIter_tuple h q
 ·exact wpAny_pyIter_list h q
theorem sA.push {h:Heap} {a:Addr} {cn:String} {vs:Array Value} (x:sA h a cn vs) (o:Obj):sA (h.push o) a cn vs:=by
 rcases x with ⟨rfl,x⟩ | ⟨rfl,x⟩
 ·exact .inl ⟨rfl,x.push o⟩
 ·exact .inr ⟨rfl,x.push o⟩
def zpO (c:String) (a:Addr):Obj:={ cls:=.type c,data:=.fields #[.ref a,.int 0 0] }
end
def SqC (c:Bool) (K:FG7) (H:Hp) (a:Addr) (xs:List V):Prop:=match c with
 | true=>SqT K H a xs
 | false=>SqL K H a xs
def uh (c:Bool) (h:Heap) (j a:Addr) (i:Nat):Prop:=match c with
 | true=>h.IsTupleIter j a i
 | false=>h.IsListIter j a i
def SeqC (c:Bool) (h:Heap) (a:Addr) (vs:Array Value):Prop:=match c with
 | true=>h.IsTuple a vs
 | false=>h.IsList a vs
def cnC (c:Bool):String:=match c with
 | true=>"tuple_iterator"
 | false=>"list_iterator"
theorem uh.at {c:Bool} {h h':Heap} {j a:Addr} {i:Nat} (x:uh c h j a i) (k:∀ o,h.get? j = some o -> h'.get? j = some o):uh c h' j a i:=by
 cases c
 ·exact Heap.IsListIter.at x k
 ·exact Heap.IsTupleIter.at x k
theorem uh.obj {c:Bool} {h:Heap} {j a:Addr} {i:Nat} (x:uh c h j a i):∃ o,h.get? j = some o /\ ∀ v,o.data ≠ .cell v:=by
 cases c
 ·obtain ⟨o,e,_,d⟩:=x
  exact ⟨o,e,fun v z=>by rw [d] at z; cases z⟩
 ·obtain ⟨o,e,_,d⟩:=x
  exact ⟨o,e,fun v z=>by rw [d] at z; cases z⟩
theorem uh.mk {c:Bool} {h:Heap} {j a:Addr} (e:h.get? j = some (zpO (cnC c) a)):uh c h j a 0:=by
 cases c
 ·exact ⟨_,e,rfl,rfl⟩
 ·exact ⟨_,e,rfl,rfl⟩
theorem SeqC.src {c:Bool} {h:Heap} {a:Addr} {vs:Array Value} (x:SeqC c h a vs):sA h a (cnC c) vs:=by
 cases c
 ·exact .inr ⟨rfl,x⟩
 ·exact .inl ⟨rfl,x⟩
theorem SeqC.lt {c:Bool} {h:Heap} {a:Addr} {vs:Array Value} (x:SeqC c h a vs):a < h.objs.size:=by
 cases c
 ·obtain ⟨_,e,_⟩:=(show h.IsList a vs from x); exact Heap.lt_size e
 ·obtain ⟨_,e,_⟩:=(show h.IsTuple a vs from x); exact Heap.lt_size e
theorem Ty {prog:Program} {w:World} {A:Around} (hh:A.handled = none) (c:Bool) (j t:Addr) (hne:t ≠ j) (vs:Array Value) :
  Draws prog w A j [j,t] vs.size (fun i v=>vs[i]? = some v) (fun i h=>uh c h j t i /\ SeqC c h t vs):=by
 cases c
 ·exact Draws.list hh j t hne vs
 ·exact Xi hh j t hne vs
theorem Z5 {prog:Program} {w:World} {A:Around} (hh:A.handled = none) (jt t:Addr) (vs:Array Value) {i:Nat} (hv:vs[i]? = none) :
  Draws prog w A jt [jt,t] i (fun _ _=>True) (fun j h=>j = i /\ h.IsListIter jt t i /\ h.IsList t vs) where
 live:=fun _ _ st=>let ⟨o,ho,_⟩:=st.2.1; ⟨o,ho⟩
 frame:=fun _ _ _ st hk=>⟨st.1,st.2.1.at (hk jt (by simp)),st.2.2.at (hk t (by simp))⟩
 item:=fun j s Q E hj st hQ=>absurd st.1 (Nat.ne_of_lt hj)
 done:=fun s Q E st hE=>wpAny_nextOf_list_end hh st.2.1 st.2.2 hv hE
theorem Z6 {prog:Program} {w:World} {A:Around} (hh:A.handled = none) (c:Bool) (j t:Addr) (vs:Array Value) {i:Nat} (hv:vs[i]? = none) :
  Draws prog w A j [j,t] i (fun _ _=>True) (fun k h=>k = i /\ uh c h j t i /\ SeqC c h t vs):=by
 cases c
 ·exact Z5 hh j t vs hv
 ·exact Xj hh j t vs hv
theorem sB {X:Cx} {pins:List (Addr × Obj)} {σ:L2.St} {H:Hp} {s:Shared} {c:Bool} {a:Addr} {xs:List V} (I:Inv X pins σ H s) (h:SqC c X.K H a xs):∃ its:List Value,Vals xs its /\ SeqC c s.heap a its.toArray:=by
 cases c
 ·obtain ⟨its,r,p,_⟩:=I.list h
  exact ⟨its,r,p.isList⟩
 ·obtain ⟨its,r,p,_⟩:=I.tuple h
  exact ⟨its,r,p⟩
theorem qh {X:Cx} {pins:List (Addr × Obj)} {σ:L2.St} {H:Hp} {s:Shared} {c:Bool} {a:Addr} {xs ys:List V} (I:Inv X pins σ H s) (h:SqC c X.K H a xs) (h':SqC c X.K H a ys):xs = ys:=by
 cases c
 ·exact I.list_inj h h'
 ·exact I.tuple_inj h h'
section
variable {prog:Program} {w:World} {A:Around} {E:VS7} {s:Shared}
open PySem.AutoSeq1 (wpAny_loadPart')
theorem Xo (t:Addr) (c:Bool) (vs:Array Value) :
  Meets (Builtin.«enumerate.__new__» ⟨[.type "enumerate",.ref t],[]⟩) (fun _ R s=>SeqC c s.heap t vs ∧
   R (.ok (.ret (.ref (s.heap.push (zpO (cnC c) t)).objs.size)))
    { s with heap:=(s.heap.push (zpO (cnC c) t)).push { cls:=.type "enumerate",data:=.fields #[.none,.bool false,.ref s.heap.objs.size,rawInt 0,.none,.none] } }) :=
 .of_wp fun prog w A R s h=>by
  obtain ⟨hp,g,d,tk,os⟩:=s; obtain ⟨hT,h⟩:=h
  have hT':sA (Shared.heap ⟨hp,g,d,tk,os⟩) t (cnC c) vs:=hT.src
  obtain ⟨ot,hot⟩:∃ o,hp.get? t = some o:=by
   cases c
   ·obtain ⟨o,e,_⟩:=(show hp.IsList t vs from hT); exact ⟨o,e⟩
   ·obtain ⟨o,e,_⟩:=(show hp.IsTuple t vs from hT); exact ⟨o,e⟩
  have hsub:=sub_enumerate
  wp_walk using wpAny_loadPart' hot
  refine wpAny_stack_any fun st=>wpAny_pure ?_
  split
  ·rename_i c' _ _ _ _ _
   cases (c' == Value.type "enumerate") <;> (wp_walk using wpAny_loadPart' hot,sA.iter hT') <;> exact ⟨_,rfl,h⟩
  ·wp_walk using wpAny_loadPart' hot,sA.iter hT'
   exact ⟨_,rfl,h⟩
theorem Z7 {t:Addr} {c:Bool} {vs:Array Value} {Q:VS7} (ht:SeqC c s.heap t vs)
  (h:∀ h',IsEnum h' (s.heap.objs.size + 1) s.heap.objs.size 0 .none -> uh c h' s.heap.objs.size t 0 -> h'.objs.size = s.heap.objs.size + 2 -> (∀ b o,s.heap.get? b = some o -> h'.get? b = some o) -> Q (.ref (s.heap.objs.size + 1)) { s with heap:=h' }) :
  wpAny (model prog w) A (call (.type "enumerate") [.ref t]) Q E s:=by
 refine callType_new F.called_enumerate (by decide) (F.typeCall_enumerate_1 _) (F.newCall_enumerate_1 _) (fun obj=>F.args_object_init_2 obj _) F.entry_enumerate_new (Xo t c vs) ⟨ht,?_⟩
 have hz:(s.heap.push (zpO (cnC c) t)).objs.size = s.heap.objs.size + 1:=Heap.size_push ..
 show _ /\ _
 rw [hz]
 have he:IsEnum ((s.heap.push (zpO (cnC c) t)).push { cls:=.type "enumerate",data:=.fields #[.none,.bool false,.ref s.heap.objs.size,rawInt 0,.none,.none] }) (s.heap.objs.size + 1) s.heap.objs.size 0 .none:=by
  have:=Heap.get?_push_size (s.heap.push (zpO (cnC c) t)) (o:={ cls:=.type "enumerate",data:=.fields #[.none,.bool false,.ref s.heap.objs.size,rawInt 0,.none,.none] }) rfl
  rw [hz] at this; exact this
 exact ⟨⟨_,he,rfl⟩,h _ he (.mk (Heap.get?_push_of_some _ (Heap.get?_push_size _ rfl))) (by rw [Heap.size_push,Heap.size_push]) fun b o x=>Heap.get?_push_of_some _ (Heap.get?_push_of_some _ x)⟩
end
def IteC (c:Bool) (K:FG7) (a:Addr):It :=
 ⟨fun i H=>∃ xs x,SqC c K H a xs /\ xs[i]? = some x,fun i H x H'=>∃ T v,H T = none /\ x = .ref T /\ H' = upd H T (.tup [.int i,v]) /\ ∀ xs,SqC c K H a xs -> xs[i]? = some v,fun i H=>∃ xs,SqC c K H a xs /\ xs.length <= i⟩
theorem Z8 {P:Program} {w:World} {K:FG7} {elts:List Expr} {kt:Nat} {pt:Pos} (c:Bool) (a e jt:Addr) (hej:e ≠ jt) (hae:a ≠ e) (haj:a ≠ jt) :
  Turn P w K (.Tuple elts kt pt) (IteC c K a) [e,jt] e (fun i h=>(∃ old,IsEnum h e jt i old) /\ uh c h jt a i) where
 mem:=by simp
 obj:=fun i h st b hb=>by
  obtain ⟨⟨old,he⟩,st⟩:=st
  simp only [List.mem_cons,List.mem_nil_iff,or_false] at hb
  rcases hb with rfl | rfl
  ·exact ⟨_,he,fun v z=>by cases z⟩
  ·exact st.obj
 keep:=fun i h h' st k=>by
  obtain ⟨⟨old,he⟩,st⟩:=st
  exact ⟨⟨old,k e (by simp) _ he⟩,st.at fun o q=>k jt (by simp) o q⟩
 item:=by
  intro X hP hw hK hc i pins s σ H E I hf st hg
  subst hP hw hK
  obtain ⟨⟨old,he⟩,hit⟩:=st
  obtain ⟨xs,x,hq,hx⟩:=hg
  obtain ⟨its,rv,p⟩:=sB I hq
  obtain ⟨u,hu,ru⟩:=rv.get hx
  have hlt:i < its.toArray.size:=by have:=(List.getElem?_eq_some_iff.mp hu).1; simpa using this
  refine wpAny_pyNext_enum_itemD (Ty (A:=X.A.in1) (I.ok.hd hc) c jt a haj its.toArray) he ⟨hit,p⟩ hlt hej (by simp [hej,Ne.symm hae]) fun v h1 tk hv hout hst1 hT hsz hk=>?_
  have hvu:v = u:=by
   have e1:its.toArray[i]? = some v:=hv
   have e2:its.toArray[i]? = some u:=by simpa using hu
   rw [e1] at e2; exact Option.some.inj e2
  subst hvu
  refine ⟨_,rfl,wpAny_letOwnedTupleGo_enum (s:={ s with heap:=h1,toks:=tk + 1 }) hout fun h2 he2 hs2=>?_⟩
  have hk2:∀ b o,b ∉ [e,jt] -> s.heap.get? b = some o -> h2.get? b = some o:=fun b o hb q=>by
   have n1:b ≠ e:=fun z=>hb (by simp [z])
   have n2:b ≠ jt:=fun z=>hb (by simp [z])
   exact (hs2.2 b n1).trans (hk b o n1 n2 q)
  have eT:s.heap.objs.size ≠ e:=Nat.ne_of_gt (Heap.lt_size he)
  have hT2:h2.get? s.heap.objs.size = some { cls:=.type "tuple",data:=.seq #[.int i tk,v] }:=(hs2.2 _ eT).trans hT
  have hn:H s.heap.objs.size = none:=I.hok.fresh (Nat.le_refl _)
  have I2:Inv X pins σ (upd H s.heap.objs.size (.tup [.int i,x])) { s with heap:=h2,toks:=tk + 1 }:=WT (s:=s) I hk2 hf (Nat.le_refl _) ⟨by show 2 <= sizeLine; decide,[.int i tk,v],.cons ⟨_,rfl⟩ (.cons ru .nil),_,hT2,rfl,0,rfl⟩
  refine ⟨.ref s.heap.objs.size,upd H s.heap.objs.size (.tup [.int i,x]),I2,rfl,⟨_,x,hn,rfl,rfl,fun ys hy=>by rw [qh I hy hq]; exact hx⟩,⟨⟨v,by simpa using he2⟩,?_⟩,fun b hb=>?_⟩
  ·exact hst1.1.at fun o q=>(hs2.2 jt (Ne.symm hej)).trans q
  ·have nb:b ≠ s.heap.objs.size:=by
    obtain ⟨oj,hoj,_⟩:=hit.obj
    simp only [List.mem_cons,List.mem_nil_iff,or_false] at hb
    rcases hb with rfl | rfl
    ·exact Ne.symm eT
    ·exact Nat.ne_of_lt (Heap.lt_size hoj)
   rw [zt nb]; exact (hf b hb).1
 done:=by
  intro X hP hw hK hc i pins s σ H E I hf st hg
  subst hP hw hK
  obtain ⟨⟨old,he⟩,hit⟩:=st
  obtain ⟨xs,hq,hx⟩:=hg
  obtain ⟨its,rv,p⟩:=sB I hq
  have hl:=rv.length
  refine wpAny_pyNext_enum_endD (Z6 (A:=X.A.in1) (I.ok.hd hc) c jt a its.toArray (i:=i) (by simp; omega)) he ⟨rfl,hit,p⟩ fun h' eb=>⟨rfl,?_⟩
  exact Xk (fp:=[e,jt]) (t':=s.toks) I (fun b o hb q=>eb b o (fun z=>hb (by simp [z])) q) hf
 self:=fun _ _ _ _ _ st h=>by
  obtain ⟨⟨old,he⟩,_⟩:=st
  exact wpAny_pyIter_enum he h
section
variable {X:Cx} {elts:List Expr} {kt:Nat} {pt:Pos} {K:FG7}
def Tz (c:Bool) (K:FG7) (ta:TA):TI:=fun σ H R=>ta σ H fun vs H1=>∃ a xs,vs = [.ref a] /\ SqC c K H1 a xs /\ R (IteC c K a) H1
theorem WU {a:Expr} {ta:TA} {p pos:Pos} (c:Bool) (hK:X.K = K) (hg:Gl X "enumerate") (hm:X.mg "enumerate" = none) (ha:PA X [a] ta) (hs:starEach [a] X.env = [(false,eval a X.env)]:=by rfl) :
  PI X (.Tuple elts kt pt) (.Call (.Name "enumerate" p) [a] [] pos) (Tz c K ta):=by
 subst hK
 intro pins s σ H R I h
 refine Call_ (wE I hg hm Tx (PyProof.Rows.callWith_type1 (thn (ha pos pins s σ H _ I h) fun us s1 ⟨vs,H1,I1,r1,q1⟩=>?_) hs rfl))
 obtain ⟨t,xs,e,hq,q⟩:=q1
 subst e
 obtain ⟨u,rfl,e1⟩:=wK r1
 cases (show u = Value.ref t from e1)
 obtain ⟨its,rv,p⟩:=sB I1 hq
 refine Z7 p fun h' he hit _ hk=>?_
 refine wpAny_pyIter_enum he ?_
 have lt:t < s1.heap.objs.size:=p.lt
 have I2:Inv X pins σ H1 { s1 with heap:=h' }:=I1.kept (t':=s1.toks) hk
 refine ⟨s1.heap.objs.size + 1,[s1.heap.objs.size + 1,s1.heap.objs.size],_,_,H1,rfl,I2,Z8 c t (s1.heap.objs.size + 1) s1.heap.objs.size (Nat.succ_ne_self _) (Nat.ne_of_lt (Nat.lt_succ_of_lt lt)) (Nat.ne_of_lt lt),⟨⟨_,he⟩,hit⟩,fun b hb=>?_,q⟩
 simp only [List.mem_cons,List.mem_nil_iff,or_false] at hb
 rcases hb with rfl | rfl
 ·exact I1.fpOk (Nat.le_succ _) (I1.hok.fresh (Nat.le_succ _))
 ·exact I1.fpOk (Nat.le_refl _) (I1.hok.fresh (Nat.le_refl _))
end
section
variable {K:FG7} {a:Addr} {c:Bool} {xs:List V} {g:TG} {tt:TT} {te:TE} {tb:TS} {D:Ends} {Q:VK} {σ:L2.St} {H:Hp}
theorem Z9 (Pv:Nat -> List V -> L2.St -> Hp -> Prop) (h0:Pv 0 [] σ H) (hl:∀ i zs σ H,Pv i zs σ H -> SqC c K H a xs)
  (hs:∀ i x zs σ H T,xs[i]? = some x -> Pv i zs σ H -> H T = none -> g (.ref T) σ (upd H T (.tup [.int i,x])) fun σ2 H3=>tt σ2 H3 fun b H4=>if b = true then te σ2 H4 fun y H5=>zs.length < sizeLine /\ Pv (i + 1) (zs ++ [y]) σ2 H5 else Pv (i + 1) zs σ2 H4)
  (hd:∀ zs σ H,Pv xs.length zs σ H -> ∀ l,H l = none -> Q (.ref l) (upd H l (.lst zs))) :
  sv (IteC c K a) σ H g tt te Q:=by
 refine ⟨fun i m zs σ H=>m = xs.length - i /\ i <= xs.length /\ Pv i zs σ H,⟨xs.length,by simp,Nat.zero_le _,h0⟩,?_⟩
 rintro i m zs σ H ⟨rfl,hi,p⟩
 have q:=hl i zs σ H p
 by_cases hlt:i < xs.length
 ·refine .inr ⟨⟨xs,xs[i],q,by simp [hlt]⟩,Pv (i + 1),fun ws σ' H' p'=>⟨xs.length - (i + 1),by omega,rfl,hlt,p'⟩,fun x H' y=>?_⟩
  obtain ⟨T,v,hT,rfl,rfl,y1⟩:=y
  exact hs i v zs σ H T (y1 xs q) p hT
 ·have e:i = xs.length:=by omega
  subst e
  exact .inl ⟨⟨xs,q,Nat.le_refl _⟩,hd zs σ H p⟩
end
section
variable {X:Cx}
variable {K:FG7}
theorem sC {es:List Expr} {k:Nat} {pos:Pos} {t:TGs} (n:Nat) (h0:X.K = K) (hc:X.calm = true) (h:PGs X es t)
  (hn:(assignEach es X.env).length = n) (hst:(assignEach es X.env).findIdx? (·.1) = none):PG X (.Tuple es k pos) (gTup K n t):=by subst h0; exact xJ hc h hn hst
end
def InC (C:Int) (xs:List Int):Prop:=∀ v ∈ xs,-C <= v /\ v <= C
theorem InC.mono {B C:Int} {xs:List Int} (h:InC B xs) (hC:B <= C):InC C xs:=fun v hv=>by have:=h v hv; omega
theorem xS:∀ {ns:List Int} {us:List Value},IntsAre us ns -> Vals (ns.map V.int) us:=by
 intro ns us h
 induction h with
 | nil=>exact .nil
 | cons n t _ ih=>exact .cons ⟨t,rfl⟩ ih
section
variable {X:Cx} {K:FG7}
theorem qi (hK:X.K = K):xq X (.builtin "sorted") (fun xs H Q=>∃ (l:Addr) (ns:List Int),xs = [.ref l] /\ SqL K H l (ns.map V.int) /\ ns.length < 64 /\ ∀ (p:Addr) (ms:List Int),H p = none -> ms.Perm ns -> ms.Pairwise (· <= ·) -> Q (.ref p) (upd H p (.lst (ms.map V.int)))):=by
 subst hK
 intro pins s σ H xs us Q I r h
 obtain ⟨l,ns,rfl,hl,h64,q⟩:=h
 obtain ⟨u,rfl,rx⟩:=wK r
 cases (show u = Value.ref l from rx)
 obtain ⟨vs,rv,pl,hz⟩:=I.list hl
 have hlen:=rv.length
 rw [List.length_map] at hlen hz
 refine sorted_ints pl.isList (tm rv) (by omega) fun out ms i1 i2 i3=>?_
 obtain ⟨e,he⟩:=sortedAll_at s.heap vs out
 have hn:H (s.heap.objs.size + 1) = none:=I.hok.fresh (Nat.le_succ _)
 have rl:=xS i1
 refine ⟨.ref (s.heap.objs.size + 1),_,?_,rfl,q _ ms hn i2 i3⟩
 refine I.laid (t':=s.toks) (fun b o q=>sortedAll_old q) (Nat.le_succ _) (show z5 X.prog X.w _ _ _ (.lst (ms.map V.int)) from ⟨by rw [List.length_map,i2.length_eq]; exact hz,out.toList,e,rl,he⟩)
end
def vA (H:Hp) (a:Addr):Prop:=∃ p0 c t:Int,H a = some (.lst [.int p0,.int c,.int t]) /\ 0 <= p0
theorem vA.grow {H H':Hp} {a:Addr} (p:vA H a) (g:Grow [] H H'):vA H' a:=by
 obtain ⟨x,y,z,h,q⟩:=p
 exact ⟨x,y,z,g.keep _ _ (by simp) h,q⟩
theorem vA.new {H:Hp} {a l:Addr} (p:vA H a) (hl:H l = none) (o:HO):vA (upd H l o) a:=p.grow (Grow.new hl o)
theorem vA.ne {H:Hp} {a l:Addr} (p:vA H a) (h:H l = none):l ∉ [a]:=by
 intro z
 obtain ⟨x,y,w,hz,_⟩:=p
 rw [List.mem_singleton.mp z,hz] at h
 cases h
def SH (ns:List Int):List Int:=ns.mergeSort fun a b=>decide (a <= b)
def dupS:List Int -> Option Int
 | a :: b :: r=>if a = b then some a else dupS (b :: r)
 | _=>none
def TB (rows:List (List Int)) (l:Nat):List Int:=rows.map fun r=>r.getD l 0
def wQ (rows:List (List Int)) (l:Nat):Option Int:=dupS (SH (TB rows l))
def sD (k:Nat) (rows:List (List Int)) (o:Option (Nat × Int)):Prop:=match o with
 | none=>∀ l,l <= k -> wQ rows l = none
 | some (l,v)=>l <= k /\ wQ rows l = some v /\ ∀ j,j < l -> wQ rows j = none
theorem sD.one {k:Nat} {rows rows':List (List Int)} {o o':Option (Nat × Int)} (e:∀ l,wQ rows l = wQ rows' l) (h:sD k rows o) (h':sD k rows' o'):o = o':=by
 cases o with
 | none =>
  cases o' with
  | none=>rfl
  | some p =>
   obtain ⟨l,v⟩:=p
   have z:=h l h'.1
   rw [e,h'.2.1] at z; cases z
 | some p =>
  obtain ⟨l,v⟩:=p
  cases o' with
  | none =>
   have z:=h' l h.1
   rw [← e,h.2.1] at z; cases z
  | some p' =>
   obtain ⟨l',v'⟩:=p'
   obtain ⟨a1,a2,a3⟩:=h
   obtain ⟨b1,b2,b3⟩:=h'
   by_cases c:l < l'
   ·have z:=b3 l c
    rw [← e,a2] at z; cases z
   ·by_cases c2:l' < l
    ·have z:=a3 l' c2
     rw [e,b2] at z; cases z
    ·have:l = l':=by omega
     subst this
     rw [e,b2] at a2
     cases a2; rfl
def sE (k:Nat) (rows:List (List Int)):Prop:=rows.length = k /\ ∀ r ∈ rows,r.length = 2 ^ (k - 1) /\ ∀ b ∈ r,b = 0 \/ b = 1
mutual
inductive Dq (K:FG7) (H:Hp):V -> PyData -> Prop
 | non:Dq K H .non .none
 | bl (b:Bool):Dq K H (.bl b) (.bool b)
 | int (i:Int):Dq K H (.int i) (.int i)
 | str (x:Str):Dq K H (.str x) (.str x)
 | tup {a:Addr} {xs:List V} {ds:List PyData}:SqT K H a xs -> DqAll K H xs ds -> Dq K H (.ref a) (.tuple ds)
 | lst {a:Addr} {xs:List V} {ds:List PyData}:SqL K H a xs -> DqAll K H xs ds -> Dq K H (.ref a) (.list ds)
inductive DqAll (K:FG7) (H:Hp):List V -> List PyData -> Prop
 | nil:DqAll K H [] []
 | cons {x:V} {xs:List V} {d:PyData} {ds:List PyData}:Dq K H x d -> DqAll K H xs ds -> DqAll K H (x :: xs) (d :: ds)
end
theorem DqAll.len {K:FG7} {H:Hp}:∀ {xs:List V} {ds:List PyData},DqAll K H xs ds -> xs.length = ds.length
 | _,_,.nil=>rfl
 | _,_,.cons _ t=>congrArg (· + 1) (DqAll.len t)
theorem DqAll.app {K:FG7} {H:Hp}:∀ {xs:List V} {ds:List PyData} {ys:List V} {es:List PyData},DqAll K H xs ds -> DqAll K H ys es -> DqAll K H (xs ++ ys) (ds ++ es)
 | _,_,_,_,.nil,h=>h
 | _,_,_,_,.cons h t,g=>.cons h (DqAll.app t g)
theorem WV (n:Nat):(List.range n).all (fun _=>true) = true:=List.all_eq_true.mpr fun _ _=>rfl
def xN (k st a:Nat):Nat:=a ^^^ 2 ^ (k - st)
def nN (k st a:Nat):Nat:=(Z4 k a st).toNat
def lN (k h g n:Nat):Nat:=(Uu k h g n).toNat
theorem Xp:∀ k:Fin 5,∀ st:Fin 5,1 <= st.val -> st.val <= k.val -> ∀ a:Fin 16,a.val < 2 ^ k.val →
  (swI k.val st.val a.val = Z4 k.val a.val st.val /\ Z4 k.val a.val st.val = (nN k.val st.val a.val:Int) /\ nN k.val st.val a.val < 2 ^ (k.val - 1) /\ nN k.val st.val (xN k.val st.val a.val) = nN k.val st.val a.val) ∧
  (xN k.val st.val (xN k.val st.val a.val) = a.val /\ xN k.val st.val a.val ≠ a.val /\ xN k.val st.val a.val < 2 ^ k.val) ∧
  (wfI k.val st.val a.val (Builtin.bitXor (figI k.val st.val a.val) 0) = (a.val:Int) /\ wfI k.val st.val a.val (Builtin.bitXor (figI k.val st.val a.val) 1) = (xN k.val st.val a.val:Int)) ∧
  (Builtin.bitXor (figI k.val st.val a.val) (figI k.val st.val (xN k.val st.val a.val)) = 1 /\ Builtin.bitXor (figI k.val st.val a.val) (figI k.val st.val a.val) = 0) ∧
  ((Builtin.bitXor (figI k.val st.val a.val) 0 = 0 \/ Builtin.bitXor (figI k.val st.val a.val) 0 = 1) /\ (Builtin.bitXor (figI k.val st.val a.val) 1 = 0 \/ Builtin.bitXor (figI k.val st.val a.val) 1 = 1)):=by
 decide +kernel
theorem Xq:∀ k:Fin 5,∀ st:Fin 5,1 <= st.val -> st.val <= k.val -> ∀ a:Fin 16,a.val < 2 ^ k.val -> ∀ b:Fin 16,b.val < 2 ^ k.val -> nN k.val st.val a.val = nN k.val st.val b.val -> b.val = a.val \/ b.val = xN k.val st.val a.val:=by
 decide +kernel
structure OneF (k st a:Nat):Prop where
 sw:swI k st a = Z4 k a st
 num:Z4 k a st = (nN k st a:Int)
 lt:nN k st a < 2 ^ (k - 1)
 nx:nN k st (xN k st a) = nN k st a
 xx:xN k st (xN k st a) = a
 xne:xN k st a ≠ a
 xlt:xN k st a < 2 ^ k
 w0:wfI k st a (Builtin.bitXor (figI k st a) 0) = (a:Int)
 w1:wfI k st a (Builtin.bitXor (figI k st a) 1) = (xN k st a:Int)
 c1:Builtin.bitXor (figI k st a) (figI k st (xN k st a)) = 1
 c0:Builtin.bitXor (figI k st a) (figI k st a) = 0
 b0:Builtin.bitXor (figI k st a) 0 = 0 \/ Builtin.bitXor (figI k st a) 0 = 1
 b1:Builtin.bitXor (figI k st a) 1 = 0 \/ Builtin.bitXor (figI k st a) 1 = 1
theorem oneF {k st a:Nat} (k4:k <= 4) (s1:1 <= st) (s2:st <= k) (ha:a < 2 ^ k):OneF k st a:=by
 have p:=wx k4
 obtain ⟨⟨a1,a2,a3,a4⟩,⟨b1,b2,b3⟩,⟨c1,c2⟩,⟨d1,d2⟩,e1,e2⟩:=Xp ⟨k,by omega⟩ ⟨st,by omega⟩ s1 s2 ⟨a,by omega⟩ ha
 exact ⟨a1,a2,a3,a4,b1,b2,b3,c1,c2,d1,d2,e1,e2⟩
theorem twoF {k st a b:Nat} (k4:k <= 4) (s1:1 <= st) (s2:st <= k) (ha:a < 2 ^ k) (hb:b < 2 ^ k) (e:nN k st a = nN k st b):b = a \/ b = xN k st a:=by
 have p:=wx k4
 exact Xq ⟨k,by omega⟩ ⟨st,by omega⟩ s1 s2 ⟨a,by omega⟩ ha ⟨b,by omega⟩ hb e
def plOf (gs:List Nat):List (Nat × Nat):=(List.range gs.length).map fun h=>(h,gs.getD h 0)
def ui (k:Nat) (gs:List Nat):Prop:=gs.length = 2 ^ k /\ ∀ g ∈ gs,g < 2 ^ k
theorem ui.get {k:Nat} {gs:List Nat} (h:ui k gs) {i:Nat} (hi:i < 2 ^ k):gs.getD i 0 < 2 ^ k:=by
 rw [List.getD_eq_getElem?_getD,List.getElem?_eq_getElem (by rw [h.1]; exact hi)]
 exact h.2 _ (List.getElem_mem _)
def TC (k st:Nat) (q:Nat × Nat):Int:=Builtin.bitXor (figI k st (Uu k q.1 q.2 (st - 1))) (figI k st (Uu k q.1 q.2 st))
def TF (k st:Nat) (m:List Int) (q:Nat × Nat):List Int:=m.set (nN k st (lN k q.1 q.2 st)) (TC k st q)
def TH (k st:Nat) (pl:List (Nat × Nat)):List Int:=pl.foldl (TF k st) (List.replicate (2 ^ k / 2) 0)
def SI (k:Nat) (gs:List Nat):List (List Int):=(List.range k).map fun n=>TH k (n + 1) (plOf gs)
section
variable {X:Cx} {a:Expr} {ta:TA} {p p2 pos pos2:Pos}
def SJ (ta:TA):TE:=fun σ H Q=>ta σ H fun vs H1=>∃ n:Nat,vs = [.int n] /\ n <= 1000 /\ ∀ l,H1 l = none -> Q (.ref l) (upd H1 l (.lst ((List.range n).map fun i:Nat=>V.int i)))
theorem qj (hc:X.calm = true) (hgl:Gl X "list") (hml:X.mg "list" = none) (hgr:Gl X "range") (hmr:X.mg "range" = none) (ha:PA X [a] ta)
  (hs:starEach [a] X.env = [(false,eval a X.env)]:=by rfl) (hs2:starEach [(.Call (.Name "range" p2) [a] [] pos2:Expr)] X.env = [(false,eval (.Call (.Name "range" p2) [a] [] pos2) X.env)]:=by rfl) :
  PE X (.Call (.Name "list" p) [.Call (.Name "range" p2) [a] [] pos2] [] pos) (SJ ta):=by
 intro pins s σ H Q I h
 refine wpAny_Call_Name_kw (wE I hgl hml VA (PyProof.Rows.callWith_type1 ?_ hs2 rfl))
 rw [hs2]
 show wpAny _ _ (spliced [(false,eval (.Call (.Name "range" p2) [a] [] pos2) X.env)]) _ _ s
 refine Calls.spliced_cons ?_
 refine Call_ (wE I hgr hmr boot_range (PyProof.Rows.callWith_type1 (thn (ha pos2 pins s σ H _ I h) fun us s1 ⟨vs,H1,I1,r1,q1⟩=>?_) hs rfl))
 obtain ⟨n,e,hn,q⟩:=q1
 subst e
 obtain ⟨u,rfl,e1⟩:=wK r1
 obtain ⟨t,rfl⟩:=e1
 refine call_range_1 (Calls.spliced_nil ?_)
 have I2:Inv X pins σ H1 { s1 with heap:=s1.heap.push { cls:=.type "range",data:=.fields #[.int 0 s1.toks,.int n t,.int 1 (s1.toks + 1)] },toks:=s1.toks + 1 + 1 }:=I1.kept fun b o e=>Heap.get?_push_of_some _ e
 refine call_list_range (n:=n) (I.ok.hd hc) (IsRange.new ..) (small_one (by omega) (by omega) (by omega) (by omega)) (by rw [rangeSize_one]; split <;> omega) (by omega) fun h' tk acc c' hk hS hacc=>?_
 have hvr:Vals ((List.range n).map fun i:Nat=>V.int i) acc.toList:=by
  have hlen:acc.toList.length = n:=by rw [Array.length_toList]; exact hacc.1
  have key:∀ (m:Nat) (l:List Value) (j:Nat),l.length = m -> (∀ i v,l[i]? = some v -> ∃ t,v = Value.int ((j + i:Nat):Int) t) -> Vals ((List.range' j m).map fun i:Nat=>V.int i) l:=by
   intro m
   induction m with
   | zero =>
    intro l j hl _
    rw [List.length_eq_zero_iff.mp hl]
    exact .nil
   | succ m ih =>
    intro l j hl hv
    match l,hl,hv with
    | x :: l,hl,hv =>
     refine .cons ?_ (ih l (j + 1) (by simpa using hl) fun i v h=>?_)
     ·obtain ⟨t,e⟩:=hv 0 x rfl
      exact ⟨t,e⟩
     ·obtain ⟨t,e⟩:=hv (i + 1) v (by simpa using h)
      exact ⟨t,by rw [e,show j + (i + 1) = j + 1 + i by omega]⟩
  rw [List.range_eq_range']
  refine key n acc.toList 0 hlen fun i v h=>?_
  obtain ⟨t,e⟩:=hacc.2 i v (by rw [← h]; exact (Array.getElem?_toList).symm)
  exact ⟨t,by rw [e]; congr 1; omega⟩
 refine ⟨.ref (s1.heap.push { cls:=.type "range",data:=.fields #[.int 0 s1.toks,.int n t,.int 1 (s1.toks + 1)] }).objs.size,_,I2.laid (t':=tk) hk (Nat.le_refl _) (show z5 X.prog X.w _ h' _ (.lst ((List.range n).map fun i:Nat=>V.int i)) from ⟨by rw [List.length_map,List.length_range]; exact Nat.le_of_lt (zr hn),acc.toList,c',hvr,by simpa using hS⟩),rfl,q _ (I2.hok.fresh (Nat.le_refl _))⟩
end
def Bits (r:List Int):Prop:=∀ b ∈ r,b = 0 \/ b = 1
def yt (gs:List Nat):List V:=gs.map fun g:Nat=>V.int g
def TJ (K:FG7) (H:Hp) (x:V) (k:Nat) (gs:List Nat) (o:Option (Nat × Int)):Prop:=∃ (r:Addr) (s:Str) (y:V),x = .ref r /\ SqT K H r [.str s,y] /\ match o with
 | none=>s = "settings" /\ vw K H y (SI k gs)
 | some (l,v)=>s = "clash" /\ ∃ c,y = .ref c /\ SqT K H c [.int l,.int v]
theorem Grow.ans {m:List Addr} {H H':Hp} (g:Grow m H H') {K:FG7} {x:V} {k:Nat} {gs:List Nat} {o:Option (Nat × Int)} (h:TJ K H x k gs o):TJ K H' x k gs o:=by
 obtain ⟨r,s,y,e,z,w⟩:=h
 refine ⟨r,s,y,e,g.sqT z,?_⟩
 cases o with
 | none=>exact ⟨w.1,g.rows w.2⟩
 | some p =>
  obtain ⟨l,v⟩:=p
  obtain ⟨w1,c,e,z⟩:=w
  exact ⟨w1,c,e,g.sqT z⟩
theorem sE.bits {k n:Nat} {rows:List (List Int)} (h:sE k rows) (hn:n < k):(rows.getD n []).length = 2 ^ (k - 1) /\ Bits (rows.getD n []):=by
 have e:rows[n]? = some (rows.getD n []):=by rw [List.getD_eq_getElem?_getD,List.getElem?_eq_getElem (by rw [h.1]; exact hn)]; rfl
 exact h.2 _ (List.mem_of_getElem? e)
theorem ui.set {k:Nat} {gs:List Nat} (h:ui k gs) {j n:Nat} (hn:n < 2 ^ k):ui k (gs.set j n):=by
 refine ⟨by rw [List.length_set,h.1],fun g hg=>?_⟩
 rcases List.mem_or_eq_of_mem_set hg with z | rfl
 ·exact h.2 g z
 ·exact hn
section
variable {prog:Program} {w:World} {A:Around} {E:VS7} {s:Shared}
theorem WW {l:Addr} {us:List Value} {Q:List Value -> Shared -> Prop} (tu:s.heap.IsTuple l us.toArray) (hu:us.length <= sizeLine)
  (q:Q us { s with heap:=(s.heap.push (seqObj "list" #[] 0)).update s.heap.objs.size (Obj.mapSeq (· ++ us.toArray)) }):wpAny (model prog w) A (collect (.ref l)) Q E s:=by
 obtain ⟨ob,eo,ec,m,ed⟩:=id tu
 have eo2:(s.heap.push (seqObj "list" #[] 0)).get? l = some ob:=Heap.get?_push_of_some _ eo
 unfold collect
 refine wpAny_bind (wpAny_runValue (codeAny_builtin entry_proto_collect' (show wpAny _ _ (do again (.builtin "list.__iadd__" ⟨[← newList [],.ref l],[]⟩)) _ _ s from ?_)))
 refine wpAny_bind (wpAny_newList (wpAny_pure ⟨Code.quiet_builtin _ (by decide +kernel),codeAny_builtin entry_list_iadd' (show wpAny _ _ (Builtin.List.listExtendWith (.ref s.heap.objs.size) (.ref l) (.ref s.heap.objs.size)) _ _ { s with heap:=s.heap.push (seqObj "list" #[] 0) } from ?_)⟩))
 unfold Builtin.List.listExtendWith
 refine wpAny_bind (wpAny_typeOf (T:="tuple") ⟨ob,eo2,ec⟩ ?_)
 have k1:(Value.type "tuple" == Value.type "tuple") = true:=rfl
 rw [if_pos (by simp [k1])]
 refine wpAny_bind (listItems_at eo2 ed (wpAny_bind (listItems_at (xs:=#[]) (n:=0) (Heap.get?_push_size _ rfl) rfl ?_)))
 rw [if_neg (by simp)]
 refine wpAny_bind (listUpdate_at (xs:=#[]) (n:=0) (Heap.get?_push_size _ rfl) rfl (wpAny_pure ?_) (Nat.zero_le _) (by show (#[] ++ us.toArray).size <= sizeLine + 1; simp only [Array.size_append,List.size_toArray,List.length_nil]; omega))
 refine wpAny_bind (wpAny_load (get?_update_seq (Heap.get?_push_size _ rfl) _) ?_)
 show wpAny _ _ (pure ((#[]:Array Value) ++ us.toArray).toList) Q E _
 rw [show ((#[]:Array Value) ++ us.toArray).toList = us by simp]
 exact wpAny_pure q
theorem Ya {l:Addr} {us:List Value} {ns:List Int} {Q:VS7} (tu:s.heap.IsTuple l us.toArray) (iu:IntsAre us ns) (u64:us.length < 64)
  (q:∀ (out:Array Value) (ms:List Int),IntsAre out.toList ms -> ms.Perm ns -> ms.Pairwise (· <= ·) -> Q (.ref (s.heap.objs.size + 1)) { s with heap:=sortedAll s.heap us out }) :
  wpAny (model prog w) A (call (.builtin "sorted") [.ref l]) Q E s:=by
 refine Calls.call_function_entry kind_sorted plain_sorted entry_sorted (args_sorted1 _) ?_
 unfold Builtin.«sorted»
 refine wpAny_bind (m:=checkCount "sorted" 1 1 _) (wpAny_pure (wpAny_bind (WW tu (by rw [sizeLine_eq]; omega) (wpAny_bind (wpAny_newList ?_)))))
 have e1:((s.heap.push (seqObj "list" #[] 0)).update s.heap.objs.size (Obj.mapSeq (· ++ us.toArray))).objs.size = s.heap.objs.size + 1:=by rw [Heap.size_update,size_push']
 have e2:(((s.heap.push (seqObj "list" #[] 0)).update s.heap.objs.size (Obj.mapSeq (· ++ us.toArray))).push (seqObj "list" us.toArray 0)).get? (s.heap.objs.size + 1) = some (seqObj "list" us.toArray 0):=by
  rw [← e1]; exact Heap.get?_push_size _ rfl
 show wpAny _ _ _ _ _ { s with heap:=((s.heap.push (seqObj "list" #[] 0)).update s.heap.objs.size (Obj.mapSeq (· ++ us.toArray))).push (seqObj "list" us.toArray 0) }
 rw [e1]
 refine wpAny_bind (wpAny_holding (wpAny_call_entry slot_list_sort ⟨_,e2,rfl⟩ entry_list_sort (list_sort_tree e2 iu u64 fun out ms b1 b2 b3=>⟨_,rfl,wpAny_pure ⟨_,rfl,q out ms b1 b2 b3⟩⟩) (args_list_sort _)))
end
section
variable {X:Cx} {K:FG7}
theorem qk (hK:X.K = K):xq X (.builtin "sorted") (fun xs H Q=>∃ (l:Addr) (ns:List Int),xs = [.ref l] /\ SqT K H l (ns.map V.int) /\ ns.length < 64 /\ ∀ (p:Addr) (ms:List Int),H p = none -> ms.Perm ns -> ms.Pairwise (· <= ·) -> Q (.ref p) (upd H p (.lst (ms.map V.int)))):=by
 subst hK
 intro pins s σ H xs us Q I r h
 obtain ⟨l,ns,rfl,hl,h64,q⟩:=h
 obtain ⟨u,rfl,rx⟩:=wK r
 cases (show u = Value.ref l from rx)
 obtain ⟨vs,rv,pl,hz⟩:=I.tuple hl
 have hlen:=rv.length
 rw [List.length_map] at hlen hz
 refine Ya pl (tm rv) (by omega) fun out ms i1 i2 i3=>?_
 obtain ⟨e,he⟩:=sortedAll_at s.heap vs out
 have hn:H (s.heap.objs.size + 1) = none:=I.hok.fresh (Nat.le_succ _)
 have rl:=xS i1
 refine ⟨.ref (s.heap.objs.size + 1),_,?_,rfl,q _ ms hn i2 i3⟩
 refine I.laid (t':=s.toks) (fun b o q=>sortedAll_old q) (Nat.le_succ _) (show z5 X.prog X.w _ _ _ (.lst (ms.map V.int)) from ⟨by rw [List.length_map,i2.length_eq]; exact hz,out.toList,e,rl,he⟩)
def ItrD (lo:Int) (n:Nat):It:=⟨fun i _=>i < n,fun i H x H'=>H' = H /\ x = .int (lo - i),fun i _=>n <= i⟩
theorem jv {P:Program} {w:World} {K:FG7} {tg:Expr} (it:Addr) (lo:Int) (n:Nat):Turn P w K tg (ItrD lo n) [it] it (fun i h=>IsRangeIter h it (lo + (i:Nat) * (-1)) ((n:Int) - (i:Nat)) (-1)) where
 mem:=by simp
 obj:=fun i h st b hb=>by
  obtain rfl:b = it:=by simpa using hb
  refine ⟨_,st,fun v z=>?_⟩
  have z':Data.fields _ = Data.cell v:=z
  cases z'
 keep:=fun i h h' st k=>k it (by simp) _ st
 item:=by
  intro X hP hw hK hc i pins s σ H E I hf st hg
  subst hP hw hK
  obtain ⟨f0,f1,f2,f3,f4,f5⟩:=hf it (by simp)
  have W:=Walks.range (prog:=X.prog) (w:=X.w) (I.ok.hd hc) it lo (-1) n
  refine W.item i s _ _ hg st fun v h' tk hv st' kk=>?_
  obtain ⟨t,rfl⟩:=hv
  have J:Inv X pins σ H { s with heap:=h',toks:=tk }:=I.turned (fun b o hb e=>kk b o (by simpa using hb) e) f0 f1 f3 f4 f5
  refine ⟨_,rfl,Wv (s:={ s with heap:=h',toks:=tk }) (n:="range_iterator") st' rfl rfl (by decide) ⟨.int (lo - i),H,J,⟨t,?_⟩,⟨rfl,rfl⟩,st',fun b hb=>(hf b hb).1⟩⟩
  rw [show lo + (i:Int) * (-1) = lo - i by omega]
 done:=by
  intro X hP hw hK hc i pins s σ H E I hf st hg
  subst hP hw hK
  obtain ⟨f0,f1,f2,f3,f4,f5⟩:=hf it (by simp)
  exact wpAny_pyNext_range_end (I.ok.hd hc) st (by have:n <= i:=hg; omega) fun h' eb=>⟨rfl,I.turned (t':=s.toks) (fun b o hb e=>eb b o hb e) f0 f1 f3 f4 f5⟩
 self:=fun _ _ _ _ _ st h=>wpAny_pyIter_rangeiter st h
theorem TK (a b:Int):Builtin.Range.rangeSize a b (-1) = ((a - b).toNat:Int):=by
 unfold Builtin.Range.rangeSize
 simp only [show ¬ ((-1:Int) > 0) by decide,if_false,show (- -1:Int) = 1 from rfl,Int.ediv_one]
 split <;> omega
theorem TL {a b:Int} (h1:-1000 <= a) (h2:a <= 1000) (h3:-1000 <= b) (h4:b <= 1000):Builtin.Range.small a b (-1) = true:=by
 unfold Builtin.Range.small
 rw [TK]
 simp only [Builtin.Range.rangeFitsLong,Bool.and_eq_true,Bool.or_eq_true,decide_eq_true_eq,beq_iff_eq,show ¬ ((-1:Int) > 0) by decide,if_false]
 omega
def SK (ta:TA):TI:=fun σ H R=>ta σ H fun vs H1=>∃ i j:Int,vs = [.int i,.int j,.int (-1)] /\ -1000 <= i /\ i <= 1000 /\ -1000 <= j /\ j <= 1000 /\ R (ItrD i (i - j).toNat) H1
theorem Xr {tg a b c:Expr} {ta:TA} {p pos:Pos} (hg:Gl X "range") (hm:X.mg "range" = none) (ha:PA X [a,b,c] ta)
  (hs:starEach [a,b,c] X.env = [(false,eval a X.env),(false,eval b X.env),(false,eval c X.env)]:=by rfl) (hs2:starEach [b,c] X.env = [(false,eval b X.env),(false,eval c X.env)]:=by rfl) :
  PI X tg (.Call (.Name "range" p) [a,b,c] [] pos) (SK ta):=by
 intro pins s σ H R I h
 refine Call_ (wE I hg hm boot_range (PyProof.Rows.callWith_type1 (thn (ha pos pins s σ H _ I h) fun us s1 ⟨vs,H1,I1,r1,q1⟩=>?_) (by rw [hs,hs2]) (by rw [hs2]; rfl)))
 obtain ⟨i,j,e,b1,b2,b3,b4,q⟩:=q1
 subst e
 cases r1 with
 | cons r rr =>
  cases rr with
  | cons r' rr =>
   cases rr with
   | cons r'' rr =>
    cases rr
    obtain ⟨t,rfl⟩:=r
    obtain ⟨t',rfl⟩:=r'
    obtain ⟨t'',rfl⟩:=r''
    refine call_range_3 (by decide) ?_ (Or.inl (PyProof.noPylong_small (by omega)))
    refine wpAny_pyIter_range (IsRange.new ..) (TL b1 b2 b3 b4) ?_
    have I2:Inv X pins σ H1 { s1 with heap:=s1.heap.push { cls:=.type "range",data:=.fields #[.int i t,.int j t',.int (-1) t''] },toks:=s1.toks }:=I1.kept fun b o e=>Heap.get?_push_of_some _ e
    refine ⟨(s1.heap.push { cls:=.type "range",data:=.fields #[.int i t,.int j t',.int (-1) t''] }).objs.size,[(s1.heap.push { cls:=.type "range",data:=.fields #[.int i t,.int j t',.int (-1) t''] }).objs.size],_,_,H1,rfl,
     I2.kept (t':=s1.toks) fun b o e=>Heap.get?_push_of_some _ e,jv _ i (i - j).toNat,?_,fun b hb=>?_,q⟩
    ·show IsRangeIter _ _ (i + ((0:Nat):Int) * (-1)) ((((i - j).toNat:Nat):Int) - ((0:Nat):Int)) (-1)
     rw [show i + ((0:Nat):Int) * (-1) = i by simp,show (((i - j).toNat:Nat):Int) - ((0:Nat):Int) = Builtin.Range.rangeSize i j (-1) by rw [TK]; simp]
     exact Heap.get?_push_size _ rfl
    ·obtain rfl:b = (s1.heap.push { cls:=.type "range",data:=.fields #[.int i t,.int j t',.int (-1) t''] }).objs.size:=by simpa using hb
     exact I2.fpOk (Nat.le_refl _) (I2.hok.fresh (Nat.le_refl _))
theorem Yb {lo:Int} {n:Nat} {g:TG} {tb:TS} {D:Ends} {σ:L2.St} {H:Hp} (Pv:Nat -> L2.St -> Hp -> Prop) (h0:Pv 0 σ H)
  (hs:∀ i σ H,i < n -> Pv i σ H -> g (.int (lo - i)) σ H fun σ2 H2=>tb { D with nx:=Pv (i + 1),ct:=Pv (i + 1),bk:=D.nx } σ2 H2) (hd:∀ σ H,Pv n σ H -> D.nx σ H) :
  ∃ W:Nat -> Nat -> L2.St -> Hp -> Prop,(∃ m,W 0 m σ H) /\ ∀ i m σ H,W i m σ H →
   ((ItrD lo n).stop i H /\ D.nx σ H) \/ ((ItrD lo n).go i H /\ ∃ N:L2.St -> Hp -> Prop,(∀ σ' H',N σ' H' -> ∃ m',m' < m /\ W (i + 1) m' σ' H') /\ ∀ x H',(ItrD lo n).yld i H x H' -> g x σ H' fun σ2 H2=>tb { D with nx:=N,ct:=N,bk:=D.nx } σ2 H2):=by
 refine ⟨fun i m σ H=>m = n - i /\ i <= n /\ Pv i σ H,⟨n,by simp,Nat.zero_le _,h0⟩,?_⟩
 rintro i m σ H ⟨rfl,hi,p⟩
 by_cases c:i < n
 ·refine .inr ⟨c,Pv (i + 1),fun σ' H' p'=>⟨n - (i + 1),by omega,rfl,c,p'⟩,?_⟩
  rintro x H' ⟨rfl,rfl⟩
  exact hs i σ _ c p
 ·obtain rfl:i = n:=by omega
  exact .inl ⟨Nat.le_refl _,hd σ H p⟩
end
def wfN (k s l:Nat) (w:Int):Nat:=(wfI k s l w).toNat
theorem Xs:∀ k:Fin 5,∀ s:Fin 5,1 <= s.val -> s.val <= k.val -> ∀ l:Fin 16,l.val < 2 ^ k.val -> ∀ w:Fin 2,
  (wfI k.val s.val l.val w.val = (wfN k.val s.val l.val w.val:Int) /\ wfN k.val s.val l.val w.val < 2 ^ k.val /\ figI k.val s.val (wfN k.val s.val l.val w.val) = w.val) /\ ∀ t:Fin 5,t.val <= k.val -> t.val ≠ s.val -> figI k.val t.val (wfN k.val s.val l.val w.val) = figI k.val t.val l.val:=by
 decide +kernel
theorem tG:∀ k:Fin 5,∀ l:Fin 16,l.val < 2 ^ k.val -> (∀ t:Fin 5,figI k.val t.val l.val = 0 \/ figI k.val t.val l.val = 1) /\ ∀ m:Fin 16,m.val < 2 ^ k.val -> (∀ t:Fin 5,1 <= t.val -> t.val <= k.val -> figI k.val t.val l.val = figI k.val t.val m.val) -> l = m:=by
 decide +kernel
structure WfF (k s l:Nat) (w:Int):Prop where
 eq:wfI k s l w = (wfN k s l w:Int)
 lt:wfN k s l w < 2 ^ k
 at_:figI k s (wfN k s l w) = w
 off:∀ t:Nat,t <= k -> t ≠ s -> figI k t (wfN k s l w) = figI k t l
theorem wfF {k s l:Nat} {w:Int} (k4:k <= 4) (s1:1 <= s) (s2:s <= k) (hl:l < 2 ^ k) (hw:w = 0 \/ w = 1):WfF k s l w:=by
 have p:=wx k4
 have z:=Xs ⟨k,by omega⟩ ⟨s,by omega⟩ s1 s2 ⟨l,by omega⟩ hl
 rcases hw with rfl | rfl
 ·exact ⟨(z 0).1.1,(z 0).1.2.1,(z 0).1.2.2,fun t ht hn=>(z 0).2 ⟨t,by omega⟩ ht hn⟩
 ·exact ⟨(z 1).1.1,(z 1).1.2.1,(z 1).1.2.2,fun t ht hn=>(z 1).2 ⟨t,by omega⟩ ht hn⟩
theorem TM {k t l:Nat} (k4:k <= 4) (ht:t <= k) (hl:l < 2 ^ k):figI k t l = 0 \/ figI k t l = 1:=by
 have p:=wx k4
 exact (tG ⟨k,by omega⟩ ⟨l,by omega⟩ hl).1 ⟨t,by omega⟩
theorem sF {k l m:Nat} (k4:k <= 4) (hl:l < 2 ^ k) (hm:m < 2 ^ k) (h:∀ t:Nat,1 <= t -> t <= k -> figI k t l = figI k t m):l = m:=by
 have p:=wx k4
 have z:=(tG ⟨k,by omega⟩ ⟨l,by omega⟩ hl).2 ⟨m,by omega⟩ hm fun t h1 h2=>h t.val h1 h2
 exact congrArg Fin.val z
theorem sG {k i:Nat} {n:Int} (hi:i < k):(wP k n)[i]? = some (figI k ((i + 1:Nat):Int) n):=by
 unfold wP figI
 rw [List.getElem?_map,List.getElem?_range (by rw [Int.toNat_natCast]; exact hi)]
 show some (Builtin.bitAnd (n / 2 ^ _) 1) = _
 congr 4
 omega
theorem Zr {k:Nat} {n:Int}:(wP k n).length = k:=by unfold wP; rw [List.length_map,List.length_range,Int.toNat_natCast]
def mixN (k e x t:Nat):Nat:=(numL ((wP k e).take (t - 1) ++ (wP k x).drop t)).toNat
theorem VG {k e x l t:Nat} (t1:1 <= t) (tk:t <= k) (h1:∀ u:Nat,1 <= u -> u < t -> figI k u l = figI k u e) (h2:∀ u:Nat,t < u -> u <= k -> figI k u l = figI k u x):nN k t l = mixN k e x t:=by
 unfold nN Z4 mixN
 have a:(wP k (l:Int)).take (t - 1) = (wP k (e:Int)).take (t - 1):=by
  refine List.ext_getElem? fun i=>?_
  by_cases hi:i < t - 1
  ·rw [List.getElem?_take_of_lt hi,List.getElem?_take_of_lt hi,sG (by omega),sG (by omega),h1 (i + 1) (by omega) (by omega)]
  ·rw [List.getElem?_eq_none (by rw [List.length_take]; omega),List.getElem?_eq_none (by rw [List.length_take]; omega)]
 have b:(wP k (l:Int)).drop t = (wP k (x:Int)).drop t:=by
  refine List.ext_getElem? fun i=>?_
  rw [List.getElem?_drop,List.getElem?_drop]
  by_cases hi:t + i < k
  ·rw [sG hi,sG hi,h2 (t + i + 1) (by omega) (by omega)]
  ·rw [List.getElem?_eq_none (by rw [Zr]; omega),List.getElem?_eq_none (by rw [Zr]; omega)]
 rw [a,b]
def fstI (rows:List (List Int)) (t n:Nat):Int:=(rows.getD (t - 1) []).getD n 0
theorem TN {k t l:Nat} {rows:List (List Int)} (k4:k <= 4) (hs:sE k rows) (t1:1 <= t) (tk:t <= k) (hl:l < 2 ^ k):fstI rows t (nN k t l) = 0 \/ fstI rows t (nN k t l) = 1:=by
 have b:=hs.bits (show t - 1 < k by omega)
 have O:=oneF k4 t1 tk hl
 exact b.2 _ (List.mem_of_getElem? (Ur (by rw [b.1]; exact O.lt)))
def LsR (H:Hp) (x:V) (row:List Int):Prop:=∃ r,x = .ref r /\ H r = some (.lst (row.map V.int))
def LsB (H:Hp) (x:V) (rows:List (List Int)):Prop:=∃ l xs,x = .ref l /\ H l = some (.lst xs) /\ AllR (LsR H) xs rows
def LsN (a:Addr) (H:Hp) (x:V) (row:List Int):Prop:=∃ r,x = .ref r /\ r ∉ [a] /\ H r = some (.lst (row.map V.int))
def LsA (a:Addr) (H:Hp) (x:V) (rows:List (List Int)):Prop:=∃ l xs,x = .ref l /\ l ∉ [a] /\ H l = some (.lst xs) /\ AllR (LsN a H) xs rows
theorem LsA.b {a:Addr} {H:Hp} {x:V} {rows:List (List Int)} (h:LsA a H x rows):LsB H x rows:=by
 obtain ⟨l,xs,e,n,z,w⟩:=h
 exact ⟨l,xs,e,z,w.imp fun _ _ ⟨r,e,_,z⟩=>⟨r,e,z⟩⟩
theorem Uv {a b:Nat}:Builtin.bitAnd (a:Int) (b:Int) = ((a &&& b:Nat):Int):=by
 unfold Builtin.bitAnd
 rw [decide_eq_true (Int.natCast_nonneg a),decide_eq_true (Int.natCast_nonneg b)]; rfl
def sd (k a:Nat):Nat:=if h:a = 0 \/ k = 0 then 0 else a % 2 ^ k ^^^ sd k (a / 2 ^ k)
termination_by a
decreasing_by
 have:a ≠ 0:=fun e=>h (.inl e)
 exact Nat.div_lt_self (by omega) (Nat.one_lt_two_pow (fun e=>h (.inr e)))
theorem WX {α:Type} {n:Nat} {x:α}:(List.replicate n [x]).flatten = List.replicate n x:=by
 induction n with
 | zero=>rfl
 | succ n ih=>rw [List.replicate_succ,List.flatten_cons,ih,List.replicate_succ]; rfl
def uj (K:FG7) (H:Hp) (f:Addr) (rows:List (List Int)):Prop:=∃ xs,H f = some (.lst xs) /\ AllR (zV K H) xs rows
theorem uj.grow {K:FG7} {H H':Hp} {f:Addr} {rows:List (List Int)} (h:uj K H f rows) (g:Grow [] H H'):uj K H' f rows:=by
 obtain ⟨xs,e,a⟩:=h
 exact ⟨xs,g.keep _ _ (by simp) e,g.boardsR a⟩
theorem uj.ne {K:FG7} {H:Hp} {f r:Addr} {rows:List (List Int)} (h:uj K H f rows) (e:H r = none):r ≠ f:=by
 obtain ⟨xs,e',_⟩:=h
 intro z; rw [z,e'] at e; cases e
theorem uj.set {K:FG7} {H:Hp} {f:Addr} {rows:List (List Int)} {xs:List V} (e:H f = some (.lst xs)) (a:AllR (zV K H) xs rows):uj K H f rows:=⟨xs,e,a⟩
structure CScC (X:Cx) (scope:Scope) (N':List Str) (sub:List (Option Nat)):Prop where
 free:∀ y ∈ scope.names,y.2 = .free -> X.env.kindOf y.1 = some .cell
 nd:(scope.names.map (·.1)).Nodup
 kind:scope.kind = .function
 names:∀ y ∈ scope.names,y.2 = .local -> scope.names.lookup y.1 = some .local
 len:sub.length = N'.length
 cap:∀ (j:Nat) (y:Str) (i:Nat),N'[j]? = some y -> sub[j]? = some (some i) -> X.N[i]? = some y /\ X.env.scope.names.lookup y = some .cell /\ scope.names.lookup y = some .free
section
variable {X:Cx} {scope:Scope} {N':List Str} {sub:List (Option Nat)} {tg:Expr} {pos:Pos} {elt iter:Expr} {ifs:List Expr} {wi:TI} {g:TG} {tt:TT} {te:TE}
theorem CScC.clos {pins:List (Addr × Obj)} {σ:L2.St} {H:Hp} {s:Shared} (S:CScC X scope N' sub) (I:Inv X pins σ H s):∃ cl,closureFor scope X.env = pure cl /\ (∀ x c,cl.lookup x = some c -> X.env.cells.lookup x = some c) /\ ∀ y ∈ scope.names,y.2 = .free -> ∃ c,cl.lookup y.1 = some c :=
 tz fun y hy hf=>I.ok.has y.1 (.inl (S.free y hy hf))
end
theorem CScC.of {X:Cx} {scope:Scope} {N':List Str} {sub:List (Option Nat)} (sc:Scope) (NN:List Str) (e:X.env.scope = sc) (en:X.N = NN)
  (h:((scope.names.all fun y=>(y.2 != .free || sc.names.lookup y.1 == some .cell) && (y.2 != .local || scope.names.lookup y.1 == some .local)) && (sub.length == N'.length) &&
   ((N'.zip sub).all fun p=>match p.2 with | none=>true | some i=>NN[i]? == some p.1 && sc.names.lookup p.1 == some .cell && scope.names.lookup p.1 == some .free)) = true)
  (nd:(scope.names.map (·.1)).Nodup) (hk:scope.kind = .function):CScC X scope N' sub:=by
 rw [Bool.and_eq_true,Bool.and_eq_true] at h
 obtain ⟨⟨h1,h2⟩,h3⟩:=h
 have k1:=fun y hy=>List.all_eq_true.mp h1 y hy
 refine ⟨fun y hy hf=>?_,nd,hk,fun y hy hl=>?_,by simpa using h2,fun j y i hj hs=>?_⟩
 ·have:=k1 y hy
  simp only [hf,Bool.and_eq_true] at this
  have z:=this.1
  show X.env.scope.names.lookup y.1 = _
  rw [e]; simpa using z
 ·have:=k1 y hy
  simp only [hl,Bool.and_eq_true] at this
  simpa using this.2
 ·have hm:(y,some i) ∈ N'.zip sub:=by
   have:(N'.zip sub)[j]? = some (y,some i):=by
    rw [List.getElem?_zip_eq_some]; exact ⟨hj,hs⟩
   exact List.mem_of_getElem? this
  have:=List.all_eq_true.mp h3 _ hm
  simp only [Bool.and_eq_true,beq_iff_eq] at this
  rw [e,en]
  exact ⟨this.1.1,this.1.2,this.2⟩
theorem Tw.at {ds:List Deed} (h:Tw ds) {i:Nat} (hi:i < ds.length):(ds.getD i look).Ok:=h _ (List.mem_of_getElem? (SF hi))
structure MixOk (m:List Nat):Prop where
 nd:m.Nodup
 lt:∀ j ∈ m,j < m.length
 has:∀ j,j < m.length -> j ∈ m
theorem MixOk.of {m:List Nat} {n:Nat} (h:m.Perm (List.range n)):MixOk m /\ m.length = n:=by
 have hl:m.length = n:=by rw [h.length_eq,List.length_range]
 refine ⟨⟨(h.nodup_iff).mpr List.nodup_range,fun j hj=>?_,fun j hj=>?_⟩,hl⟩
 ·rw [hl]; exact List.mem_range.mp (h.mem_iff.mp hj)
 ·exact h.mem_iff.mpr (List.mem_range.mpr (by omega))
theorem MixOk.at {m:List Nat} (h:MixOk m) {j:Nat} (hj:j < m.length):m.idxOf j < m.length /\ m.getD (m.idxOf j) 0 = j:=by
 have hl:=List.idxOf_lt_length_of_mem (h.has j hj)
 refine ⟨hl,?_⟩
 rw [List.getD_eq_getElem?_getD,List.getElem?_eq_getElem hl]
 exact List.getElem_idxOf hl
section
variable {X:Cx} {K:FG7} {a b:Expr} {ta:TA} {p p2 pos pos2:Pos}
theorem SqC.grow {c:Bool} {H H':Hp} {a:Addr} {xs:List V} (g:Grow [] H H') (h:SqC c K H a xs):SqC c K H' a xs:=by
 cases c
 ·exact g.sqL h
 ·exact g.sqT h
end
open PySem PySem.Spec PyProof.Rows L2 HT
section
variable {prog:Program} {w:World} {A:Around} {E:VS7} {s:Shared}
theorem WY (l b:Addr) (us ws:Array Value) (n m:Nat) (d1 d2:Option Addr) (e1 e2:Array (Option Value)) (h0:us.isEmpty = true) :
  Meets (Builtin.«tuple.__add__» ⟨[.ref l,.ref b],[]⟩) (fun _ R s=>s.heap.get? l = some ⟨.type "tuple",d1,.seq us n,e1⟩ /\ s.heap.get? b = some ⟨.type "tuple",d2,.seq ws m,e2⟩ /\ R (.ok (.ret (.ref b))) s) :=
 .of_wp fun P w A R s h=>by
  obtain ⟨hh,gg,dd,tk,os⟩:=s
  obtain ⟨eL,eT,q⟩:=h
  have k1:=PySem.AutoSeq1.sub_tuple_tuple
  wp_walk using PySem.AutoSeq1.wpAny_loadPart' eL,PySem.AutoSeq1.wpAny_loadPart' eT
  exact ⟨_,rfl,q⟩
theorem WZ {t b:Addr} {vs ws:List Value} {Q:VS7} (ht:IsTup s.heap t vs.toArray) (hb:IsTup s.heap b ws.toArray) (hv:vs = []) (h1:Q (.ref b) s):wpAny (model prog w) A (binaryOp .Add (.ref t) (.ref b)) Q E s:=by
 obtain ⟨⟨c1,d1,x1,l1⟩,ho,hc,n,hd⟩:=id ht
 obtain ⟨⟨c2,d2,x2,l2⟩,ho2,hc2,m,hd2⟩:=id hb
 cases hc
 cases hd
 cases hc2
 cases hd2
 exact concat_meets ⟨_,ho,rfl⟩ ⟨_,ho2,rfl⟩ noFill_tuple_add seq_tuple_add PySem.F.slot_tuple_add PySem.F.entry_tuple_add (PySem.F.args_tuple_add_2 _ _) (WY t b vs.toArray ws.toArray n m d1 d2 l1 l2 (by simp [hv])) ⟨ho,ho2,h1⟩
end
section
variable {X:Cx} {K:FG7}
def SL (K:FG7):R2:=fun x y H Q=>∃ a b xs ys,x = .ref a /\ y = .ref b /\ SqT K H a xs /\ SqT K H b ys /\ xs.length + ys.length <= sizeLine /\ ∀ p H',Grow [] H H' -> SqT K H' p (xs ++ ys) -> Q (.ref p) H'
theorem jw (hK:X.K = K):OpR X (binaryOp .Add) (SL K):=by
 subst hK
 intro pins s σ H x y v u Q I rx ry h
 obtain ⟨a,b,xs,ys,rfl,rfl,ha,hb,hz,q⟩:=h
 by_cases hx:xs = []
 ·cases rx
  cases ry
  obtain ⟨its,r1,p1,_⟩:=I.tuple ha
  obtain ⟨its2,r2,p2,_⟩:=I.tuple hb
  exact WZ p1 p2 (r1.nil_iff.mpr hx) ⟨.ref b,H,I,rfl,q b H (Grow.refl _ _) (by rw [hx]; exact hb)⟩
 ·exact Ue pins s σ H _ _ v u Q I rx ry ⟨a,b,xs,ys,rfl,rfl,ha,hb,hx,hz,fun e=>q a H (Grow.refl _ _) (by rw [e,List.append_nil]; exact ha),fun _ p hp=>q p _ (Grow.new hp _) (SqT.of ze)⟩
end
def zx (P:Program) (w:World) (K:FG7) (mg:Str -> Option Value) (base:Heap) (C:Addr) (k:Nat) (m:Str) (ps:List Str) (sp:Sp):Prop :=
 ∃ (f:Addr) (fd:FuncData),FnOk P w K mg base CX0 k f fd ps sp /\ xA K fd ps [] /\ Meth K C m f
def xD (P:Program) (w:World) (K:FG7) (mg:Str -> Option Value) (base:Heap) (C:Addr) (k:Nat) (ps:List Str) (sp:Sp):Prop :=
 ∃ (j:Nat) (f:Addr) (fd:FuncData),j + 1 = k /\ FnOk P w K mg base CX0 j f fd ps sp /\ xA K fd ps [] /\ Mk K C f
section
variable {P:Program} {w:World} {K:FG7} {mg:Str -> Option Value} {base:Heap} {C:Addr} {j k:Nat} {m:Str} {ps:List Str} {sp:Sp}
theorem zx.mono (c:zx P w K mg base C j m ps sp) (h:j <= k):zx P w K mg base C k m ps sp:=by
 obtain ⟨f,fd,F,b,mt⟩:=c
 exact ⟨f,fd,F.mono h,b,mt⟩
theorem xD.mono (c:xD P w K mg base C j ps sp) (h:j <= k):xD P w K mg base C k ps sp:=by
 obtain ⟨i,f,fd,e,F,b,mt⟩:=c
 exact ⟨k - 1,f,fd,by omega,F.mono (by omega),b,mt⟩
theorem zx.make {f0:Addr} (c:zx P w K mg base C k "__init__" ps sp) (mt:Mk K C f0):xD P w K mg base C (k + 1) ps sp:=by
 obtain ⟨f,fd,F,b,m⟩:=c
 have e:=m.at_
 rw [mt.init] at e
 cases e
 exact ⟨k,f0,fd,rfl,F,b,mt⟩
end
section
variable {X:Cx} {K:FG7} {C:Addr} {k:Nat} {m x:Str} {ps:List Str} {sp:Sp} {o e:Expr} {es:List Expr} {ta:TE} {t:TA} {apos pos p:Pos} {f:Str}
theorem z6 {pl:Sem Bool} (c:zx X.prog X.w X.K X.mg X.base C k m ps sp) (cl:Cls X.K C) (hr:Room k X.A) (he:PE X o ta) (ha:PA X (e :: es) t)
  (hst:starEach (e :: es) X.env = (false,eval e X.env) :: starEach es X.env:=by rfl) (hpl:(backTo pos (starEach es X.env)).any (·.1) = false:=by rfl)
  (ht:eval (.Call (.Attribute o m apos) (e :: es) [] pos) X.env = (do
   let ov ← eval o X.env
   standAt apos.atName
   let (f,first) ← holding [ov] (getMethod ov m pl)
   callWith pos f first (backTo pos (starEach (e :: es) X.env)) (backToKw pos (keywordEach [] X.env))):=by rfl) :
  PE X (.Call (.Attribute o m apos) (e :: es) [] pos) (Y2 C m sp [] E0 ta t):=by
 obtain ⟨f,fd,F,b,mt⟩:=c
 exact V9 he cl mt F hr b .nil Y9 ha hst hpl ht
theorem xT {pl:Sem Bool} (c:zx X.prog X.w X.K X.mg X.base C k m ps sp) (cl:Cls X.K C) (hr:Room k X.A) (he:PE X o ta)
  (ht:eval (.Call (.Attribute o m apos) [] [] pos) X.env = (do
   let ov ← eval o X.env
   standAt apos.atName
   let (f,first) ← holding [ov] (getMethod ov m pl)
   callWith pos f first (backTo pos (starEach [] X.env)) (backToKw pos (keywordEach [] X.env))):=by rfl) :
  PE X (.Call (.Attribute o m apos) [] [] pos) (Y2 C m sp [] E0 ta tNil):=by
 obtain ⟨f,fd,F,b,mt⟩:=c
 exact Zi he cl mt F hr b .nil Y9 ht
theorem W0 (c:xD X.prog X.w X.K X.mg X.base C k ps sp) (hr:Room k X.A) (hg:Gl X x) (hm:X.mg x = some (.ref C))
  (ha:PA X (e :: es) t) (hdb:(x == ("__debug__":Str)) = false:=by decide) (he:starEach (e :: es) X.env = (false,eval e X.env) :: starEach es X.env:=by rfl) (hpl:(backTo pos (starEach es X.env)).any (·.1) = false:=by rfl) :
  PE X (.Call (.Name x p) (e :: es) [] pos) (Ti C sp [] E0 t):=by
 obtain ⟨j,f,fd,rfl,F,b,mt⟩:=c
 exact Ua mt F hr hg hm b .nil Y9 ha hdb he hpl
theorem Uw (hK:X.K = K) (he:PE X e ta) (hb:attributeBase e f X.env (eval e X.env) = eval e X.env):PE X (.Attribute e f pos) (tFld K ta f):=by
 subst hK
 exact zy he hb
end
theorem Grow.setI {m:List Addr} {H:Hp} {p C dx:Addr} {fs:List (Str × V)} (h:H p = some (.ins C dx fs)) (hm:p ∈ m) (o:HO):Grow m H (upd H p o) :=
 ⟨fun b u hb q=>by rw [zt (show b ≠ p from fun z=>hb (by rw [z]; exact hm))]; exact q,fun b zs q=>by rw [zt (fun z=>by subst z; rw [h] at q; cases q)]; exact q,fun b u v q=>by rw [zt (fun z=>by subst z; rw [h] at q; cases q)]; exact q⟩
section
variable {X:Cx} {K:FG7}
def FrT (H:Hp) (r:Addr) (xs:List V):Prop:=∃ o:Obj,H r = some (.frz o (.tup xs)) /\ o.cls = .type "tuple" /\ o.dict = none
theorem FrT.sqT {H:Hp} {r:Addr} {xs:List V} (h:FrT H r xs):SqT K H r xs:=by
 obtain ⟨o,e,_⟩:=h
 exact .inl (.inr ⟨o,e⟩)
end
def Trc (h:Heap) (e T:Addr) (cls:Value):Prop :=
 ∃ oe vs oT ts,h.get? e = some oe /\ oe.cls = cls /\ oe.data = .fields vs /\ vs[1]? = some (.ref T) /\ T ≠ e /\ h.get? T = some oT /\ oT.data = .fields ts /\ ts[3]? = some .none /\ vs[2]? = some .none
def CX1 (P:Program) (w:World):CXT:=fun outer H s E e s'=>∃ (a T C:Addr) (H':Hp),e = .ref a /\ s'.os = s.os /\ AllBare s'.gens /\ Un (frs outer) [] H H' s.heap s'.heap /\ HOk P w H' s'.heap ∧
 Trc s'.heap a T (.ref C) /\ H' a = none /\ H' T = none /\ s.heap.get? a = none /\ s.heap.get? T = none /\ E e (some C) H'
theorem z5.at {P:Program} {w:World} {H:Hp} {h:Heap} {a:Addr} {o:HO} (x:z5 P w H h a o):∃ ob,h.get? a = some ob:=by
 induction o with
 | lst xs=>obtain ⟨z,its,n,r,e⟩:=x; exact ⟨_,e⟩
 | tup xs=>obtain ⟨z,its,r,ob,e,c⟩:=x; exact ⟨_,e⟩
 | dK kvs=>obtain ⟨z,y,vs,r,ob,es,ep,e,c⟩:=x; exact ⟨_,e⟩
 | dT kvs=>obtain ⟨z,y,xs,r,ob,es,ep,e,c⟩:=x; exact ⟨_,e⟩
 | set S n=>obtain ⟨ob,es,ep,t,e,c⟩:=x; exact ⟨_,e⟩
 | ins C dx fs=>obtain ⟨d,z,ne,e,_⟩:=x; exact ⟨_,e⟩
 | own y=>exact x
 | xd fs=>obtain ⟨mA,⟨od,es,ep,e,c⟩,r⟩:=x; exact ⟨_,e⟩
 | rng lo hi=>obtain ⟨t,u,v,e⟩:=x; exact ⟨_,e⟩
 | frz ob u ih=>exact ⟨_,x.1⟩
 | tbl ps=>exact ⟨_,x⟩
 | met f y=>exact ⟨_,x⟩
 | ext φ=>exact x.2.1
section
variable {P:Program} {w:World} {K:FG7} {mg:Str -> Option Value} {base:Heap} {N:List Str} {qual:Str} {scope:Scope} {f:Addr} {cd:Value} {A:Around} {outer:List Env} {s0:Shared} {H0:Hp} {E:XK}
 {pins:List (Addr × Obj)} {σ:L2.St} {H:Hp} {s:Shared}
end
structure ApX (X:Cx) (pins:List (Addr × Obj)) (H:Hp) (a T:Addr):Prop where
 s0:∀ b o,X.s₀.heap.get? b = some o -> b ≠ a /\ b ≠ T
 loc:X.env.locals ≠ a /\ X.env.locals ≠ T
 cel:∀ x c,X.env.cells.lookup x = some c -> c ≠ a /\ c ≠ T
 pin:∀ p ∈ X.pn ++ pins,p.1 ≠ a /\ p.1 ≠ T
 ha:H a = none
 hT:H T = none
theorem ApX.of {X:Cx} {pins:List (Addr × Obj)} {σ:L2.St} {H H':Hp} {s:Shared} {a T:Addr} (I:Inv X pins σ H s) (hx:X.ex = []) (na:s.heap.get? a = none) (nT:s.heap.get? T = none) (ha:H' a = none) (hT:H' T = none):ApX X pins H' a T:=by
 have ne:∀ b o,s.heap.get? b = some o -> b ≠ a /\ b ≠ T:=fun b o hb=>⟨fun z=>(by rw [z,na] at hb; cases hb),fun z=>(by rw [z,nT] at hb; cases hb)⟩
 refine ⟨fun b o hb=>?_,?_,fun x c hc=>?_,fun p hp=>ne _ _ (I.pin p hp).1,ha,hT⟩
 ·obtain ⟨o',h1⟩:=I.base.there b o hb (by rw [hx]; simp)
  exact ne b o' h1
 ·obtain ⟨m,⟨o,es,ep,ho,_⟩,_⟩:=I.loc
  exact ne _ _ ho
 ·obtain ⟨v,hv⟩:=I.cell x c hc
  obtain ⟨o,ho,_⟩:=hv
  exact ne _ _ ho
def sH (P:Program) (w:World) (K:FG7) (mg:Str -> Option Value) (base:Heap) (C:Addr) (k:Nat) (m:Str) (ps:List Str) (sp:Sp):Prop :=
 ∃ (f:Addr) (fd:FuncData),FnOk P w K mg base (CX1 P w) k f fd ps sp /\ xA K fd ps [] /\ Meth K C m f
def jx (P:Program) (w:World) (K:FG7) (mg:Str -> Option Value) (base:Heap) (k:Nat) (x:Str) (ps:List Str) (sp:Sp):Prop :=
 ∃ (f:Addr) (fd:FuncData),FnOk P w K mg base (CX1 P w) k f fd ps sp /\ xA K fd ps [] /\ PySem.W.keepIn K (.ref f) = true /\ mg x = some (.ref f)
section
variable {P:Program} {w:World} {K:FG7} {mg:Str -> Option Value} {base:Heap} {C:Addr} {j k:Nat} {m x:Str} {ps:List Str} {sp:Sp}
theorem sH.mono (c:sH P w K mg base C j m ps sp) (h:j <= k):sH P w K mg base C k m ps sp:=by
 obtain ⟨f,fd,F,b,mt⟩:=c
 exact ⟨f,fd,F.mono h,b,mt⟩
theorem jx.mono (c:jx P w K mg base j x ps sp) (h:j <= k):jx P w K mg base k x ps sp:=by
 obtain ⟨f,fd,F,b,mt⟩:=c
 exact ⟨f,fd,F.mono h,b,mt⟩
end
open PySem PySem.Spec PyProof.Rows L2 PySem.W
def ExO (a C:Addr):HO:=.ext fun h=>∃ o,h.get? a = some o /\ o.cls = .ref C /\ ∃ vs,o.data = .fields vs /\ vs[2]? = some .none
theorem ExO.cl {h:Heap} {a C:Addr} (p:∃ o,h.get? a = some o /\ o.cls = .ref C /\ ∃ vs,o.data = .fields vs /\ vs[2]? = some .none):∃ o,h.get? a = some o /\ o.cls = .ref C:=p.imp fun _ z=>⟨z.1,z.2.1⟩
end L3
namespace L2
open PySem PySem.Spec PyProof.Rows
end L2
namespace L2
open PySem PySem.Spec PyProof.Rows
end L2
namespace L2
open PySem PySem.Spec PyProof.Rows
end L2
namespace L2
open PySem PySem.Spec PyProof.Rows
end L2
namespace L2
open PySem PySem.Spec PyProof.Rows
end L2
namespace L2
open PySem PySem.Spec PyProof.Rows
end L2
namespace L2
open PySem PySem.Spec PyProof.Rows
section
variable {κ:Type} [DecidableEq κ]
def valV (kvs:List (κ × V)) (k:κ):Option V:=(kvs.find? fun kv=>decide (kv.1 = k)).map (·.2)
def putK (kvs:List (κ × V)) (k:κ) (v:V):List (κ × V) :=
 if (kvs.any fun kv=>decide (kv.1 = k)) = true then kvs.map (fun kv=>if kv.1 = k then (kv.1,v) else kv) else kvs ++ [(k,v)]
def TQ (kvs:List (κ × V)) (k:κ):List (κ × V):=kvs.filter fun kv=>decide (kv.1 ≠ k)
theorem yc {p:κ × V} {r:List (κ × V)} {k:κ} (e:p.1 = k):valV (p :: r) k = some p.2:=by simp [valV,List.find?_cons,e]
theorem z7 {p:κ × V} {r:List (κ × V)} {k:κ} (e:¬ p.1 = k):valV (p :: r) k = valV r k:=by simp [valV,List.find?_cons,e]
theorem xg (k:κ):∀ kvs:List (κ × V),(kvs.any fun kv=>decide (kv.1 = k)) = (valV kvs k).isSome
 | []=>rfl
 | p :: r=>by
  rw [List.any_cons]
  by_cases e:p.1 = k
  ·simp only [yc e,decide_eq_true e,Bool.true_or,Option.isSome_some]
  ·rw [z7 e,decide_eq_false e,Bool.false_or]; exact xg k r
theorem Zs (k j:κ) (y:V):∀ kvs:List (κ × V),valV (kvs.map fun kv=>if kv.1 = k then (kv.1,y) else kv) j = (valV kvs j).map fun x=>if j = k then y else x
 | []=>rfl
 | p :: r=>by
  have ih:=Zs k j y r
  rw [List.map_cons]
  by_cases h:p.1 = k
  ·rw [if_pos h]
   by_cases e:p.1 = j
   ·rw [yc (p:=(p.1,y)) e,yc e,Option.map_some,if_pos (e.symm.trans h)]
   ·rw [z7 (p:=(p.1,y)) e,z7 e,ih]
  ·rw [if_neg h]
   by_cases e:p.1 = j
   ·rw [yc (p:=p) e,yc e,Option.map_some,if_neg (fun z=>h (e.trans z))]
   ·rw [z7 (p:=p) e,z7 e,ih]
theorem ql (k j:κ) (y:V):∀ kvs:List (κ × V),valV kvs k = none -> valV (kvs ++ [(k,y)]) j = if j = k then some y else valV kvs j
 | [],_=>by
  by_cases e:k = j
  ·rw [if_pos e.symm]; exact yc (p:=(k,y)) e
  ·rw [if_neg (fun z=>e z.symm)]; exact z7 (p:=(k,y)) e
 | p :: r,hn=>by
  rw [List.cons_append]
  have hk:¬ p.1 = k:=fun z=>by rw [yc z] at hn; cases hn
  rw [z7 hk] at hn
  have ih:=ql k j y r hn
  by_cases e:p.1 = j
  ·rw [yc e,yc e,if_neg (fun z=>hk (e.trans z))]
  ·rw [z7 e,z7 e,ih]
theorem xh (kvs:List (κ × V)) (k j:κ) (y:V):valV (putK kvs k y) j = if j = k then some y else valV kvs j:=by
 unfold putK
 by_cases a:(kvs.any fun kv=>decide (kv.1 = k)) = true
 ·rw [if_pos a,Zs]
  rw [xg] at a
  by_cases e:j = k
  ·obtain ⟨x,hx⟩:=Option.isSome_iff_exists.mp a
   rw [if_pos e,e,hx,Option.map_some,if_pos rfl]
  ·rw [if_neg e]
   cases valV kvs j with
   | none=>rfl
   | some x=>rw [Option.map_some,if_neg e]
 ·rw [if_neg a]
  refine ql k j y kvs ?_
  rw [xg] at a
  cases q:valV kvs k with
  | none=>rfl
  | some x=>rw [q] at a; exact (a rfl).elim
theorem yh (kvs:List (κ × V)) (k:κ) (v:V):(putK kvs k v).length <= kvs.length + 1:=by
 unfold putK
 split
 ·rw [List.length_map]; omega
 ·rw [List.length_append,List.length_cons,List.length_nil]; omega
theorem sI {kvs:List (κ × V)} {k:κ} (v:V) (h:valV kvs k = none):putK kvs k v = kvs ++ [(k,v)]:=by
 unfold putK
 rw [xg,h]
 exact if_neg (by decide)
theorem RelO.isSome_eq {o:Option V} {u:Option Value} (r:RelO o u):o.isSome = u.isSome:=by
 cases o with
 | none=>cases u with
  | none=>rfl
  | some _=>exact (show False from r).elim
 | some _=>cases u with
  | none=>exact (show False from r).elim
  | some _=>rfl
theorem RelO.getD {o:Option V} {u:Option Value} {d:V} {d':Value} (r:RelO o u) (rd:RelV d d'):RelV (o.getD d) (u.getD d'):=by
 cases o with
 | none=>cases u with
  | none=>exact rd
  | some _=>exact (show False from r).elim
 | some _=>cases u with
  | none=>exact (show False from r).elim
  | some _=>exact r
theorem KV.val {kvs:List (κ × V)} {vs:List (κ × Value)} (r:KV kvs vs) (k:κ):RelO (valV kvs k) (valueAt vs k):=by
 unfold KV at r
 induction r with
 | nil=>exact True.intro
 | @cons p q ps qs h t ih =>
  obtain ⟨h1,h2⟩:=h
  by_cases e:p.1 = k
  ·have e':q.1 = k:=h1.symm.trans e
   have b:valueAt (q :: qs) k = some q.2:=by simp [valueAt,List.find?_cons,e']
   rw [yc e,b]; exact h2
  ·have e':¬ q.1 = k:=fun z=>e (h1.trans z)
   have b:valueAt (q :: qs) k = valueAt qs k:=by simp [valueAt,List.find?_cons,e']
   rw [z7 e,b]; exact ih
theorem KV.any {kvs:List (κ × V)} {vs:List (κ × Value)} (r:KV kvs vs) (k:κ):(kvs.any fun kv=>decide (kv.1 = k)) = vs.any fun kv=>decide (kv.1 = k):=by
 unfold KV at r
 induction r with
 | nil=>rfl
 | cons h t ih=>rw [List.any_cons,List.any_cons,ih,h.1]
theorem KV.repl {kvs:List (κ × V)} {vs:List (κ × Value)} (r:KV kvs vs) (k:κ) {y:V} {u:Value} (ry:RelV y u) :
  KV (kvs.map fun kv=>if kv.1 = k then (kv.1,y) else kv) (vs.map fun kv=>if kv.1 = k then (kv.1,u) else kv):=by
 unfold KV at r ⊢
 induction r with
 | nil=>exact .nil
 | @cons p q ps qs h t ih =>
  rw [List.map_cons,List.map_cons]
  refine .cons ?_ ih
  obtain ⟨h1,h2⟩:=h
  by_cases e:p.1 = k
  ·rw [if_pos e,if_pos (h1.symm.trans e)]; exact ⟨h1,ry⟩
  ·rw [if_neg e,if_neg (fun z=>e (h1.trans z))]; exact ⟨h1,h2⟩
theorem KV.put {kvs:List (κ × V)} {vs:List (κ × Value)} (r:KV kvs vs) (k:κ) {y:V} {u:Value} (ry:RelV y u):KV (putK kvs k y) (stored vs k u):=by
 unfold putK stored
 rw [r.any k]
 by_cases e:(vs.any fun kv=>decide (kv.1 = k)) = true
 ·rw [if_pos e,if_pos e]; exact r.repl k ry
 ·rw [if_neg e,if_neg e]; exact Paired.snoc r ⟨rfl,ry⟩
theorem KV.drop {kvs:List (κ × V)} {vs:List (κ × Value)} (r:KV kvs vs) (k:κ):KV (TQ kvs k) (without vs k):=by
 unfold KV at r ⊢
 unfold TQ without
 induction r with
 | nil=>exact .nil
 | @cons p q ps qs h t ih =>
  obtain ⟨h1,h2⟩:=h
  rw [List.filter_cons,List.filter_cons]
  by_cases e:p.1 = k
  ·have a:¬ decide (p.1 ≠ k) = true:=by simp [e]
   have b:¬ decide (q.1 ≠ k) = true:=by simp [h1.symm.trans e]
   rw [if_neg a,if_neg b]; exact ih
  ·have e':¬ q.1 = k:=fun z=>e (h1.trans z)
   have a:decide (p.1 ≠ k) = true:=by simp [e]
   have b:decide (q.1 ≠ k) = true:=by simp [e']
   rw [if_pos a,if_pos b]; exact .cons ⟨h1,h2⟩ ih
theorem KV.keys {kvs:List (κ × V)} {vs:List (κ × Value)} (r:KV kvs vs):kvs.map (·.1) = vs.map (·.1):=by
 unfold KV at r
 induction r with
 | nil=>rfl
 | cons h t ih=>rw [List.map_cons,List.map_cons,ih,h.1]
theorem KV.length {kvs:List (κ × V)} {vs:List (κ × Value)} (r:KV kvs vs):kvs.length = vs.length:=Paired.length r
end
theorem Yc {P:Program} {w:World} {k:Key} {u:Value} (r:RelV (kV k) u):(zH P w).is k u = true:=by
 cases k with
 | inl i=>obtain ⟨t,e⟩:=(show ∃ t,u = Value.int i t from r); subst e; exact ji P w i t
 | inr x=>obtain ⟨t,e⟩:=(show ∃ t,u = Value.str x t from r); subst e; exact jj P w x t
theorem qm {P:Program} {w:World}:∀ {ks:List Key} {us:List Value},Vals (ks.map kV) us -> ItemsAre (zH P w) ks us
 | [],_,r=>by rw [List.map_nil] at r; cases r; exact .nil
 | k :: ks,_,r=>by
  rw [List.map_cons] at r
  cases r with
  | cons h t=>exact .cons (Yc h) (qm t)
abbrev KT (H:Hp):List (List Key × V) -> List (List Key × Addr × Value) -> Prop:=Paired fun p q=>p.1 = q.1 /\ H q.2.1 = some (.tup (p.1.map kV)) /\ RelV p.2 q.2.2
theorem KT.val {H:Hp} {kvs:List (List Key × V)} {xs:List (List Key × Addr × Value)} (r:KT H kvs xs) (k:List Key):RelO (valV kvs k) ((atKey xs k).map (·.2)):=by
 induction r with
 | nil=>exact True.intro
 | @cons p q ps qs h t ih =>
  obtain ⟨h1,_,h2⟩:=h
  by_cases e:p.1 = k
  ·have e':q.1 = k:=h1.symm.trans e
   have b:atKey (q :: qs) k = some q.2:=by simp [atKey,List.find?_cons,e']
   rw [yc e,b]; exact h2
  ·have e':¬ q.1 = k:=fun z=>e (h1.trans z)
   have b:atKey (q :: qs) k = atKey qs k:=by simp [atKey,List.find?_cons,e']
   rw [z7 e,b]; exact ih
theorem KT.repl {H:Hp} {kvs:List (List Key × V)} {xs:List (List Key × Addr × Value)} (r:KT H kvs xs) (k:List Key) {y:V} {u:Value} (ry:RelV y u) :
  KT H (kvs.map fun kv=>if kv.1 = k then (kv.1,y) else kv) (xs.map (putAt k u)):=by
 induction r with
 | nil=>exact .nil
 | @cons p q ps qs h t ih =>
  rw [List.map_cons,List.map_cons]
  refine .cons ?_ ih
  obtain ⟨h1,h2,h3⟩:=h
  unfold putAt
  by_cases e:p.1 = k
  ·rw [if_pos e,if_pos (h1.symm.trans e)]; exact ⟨h1,h2,ry⟩
  ·rw [if_neg e,if_neg (fun z=>e (h1.trans z))]; exact ⟨h1,h2,h3⟩
theorem KT.put {H:Hp} {kvs:List (List Key × V)} {xs:List (List Key × Addr × Value)} (r:KT H kvs xs) (k:List Key) {b:Addr} {y:V} {u:Value} (hb:H b = some (.tup (k.map kV))) (ry:RelV y u) :
  KT H (putK kvs k y) (storedH xs k b u):=by
 have e:(kvs.any fun kv=>decide (kv.1 = k)) = (atKey xs k).isSome:=by
  rw [xg,(r.val k).isSome_eq,Option.isSome_map]
 unfold putK storedH
 rw [e]
 by_cases q:(atKey xs k).isSome = true
 ·rw [if_pos q,if_pos q]; exact r.repl k ry
 ·rw [if_neg q,if_neg q]; exact Paired.snoc r ⟨rfl,hb,ry⟩
theorem KT.keeps {H H':Hp} {kvs:List (List Key × V)} {xs:List (List Key × Addr × Value)} (r:KT H kvs xs) (ht:∀ b ys,H b = some (.tup ys) -> H' b = some (.tup ys)):KT H' kvs xs :=
 Paired.mapP r fun _ _ z=>⟨z.1,ht _ _ z.2.1,z.2.2⟩
section
variable {P:Program} {w:World} {H:Hp} {h:Heap} {a:Addr}
theorem TR {u:HO} (ok:HOk P w H h) (e:Rd H a u):z5 P w H h a u:=e.ok ok
theorem jy {kvs:List (Key × V)} (ok:HOk P w H h) (e:Rd H a (.dK kvs)):kvs.length <= sizeLine /\ (a == sysModules) = false /\ ∃ vs,KV kvs vs /\ h.DictOf (zH P w) a vs :=
 show z5 P w H h a (.dK kvs) from TR ok e
theorem Ux {kvs:List (Key × V)} (ok:HOk P w H h) (e:H a = some (.dK kvs)):kvs.length <= sizeLine /\ (a == sysModules) = false /\ ∃ vs,KV kvs vs /\ h.DictOf (zH P w) a vs:=jy ok (.inl e)
theorem uk {ks:List Key} (ok:HOk P w H h) (e:H a = some (.tup (ks.map kV))):(tupleKind (zH P w)).is h ks a:=by
 obtain ⟨_,its,r,o,h1,h2,n,h3⟩:=(show z5 P w H h a (.tup (ks.map kV)) from ok a _ e)
 exact ⟨o,its.toArray,n,h1,h2,h3,by simpa using qm r⟩
theorem Yd {kvs:List (List Key × V)} (ok:HOk P w H h) (e:Rd H a (.dT kvs)):kvs.length <= sizeLine /\ (a == sysModules) = false ∧
  ∃ xs,KT H kvs xs /\ h.DictOfH (tupleKind (zH P w)) a xs:=by
 obtain ⟨z,y,xs,r,o,es,ep,h1,h2,h3,h4,h5⟩:=(show z5 P w H h a (.dT kvs) from TR ok e)
 refine ⟨z,y,xs,r,o,es,ep,h1,h2,h3,h4,fun x hx=>?_,h5⟩
 have all:∀ {l:List (List Key × V)} {m:List (List Key × Addr × Value)},KT H l m -> ∀ x ∈ m,(tupleKind (zH P w)).is h x.1 x.2.1:=by
  intro l m q
  induction q with
  | nil=>intro x hx; exact nomatch hx
  | @cons p q ps qs hq t ih =>
   intro x hx
   rcases List.mem_cons.mp hx with e | hx
   ·subst e
    exact uk ok (by rw [← hq.1]; exact hq.2.1)
   ·exact ih x hx
 exact all r x hx
theorem SM {kvs:List (List Key × V)} (ok:HOk P w H h) (e:H a = some (.dT kvs)):kvs.length <= sizeLine /\ (a == sysModules) = false ∧
  ∃ xs,KT H kvs xs /\ h.DictOfH (tupleKind (zH P w)) a xs:=Yd ok (.inl e)
end
def DGet (H:Hp) (a:Addr) (y:V) (r:Option V):Prop :=
 (∃ kvs k,Rd H a (.dK kvs) /\ y = kV k /\ r = valV kvs k) \/ ∃ kvs k b,Rd H a (.dT kvs) /\ y = .ref b /\ H b = some (.tup (k.map kV)) /\ r = valV kvs k
def DPut (H:Hp) (a:Addr) (y v:V) (H':Hp):Prop :=
 (∃ kvs k,H a = some (.dK kvs) /\ y = kV k /\ kvs.length < sizeLine /\ H' = upd H a (.dK (putK kvs k v))) ∨
 ∃ kvs k b,H a = some (.dT kvs) /\ y = .ref b /\ H b = some (.tup (k.map kV)) /\ kvs.length < sizeLine /\ H' = upd H a (.dT (putK kvs k v))
theorem DGet.k {H:Hp} {a:Addr} {kvs:List (Key × V)} {k:Key} (e:H a = some (.dK kvs)):DGet H a (kV k) (valV kvs k):=.inl ⟨kvs,k,.inl e,rfl,rfl⟩
theorem DGet.t {H:Hp} {a b:Addr} {kvs:List (List Key × V)} {k:List Key} (e:H a = some (.dT kvs)) (eb:H b = some (.tup (k.map kV))):DGet H a (.ref b) (valV kvs k):=.inr ⟨kvs,k,b,.inl e,rfl,eb,rfl⟩
theorem DPut.k {H:Hp} {a:Addr} {kvs:List (Key × V)} {k:Key} {v:V} (e:H a = some (.dK kvs)) (hl:kvs.length < sizeLine):DPut H a (kV k) v (upd H a (.dK (putK kvs k v))):=.inl ⟨kvs,k,e,rfl,hl,rfl⟩
theorem DPut.t {H:Hp} {a b:Addr} {kvs:List (List Key × V)} {k:List Key} {v:V} (e:H a = some (.dT kvs)) (eb:H b = some (.tup (k.map kV))) (hl:kvs.length < sizeLine) :
  DPut H a (.ref b) v (upd H a (.dT (putK kvs k v))):=.inr ⟨kvs,k,b,e,rfl,eb,hl,rfl⟩
section
variable {X:Cx} {pins:List (Addr × Obj)} {σ:St} {H:Hp} {s:Shared} {a:Addr} {y v:V} {u r:Value} {o:Option V} {A:Around} {E:VS7}
theorem Inv.big (I:Inv X pins σ H s):sysModules < s.heap.objs.size:=by
 have h:mainGlobals < s.heap.objs.size:=(I.mod.glob.keeps I.bk).lt
 exact Nat.lt_trans (by decide) h
theorem qo {Q:VS7} (hu:A.units + 1 < cLine) (I:Inv X pins σ H s) (g:DGet H a y (some v)) (ry:RelV y u) (h:∀ w' s',Inv X pins σ H s' -> RelV v w' -> Q w' s') :
  wpAny (model X.prog X.w) A (getItem (.ref a) u) Q E s:=by
 rcases g with ⟨kvs,k,e,ey,l⟩ | ⟨kvs,k,b,e,ey,eb,l⟩
 ·subst ey
  obtain ⟨z,hd,vs,rel,dd⟩:=jy I.hok e
  obtain ⟨w',hw,rw'⟩:=RelO.some_of (v:=v) (o:=valueAt vs k) (by rw [l]; exact rel.val k)
  exact wpAny_getItem_of (Yc ry) dd.mapOf hw (h w' _ (I.tok _) rw')
 ·subst ey
  cases (show u = Value.ref b from ry)
  obtain ⟨z,hd,xs,rel,dd⟩:=Yd I.hok e
  obtain ⟨w',hw,rw'⟩:=RelO.some_of (v:=v) (o:=(atKey xs k).map (·.2)) (by rw [l]; exact rel.val k)
  obtain ⟨p,hp,hp2⟩:=Option.map_eq_some_iff.mp hw
  refine wpAny_getItem_heap (tupleKind_room_in1 hu) (uk I.hok eb) dd hp ?_
  rw [hp2]
  exact h w' _ (I.tok _) rw'
theorem jz {h':Heap} {t':Nat} {ob:HO} (I:Inv X pins σ H s) (mu:Mut (H a)) (hs:Heap.SameBut a s.heap h') (he:∃ q,h'.get? a = some q) (new:z5 X.prog X.w (upd H a ob) h' a ob) :
  Inv X pins σ (upd H a ob) { s with heap:=h',toks:=t' } :=
 I.write (x:=a) (e:=a) mu (.inl rfl) (fun b q hb z=>(hs.2 b hb).trans z) he new
theorem VH {P:Program} {w:World} {H':Hp} {h':Heap} {kvs:List (Key × V)} {vs:List (Key × Value)} (z:kvs.length <= sizeLine) (hd:(a == sysModules) = false) (rel:KV kvs vs) (dd:h'.DictOf (zH P w) a vs) :
  z5 P w H' h' a (.dK kvs):=⟨z,hd,vs,rel,dd⟩
theorem qp {H':Hp} {Q:Unit -> Shared -> Prop} (hu:A.units + 1 < cLine) (I:Inv X pins σ H s) (g:DPut H a y v H') (ry:RelV y u) (rv:RelV v r) (h:∀ s',Inv X pins σ H' s' -> Q () s') :
  wpAny (model X.prog X.w) A (setItem (.ref a) u r) Q E s:=by
 rcases g with ⟨kvs,k,e,ey,l,eH⟩ | ⟨kvs,k,b,e,ey,eb,l,eH⟩
 ·subst ey eH
  obtain ⟨z,hd,vs,rel,dd⟩:=Ux I.hok e
  have hz:vs.length <= sizeLine:=by rw [← rel.length]; exact z
  have hl:(putK kvs k v).length <= sizeLine:=by have:=yh kvs k v; omega
  refine wpAny_setItem_pairs (hsz:=hz) (Yc ry) dd fun h' dd' hs=>h _ ?_
  have he:∃ q,h'.get? a = some q:=let ⟨q,_,_,hq,_⟩:=dd'; ⟨q,hq⟩
  exact jz I (by rw [e]; exact True.intro) hs he (VH hl hd (rel.put k rv) dd')
 ·subst ey eH
  cases (show u = Value.ref b from ry)
  obtain ⟨z,hd,xs,rel,dd⟩:=SM I.hok e
  have hz:xs.length <= sizeLine:=by rw [← Paired.length rel]; exact z
  have hl:(putK kvs k v).length <= sizeLine:=by have:=yh kvs k v; omega
  refine wpAny_setItem_heap (hsz:=hz) (tupleKind_room_in1 hu) (uk I.hok eb) dd fun h' dd' hs=>h _ ?_
  obtain ⟨q,es,ep,hq,h2,h3,h4,_,h5⟩:=dd'
  refine jz I (by rw [e]; exact True.intro) hs ⟨q,hq⟩ ⟨hl,hd,_,(rel.put k eb rv).keeps fun c ys ec=>?_,q,es,ep,hq,h2,h3,h4,h5⟩
  rw [zt (So ec e (fun z=>nomatch z))]
  exact ec
end
section
variable {X:Cx} {pins:List (Addr × Obj)} {σ:St} {H:Hp} {s:Shared} {a:Addr} {kvs:List (Key × V)} {k:Key} {u:Value} {A:Around} {E:VS7}
theorem SN {Q:VS7} (I:Inv X pins σ H s) (e:Rd H a (.dK kvs)) (h:∀ t s',Inv X pins σ H s' -> Q (.int kvs.length t) s'):wpAny (model X.prog X.w) A (call (.builtin "len") [.ref a]) Q E s:=by
 obtain ⟨z,hd,vs,rel,dd⟩:=jy I.hok e
 refine call_len_dict hd dd (by rw [← rel.length]; rw [sizeLine_eq] at z; omega) ?_
 rw [← rel.length]
 exact h _ _ (I.tok _)
end
def NoSl (i:Expr):Prop:=∀ ov iv,subscripted i false ov iv = operate [ov,iv] (getItem ov iv)
theorem Uy {prog:Program} {w:World} {A:Around} {E:VS7} {s:Shared} {env:Env} {value slice:Expr} {pos:Pos} {T id:String} {Q:VS7}
  (hl:typeLookup (.type T) "__getitem__" = pure (some (.builtin id))) (hs:NoSl slice)
  (h:wpAny (model prog w) A (eval value env) (fun o s₁=>wpAny (model prog w) A (eval slice env) (fun i s₂=>s₂.TypeIs o T /\ wpAny (model prog w) A (getItem o i) Q E s₂) E s₁) E s) :
  wpAny (model prog w) A (eval (.Subscript value slice pos) env) Q E s:=by
 refine Subscript_ (wpAny_mono h (fun o s₁ h₁=>wpAny_mono h₁ (fun i s₂ h₂=>?_) fun _ _ x=>x) fun _ _ x=>x)
 obtain ⟨hT,h₂⟩:=h₂
 unfold subscriptTail
 refine wpAny_bind ?_
 rw [getitemInPython_of_ne hT.not_modules]
 refine wpAny_bind (wpAny_specialOf hT hl ?_)
 have fin:wpAny (model prog w) A (subscripted slice false o i) (fun r s₃=>wpAny (model prog w) A (letTemporaryGo value o r >>= fun _=>pure r) Q E s₃) E s₂:=by
  rw [hs o i]
  exact wpAny_operating (wpAny_mono h₂ (fun r s₃ h₃=>wpAny_bind (wpAny_letTemporaryGo (wpAny_pure h₃))) fun _ _ x=>x)
 first
  | exact wpAny_pure (wpAny_bind fin)
  | exact wpAny_bind (wpAny_pure (wpAny_bind fin))
  | exact wpAny_bind fin
theorem jA {X:Cx} {pins:List (Addr × Obj)} {σ:St} {H:Hp} {s:Shared} {a:Addr} {y:V} {o:Option V} (I:Inv X pins σ H s) (g:DGet H a y o):s.TypeIs (.ref a) "dict":=by
 rcases g with ⟨kvs,k,e,_,_⟩ | ⟨kvs,k,b,e,_,_,_⟩
 ·obtain ⟨_,_,vs,_,dd⟩:=jy I.hok e
  exact dd.typeIs
 ·obtain ⟨_,_,xs,_,dd⟩:=Yd I.hok e
  exact dd.typeIs
def SO (td ty:TE):TE:=fun σ H Q=>td σ H fun x H1=>ty σ H1 fun y H2=>∃ a v,x = .ref a /\ DGet H2 a y (some v) /\ Q v H2
def SQ (td ty tv:TE):TS:=fun D σ H=>tv σ H fun v H1=>td σ H1 fun x H2=>ty σ H2 fun y H3=>∃ a H4,x = .ref a /\ DPut H3 a y v H4 /\ D.nx σ H4
def SR (td ty tv:TE) (rd:V -> V -> Hp -> VK -> Prop):TS:=fun D σ H=>td σ H fun x H1=>ty σ H1 fun y H2=>∃ a v,x = .ref a /\ DGet H2 a y (some v) ∧
 tv σ H2 fun y2 H3=>rd v y2 H3 fun z H4=>∃ H5,DPut H4 a y z H5 /\ D.nx σ H5
section
variable {X:Cx} {o i e value:Expr} {pos pos' tpos:Pos} {td ty tv:TE}
theorem xU (hu:X.A.units + 1 < cLine) (ho:PE X o td) (hi:PE X i ty) (hs:NoSl i):PE X (.Subscript o i pos) (SO td ty):=by
 intro pins s σ H Q I h
 refine Uy PySem.F.slot_dict_getitem.lookup hs (thn (ho pins s σ H _ I h) fun u s1 ⟨x,H1,I1,rx,q1⟩=>thn (hi pins s1 σ H1 _ I1 q1) fun iv s2 ⟨y,H2,I2,ry,a,v,ex,g,q2⟩=>?_)
 subst ex
 obtain rfl:u = Value.ref a:=rx
 exact ⟨jA I2 g,qo hu I2 g ry fun w' s3 I3 rw'=>⟨v,H2,I3,rw',q2⟩⟩
theorem Xt (hu:X.A.units + 1 < cLine) (ho:PE X o td) (hi:PE X i ty) (hv:PE X value tv) (hs:swapsWith value (some (.Subscript o i pos')) pos.line X.env = pure false) :
  PS X (.Assign [.Subscript o i pos'] value pos) (SQ td ty tv):=by
 intro pins s σ H D I h
 refine wpAny_Assign_Subscript (thn (hv pins s σ H _ I h) fun r s1 ⟨v,H1,I1,rv,q1⟩=>thn (ho pins s1 σ H1 _ I1 q1) fun u s2 ⟨x,H2,I2,rx,q2⟩=>thn (hi pins s2 σ H2 _ I2 q2) fun iv s3 ⟨y,H3,I3,ry,a,H4,ex,g,q3⟩=>?_) hs
 subst ex
 obtain rfl:u = Value.ref a:=rx
 exact qp hu I3 g ry rv fun s4 I4=>⟨σ,H4,I4,q3⟩
theorem Xu {op:Operator} {rd:V -> V -> Hp -> VK -> Prop} (hu:X.A.units + 1 < cLine) (ho:PE X o td) (hi:PE X i ty) (hv:PE X value tv) (hop:InOp X op rd)
  (ha:∀ ov iv new,augStore i ov iv new = (do holding [new,ov,iv] (setItem ov iv new); release [new,ov,iv] []; pure .next)):PS X (.AugAssign (.Subscript o i tpos) op value pos) (SR td ty tv rd):=by
 intro pins s σ H D I h
 refine wpAny_AugAssign_SubscriptAny (thn (ho pins s σ H _ I h) fun u s1 ⟨x,H1,I1,rx,q1⟩=>thn (hi pins s1 σ H1 _ I1 q1) fun iv s2 ⟨y,H2,I2,ry,a,v,ex,g,q2⟩=>?_) ha
 subst ex
 obtain rfl:u = Value.ref a:=rx
 refine qo hu I2 g ry fun w' s3 I3 rw'=>thn (hv pins s3 σ H2 _ I3 q2) fun w2 s4 ⟨y2,H3,I4,ry2,q3⟩=>thn (hop pins s4 σ H3 v y2 w' w2 _ I4 rw' ry2 q3) fun w3 s5 ⟨z,H4,I5,rz,H5,g5,q4⟩=>?_
 exact qp hu I5 g5 ry rz fun s6 I6=>⟨σ,H5,I6,q4⟩
end
theorem W1 {P:Program} {w:World} {H:Hp} (h:Heap) (hb:sysModules < h.objs.size):z5 P w H (h.push { cls:=.type "dict",data:=.dict #[] }) h.objs.size (.dK []) :=
 ⟨Nat.zero_le _,beq_eq_false_iff_ne.mpr (Ne.symm (Nat.ne_of_lt hb)),[],.nil,Heap.DictOf.new h⟩
theorem W3 {P:Program} {w:World} {H:Hp} (h:Heap) (hb:sysModules < h.objs.size):z5 P w H (h.push { cls:=.type "dict",data:=.dict #[] }) h.objs.size (.dT []) :=
 ⟨Nat.zero_le _,beq_eq_false_iff_ne.mpr (Ne.symm (Nat.ne_of_lt hb)),[],.nil,_,#[],0,Heap.get?_push_size _ rfl,⟨rfl,rfl,rfl⟩,rfl,rfl,List.nodup_nil⟩
def TU:TE:=fun _ H Q=>∀ p,H p = none -> Q (.ref p) (upd H p (.dK []))
section
variable {X:Cx} {pos:Pos}
theorem sJ:PE X (.Dict [] [] pos) TU:=fun pins s σ H Q I h =>
 wpAny_Dict_empty ⟨.ref s.heap.objs.size,_,I.laid (a:=s.heap.objs.size) (o:=.dK []) (t':=s.toks) (fun _ _ q=>Heap.get?_push_of_some _ q) (Nat.le_refl _) (W1 s.heap I.big),rfl,h _ (I.hok.fresh (Nat.le_refl _))⟩
end
structure M1 (X:Cx) (o:Expr) (m:Str) (apos:Pos) (e:Expr) (cpos:Pos):Prop where
 base:attributeBase o m X.env (eval o X.env) = eval o X.env
 few:((backTo cpos (starEach [e] X.env)).all (fun x=>!x.1) && (backToKw cpos (keywordEach [] X.env)).all (fun x=>x.1.isSome)
  && decide (([e]:List Expr).length + ([]:List Keyword).length + (if ([]:List Keyword).isEmpty then 0 else 1) < 30)) = true
 line:(apos.endLine == cpos.line) = true
 trees:backTo cpos (starEach [e] X.env) = [(false,eval e X.env)]
structure M2 (X:Cx) (o:Expr) (m:Str) (apos:Pos) (e f:Expr) (cpos:Pos):Prop where
 base:attributeBase o m X.env (eval o X.env) = eval o X.env
 few:((backTo cpos (starEach [e,f] X.env)).all (fun x=>!x.1) && (backToKw cpos (keywordEach [] X.env)).all (fun x=>x.1.isSome)
  && decide (([e,f]:List Expr).length + ([]:List Keyword).length + (if ([]:List Keyword).isEmpty then 0 else 1) < 30)) = true
 line:(apos.endLine == cpos.line) = true
 trees:backTo cpos (starEach [e,f] X.env) = [(false,eval e X.env),(false,eval f X.env)]
def IsD (H:Hp) (a:Addr):Prop:=(∃ kvs,Rd H a (.dK kvs)) \/ ∃ kvs,Rd H a (.dT kvs)
theorem VJ {X:Cx} {pins:List (Addr × Obj)} {σ:St} {H:Hp} {s:Shared} {a:Addr} (I:Inv X pins σ H s) (d:IsD H a) :
  s.TypeIs (.ref a) "dict" /\ (∀ b,Value.ref a = .ref b -> ∃ ob,s.heap.get? b = some ob /\ ob.dict = none) /\ (a == sysModules) = false:=by
 rcases d with ⟨kvs,e⟩ | ⟨kvs,e⟩
 ·obtain ⟨_,hd,vs,_,dd⟩:=jy I.hok e
  refine ⟨dd.typeIs,fun b q=>?_,hd⟩
  cases q
  obtain ⟨ob,_,_,h1,h2,_⟩:=dd
  exact ⟨ob,h1,h2.2.1⟩
 ·obtain ⟨_,hd,xs,_,dd⟩:=Yd I.hok e
  refine ⟨dd.typeIs,fun b q=>?_,hd⟩
  cases q
  obtain ⟨ob,_,_,h1,h2,_⟩:=dd
  exact ⟨ob,h1,h2.2.1⟩
section
variable {X:Cx} {pins:List (Addr × Obj)} {σ:St} {H:Hp} {s:Shared} {a:Addr} {y d:V} {u r:Value} {o:Option V} {A:Around} {E:VS7}
theorem TV {Q:VS7} (hu:A.units + 1 < cLine) (I:Inv X pins σ H s) (g:DGet H a y o) (ry:RelV y u) (h:∀ w' s',Inv X pins σ H s' -> RelV (o.getD .non) w' -> Q w' s') :
  wpAny (model X.prog X.w) A (call (.builtin "dict.get") [.ref a,u]) Q E s:=by
 rcases g with ⟨kvs,k,e,ey,l⟩ | ⟨kvs,k,b,e,ey,eb,l⟩
 ·subst ey
  obtain ⟨z,hd,vs,rel,dd⟩:=jy I.hok e
  refine call_meetsIn PySem.F.slot_dict_get dd.typeIs PySem.F.entry_dict_get (PySem.F.args_dict_get_2 _ _) (meets_dict_get (zH X.prog X.w) a (Yc ry) hd) ⟨_,dd.mapOf,h _ _ (I.tok _) ?_⟩
  rw [l]
  exact (rel.val k).getD rfl
 ·subst ey
  cases (show u = Value.ref b from ry)
  obtain ⟨z,hd,xs,rel,dd⟩:=Yd I.hok e
  refine call_meetsIn PySem.F.slot_dict_get dd.typeIs PySem.F.entry_dict_get (PySem.F.args_dict_get_2 _ _) (meetsH_dict_get (tupleKind (zH X.prog X.w)) a b hd) ⟨tupleKind_room_in1 hu,k,xs,uk I.hok eb,dd,h _ _ (I.tok _) ?_⟩
  rw [l]
  exact (rel.val k).getD rfl
theorem TW {Q:VS7} (hu:A.units + 1 < cLine) (I:Inv X pins σ H s) (g:DGet H a y o) (ry:RelV y u) (rd:RelV d r) (h:∀ w' s',Inv X pins σ H s' -> RelV (o.getD d) w' -> Q w' s') :
  wpAny (model X.prog X.w) A (call (.builtin "dict.get") [.ref a,u,r]) Q E s:=by
 rcases g with ⟨kvs,k,e,ey,l⟩ | ⟨kvs,k,b,e,ey,eb,l⟩
 ·subst ey
  obtain ⟨z,hd,vs,rel,dd⟩:=jy I.hok e
  refine call_meetsIn PySem.F.slot_dict_get dd.typeIs PySem.F.entry_dict_get (PySem.F.args_dict_get_3 _ _ _) (meets_dict_get_default (zH X.prog X.w) a (Yc ry) hd r) ⟨_,dd.mapOf,h _ _ (I.tok _) ?_⟩
  rw [l]
  exact (rel.val k).getD rd
 ·subst ey
  cases (show u = Value.ref b from ry)
  obtain ⟨z,hd,xs,rel,dd⟩:=Yd I.hok e
  refine call_meetsIn PySem.F.slot_dict_get dd.typeIs PySem.F.entry_dict_get (PySem.F.args_dict_get_3 _ _ _) (meetsH_dict_get_default (tupleKind (zH X.prog X.w)) a b hd r) ⟨tupleKind_room_in1 hu,k,xs,uk I.hok eb,dd,h _ _ (I.tok _) ?_⟩
  rw [l]
  exact (rel.val k).getD rd
end
def TX (td ty:TE):TE:=fun σ H Q=>td σ H fun x H1=>∃ a,x = .ref a /\ IsD H1 a /\ ty σ H1 fun y H2=>∃ o,DGet H2 a y o /\ Q (o.getD .non) H2
def TY (td ty tx:TE):TE:=fun σ H Q=>td σ H fun x H1=>∃ a,x = .ref a /\ IsD H1 a /\ ty σ H1 fun y H2=>tx σ H2 fun z H3=>∃ o,DGet H3 a y o /\ Q (o.getD z) H3
section
variable {X:Cx} {o e f:Expr} {apos cpos:Pos} {td ty tx:TE}
theorem W4 (hu:X.A.units + 1 < cLine) (ho:PE X o td) (he:PE X e ty) (m:M1 X o "get" apos e cpos):PE X (.Call (.Attribute o "get" apos) [e] [] cpos) (TX td ty):=by
 intro pins s σ H Q I h
 refine wpAny_Call_method m.base m.few m.line PySem.F.plainAttrs_dict PySem.F.slot_dict_get PySem.F.type_dict_get (thn (ho pins s σ H _ I h) fun u s1 ⟨x,H1,I1,rx,a,ex,d,q1⟩=>?_)
 subst ex
 obtain rfl:u = Value.ref a:=rx
 obtain ⟨t1,t2,_⟩:=VJ I1 d
 refine ⟨t1,t2,?_⟩
 rw [m.trees]
 refine Calls.callWith_builtin rfl (Calls.evalArgs_plain (Calls.spliced_cons (thn (he pins s1 σ H1 _ I1 q1) fun iv s2 ⟨y,H2,I2,ry,ov,g,q2⟩=>Calls.spliced_nil ?_)))
 exact TV hu I2 g ry fun w' s3 I3 rw'=>⟨_,H2,I3,rw',q2⟩
theorem W5 (hu:X.A.units + 1 < cLine) (ho:PE X o td) (he:PE X e ty) (hf:PE X f tx) (m:M2 X o "get" apos e f cpos):PE X (.Call (.Attribute o "get" apos) [e,f] [] cpos) (TY td ty tx):=by
 intro pins s σ H Q I h
 refine wpAny_Call_method m.base m.few m.line PySem.F.plainAttrs_dict PySem.F.slot_dict_get PySem.F.type_dict_get (thn (ho pins s σ H _ I h) fun u s1 ⟨x,H1,I1,rx,a,ex,d,q1⟩=>?_)
 subst ex
 obtain rfl:u = Value.ref a:=rx
 obtain ⟨t1,t2,_⟩:=VJ I1 d
 refine ⟨t1,t2,?_⟩
 rw [m.trees]
 refine Calls.callWith_builtin rfl (Calls.evalArgs_plain (Calls.spliced_cons (thn (he pins s1 σ H1 _ I1 q1) fun iv s2 ⟨y,H2,I2,ry,q2⟩ =>
  Calls.spliced_cons (thn (hf pins s2 σ H2 _ I2 q2) fun fv s3 ⟨z,H3,I3,rz,ov,g,q3⟩=>Calls.spliced_nil ?_))))
 exact TW hu I3 g ry rz fun w' s4 I4 rw'=>⟨_,H3,I4,rw',q3⟩
end
end L2
namespace Att
open PySem PySem.W PySem.Calls PyProof.Rows
end Att
namespace L2
open PySem PySem.Spec PyProof.Rows
section
variable {X:Cx}
theorem Xv:xq X (.builtin "len") (fun xs H Q=>∃ a kvs,xs = [V.ref a] /\ H a = some (.dK kvs) /\ Q (.int kvs.length) H):=by
 intro pins s σ H xs us Q I r h
 obtain ⟨a,kvs,rfl,ha,q⟩:=h
 obtain ⟨u,rfl,ru⟩:=wK r
 cases ru
 exact SN I (.inl ha) fun t s' I'=>⟨.int kvs.length,H,I',⟨t,rfl⟩,q⟩
end
section
variable {κ:Type} [DecidableEq κ]
theorem W6 {kvs:List (κ × V)} {k:κ} (h:valV kvs k = none):¬ k ∈ kvs.map (·.1):=by
 intro m
 obtain ⟨p,hp,e⟩:=List.mem_map.mp m
 have q:(kvs.any fun kv=>decide (kv.1 = k)) = true:=List.any_eq_true.mpr ⟨p,hp,decide_eq_true e⟩
 rw [xg,h] at q
 exact absurd q (by simp)
theorem Xw:∀ {l:List κ} {k:κ},l.Nodup -> ¬ k ∈ l -> (l ++ [k]).Nodup
 | [],k,_,_=>by simp
 | a :: r,k,h,hk=>by
  obtain ⟨h1,h2⟩:=List.nodup_cons.mp h
  show (a :: (r ++ [k])).Nodup
  refine List.nodup_cons.mpr ⟨fun m=>?_,Xw h2 fun m=>hk (List.mem_cons.mpr (Or.inr m))⟩
  rcases List.mem_append.mp m with q | q
  ·exact h1 q
  ·exact hk (List.mem_cons.mpr (Or.inl (List.mem_singleton.mp q).symm))
theorem Uz {kvs:List (κ × V)} {k:κ} (v:V) (hn:(kvs.map (·.1)).Nodup) (h:valV kvs k = none):((putK kvs k v).map (·.1)).Nodup:=by
 rw [sI v h,List.map_append]
 exact Xw hn (W6 h)
end
end L2
namespace L3
open PySem PySem.Spec PyProof.Rows L2
open PySem PySem.Spec PyProof.Rows L2 PySem.W
def Xx (es:Array DictEntry) (d:Addr) (ep:Nat) (h:Heap):Prop:=∃ o,h.get? d = some o /\ o.ExactDict /\ o.data = .dict es ep
section
variable {prog:Program} {w:World} {A:Around} {E:VS7} {s:Shared} {es:Array DictEntry} {d it:Addr} {ep i:Nat}
theorem Xx.typeIs (h:Xx es d ep s.heap):s.TypeIs (.ref d) "dict":=let ⟨o,ho,hc,_⟩:=h; ⟨o,ho,hc.1⟩
theorem Xx.keep {h h':Heap} (x:Xx es d ep h) (e:∀ o,h.get? d = some o -> h'.get? d = some o):Xx es d ep h':=let ⟨o,ho,r⟩:=x; ⟨o,e o ho,r⟩
end
open PySem PySem.Spec PyProof.Rows L2 HT
def y4 (a b:List Int):List Int:=a.map fun i=>b.getD i.toNat 0
theorem Xy {a b:List Int}:(y4 a b).length = a.length:=by unfold y4; rw [List.length_map]
theorem Xz {S:Nat} {a b:List Int} (ha:Rng S a) (hb:Rng S b) (hl:b.length = S):Rng S (y4 a b):=by
 intro x hx
 obtain ⟨i,hi,rfl⟩:=List.mem_map.mp hx
 have h1:=ha i hi
 have h2:i.toNat < b.length:=by omega
 refine hb _ ?_
 rw [List.getD_eq_getElem?_getD,List.getElem?_eq_getElem h2,Option.getD_some]
 exact List.getElem_mem h2
def XA (tab:List (List Int)) (i j:Int):Int:=(tab.getD i.toNat []).getD j.toNat 0
def misT (tab:List (List Int)) (i j l:Nat):Prop:=XA tab (XA tab i j) l ≠ XA tab i (XA tab j l)
def tH (tab:List (List Int)) (i j l:Nat):Prop:=(i < tab.length /\ j < tab.length /\ l < tab.length) /\ misT tab i j l ∧
 ∀ i' j' l':Nat,i' < tab.length -> j' < tab.length -> l' < tab.length -> (i' < i \/ (i' = i /\ (j' < j \/ (j' = j /\ l' < l)))) -> ¬ misT tab i' j' l'
theorem tH.eq {tab:List (List Int)} {i j l i' j' l':Nat} (a:tH tab i j l) (b:tH tab i' j' l'):i = i' /\ j = j' /\ l = l':=by
 have h1:¬ (i' < i \/ (i' = i /\ (j' < j \/ (j' = j /\ l' < l)))):=fun z=>a.2.2 i' j' l' b.1.1 b.1.2.1 b.1.2.2 z b.2.1
 have h2:¬ (i < i' \/ (i = i' /\ (j < j' \/ (j = j' /\ l < l')))):=fun z=>b.2.2 i j l a.1.1 a.1.2.1 a.1.2.2 z a.2.1
 omega
def W7 (K:FG7) (H:Hp) (tab:List (List Int)) (y:V):Prop :=
 (y = .non /\ ∀ i j l:Nat,i < tab.length -> j < tab.length -> l < tab.length -> ¬ misT tab i j l) \/ ∃ i j l:Nat,tH tab i j l /\ zV K H y [(i:Int),(j:Int),(l:Int)]
def FamD (H:Hp) (x:V) (fam:List (List Int)):Prop:=∃ l kvs,x = .ref l /\ H l = some (.dT kvs) /\ kvs.map (·.1) = fam.map (List.map Sum.inl)
theorem XB:∀ d:List Int,(d.map (Sum.inl:Int -> Key)).map kV = d.map V.int
 | []=>rfl
 | x :: d=>by rw [List.map_cons,List.map_cons,List.map_cons,XB d]; rfl
def BrkO (tab:List (List Int)):Option (Nat × Nat × Nat) -> Prop
 | none=>∀ i j l:Nat,i < tab.length -> j < tab.length -> l < tab.length -> ¬ misT tab i j l
 | some t=>tH tab t.1 t.2.1 t.2.2
theorem BrkO.eq {tab:List (List Int)} {o o':Option (Nat × Nat × Nat)} (a:BrkO tab o) (b:BrkO tab o'):o = o':=by
 cases o with
 | none=>cases o' with
  | none=>rfl
  | some t=>exact absurd b.2.1 (a _ _ _ b.1.1 b.1.2.1 b.1.2.2)
 | some t=>cases o' with
  | none=>exact absurd a.2.1 (b _ _ _ a.1.1 a.1.2.1 a.1.2.2)
  | some t' =>
   obtain ⟨i,j,l⟩:=t
   obtain ⟨i',j',l'⟩:=t'
   obtain ⟨e1,e2,e3⟩:=tH.eq a b
   rw [show i = i' from e1,show j = j' from e2,show l = l' from e3]
theorem W7.grow {K:FG7} {m:List Addr} {H H':Hp} {tab:List (List Int)} {y:V} (h:W7 K H tab y) (g:Grow m H H'):W7 K H' tab y:=by
 rcases h with h | ⟨i,j,l,h,hb⟩
 ·exact .inl h
 ·exact .inr ⟨i,j,l,h,g.board hb⟩
def TabG (K:FG7) (H:Hp) (y:V) (tab:List (List Int)):Prop:=vw K H y tab /\ 1 <= tab.length /\ tab.length <= 60 /\ Ut tab.length tab.length tab
def jB (K:FG7) (H:Hp) (z:V):Prop:=∃ t y1 y2 tab,z = .ref t /\ SqT K H t [y1,y2] /\ TabG K H y1 tab /\ W7 K H tab y2
theorem jB.grow {K:FG7} {m:List Addr} {H H':Hp} {z:V} (h:jB K H z) (g:Grow m H H'):jB K H' z:=by
 obtain ⟨t,y1,y2,tab,e,h1,⟨h2,h3⟩,h4⟩:=h
 exact ⟨t,y1,y2,tab,e,g.sqT h1,⟨g.rows h2,h3⟩,h4.grow g⟩
theorem nd1 {α:Type} {a:α}:[a].Nodup:=List.nodup_cons.mpr ⟨(fun z=>nomatch z),List.nodup_nil⟩
def idL (S:Nat):List Int:=(List.range S).map fun i:Nat=>(i:Int)
abbrev FW:=List (List Int × List Int)
def zU (f:FW):List (List Int):=f.map (·.1)
def yW (f:FW) (d:List Int):Option (List Int):=(f.find? fun p=>decide (p.1 = d)).map (·.2)
theorem um {d:List Int}:∀ {f:FW},d ∈ zU f -> ∃ w,yW f d = some w
 | [],h=>by cases h
 | p :: f,h=>by
  by_cases e:p.1 = d
  ·exact ⟨p.2,by simp [yW,List.find?_cons,e]⟩
  ·have:d ∈ zU f:=by
    rcases List.mem_cons.mp h with h | h
    ·exact absurd h.symm e
    ·exact h
   obtain ⟨w,hw⟩:=um this
   exact ⟨w,by simpa [yW,List.find?_cons,e] using hw⟩
theorem qr {d w:List Int}:∀ {f:FW},yW f d = some w -> (d,w) ∈ f
 | [],h=>by cases h
 | p :: f,h=>by
  by_cases e:p.1 = d
  ·have h':p.2 = w:=by simpa [yW,List.find?_cons,e] using h
   exact List.mem_cons.mpr (.inl (by rw [← e,← h']))
  ·exact List.mem_cons.mpr (.inr (qr (by simpa [yW,List.find?_cons,e] using h)))
theorem Ye {f:FW} {d w:List Int} (h:yW f d = some w):d ∈ zU f:=List.mem_map.mpr ⟨_,qr h,rfl⟩
theorem jC {f:FW} {d:List Int} (h:¬ (yW f d).isSome = true):d ∉ zU f:=fun z=>by
 obtain ⟨w,hw⟩:=um z
 rw [hw] at h; exact h rfl
def jD (d:List Int) (fm:FW × List (List Int)) (n:Nat) (m:List Int):FW × List (List Int) :=
 if (yW fm.1 (y4 d m)).isSome = true then fm else (fm.1 ++ [(y4 d m,(yW fm.1 d).getD [] ++ [(n:Int)])],fm.2 ++ [y4 d m])
def fRow (ms:List (List Int)) (d:List Int):Nat -> FW × List (List Int) -> FW × List (List Int)
 | 0,fm=>fm
 | i + 1,fm=>jD d (fRow ms d i fm) i (ms.getD i [])
def uO (ms last:List (List Int)):Nat -> FW × List (List Int) -> FW × List (List Int)
 | 0,fm=>fm
 | j + 1,fm=>fRow ms (last.getD j []) ms.length (uO ms last j fm)
inductive FamR (ms:List (List Int)):FW -> List (List Int) -> FW -> Prop
 | done {f:FW} {last:List (List Int)}:last = [] \/ 60 < f.length -> FamR ms f last f
 | step {f r:FW} {last:List (List Int)}:last ≠ [] -> f.length <= 60 -> FamR ms (uO ms last last.length (f,[])).1 (uO ms last last.length (f,[])).2 r -> FamR ms f last r
theorem FamR.eq {ms:List (List Int)} {f r:FW} {last:List (List Int)} (a:FamR ms f last r):∀ {r'},FamR ms f last r' -> r = r':=by
 induction a with
 | done h =>
  intro r' b
  cases b with
  | done _=>rfl
  | step h1 h2 _ =>
   rcases h with h | h
   ·exact absurd h h1
   ·omega
 | step h1 h2 _ ih =>
  intro r' b
  cases b with
  | done h =>
   rcases h with h | h
   ·exact absurd h h1
   ·omega
  | step _ _ c=>exact ih c
inductive Word (ms:List (List Int)) (S:Nat):List Int -> Prop
 | id:Word ms S (idL S)
 | more {d m:List Int}:Word ms S d -> m ∈ ms -> Word ms S (y4 d m)
def Mks (ms:List (List Int)) (S:Nat):Prop:=∀ m ∈ ms,m.length = S /\ Rng S m
def Dd (S:Nat) (d:List Int):Prop:=d.length = S /\ Rng S d
theorem TZ (S:Nat):Dd S (idL S):=by
 refine ⟨by unfold idL; rw [List.length_map,List.length_range],fun v hv=>?_⟩
 obtain ⟨i,hi,rfl⟩:=List.mem_map.mp hv
 have:=List.mem_range.mp hi
 omega
theorem W8 {S:Nat} {a b:List Int} (ha:Dd S a) (hb:Dd S b):Dd S (y4 a b):=⟨Xy.trans ha.1,Xz ha.2 hb.2 hb.1⟩
theorem Word.dd {ms:List (List Int)} {S:Nat} (hm:Mks ms S) {d:List Int} (h:Word ms S d):Dd S d:=by
 induction h with
 | id=>exact TZ S
 | more _ h ih=>exact W8 ih (hm _ h)
theorem UA {S:Nat} {i:Int} (h0:0 <= i) (h1:i < S):(idL S).getD i.toNat 0 = i:=by
 have:i.toNat < S:=by omega
 unfold idL
 rw [List.getD_eq_getElem?_getD,List.getElem?_map,List.getElem?_range this]
 show ((i.toNat:Nat):Int) = i
 omega
theorem W9 {S:Nat} {a:List Int} (ha:Dd S a):y4 a (idL S) = a:=by
 unfold y4
 conv=>rhs; rw [← List.map_id a]
 refine List.map_congr_left fun i hi=>?_
 obtain ⟨h0,h1⟩:=ha.2 i hi
 exact UA h0 h1
theorem jE {S:Nat} {a b c:List Int} (ha:Dd S a) (hb:b.length = S):y4 a (y4 b c) = y4 (y4 a b) c:=by
 unfold y4
 rw [List.map_map]
 refine List.map_congr_left fun i hi=>?_
 obtain ⟨h0,h1⟩:=ha.2 i hi
 have hi':i.toNat < b.length:=by omega
 show (b.map fun i=>c.getD i.toNat 0).getD i.toNat 0 = c.getD (b.getD i.toNat 0).toNat 0
 rw [List.getD_eq_getElem?_getD,List.getElem?_map,List.getElem?_eq_getElem hi',List.getD_eq_getElem?_getD (l:=b),List.getElem?_eq_getElem hi']
 rfl
theorem Word.mul {ms:List (List Int)} {S:Nat} (hm:Mks ms S) {a b:List Int} (ha:Word ms S a) (hb:Word ms S b):Word ms S (y4 a b):=by
 induction hb with
 | id=>rw [W9 (ha.dd hm)]; exact ha
 | more h1 h2 ih=>rw [jE (ha.dd hm) (h1.dd hm).1]; exact .more ih h2
def Ex (fm fm':FW × List (List Int)):Prop:=∃ g:FW,fm'.1 = fm.1 ++ g /\ fm'.2 = fm.2 ++ zU g
theorem Ex.refl (fm:FW × List (List Int)):Ex fm fm:=⟨[],by rw [List.append_nil],by show _ = _ ++ []; rw [List.append_nil]⟩
theorem Ex.trans {a b c:FW × List (List Int)} (h:Ex a b) (k:Ex b c):Ex a c:=by
 obtain ⟨g,h1,h2⟩:=h
 obtain ⟨g',k1,k2⟩:=k
 exact ⟨g ++ g',by rw [k1,h1,List.append_assoc],by rw [k2,h2,List.append_assoc]; unfold zU; rw [List.map_append]⟩
theorem Ex.keys {a b:FW × List (List Int)} (h:Ex a b) {d:List Int} (hd:d ∈ zU a.1):d ∈ zU b.1:=by
 obtain ⟨g,h1,_⟩:=h
 unfold zU at *
 rw [h1,List.map_append]
 exact List.mem_append.mpr (.inl hd)
theorem Zt {d m:List Int} {fm:FW × List (List Int)} {n:Nat}:Ex fm (jD d fm n m):=by
 unfold jD
 split
 ·exact Ex.refl fm
 ·exact ⟨[_],rfl,rfl⟩
theorem jF {ms:List (List Int)} {d:List Int} {fm:FW × List (List Int)}:∀ i,Ex fm (fRow ms d i fm)
 | 0=>Ex.refl fm
 | i + 1=>(jF i).trans Zt
theorem Zu {ms last:List (List Int)} {fm:FW × List (List Int)}:∀ j,Ex fm (uO ms last j fm)
 | 0=>Ex.refl fm
 | j + 1=>(Zu j).trans (jF _)
theorem Va {d m:List Int} {fm:FW × List (List Int)} {n:Nat}:y4 d m ∈ zU (jD d fm n m).1:=by
 unfold jD
 split
 ·rename_i h
  obtain ⟨w,hw⟩:=Option.isSome_iff_exists.mp h
  exact Ye hw
 ·unfold zU; rw [List.map_append]; exact List.mem_append.mpr (.inr (List.mem_singleton.mpr rfl))
theorem XC {ms:List (List Int)} {d:List Int} {fm:FW × List (List Int)}:∀ i,∀ k < i,y4 d (ms.getD k []) ∈ zU (fRow ms d i fm).1
 | 0,_,h=>by cases h
 | i + 1,k,h=>by
  by_cases e:k = i
  ·rw [e]; exact Va
  ·exact Zt.keys (XC i k (by omega))
theorem Zv {ms last:List (List Int)} {fm:FW × List (List Int)}:∀ j,∀ k < j,∀ i < ms.length,y4 (last.getD k []) (ms.getD i []) ∈ zU (uO ms last j fm).1
 | 0,_,h,_,_=>by cases h
 | j + 1,k,h,i,hi=>by
  by_cases e:k = j
  ·rw [e]; exact XC _ i hi
  ·exact (jF _).keys (Zv j k (by omega) i hi)
structure GoodF (ms:List (List Int)) (S:Nat) (f:FW):Prop where
 nd:(zU f).Nodup
 wd:∀ d ∈ zU f,Word ms S d
theorem Yf {ms:List (List Int)} {S:Nat} {d m:List Int} {fm:FW × List (List Int)} {n:Nat} (h:GoodF ms S fm.1) (hd:Word ms S d) (hm:m ∈ ms):GoodF ms S (jD d fm n m).1:=by
 unfold jD
 split
 ·exact h
 ·rename_i c
  have hn:=jC c
  refine ⟨?_,fun z hz=>?_⟩
  ·show (zU (fm.1 ++ [_])).Nodup
   unfold zU at hn ⊢
   rw [List.map_append]
   refine List.nodup_append.mpr ⟨h.nd,nd1,fun a ha b hb e=>?_⟩
   rw [e,List.mem_singleton.mp hb] at ha
   exact hn ha
  ·unfold zU at hz
   rw [List.map_append] at hz
   rcases List.mem_append.mp hz with hz | hz
   ·exact h.wd z hz
   ·rw [List.mem_singleton.mp hz]; exact .more hd hm
theorem Zw {ms:List (List Int)} {i:Nat} (h:i < ms.length):ms.getD i [] ∈ ms:=by
 rw [List.getD_eq_getElem?_getD,List.getElem?_eq_getElem h]; exact List.getElem_mem h
theorem qt {ms:List (List Int)} {S:Nat} {d:List Int} {fm:FW × List (List Int)} (h:GoodF ms S fm.1) (hd:Word ms S d):∀ i,i <= ms.length -> GoodF ms S (fRow ms d i fm).1
 | 0,_=>h
 | i + 1,hi=>Yf (qt h hd i (by omega)) hd (Zw (by omega))
theorem tI {ms last:List (List Int)} {S:Nat} {fm:FW × List (List Int)} (h:GoodF ms S fm.1) (hd:∀ d ∈ last,Word ms S d):∀ j,j <= last.length -> GoodF ms S (uO ms last j fm).1
 | 0,_=>h
 | j + 1,hj=>qt (tI h hd j (by omega)) (hd _ (Zw (by omega))) _ (Nat.le_refl _)
structure LI (ms:List (List Int)) (S:Nat) (f:FW) (last:List (List Int)):Prop where
 good:GoodF ms S f
 idk:idL S ∈ zU f
 sub:∀ d ∈ last,d ∈ zU f
 len:last.length <= f.length
 cl:∀ d ∈ zU f,d ∉ last -> ∀ m ∈ ms,y4 d m ∈ zU f
 hd:f.head? = some (idL S,[])
theorem LI.init (ms:List (List Int)) (S:Nat):LI ms S [(idL S,[])] [idL S] where
 good:=⟨nd1,fun d hd=>by rw [List.mem_singleton.mp hd]; exact .id⟩
 idk:=List.mem_singleton.mpr rfl
 sub:=fun d hd=>hd
 len:=Nat.le_refl _
 cl:=fun d hd hn=>absurd hd hn
 hd:=rfl
theorem Zx {l:List (List Int)} {d:List Int} (h:d ∈ l):∃ k < l.length,l.getD k [] = d:=by
 obtain ⟨k,hk,e⟩:=List.mem_iff_getElem.mp h
 exact ⟨k,hk,by rw [List.getD_eq_getElem?_getD,List.getElem?_eq_getElem hk]; exact e⟩
theorem LI.pass {ms last:List (List Int)} {S:Nat} {f:FW} (h:LI ms S f last):LI ms S (uO ms last last.length (f,[])).1 (uO ms last last.length (f,[])).2:=by
 have hE:Ex (f,[]) (uO ms last last.length (f,[])):=Zu _
 have hI:=fun k hk i hi=>Zv (ms:=ms) (last:=last) (fm:=(f,[])) last.length k hk i hi
 have hG:=tI (last:=last) (fm:=(f,[])) h.good (fun d hd=>h.good.wd d (h.sub d hd)) last.length (Nat.le_refl _)
 revert hE hI hG
 generalize uO ms last last.length (f,[]) = fm
 intro hE hI hG
 obtain ⟨g,e1,e2⟩:=id hE
 rw [List.nil_append] at e2
 have ek:zU fm.1 = zU f ++ zU g:=by rw [e1]; unfold zU; rw [List.map_append]
 refine ⟨hG,hE.keys h.idk,fun d hd=>?_,?_,fun d hd hn m hm=>?_,?_⟩
 ·rw [ek]; rw [e2] at hd; exact List.mem_append.mpr (.inr hd)
 ·rw [e2,e1,List.length_append]; unfold zU; rw [List.length_map]; omega
 ·rw [ek] at hd
  rcases List.mem_append.mp hd with hd | hd
  ·by_cases w:d ∈ last
   ·obtain ⟨k,hk,rfl⟩:=Zx w
    obtain ⟨i,hi,rfl⟩:=Zx hm
    exact hI k hk i hi
   ·exact hE.keys (h.cl d hd w m hm)
  ·rw [e2] at hn; exact absurd hd hn
 ·rw [e1,List.head?_append,h.hd]; rfl
structure FamOk (ms:List (List Int)) (S:Nat) (r:FW):Prop where
 good:GoodF ms S r
 idk:idL S ∈ zU r
 cl:r.length <= 60 -> ∀ d ∈ zU r,∀ m ∈ ms,y4 d m ∈ zU r
 hd:r.head? = some (idL S,[])
theorem FamR.ok {ms last:List (List Int)} {S:Nat} {f r:FW} (a:FamR ms f last r) (h:LI ms S f last):FamOk ms S r:=by
 induction a with
 | done c =>
  refine ⟨h.good,h.idk,fun hl d hd m hm=>?_,h.hd⟩
  rcases c with rfl | c
  ·exact h.cl d hd (fun z=>by cases z) m hm
  ·omega
 | step _ _ _ ih=>exact ih h.pass
def FamL (ms:List (List Int)) (S:Nat) (r:FW):Prop:=FamR ms [(idL S,[])] [idL S] r
theorem FamL.ok {ms:List (List Int)} {S:Nat} {r:FW} (h:FamL ms S r):FamOk ms S r:=FamR.ok h (LI.init ms S)
def Few (ms:List (List Int)) (S:Nat):Prop:=∃ l:List (List Int),l.length <= 60 /\ ∀ d,Word ms S d -> d ∈ l
theorem FamOk.all {ms:List (List Int)} {S:Nat} {r:FW} (h:FamOk ms S r) (hl:r.length <= 60) {d:List Int} (hd:Word ms S d):d ∈ zU r:=by
 induction hd with
 | id=>exact h.idk
 | more _ hm ih=>exact h.cl hl _ ih _ hm
theorem FamOk.few {ms:List (List Int)} {S:Nat} {r:FW} (h:FamOk ms S r) (hl:r.length <= 60):Few ms S:=⟨zU r,by unfold zU; rw [List.length_map]; exact hl,fun _ hd=>h.all hl hd⟩
theorem sK:∀ {l l':List (List Int)},l.Nodup -> (∀ x ∈ l,x ∈ l') -> l.length <= l'.length
 | [],_,_,_=>Nat.zero_le _
 | a :: l,l',hn,h=>by
  have ha:a ∈ l':=h a (List.mem_cons.mpr (.inl rfl))
  obtain ⟨h1,h2⟩:=List.nodup_cons.mp hn
  have:=sK (l:=l) (l':=l'.erase a) h2 fun x hx=>(List.mem_erase_of_ne (fun e=>h1 (by rw [← e]; exact hx))).mpr (h x (List.mem_cons.mpr (.inr hx)))
  rw [List.length_erase_of_mem ha] at this
  have:0 < l'.length:=List.length_pos_of_mem ha
  rw [List.length_cons]; omega
theorem FamOk.le {ms:List (List Int)} {S:Nat} {r:FW} (h:FamOk ms S r) (hf:Few ms S):r.length <= 60:=by
 obtain ⟨l,hl,hw⟩:=hf
 have:=sK h.good.nd fun d hd=>hw d (h.good.wd d hd)
 unfold zU at this
 rw [List.length_map] at this
 omega
def KeyB (H:Hp) (y:V) (row:List Int):Prop:=∃ b,y = .ref b /\ H b = some (.tup (row.map V.int))
theorem KeyB.board {K:FG7} {H:Hp} {y:V} {row:List Int} (h:KeyB H y row):zV K H y row:=let ⟨b,e,hb⟩:=h; ⟨b,e,SqT.of hb⟩
theorem KeyB.grow {m:List Addr} {H H':Hp} {y:V} {row:List Int} (h:KeyB H y row) (g:Grow m H H'):KeyB H' y row:=let ⟨b,e,hb⟩:=h; ⟨b,e,g.tup _ _ hb⟩
def kI (d:List Int):List Key:=d.map Sum.inl
theorem VL:∀ {a b:List Int},kI a = kI b -> a = b
 | [],[],_=>rfl
 | [],_ :: _,e=>by cases e
 | _ :: _,[],e=>by cases e
 | x :: a,y :: b,e=>by
  unfold kI at e
  rw [List.map_cons,List.map_cons] at e
  injection e with e1 e2
  rw [Sum.inl.inj e1,VL e2]
theorem SS (d:List Int):(kI d).map kV = d.map V.int:=XB d
def KvF (K:FG7) (H:Hp):List (List Key × V) -> FW -> Prop
 | [],[]=>True
 | p :: kvs,q :: f=>(p.1 = kI q.1 /\ zV K H p.2 q.2) /\ KvF K H kvs f
 | _,_=>False
section
variable {K:FG7} {H H':Hp} {m:List Addr}
theorem KvF.len:∀ {kvs:List (List Key × V)} {f:FW},KvF K H kvs f -> kvs.length = f.length
 | [],[],_=>rfl
 | _ :: _,_ :: _,h=>by rw [List.length_cons,List.length_cons,KvF.len h.2]
 | [],_ :: _,h=>h.elim
 | _ :: _,[],h=>h.elim
theorem KvF.keys:∀ {kvs:List (List Key × V)} {f:FW},KvF K H kvs f -> kvs.map (·.1) = (zU f).map (List.map Sum.inl)
 | [],[],_=>rfl
 | p :: kvs,q :: f,h=>by
  show p.1 :: kvs.map (·.1) = q.1.map Sum.inl :: (zU f).map (List.map Sum.inl)
  rw [KvF.keys h.2,h.1.1]; rfl
 | [],_ :: _,h=>h.elim
 | _ :: _,[],h=>h.elim
theorem KvF.grow (g:Grow m H H'):∀ {kvs:List (List Key × V)} {f:FW},KvF K H kvs f -> KvF K H' kvs f
 | [],[],_=>trivial
 | _ :: _,_ :: _,h=>⟨⟨h.1.1,g.board h.1.2⟩,KvF.grow g h.2⟩
 | [],_ :: _,h=>h.elim
 | _ :: _,[],h=>h.elim
theorem KvF.app:∀ {kvs:List (List Key × V)} {f:FW} {kvs':List (List Key × V)} {f':FW},KvF K H kvs f -> KvF K H kvs' f' -> KvF K H (kvs ++ kvs') (f ++ f')
 | [],[],_,_,_,k=>k
 | _ :: _,_ :: _,_,_,h,k=>⟨h.1,KvF.app h.2 k⟩
 | [],_ :: _,_,_,h,_=>h.elim
 | _ :: _,[],_,_,h,_=>h.elim
theorem KvF.val (d:List Int):∀ {kvs:List (List Key × V)} {f:FW},KvF K H kvs f -> (∃ v w,valV kvs (kI d) = some v /\ yW f d = some w /\ zV K H v w) \/ (valV kvs (kI d) = none /\ yW f d = none)
 | [],[],_=>.inr ⟨rfl,rfl⟩
 | p :: kvs,q :: f,h=>by
  by_cases e:q.1 = d
  ·exact .inl ⟨p.2,q.2,yc (by rw [h.1.1,e]),by simp [yW,List.find?_cons,e],h.1.2⟩
  ·have e':¬ p.1 = kI d:=fun z=>e (VL (h.1.1.symm.trans z))
   have ew:yW (q :: f) d = yW f d:=by simp [yW,List.find?_cons,e]
   rw [z7 e',ew]
   exact KvF.val d h.2
 | [],_ :: _,h=>h.elim
 | _ :: _,[],h=>h.elim
end
theorem Mks.take {ms:List (List Int)} {S n:Nat} (h:Mks ms S):Mks (ms.take n) S:=fun m hm=>h m (List.mem_of_mem_take hm)
def FamW (K:FG7) (H:Hp) (y:V) (f:FW):Prop:=∃ l kvs,y = .ref l /\ H l = some (.dT kvs) /\ KvF K H kvs f
theorem FamW.d {K:FG7} {H:Hp} {y:V} {f:FW} (h:FamW K H y f):FamD H y (zU f):=let ⟨l,kvs,e,hl,hk⟩:=h; ⟨l,kvs,e,hl,hk.keys⟩
theorem Grow.setDT {m:List Addr} {H:Hp} {p:Addr} {xs:List (List Key × V)} (h:H p = some (.dT xs)) (hm:p ∈ m) (ys:List (List Key × V)):Grow m H (upd H p (.dT ys)) :=
 ⟨fun b u hb q=>by rw [zt (show b ≠ p from fun z=>hb (by rw [z]; exact hm))]; exact q,fun b zs q=>by rw [zt (fun z=>by subst z; rw [h] at q; cases q)]; exact q,fun b u v q=>by rw [zt (fun z=>by subst z; rw [h] at q; cases q)]; exact q⟩
theorem Room.u1F {k:Nat} {A:Around} (r:Room k A):A.units + 1 < cLine:=by have:=r.un; omega
def DRaw (prog:Program) (w:World) (Hb:Hp) (h:Heap) (D:Addr) (o:Obj) (kvs:List (List Key × V)):Prop :=
 kvs.length <= sizeLine /\ (D == sysModules) = false /\ ∃ xs:List (List Key × Addr × Value),KT Hb kvs xs /\ ∃ es ep,h.get? D = some o /\ o.ExactDict /\ o.data = .dict es ep /\ es.toList = xs.map (entryOfKey (tupleKind (zH prog w))) /\ (xs.map (·.1)).Nodup
theorem DRaw.at {prog:Program} {w:World} {Hb:Hp} {h h':Heap} {D:Addr} {o:Obj} {kvs:List (List Key × V)} (r:DRaw prog w Hb h D o kvs) (e:h'.get? D = some o):DRaw prog w Hb h' D o kvs :=
 let ⟨z,y,xs,k,es,ep,_,h2,h3,h4,h5⟩:=r; ⟨z,y,xs,k,es,ep,e,h2,h3,h4,h5⟩
theorem DRaw.obj {prog:Program} {w:World} {Hb H':Hp} {h:Heap} {D:Addr} {o:Obj} {kvs:List (List Key × V)} (r:DRaw prog w Hb h D o kvs) (hk:∀ b xs,Hb b = some (.tup xs) -> H' b = some (.tup xs)):z5 prog w H' h D (.dT kvs) :=
 let ⟨z,y,xs,k,es,ep,h1,h2,h3,h4,h5⟩:=r; ⟨z,y,xs,k.keeps hk,o,es,ep,h1,h2,h3,h4,h5⟩
theorem DRaw.nocell {prog:Program} {w:World} {Hb:Hp} {h:Heap} {D:Addr} {o:Obj} {kvs:List (List Key × V)} (r:DRaw prog w Hb h D o kvs) (v:Option Value):o.data ≠ .cell v:=by
 obtain ⟨_,_,_,_,es,ep,_,_,h3,_⟩:=r
 rw [h3]; intro z; cases z
section
variable {X:Cx} {pins:List (Addr × Obj)} {σ:L2.St} {H2:Hp} {s₂:Shared} {it:Addr} {fp:List Addr} {tn:Nat -> Heap -> Prop} {J:It} {scope:Scope} {cl:List (Str × Addr)} {N':List Str} {sub:List (Option Nat)}
theorem XD {C D:Addr} {s₀:Shared} {s':Shared} {σ':L2.St} {H' Hb:Hp} {kvs:List (List Key × V)} {o oC:Obj} (I:Inv X pins σ H2 s₂)
    (hs₀:∀ b o,s₂.heap.get? b = some o -> s₀.heap.get? b = some o) (hos:s₀.os = s₂.os) (hD:s₂.heap.objs.size <= D) (hC:s₂.heap.objs.size <= C) (hDC:D ≠ C) (f2:∀ b ∈ fp,FpOk X pins H2 b)
    (I':Inv (cxC X N' scope cl C D fp s₀ H2) pins σ' H' s') (hn:H' D = none) (hb:∀ b xs,Hb b = some (.tup xs) -> H' b = some (.tup xs)) (rv:DRaw X.prog X.w Hb s'.heap D o kvs)
    (ho:s'.heap.get? C = some oC) (hd:∀ v,oC.data ≠ .cell v):Inv X (pins ++ [(C,oC)]) σ (upd H' D (.dT kvs)) s' /\ FpOk X pins (upd H' D (.dT kvs)) C:=by
  have neD:∀ b o,s₂.heap.get? b = some o -> b ≠ D:=fun b o e=>Nat.ne_of_lt (Nat.lt_of_lt_of_le (Heap.lt_size e) hD)
  have nm:∀ b o,s₂.heap.get? b = some o -> b ∉ fp -> b ∉ D :: fp:=fun b o e h z=>(List.mem_cons.mp z).elim (neD b o e) h
  have U:=I'.base
  have HC:upd H' D (.dT kvs) C = none:=by rw [zt (Ne.symm hDC)]; exact I'.free
  have fpc:FpOk X pins (upd H' D (.dT kvs)) C:=I.fpOk hC HC
  have tp:∀ b xs,H2 b = some (.tup xs) -> upd H' D (.dT kvs) b = some (.tup xs):=fun b xs e=>by have z:=U.tups b xs e; rw [zt (zv z hn)]; exact z
  have un:Un (frs X.stack) fp H2 (upd H' D (.dT kvs)) s₂.heap s'.heap :=
    { keep:=fun b o e n h1 h2=>U.keep b o (hs₀ b o e) n h1 (nm b o e h2)
      slot:=fun b o e n h1 h2=>U.slot b o (hs₀ b o e) n h1 (nm b o e h2)
      free:=fun b o e n h2=>by rw [zt (neD b o e)]; exact U.free b o (hs₀ b o e) n (nm b o e h2)
      there:=fun b o e h2=>U.there b o (hs₀ b o e) (nm b o e h2)
      tups:=tp
      frzs:=fun b o u e=>by have z:=U.frzs b o u e; rw [zt (zv z hn)]; exact z
      tbls:=fun b ps e=>by obtain ⟨more,z⟩:=U.tbls b ps e; exact ⟨more,by rw [zt (zv z hn)]; exact z⟩ }
  have hok:HOk X.prog X.w (upd H' D (.dT kvs)) s'.heap:=HOk.track I'.hok hn (rv.obj fun b xs e=>by have z:=hb b xs e; rw [zt (zv z hn)]; exact z)
  have IX:Inv X pins σ (upd H' D (.dT kvs)) s':=I.call' (I'.os.trans hos) un hok I'.bare fun b hb=>⟨(f2 b hb).2.2.2.1,(f2 b hb).2.1,(f2 b hb).2.2.2.2.1,(f2 b hb).2.2.2.2.2⟩
  refine ⟨IX.pins_of fun p hp=>?_,fpc⟩
  rcases List.mem_append.mp hp with hp | hp
  · exact IX.pin p (List.mem_append_right _ hp)
  · rw [List.mem_singleton.mp hp]
    exact ⟨ho,HC,fpc.2.1,fpc.2.2.1,hd⟩
end
def x0R (k:Nat) (rows:List (List Int)) (s l:Nat):Nat:=wfN k s l (fstI rows s (nN k s l))
def x1R (k:Nat) (rows:List (List Int)) (s l:Nat):Nat:=wfN k s l (1 - fstI rows s (nN k s l))
def outR (k s l b:Nat):Nat:=wfN k s l (figI k s ((b % 2 ^ k:Nat):Int))
theorem T0 {k s l m:Nat} {w:Int} (k4:k <= 4) (s1:1 <= s) (sk:s <= k) (hl:l < 2 ^ k) (hm:m < 2 ^ k) (hw:w = 0 \/ w = 1) (h:∀ t:Nat,1 <= t -> t <= k -> t ≠ s -> figI k t l = figI k t m):wfN k s l w = wfN k s m w:=by
 have A:=wfF k4 s1 sk hl hw
 have B:=wfF k4 s1 sk hm hw
 refine sF k4 A.lt B.lt fun t t1 tk=>?_
 by_cases c:t = s
 ·rw [c,A.at_,B.at_]
 ·rw [A.off t tk c,B.off t tk c,h t t1 tk c]
theorem T1 {k s l m:Nat} (s1:1 <= s) (sk:s <= k) (h:∀ t:Nat,1 <= t -> t <= k -> t ≠ s -> figI k t l = figI k t m):nN k s l = nN k s m:=by
 rw [VG (e:=m) (x:=m) s1 sk (fun u u1 u2=>h u u1 (by omega) (by omega)) fun u u1 u2=>h u (by omega) u2 (by omega)]
 exact (VG (e:=m) (x:=m) s1 sk (fun u _ _=>rfl) fun u _ _=>rfl).symm
section
variable {k:Nat} {rows:List (List Int)}
theorem T3 {s l m:Nat} (k4:k <= 4) (hs:sE k rows) (s1:1 <= s) (sk:s <= k) (hl:l < 2 ^ k) (hm:m < 2 ^ k) (h:∀ t:Nat,1 <= t -> t <= k -> t ≠ s -> figI k t l = figI k t m) :
  x0R k rows s l = x0R k rows s m /\ x1R k rows s l = x1R k rows s m:=by
 have e:=T1 s1 sk h
 have f:=TN k4 hs s1 sk hm
 unfold x0R x1R
 rw [e]
 exact ⟨T0 k4 s1 sk hl hm f h,T0 k4 s1 sk hl hm (by omega) h⟩
structure XF (k:Nat) (rows:List (List Int)) (s l:Nat):Prop where
 lt0:x0R k rows s l < 2 ^ k
 lt1:x1R k rows s l < 2 ^ k
 ne:x0R k rows s l ≠ x1R k rows s l
 or:l = x0R k rows s l \/ l = x1R k rows s l
 off0:∀ t:Nat,t <= k -> t ≠ s -> figI k t (x0R k rows s l) = figI k t l
 off1:∀ t:Nat,t <= k -> t ≠ s -> figI k t (x1R k rows s l) = figI k t l
theorem xF {s l:Nat} (k4:k <= 4) (hs:sE k rows) (s1:1 <= s) (sk:s <= k) (hl:l < 2 ^ k):XF k rows s l:=by
 have f:=TN k4 hs s1 sk hl
 have A:=wfF k4 s1 sk hl f
 have B:=wfF k4 s1 sk hl (show 1 - fstI rows s (nN k s l) = 0 \/ 1 - fstI rows s (nN k s l) = 1 by omega)
 have g:=TM (l:=l) k4 sk hl
 refine ⟨A.lt,B.lt,fun e=>?_,?_,A.off,B.off⟩
 ·have e':wfN k s l (fstI rows s (nN k s l)) = wfN k s l (1 - fstI rows s (nN k s l)):=e
  have a:=A.at_
  rw [e',B.at_] at a
  omega
 ·by_cases c:figI k s l = fstI rows s (nN k s l)
  ·refine .inl (sF k4 hl A.lt fun t t1 tk=>?_)
   by_cases d:t = s
   ·rw [d]; exact c.trans A.at_.symm
   ·exact (A.off t tk d).symm
  ·refine .inr (sF k4 hl B.lt fun t t1 tk=>?_)
   by_cases d:t = s
   ·rw [d,show figI k s (x1R k rows s l) = 1 - fstI rows s (nN k s l) from B.at_]; omega
   ·exact (B.off t tk d).symm
theorem XE {b:Nat}:b % 2 ^ k < 2 ^ k:=Nat.mod_lt _ (Nat.two_pow_pos k)
theorem outF {s l b:Nat} (k4:k <= 4) (s1:1 <= s) (sk:s <= k) (hl:l < 2 ^ k):WfF k s l (figI k s ((b % 2 ^ k:Nat):Int)):=wfF k4 s1 sk hl (TM k4 sk XE)
def T4:Option Deed -> Option Deed -> Option Deed
 | some d,some e=>some (Z2 d e)
 | some d,none=>some d
 | none,o=>o
def lvR (k:Nat) (rows:List (List Int)) (ks:List Ask):Nat -> Nat -> Nat -> Option Deed
 | 0,l,b=>(ks.find? fun a=>decide (a.hand = (l:Int) /\ a.box = (b:Int))).map (·.deed)
 | s + 1,l,b=>if figI k ((s + 1:Nat):Int) l = figI k ((s + 1:Nat):Int) ((b % 2 ^ k:Nat):Int) then T4 (lvR k rows ks s (x0R k rows (s + 1) l) b) (lvR k rows ks s (x1R k rows (s + 1) l) b) else none
def runR (v:Int) (as:List Ask):Int:=as.foldl (fun v a=>a.deed.mk' v) v
structure RndOk (k m:Nat) (ks:List Ask):Prop where
 nd:(ks.map (·.hand)).Nodup
 hand:∀ a ∈ ks,0 <= a.hand /\ a.hand < 2 ^ k
 box:∀ a ∈ ks,0 <= a.box /\ a.box < m
 ok:∀ a ∈ ks,a.deed.Ok
theorem T6 {ks:List Ask} (k4:k <= 4) (hs:sE k rows) {s l b:Nat} (sk:s + 1 <= k) (hl:l < 2 ^ k) (h:lvR k rows ks (s + 1) l b ≠ none):∃ x,x < 2 ^ k /\ outR k (s + 1) x b = l /\ lvR k rows ks s x b ≠ none:=by
 by_cases c:figI k ((s + 1:Nat):Int) l = figI k ((s + 1:Nat):Int) ((b % 2 ^ k:Nat):Int)
 ·have e2:lvR k rows ks (s + 1) l b = T4 (lvR k rows ks s (x0R k rows (s + 1) l) b) (lvR k rows ks s (x1R k rows (s + 1) l) b):=if_pos c
  have X:=xF k4 hs (show 1 <= s + 1 by omega) sk hl
  have back:∀ x:Nat,x < 2 ^ k -> (∀ t:Nat,t <= k -> t ≠ s + 1 -> figI k t x = figI k t l) -> outR k (s + 1) x b = l:=by
   intro x hx ho
   have W:=outF (b:=b) k4 (show 1 <= s + 1 by omega) sk hx
   refine sF k4 W.lt hl fun t t1 tk=>?_
   by_cases d:t = s + 1
   ·rw [d]; exact W.at_.trans c.symm
   ·exact (W.off t tk d).trans (ho t tk d)
  cases h0:lvR k rows ks s (x0R k rows (s + 1) l) b with
  | some d=>exact ⟨_,X.lt0,back _ X.lt0 X.off0,by rw [h0]; exact fun z=>nomatch z⟩
  | none =>
   refine ⟨_,X.lt1,back _ X.lt1 X.off1,fun z=>h ?_⟩
   rw [e2,h0,z]; rfl
 ·exact absurd (if_neg c) h
def stvR (k:Nat) (rows:List (List Int)) (ks:List Ask) (bd:Nat -> Int):Nat -> Nat -> Nat -> Int
 | 0,_,b=>bd b
 | n + 1,l,b=>match lvR k rows ks (k - n - 1) (x0R k rows (k - n) l) b,lvR k rows ks (k - n - 1) (x1R k rows (k - n) l) b with
  | some d,some _=>if l = x1R k rows (k - n) l then d.mk' (stvR k rows ks bd n (outR k (k - n) l b) b) else stvR k rows ks bd n (outR k (k - n) l b) b
  | _,_=>stvR k rows ks bd n (outR k (k - n) l b) b
end
section
variable {c:TT} {e:TE} {i:Nat} {v v':V} {t u r:TS} {D:Ends} {σ:L2.St} {H:Hp} {rt:VK} {bk ct:L2.St -> Hp -> Prop}
theorem yX (h:t D (σ.set i (some v)) H):vb i v σ H ({ nx:=t D,rt:=rt,bk:=bk,ct:=ct }:Ends).nx:=h
theorem jG (e:v = v') (h:t D (σ.set i (some v')) H):vb i v σ H ({ nx:=t D,rt:=rt,bk:=bk,ct:=ct }:Ends).nx:=by subst e; exact h
theorem c_if (Good:L2.St -> Hp -> Prop) (hr:∀ σ' H',Good σ' H' -> r D σ' H') (hc:(∀ σ' H',Good σ' H' -> r D σ' H') -> tIfS c t u { D with nx:=r D } σ H):tSeq (tIfS c t u) r D σ H:=hc hr
theorem Yg (Good:V -> Hp -> Prop) (hc:∀ K:VK,(∀ v H',Good v H' -> K v H') -> e σ H K) (hr:∀ v H',Good v H' -> t D (σ.set i (some v)) H'):tSeq (tAsg e (vb i)) t D σ H:=hc _ fun v H' g=>hr v H' g
theorem vB (h:t D σ H):Tc ({ nx:=t D,rt:=rt,bk:=bk,ct:=ct }:Ends) σ H:=h
theorem c_nx (h:t D σ H):({ nx:=t D,rt:=rt,bk:=bk,ct:=ct }:Ends).nx σ H:=h
theorem Zy (Good:Bool -> Hp -> Prop) (hc:∀ K:Bool -> Hp -> Prop,(∀ b H',Good b H' -> K b H') -> c σ H K) (hr:∀ b H',Good b H' -> if b = true then t { D with nx:=r D } σ H' else u { D with nx:=r D } σ H'):tSeq (tIfS c t u) r D σ H:=hc _ hr
end
def keyR (l b:Nat):List Key:=[.inl (l:Int),.inl (b:Int)]
theorem x9 {l b l' b':Nat} (h:keyR l b = keyR l' b'):l = l' /\ b = b':=by
 unfold keyR at h
 injection h with h1 h2
 injection h2 with h2 _
 injection h1 with h1
 injection h2 with h2
 exact ⟨by omega,by omega⟩
structure TabR {α:Type} (kvs:List (List Key × V)) (n m:Nat) (f:Nat -> Nat -> Option α) (R:V -> α -> Prop):Prop where
 keys:∀ p ∈ kvs,∃ l b x,p.1 = keyR l b /\ l < n /\ b < m /\ f l b = some x /\ R p.2 x
 nd:(kvs.map (·.1)).Nodup
 all:∀ l b,l < n -> b < m -> f l b ≠ none -> (valV kvs (keyR l b)).isSome = true
theorem jH {kvs:List (List Key × V)} {k:List Key} {v:V} (h:valV kvs k = some v):(k,v) ∈ kvs:=by
 unfold valV at h
 cases e:kvs.find? fun kv=>decide (kv.1 = k) with
 | none=>rw [e] at h; cases h
 | some p =>
  rw [e] at h
  have h2:p.2 = v:=Option.some.inj h
  have h0:decide (p.1 = k) = true:=by have z:=List.find?_some e; exact z
  have h1:=of_decide_eq_true h0
  have h3:=List.mem_of_find?_eq_some e
  rw [← h2,← h1]; exact h3
theorem TabR.val {α:Type} {kvs:List (List Key × V)} {n m:Nat} {f:Nat -> Nat -> Option α} {R:V -> α -> Prop} (t:TabR kvs n m f R) {l b:Nat} (hl:l < n) (hb:b < m) :
  match f l b with | some x=>∃ v,valV kvs (keyR l b) = some v /\ R v x | none=>valV kvs (keyR l b) = none:=by
 cases hv:valV kvs (keyR l b) with
 | some v =>
  obtain ⟨l',b',x,e,_,_,hf,hR⟩:=t.keys _ (jH hv)
  obtain ⟨rfl,rfl⟩:=x9 e
  rw [hf]
  exact ⟨v,rfl,hR⟩
 | none =>
  cases hf:f l b with
  | none=>rfl
  | some x =>
   have:=t.all l b hl hb (by rw [hf]; exact fun z=>nomatch z)
   rw [hv] at this; cases this
theorem sL {kvs:List (List Key × V)} {k:List Key} {v:V}:∀ p ∈ putK kvs k v,p = (k,v) \/ (p ∈ kvs /\ p.1 ≠ k):=by
 intro p hp
 unfold putK at hp
 split at hp
 ·obtain ⟨q,hq,rfl⟩:=List.mem_map.mp hp
  by_cases c:q.1 = k
  ·left; rw [if_pos c]; exact Prod.ext c rfl
  ·right; rw [if_neg c]; exact ⟨hq,c⟩
 ·rename_i h
  rcases List.mem_append.mp hp with z | z
  ·by_cases c:p.1 = k
   ·exfalso; exact h (List.any_eq_true.mpr ⟨p,z,decide_eq_true c⟩)
   ·exact .inr ⟨z,c⟩
  ·exact .inl (List.mem_singleton.mp z)
theorem XG {kvs:List (List Key × V)} {k:List Key} {v:V} (h:(kvs.map (·.1)).Nodup):((putK kvs k v).map (·.1)).Nodup:=by
 cases e:valV kvs k with
 | none=>exact Uz v h e
 | some u =>
  have:(putK kvs k v).map (·.1) = kvs.map (·.1):=by
   unfold putK
   rw [if_pos (by rw [xg,e]; rfl),List.map_map]
   refine List.map_congr_left fun p _=>?_
   show (if p.1 = k then (p.1,v) else p).1 = p.1
   split <;> rfl
  rw [this]; exact h
theorem TabR.put {α:Type} {kvs:List (List Key × V)} {n m:Nat} {f g:Nat -> Nat -> Option α} {R:V -> α -> Prop} (t:TabR kvs n m f R) {l b:Nat} {v:V} {x:α} (hl:l < n) (hb:b < m) (hR:R v x) (hx:g l b = some x) (hg:∀ l' b',¬ (l' = l /\ b' = b) -> g l' b' = f l' b'):TabR (putK kvs (keyR l b) v) n m g R where
 keys:=fun p hp=>by
  rcases sL p hp with rfl | ⟨hm,hne⟩
  ·exact ⟨l,b,x,rfl,hl,hb,hx,hR⟩
  ·obtain ⟨l',b',y,e,h1,h2,h3,h4⟩:=t.keys p hm
   refine ⟨l',b',y,e,h1,h2,?_,h4⟩
   rw [hg l' b' fun z=>hne (by rw [e,z.1,z.2])]; exact h3
 nd:=XG t.nd
 all:=fun l' b' h1 h2 h3=>by
  rw [xh]
  by_cases c:keyR l' b' = keyR l b
  ·rw [if_pos c]; rfl
  ·rw [if_neg c]
   refine t.all l' b' h1 h2 ?_
   rw [← hg l' b' fun z=>c (by rw [z.1,z.2])]; exact h3
theorem TabR.nil {α:Type} {n m:Nat} {R:V -> α -> Prop}:TabR [] n m (fun _ _=>(none:Option α)) R:=⟨(fun _ h=>nomatch h),List.nodup_nil,fun _ _ _ _ h=>absurd rfl h⟩
theorem TabR.imp {α:Type} {kvs:List (List Key × V)} {n m:Nat} {f:Nat -> Nat -> Option α} {R R':V -> α -> Prop} (t:TabR kvs n m f R) (h:∀ v x,R v x -> R' v x):TabR kvs n m f R' :=
 ⟨fun p hp=>by obtain ⟨l,b,x,e,h1,h2,h3,h4⟩:=t.keys p hp; exact ⟨l,b,x,e,h1,h2,h3,h _ _ h4⟩,t.nd,t.all⟩
def T7 {α:Type} (H:Hp) (d:Addr) (n m:Nat) (f:Nat -> Nat -> Option α) (R:V -> α -> Prop):Prop:=∃ kvs,Rd H d (.dT kvs) /\ TabR kvs n m f R /\ kvs.length <= 16
def LvAt (K:FG7) (H:Hp) (k m:Nat) (rows:List (List Int)) (ks:List Ask) (s:Nat) (d:Addr):Prop:=T7 H d (2 ^ k) m (lvR k rows ks s) (yR K H)
def kpR (k:Nat) (rows:List (List Int)) (ks:List Ask) (s l b:Nat):Option Deed:=match lvR k rows ks (s - 1) (x0R k rows s l) b,lvR k rows ks (s - 1) (x1R k rows s l) b with
 | some d,some _=>some d
 | _,_=>none
def KpAt (K:FG7) (H:Hp) (k m:Nat) (rows:List (List Int)) (ks:List Ask) (s:Nat) (d:Addr):Prop :=
 ∃ kvs,Rd H d (.dT kvs) /\ kvs.length <= 16 /\ (∀ p ∈ kvs,∃ l b x,p.1 = keyR (nN k s l) b /\ l < 2 ^ k /\ b < m /\ kpR k rows ks s l b = some x /\ yR K H p.2 x) /\ (kvs.map (·.1)).Nodup ∧
  ∀ l b,l < 2 ^ k -> b < m -> kpR k rows ks s l b ≠ none -> (valV kvs (keyR (nN k s l) b)).isSome = true
theorem Rd.growR {m:List Addr} {H H':Hp} {d:Addr} {u:HO} (g:Grow m H H') (hm:d ∉ m \/ ∃ o,H d = some (.frz o u)) (h:Rd H d u):Rd H' d u:=by
 rcases hm with hm | ⟨o,ho⟩
 ·rcases h with h | ⟨o,h⟩
  ·exact .inl (g.keep _ _ hm h)
  ·exact .inr ⟨o,g.frz _ _ _ h⟩
 ·exact .inr ⟨o,g.frz _ _ _ ho⟩
theorem LvAt.grow {K:FG7} {m':List Addr} {H H':Hp} {k m:Nat} {rows:List (List Int)} {ks:List Ask} {s:Nat} {d:Addr} (g:Grow m' H H') (hm:d ∉ m') (h:LvAt K H k m rows ks s d):LvAt K H' k m rows ks s d:=by
 obtain ⟨kvs,h1,h2,h3⟩:=h
 exact ⟨kvs,Rd.growR g (.inl hm) h1,h2.imp fun v x hv=>g.deed hv,h3⟩
theorem KpAt.grow {K:FG7} {m':List Addr} {H H':Hp} {k m:Nat} {rows:List (List Int)} {ks:List Ask} {s:Nat} {d:Addr} (g:Grow m' H H') (hm:d ∉ m') (h:KpAt K H k m rows ks s d):KpAt K H' k m rows ks s d:=by
 obtain ⟨kvs,h1,h2,h3,h4,h5⟩:=h
 exact ⟨kvs,Rd.growR g (.inl hm) h1,h2,fun p hp=>by obtain ⟨l,b,x,e,a1,a2,a3,a4⟩:=h3 p hp; exact ⟨l,b,x,e,a1,a2,a3,g.deed a4⟩,h4,h5⟩
theorem Yh:∀ k:Fin 5,∀ s:Fin 5,1 <= s.val -> s.val <= k.val -> ∀ l:Fin 16,l.val < 2 ^ k.val -> ∀ t:Fin 5,1 <= t.val -> t.val <= k.val -> t.val ≠ s.val -> figI k.val t.val (xN k.val s.val l.val) = figI k.val t.val l.val:=by decide +kernel
theorem XH {k:Nat} {rows:List (List Int)} {ks:List Ask} {s l l' b:Nat} (k4:k <= 4) (hs:sE k rows) (s1:1 <= s) (sk:s <= k) (hl:l < 2 ^ k) (hl':l' < 2 ^ k) (e:nN k s l = nN k s l'):kpR k rows ks s l b = kpR k rows ks s l' b:=by
 have key:x0R k rows s l = x0R k rows s l' /\ x1R k rows s l = x1R k rows s l':=by
  refine T3 k4 hs s1 sk hl hl' fun t t1 tk hne=>?_
  rcases twoF k4 s1 sk hl' hl e.symm with rfl | rfl
  ·rfl
  ·have p:=wx k4
   have:=Yh ⟨k,by omega⟩ ⟨s,by omega⟩ s1 sk ⟨l',by omega⟩ hl' ⟨t,by omega⟩ t1 tk (by simpa using hne)
   exact this
 unfold kpR
 rw [key.1,key.2]
theorem Yi:∀ k:Fin 5,∀ b:Fin 16,Builtin.bitAnd (b.val:Int) (1 * 2 ^ ((k.val:Int)).toNat - 1) = ((b.val % 2 ^ k.val:Nat):Int):=by decide +kernel
theorem Vb {k b:Nat} (k4:k <= 4) (hb:b < 16):Builtin.bitAnd (b:Int) (1 * 2 ^ ((k:Int)).toNat - 1) = ((b % 2 ^ k:Nat):Int):=Yi ⟨k,by omega⟩ ⟨b,hb⟩
theorem Yj {k:Nat} {i:Int} (h0:0 <= i) (h1:i < 2 ^ k):i.toNat < 2 ^ k:=by
 have e:((2 ^ k:Nat):Int) = 2 ^ k:=by rw [Int.natCast_pow]; rfl
 omega
theorem RndOk.ask {k m:Nat} {ks:List Ask} (R:RndOk k m ks) (k4:k <= 4):∀ a ∈ ks,WR m a:=fun a ha=>by
 have h:=R.hand a ha
 have p:=wx k4
 have:=Yj h.1 h.2
 exact ⟨h.1,by omega,(R.box a ha).1,(R.box a ha).2,R.ok a ha⟩
structure Beh (K:FG7) (H:Hp) (k m:Nat) (rows:List (List Int)) (ks:List Ask) (st:Nat) (kvs:List (List Key × V)) (i:Nat) (bk kk:List (List Key × V)):Prop where
 b1:∀ p ∈ bk,∃ l b x,p.1 = keyR l b /\ l < 2 ^ k /\ b < m /\ lvR k rows ks st l b = some x /\ yR K H p.2 x
 b2:(bk.map (·.1)).Nodup
 b3:∀ j l b v,j < i -> kvs[j]? = some (keyR l b,v) -> (valV bk (keyR (outR k st l b) b)).isSome = true
 bl:bk.length <= i
 k1:∀ p ∈ kk,∃ l b x,p.1 = keyR (nN k st l) b /\ l < 2 ^ k /\ b < m /\ kpR k rows ks st l b = some x /\ yR K H p.2 x
 k2:(kk.map (·.1)).Nodup
 k3:∀ j l b v,j < i -> kvs[j]? = some (keyR l b,v) -> kpR k rows ks st l b ≠ none -> (valV kk (keyR (nN k st l) b)).isSome = true
 kl:kk.length <= i
section
variable {K:FG7} {H H':Hp} {k m:Nat} {rows:List (List Int)} {ks:List Ask} {st:Nat} {kvs:List (List Key × V)} {i:Nat} {bk kk:List (List Key × V)}
theorem Beh.grow {m':List Addr} (g:Grow m' H H') (B:Beh K H k m rows ks st kvs i bk kk):Beh K H' k m rows ks st kvs i bk kk :=
 ⟨fun p hp=>by obtain ⟨l,b,x,e,h1,h2,h3,h4⟩:=B.b1 p hp; exact ⟨l,b,x,e,h1,h2,h3,g.deed h4⟩,B.b2,B.b3,B.bl,fun p hp=>by obtain ⟨l,b,x,e,h1,h2,h3,h4⟩:=B.k1 p hp; exact ⟨l,b,x,e,h1,h2,h3,g.deed h4⟩,B.k2,B.k3,B.kl⟩
theorem Beh.nil:Beh K H k m rows ks st kvs 0 [] []:=⟨(fun _ h=>nomatch h),List.nodup_nil,(fun _ _ _ _ h=>absurd h (Nat.not_lt_zero _)),Nat.le_refl _,(fun _ h=>nomatch h),List.nodup_nil,(fun _ _ _ _ h=>absurd h (Nat.not_lt_zero _)),Nat.le_refl _⟩
theorem tJ {bk:List (List Key × V)} {k j:List Key} {v:V} (h:(valV bk j).isSome = true):(valV (putK bk k v) j).isSome = true:=by
 rw [xh]
 split
 ·rfl
 ·exact h
theorem uo {bk:List (List Key × V)} {k:List Key} {v:V}:(valV (putK bk k v) k).isSome = true:=by rw [xh,if_pos rfl]; rfl
theorem Beh.one {l b:Nat} {v w:V} {x:Deed} (B:Beh K H k m rows ks st kvs i bk kk) (hp:kvs[i]? = some (keyR l b,v)) (ho:outR k st l b < 2 ^ k) (hb:b < m) (hx:lvR k rows ks st (outR k st l b) b = some x) (hd:yR K H w x) (hk:kpR k rows ks st l b = none) :
  Beh K H k m rows ks st kvs (i + 1) (putK bk (keyR (outR k st l b) b) w) kk where
 b1:=fun p hp'=>by
  rcases sL p hp' with rfl | ⟨hm,_⟩
  ·exact ⟨_,b,x,rfl,ho,hb,hx,hd⟩
  ·exact B.b1 p hm
 b2:=XG B.b2
 b3:=fun j l' b' v' hj hj'=>by
  by_cases c:j < i
  ·exact tJ (B.b3 j l' b' v' c hj')
  ·have e:j = i:=by omega
   rw [e,hp] at hj'
   obtain ⟨rfl,rfl⟩:=x9 (congrArg Prod.fst (Option.some.inj hj'))
   exact uo
 bl:=Nat.le_trans (yh ..) (Nat.succ_le_succ B.bl)
 k1:=B.k1
 k2:=B.k2
 k3:=fun j l' b' v' hj hj' hne=>by
  by_cases c:j < i
  ·exact B.k3 j l' b' v' c hj' hne
  ·have e:j = i:=by omega
   rw [e,hp] at hj'
   obtain ⟨rfl,rfl⟩:=x9 (congrArg Prod.fst (Option.some.inj hj'))
   exact absurd hk hne
 kl:=Nat.le_succ_of_le B.kl
theorem sM {kvs:List (List Key × V)} {k:List Key} (h:(valV kvs k).isSome = true):∃ j v,kvs[j]? = some (k,v) /\ j < kvs.length:=by
 obtain ⟨v,hv⟩:=Option.isSome_iff_exists.mp h
 obtain ⟨j,hj,e⟩:=List.getElem_of_mem (jH hv)
 exact ⟨j,v,by rw [List.getElem?_eq_getElem hj,e],hj⟩
theorem Beh.done {b0 k0:Addr} (k4:k <= 4) (hs:sE k rows) (s1:1 <= st) (sk:st <= k) (tab:TabR kvs (2 ^ k) m (lvR k rows ks (st - 1)) (yR K H)) (kl:kvs.length <= 16) (B:Beh K H k m rows ks st kvs kvs.length bk kk) (hB:H b0 = some (.dT bk)) (hK:H k0 = some (.dT kk)) :
  LvAt K H k m rows ks st b0 /\ KpAt K H k m rows ks st k0:=by
 have es:st = st - 1 + 1:=by omega
 refine ⟨⟨bk,.inl hB,⟨B.b1,B.b2,fun l b hl hb hne=>?_⟩,Nat.le_trans B.bl kl⟩,kk,.inl hK,Nat.le_trans B.kl kl,B.k1,B.k2,fun l b hl hb hne=>?_⟩
 ·rw [es] at hne
  obtain ⟨x,hx,hox,hxn⟩:=T6 k4 hs (by omega) hl hne
  obtain ⟨j,v,hj,hjl⟩:=sM (tab.all x b hx hb hxn)
  have:=B.b3 j x b v hjl hj
  rw [← es] at hox
  rw [hox] at this; exact this
 ·have X:=xF (rows:=rows) k4 hs s1 sk hl
  have nx:nN k st (x0R k rows st l) = nN k st l:=T1 s1 sk fun t _ tk hne=>X.off0 t tk hne
  have h0:lvR k rows ks (st - 1) (x0R k rows st l) b ≠ none:=by
   intro z
   unfold kpR at hne
   rw [z] at hne
   exact hne rfl
  obtain ⟨j,v,hj,hjl⟩:=sM (tab.all _ b X.lt0 hb h0)
  have:=B.k3 j _ b v hjl hj (by rw [XH k4 hs s1 sk X.lt0 hl nx]; exact hne)
  rw [nx] at this; exact this
end
def qu (_:FG7):Sp:=sp2 fun x y H Q=>∃ (k b:Nat),x = .int k /\ y = .int b /\ k <= 4 /\ b < 16 /\ Q (.int ((b % 2 ^ k:Nat):Int)) H
structure NetR (K:FG7) (H:Hp) (k m:Nat) (rows:List (List Int)) (ks:List Ask) (ds kps:List Addr):Prop where
 lv:∀ s d,ds[s]? = some d -> LvAt K H k m rows ks s d
 kp:∀ s d,kps[s]? = some d -> KpAt K H k m rows ks (s + 1) d
 nd:(ds ++ kps).Nodup
theorem NetR.grow {K:FG7} {H H':Hp} {m':List Addr} {k m:Nat} {rows:List (List Int)} {ks:List Ask} {ds kps:List Addr} (g:Grow m' H H') (hm:∀ d ∈ ds ++ kps,d ∉ m') (N:NetR K H k m rows ks ds kps):NetR K H' k m rows ks ds kps :=
 ⟨fun s d h=>(N.lv s d h).grow g (hm d (List.mem_append_left _ (List.mem_of_getElem? h))),fun s d h=>(N.kp s d h).grow g (hm d (List.mem_append_right _ (List.mem_of_getElem? h))),N.nd⟩
structure PTab {α:Type} (kvs:List (List Key × V)) (n m:Nat) (f:Nat -> Nat -> Option α) (R:V -> α -> Prop) (i:Nat) (tk:List (List Key × V)):Prop where
 p1:∀ p ∈ tk,∃ l b x,p.1 = keyR l b /\ l < n /\ b < m /\ f l b = some x /\ R p.2 x
 p2:(tk.map (·.1)).Nodup
 p3:∀ j l b v,j < i -> kvs[j]? = some (keyR l b,v) -> (valV tk (keyR l b)).isSome = true
 p4:tk.length <= i
theorem PTab.nil {α:Type} {kvs:List (List Key × V)} {n m:Nat} {f:Nat -> Nat -> Option α} {R:V -> α -> Prop}:PTab kvs n m f R 0 []:=⟨(fun _ h=>nomatch h),List.nodup_nil,(fun _ _ _ _ h=>absurd h (Nat.not_lt_zero _)),Nat.le_refl _⟩
theorem PTab.step {α:Type} {kvs:List (List Key × V)} {n m:Nat} {f:Nat -> Nat -> Option α} {R:V -> α -> Prop} {i:Nat} {tk:List (List Key × V)} {l b:Nat} {v w:V} {x:α} (P:PTab kvs n m f R i tk) (hp:kvs[i]? = some (keyR l b,v)) (hl:l < n) (hb:b < m) (hx:f l b = some x) (hR:R w x):PTab kvs n m f R (i + 1) (putK tk (keyR l b) w) where
 p1:=fun p hp'=>by
  rcases sL p hp' with rfl | ⟨hm,_⟩
  ·exact ⟨l,b,x,rfl,hl,hb,hx,hR⟩
  ·exact P.p1 p hm
 p2:=XG P.p2
 p3:=fun j l' b' v' hj hj'=>by
  by_cases c:j < i
  ·exact tJ (P.p3 j l' b' v' c hj')
  ·have e:j = i:=by omega
   rw [e,hp] at hj'
   obtain ⟨rfl,rfl⟩:=x9 (congrArg Prod.fst (Option.some.inj hj'))
   exact uo
 p4:=Nat.le_trans (yh ..) (Nat.succ_le_succ P.p4)
theorem PTab.done {α β:Type} {kvs:List (List Key × V)} {n m:Nat} {f:Nat -> Nat -> Option α} {R:V -> α -> Prop} {f':Nat -> Nat -> Option β} {R':V -> β -> Prop} {tk:List (List Key × V)} (P:PTab kvs n m f R kvs.length tk) (T:TabR kvs n m f' R') (h:∀ l b,l < n -> b < m -> f l b ≠ none -> f' l b ≠ none):TabR tk n m f R :=
 ⟨P.p1,P.p2,fun l b hl hb hne=>by
  obtain ⟨j,v,hj,hjl⟩:=sM (T.all l b hl hb (h l b hl hb hne))
  exact P.p3 j l b v hjl hj⟩
def anF (k:Nat) (rows:List (List Int)) (ks:List Ask) (bd:Nat -> Int) (s l b:Nat):Option Int:=(lvR k rows ks s l b).map fun _=>stvR k rows ks bd (k - s) l b
def AnAt (H:Hp) (k m:Nat) (rows:List (List Int)) (ks:List Ask) (bd:Nat -> Int) (s:Nat) (d:Addr):Prop:=T7 H d (2 ^ k) m (anF k rows ks bd s) (fun v x=>v = .int x)
section
variable {K:FG7} {H:Hp} {k m:Nat} {rows:List (List Int)} {ks:List Ask} {bd:Nat -> Int} {s:Nat} {d:Addr}
theorem AnAt.grow {m':List Addr} {H':Hp} (g:Grow m' H H') (hm:d ∉ m') (h:AnAt H k m rows ks bd s d):AnAt H' k m rows ks bd s d:=by
 obtain ⟨kvs,h1,h2,h3⟩:=h
 exact ⟨kvs,Rd.growR g (.inl hm) h1,h2,h3⟩
theorem KpAt.val {st l b:Nat} {kvs:List (List Key × V)} (k4:k <= 4) (hs:sE k rows) (s1:1 <= st) (sk:st <= k) (hl:l < 2 ^ k) (hb:b < m)
  (h3:∀ p ∈ kvs,∃ l b x,p.1 = keyR (nN k st l) b /\ l < 2 ^ k /\ b < m /\ kpR k rows ks st l b = some x /\ yR K H p.2 x)
  (h5:∀ l b,l < 2 ^ k -> b < m -> kpR k rows ks st l b ≠ none -> (valV kvs (keyR (nN k st l) b)).isSome = true) :
  match kpR k rows ks st l b with | some x=>∃ v,valV kvs (keyR (nN k st l) b) = some v /\ yR K H v x | none=>valV kvs (keyR (nN k st l) b) = none:=by
 have sound:∀ v,valV kvs (keyR (nN k st l) b) = some v -> ∃ x,kpR k rows ks st l b = some x /\ yR K H v x:=fun v hv=>by
  obtain ⟨l',b',x,e,h1,h2,h4,h6⟩:=h3 _ (jH hv)
  obtain ⟨e1,rfl⟩:=x9 e
  exact ⟨x,(XH k4 hs s1 sk hl h1 e1).trans h4,h6⟩
 cases hv:valV kvs (keyR (nN k st l) b) with
 | some v =>
  obtain ⟨x,e,hd⟩:=sound v hv
  rw [e]
  exact ⟨v,rfl,hd⟩
 | none =>
  cases hk:kpR k rows ks st l b with
  | none=>rfl
  | some x =>
   have:=h5 l b hl hb (by rw [hk]; exact fun z=>nomatch z)
   rw [hv] at this; cases this
def finR (k:Nat) (rows:List (List Int)) (ks:List Ask) (bd:Nat -> Int) (j:Nat):Int:=match lvR k rows ks k (j % 2 ^ k) j with
 | some d=>d.mk' (bd j)
 | none=>bd j
def bdF (b:List Int) (j:Nat):Int:=b.getD j 0
def finL (k:Nat) (rows:List (List Int)) (ks:List Ask) (b:List Int):List Int:=(List.range b.length).map (finR k rows ks (bdF b))
end
structure VI (kvs:List (List Key × V)) (b:List Int) (fin:Nat -> Int) (i:Nat) (w:List Int):Prop where
 len:w.length = b.length
 or:∀ j,j < b.length -> w[j]? = some (bdF b j) \/ w[j]? = some (fin j)
 dn:∀ i' l c v,i' < i -> kvs[i']? = some (keyR l c,v) -> c < b.length -> w[c]? = some (fin c)
theorem UB {b:List Int} {j:Nat} (h:j < b.length):b[j]? = some (bdF b j):=by
 unfold bdF; rw [List.getD_eq_getElem?_getD,List.getElem?_eq_getElem h]; rfl
theorem VI.nil {kvs:List (List Key × V)} {b:List Int} {fin:Nat -> Int}:VI kvs b fin 0 b:=⟨rfl,fun _ h=>.inl (UB h),fun _ _ _ _ h=>absurd h (Nat.not_lt_zero _)⟩
theorem VI.step {kvs:List (List Key × V)} {b:List Int} {fin:Nat -> Int} {i l c:Nat} {w:List Int} {v:V} (h:VI kvs b fin i w) (hp:kvs[i]? = some (keyR l c,v)) (hc:c < b.length):VI kvs b fin (i + 1) (w.set c (fin c)):=by
 have hw:c < w.length:=by rw [h.len]; exact hc
 refine ⟨by rw [List.length_set]; exact h.len,fun j hj=>?_,fun i' l' c' v' hi hp' hc'=>?_⟩
 ·by_cases e:c = j
  ·subst e; exact .inr (List.getElem?_set_self hw)
  ·rw [List.getElem?_set_ne e]; exact h.or j hj
 ·by_cases e:c = c'
  ·subst e; exact List.getElem?_set_self hw
  ·rw [List.getElem?_set_ne e]
   by_cases hii:i' < i
   ·exact h.dn i' l' c' v' hii hp' hc'
   ·have:i' = i:=by omega
    rw [this,hp] at hp'
    exact absurd (x9 (congrArg Prod.fst (Option.some.inj hp'))).2 e
theorem VI.done {kvs:List (List Key × V)} {k:Nat} {rows:List (List Int)} {ks:List Ask} {b w:List Int} {R:V -> Deed -> Prop} (h:VI kvs b (finR k rows ks (bdF b)) kvs.length w) (T:TabR kvs (2 ^ k) b.length (lvR k rows ks k) R):w = finL k rows ks b:=by
 have el:(finL k rows ks b).length = b.length:=by unfold finL; rw [List.length_map,List.length_range]
 have gf:∀ j,j < b.length -> (finL k rows ks b)[j]? = some (finR k rows ks (bdF b) j):=fun j hj=>by
  unfold finL; rw [List.getElem?_map,List.getElem?_range hj]; rfl
 refine List.ext_getElem? fun j=>?_
 by_cases hj:j < b.length
 ·rw [gf j hj]
  cases hl:lvR k rows ks k (j % 2 ^ k) j with
  | none =>
   have e:finR k rows ks (bdF b) j = bdF b j:=by unfold finR; rw [hl]
   rcases h.or j hj with z | z
   ·rw [z,e]
   ·exact z
  | some d =>
   obtain ⟨i',v,hp,hi⟩:=sM (T.all (j % 2 ^ k) j (XE (k:=k) (b:=j)) hj (by rw [hl]; exact fun z=>nomatch z))
   exact h.dn i' _ j v hi hp hj
 ·rw [List.getElem?_eq_none (by rw [h.len]; omega),List.getElem?_eq_none (by omega)]
theorem NetR.walk {K:FG7} {H H':Hp} {k m:Nat} {rows:List (List Int)} {ks:List Ask} {ds kps:List Addr} {s:Nat} {d:Addr} (N:NetR K H k m rows ks ds kps) (hd:ds[s]? = some d) (g:Grow [d] H H') (L:LvAt K H' k m rows ks s d):NetR K H' k m rows ks ds kps:=by
 have nd:=List.nodup_append.mp N.nd
 refine ⟨fun s' d' h=>?_,fun s' d' h=>?_,N.nd⟩
 ·by_cases c:d' = d
  ·subst c
   have e:s' = s:=by
    obtain ⟨h1,h2⟩:=List.getElem?_eq_some_iff.mp h
    obtain ⟨h3,h4⟩:=List.getElem?_eq_some_iff.mp hd
    exact (List.getElem_inj nd.1).mp (h2.trans h4.symm)
   rw [e]; exact L
  ·exact (N.lv s' d' h).grow g (by simpa using c)
 ·exact (N.kp s' d' h).grow g (by simpa using fun z=>nd.2.2 d (List.mem_of_getElem? hd) d' (List.mem_of_getElem? h) z.symm)
theorem qv:typeLookup (.type "list") "keys" = pure none:=by rw [typeLookup_type,builtinLookup_eq_fast]; kernel_rfl
theorem wo:typeLookup (.type "list") "__getattr__" = pure none:=by rw [typeLookup_type,builtinLookup_eq_fast]; kernel_rfl
section
variable {prog:Program} {w:World} {A:Around} {E:VS7}
theorem Yk (a:Addr) (u:Tok):MeetsIn prog w (Builtin.«object.__getattribute__» ⟨[.ref a,.str "keys" u],[]⟩)
  (fun A R s=>A.handled = none /\ (∃ its n,s.heap.get? a = some { cls:=.type "list",data:=.seq its n }) /\ ∀ h' tk e,Heap.NewAttrErr s.heap h' e (.ref a) "keys" -> R (.error (.ref e)) { s with heap:=h',toks:=tk }) :=
 .of_wp fun A R s ⟨hh,⟨its,n,hx⟩,hR⟩=>by
  obtain ⟨h,g,d,t,os⟩:=s
  have hT:(⟨h,g,d,t,os⟩:Shared).TypeIs (.ref a) "list":=⟨_,hx,rfl⟩
  have f4:=qv
  unfold Builtin.«object.__getattribute__»
  repeat (any_goals (first | assumption | wp_step))
  exact wpAny_raiseAttrError hh hR (attrMsg_fits (by decide +kernel) (by size_fits))
theorem uP {s:Shared} {a:Addr} {its:Array Value} {n:Nat} {Q:Option Value -> Shared -> Prop} (hx:s.heap.get? a = some { cls:=.type "list",data:=.seq its n }) (hA:A.handled = none)
  (hq:∀ h' tk,(∀ b o,s.heap.get? b = some o -> h'.get? b = some o) -> Q none { s with heap:=h',toks:=tk }) :
  wpAny (model prog w) A (getAttr? (.ref a) "keys") Q E s:=by
 obtain ⟨h,g,d,t,os⟩:=s
 have hT:∀ t',(⟨h,g,d,t',os⟩:Shared).TypeIs (.ref a) "list":=fun _=>⟨_,hx,rfl⟩
 have f1:=sub_AttributeError
 have f3:=F.slot_list_getattribute.lookup
 have f4:=F.slot_list_getattribute.bind (.ref a)
 have f5:=wo
 unfold getAttr? getAttrBy? getAttrBy
 repeat (any_goals (first | assumption | exact hT _ | ((with_reducible show wpAny _ _ (call (Value.builtin "list.__getattribute__") _ _) _ _ _); refine call_meetsIn F.slot_list_getattribute (hT _) F.entry_list_ga (F.args_list_getattribute_2 _ _) (Yk a _) ⟨hA,⟨_,_,hx⟩,fun h' tk' e hxx=>?_⟩) | wp_step))
 obtain ⟨t',u',he⟩:=hxx.there
 show wpAny _ _ (getattributeRaised _ _ _ _ _ _ _) _ _ _
 unfold getattributeRaised
 have hE:∀ t2,(⟨h',g,d,t2,os⟩:Shared).TypeIs (.ref e) "AttributeError":=fun _=>⟨_,he,rfl⟩
 repeat (any_goals (first | assumption | exact hE _ | wp_step))
 exact hq _ _ hxx.keeps
end
def vG (ps:List (Key × V)):List (Key × V):=ps.foldl (fun d p=>putK d p.1 p.2) []
theorem qw (ps:List (Key × V)):(vG ps).length <= ps.length:=by
 have go:∀ (ps d:List (Key × V)),(ps.foldl (fun d p=>putK d p.1 p.2) d).length <= d.length + ps.length:=by
  intro ps
  induction ps with
  | nil=>intro d; exact Nat.le_refl _
  | cons p ps ih =>
   intro d
   have h1:=ih (putK d p.1 p.2)
   have h2:=yh d p.1 p.2
   rw [List.foldl_cons,List.length_cons]
   omega
 have:=go ps []
 rw [List.length_nil,Nat.zero_add] at this
 exact this
theorem Yl {ps:List (Key × V)} {i:Nat} {p:Key × V} (h:ps[i]? = some p):vG (ps.take (i + 1)) = putK (vG (ps.take i)) p.1 p.2:=by
 unfold vG
 rw [List.take_succ,h,Option.toList_some,List.foldl_append]
 rfl
theorem tK:entryFor table "dict.update.loop" = some Builtin.«dict.update.loop»:=entryFor_of_tree (by kernel_rfl)
theorem wa:plainId "dict.update.loop" = true:=by decide +kernel
theorem qz:∀ {zs:List V} {us:List Value} {i:Nat} {u:Value},Vals zs us -> us[i]? = some u -> ∃ z,zs[i]? = some z /\ RelV z u
 | _,_,_,_,.nil,h=>by cases h
 | _,_,0,_,.cons r _,h=>by cases h; exact ⟨_,rfl,r⟩
 | _,_,i + 1,_,.cons _ t,h=>qz (i:=i) t h
def jI (H:Hp) (ys:List V) (ps:List (Key × V)):Prop:=ys.length = ps.length /\ ∀ (i:Nat) (p:Key × V),ps[i]? = some p -> ∃ t,ys[i]? = some (V.ref t) /\ H t = some (.tup [kV p.1,p.2])
section
variable {prog:Program} {w:World} {A:Around} {E:VS7} {R:Result -> Shared -> Prop} {I D:Addr} {fp wr:List Addr} {n:Nat} {P:Nat -> Value -> Prop} {St:Nat -> Heap -> Prop} {H:Hp} {s₀:Shared}
theorem Ym {zs:List V} {ps:List (Key × V)} (ok:HOk prog w H s₀.heap) (W:Walks prog w A.in1 I fp wr n P St) (hDf:D ∉ fp) (hD:s₀.heap.objs.size <= D) (hwr:∀ b ∈ wr,s₀.heap.objs.size <= b)
  (hn:n <= sizeLine) (hpl:ps.length = n) (ha:jI H zs ps) (hP:∀ i v,P i v -> ∃ z,zs[i]? = some z /\ RelV z v) :
  ∀ (k i:Nat) (s:Shared),n - i = k -> i <= n -> St i s.heap -> (∀ b o,b ≠ D -> b ∉ wr -> s₀.heap.get? b = some o -> s.heap.get? b = some o) -> (∃ us,KV (vG (ps.take i)) us /\ s.heap.DictOf (zH prog w) D us) →
   (∀ h' tk,(∀ b o,b ≠ D -> b ∉ wr -> s₀.heap.get? b = some o -> h'.get? b = some o) -> (∃ us,KV (vG ps) us /\ h'.DictOf (zH prog w) D us) -> R (.ok (.ret .none)) { s with heap:=h',toks:=tk }) →
   codeAny (model prog w) A (.builtin "dict.update.loop" ⟨[.ref D,.ref I,rawInt i,.none],[]⟩) R s:=by
 have hDw:D ∉ wr:=fun h=>hDf (W.sub _ h)
 have old:∀ b o,s₀.heap.get? b = some o -> b ≠ D /\ b ∉ wr:=fun b o e=>⟨Nat.ne_of_lt (Nat.lt_of_lt_of_le (Heap.lt_size e) hD),fun z=>absurd (Heap.lt_size e) (Nat.not_lt.mpr (hwr b z))⟩
 intro k
 induction k with
 | zero =>
  intro i s hk hi hst kp hS hR
  have hin:i = n:=by omega
  subst hin
  refine codeAny_builtin tK ?_
  rw [Around.under_plainId wa _]
  show wpAny _ A.in1 (pyNext (.ref I) >>= _) _ _ s
  refine wpAny_bind (W.done s _ _ hst fun h' tk hm=>?_)
  show wpAny _ A.in1 (Builtin.Dict.addKeywords D [] >>= fun _=>ret Value.none) _ _ _
  unfold Builtin.Dict.addKeywords
  refine wpAny_bind (wpAny_pure (wpAny_pure (hR h' tk (fun b o h1 h2 e=>hm b o h2 (kp b o h1 h2 e)) ?_)))
  obtain ⟨us,v1,o,es,ep,ho,r⟩:=hS
  rw [← hpl,List.take_length] at v1
  exact ⟨us,v1,o,es,ep,hm D o hDw ho,r⟩
 | succ k ih =>
  intro i s hk hi hst kp hS hR
  have hlt:i < n:=by omega
  refine codeAny_builtin tK ?_
  rw [Around.under_plainId wa _]
  show wpAny _ A.in1 (pyNext (.ref I) >>= _) _ _ s
  refine wpAny_bind (W.item i s _ _ hlt hst fun v h1 tk1 hPv hst1 hk1=>?_)
  obtain ⟨z,hz,rz⟩:=hP i v hPv
  obtain ⟨x,hx⟩:∃ x,ps[i]? = some x:=⟨_,List.getElem?_eq_getElem (by omega)⟩
  obtain ⟨t,hzt,ht⟩:=ha.2 i x hx
  rw [hz] at hzt
  obtain rfl:=Option.some.inj hzt
  cases (show v = Value.ref t from rz)
  have kp1:∀ b o,b ≠ D -> b ∉ wr -> s₀.heap.get? b = some o -> h1.get? b = some o:=fun b o h1 h2 e=>hk1 b o h2 (kp b o h1 h2 e)
  have kps:∀ b o,s₀.heap.get? b = some o -> h1.get? b = some o:=fun b o e=>kp1 b o (old b o e).1 (old b o e).2 e
  obtain ⟨_,its,rits,hit⟩:=(show z5 prog w H s₀.heap t (.tup [kV x.1,x.2]) from ok t _ ht)
  obtain ⟨u1,uv,rfl,r1,rv⟩:∃ u1 uv,its = [u1,uv] /\ RelV (kV x.1) u1 /\ RelV x.2 uv:=by
   cases rits with
   | cons a c=>cases c with | cons b d=>cases d; exact ⟨_,_,rfl,a,b⟩
  obtain ⟨ot,hot,hct,m,hdt⟩:=hit
  have hot1:=kps t ot hot
  obtain ⟨us,v1,o,es,ep,ho,r⟩:=hS
  have ul:us.length <= i:=by have:=v1.length; have h2:=qw (ps.take i); rw [List.length_take] at h2; omega
  have dd:h1.DictOf (zH prog w) D us:=⟨o,es,ep,hk1 D o hDw ho,r⟩
  refine wpAny_bind (wpAny_holding ?_)
  show wpAny _ A.in1 ((Builtin.Dict.pairItems (.ref t)).tryCatch _ >>= _) _ _ _
  refine wpAny_bind (wpAny_tryCatch ?_)
  unfold Builtin.Dict.pairItems
  refine wpAny_bind (wpAny_typeOf (T:="tuple") ⟨ot,hot1,hct⟩ ?_)
  show wpAny _ _ (if (Value.type "tuple" == Value.type "list" || Value.type "tuple" == Value.type "tuple") = true then _ else _) _ _ _
  rw [if_pos (by decide)]
  refine wpAny_bind (wpAny_seqItems hot1 hdt (wpAny_pure ?_))
  show wpAny _ _ (holding [u1,uv] (dictSet D u1 uv)) _ _ _
  refine wpAny_holding ?_
  refine wpAny_dictSet_pairs (knd:=zH prog w) (k:=x.1) (hsz:=by omega) (Yc r1) dd fun h2 dd2 sb=>?_
  refine wpAny_pure ⟨plainId_quiet wa _,?_⟩
  have e1:((i:Int) + 1) = ((i + 1:Nat):Int):=by omega
  have kp2:∀ b o,b ≠ D -> b ∉ wr -> s₀.heap.get? b = some o -> h2.get? b = some o:=fun b o hb hw e=>sb.extBut b o hb (kp1 b o hb hw e)
  show codeAny (model prog w) A (.builtin "dict.update.loop" ⟨[.ref D,.ref I,rawInt ((i:Int) + 1),.none],[]⟩) R _
  rw [e1]
  refine ih (i + 1) _ (by omega) hlt (W.frame _ _ _ hst1 fun b hb o e=>sb.extBut b o (fun h=>hDf (h ▸ hb)) e) kp2 ⟨_,?_,dd2⟩ fun h' tk k' d'=>hR h' tk k' d'
  rw [Yl hx]
  exact v1.put _ rv
end
section
variable {X:Cx}
theorem Yn {k:Nat} (hr:Room k X.A):xq X (.type "dict") (fun xs H Q=>∃ a zs ps,xs = [V.ref a] /\ H a = some (.lst zs) /\ jI H zs ps /\ ∀ l,H l = none -> Q (.ref l) (upd H l (.dK (vG ps)))):=by
 intro pins s σ H xs us Q I r h
 obtain ⟨a,zs,ps,rfl,ha,hall,q⟩:=h
 obtain ⟨u,rfl,ru⟩:=wK r
 cases ru
 obtain ⟨z,its,m,rits,ea⟩:=(show z5 X.prog X.w H s.heap a (.lst zs) from I.hok a _ ha)
 have zl:=hall.1
 have il:=rits.length
 refine callType_codes (Q₁:=fun obj s₁=>obj = .ref s.heap.objs.size /\ s₁ = { s with heap:=s.heap.push { cls:=.type "dict",data:=.dict #[] } }) F.kt_called_dict (F.kt_typeCall_dict_1 _) F.entry_dict_init (kt_code_dict_new _ ⟨rfl,rfl⟩) ?_
 rintro obj s₁ ⟨rfl,rfl⟩
 have hT:(s.heap.push { cls:=.type "dict",data:=.dict #[] }).get? s.heap.objs.size = some { cls:=.type "dict",data:=.dict #[] }:=Heap.get?_push_size _ rfl
 refine ⟨⟨_,hT,rfl⟩,F.args_dict_init_2 _ _,?_⟩
 unfold Builtin.«dict.__init__»
 refine wpAny_bind ?_
 unfold Builtin.Dict.selfAndRest
 refine wpAny_bind (wpAny_notOrdered_dict ⟨_,hT,rfl⟩ (show wpAny _ _ (pure (s.heap.objs.size,[Value.ref a])) _ _ _ from wpAny_pure ?_))
 show wpAny _ _ (Builtin.Dict.updateFrom "dict.__init__" s.heap.objs.size (.ref a) [] .none) _ _ _
 unfold Builtin.Dict.updateFrom
 have ea1:(s.heap.push { cls:=.type "dict",data:=.dict #[] }).get? a = some { cls:=.type "list",data:=.seq its.toArray m }:=Heap.get?_push_of_some _ ea
 refine wpAny_bind (wpAny_typeOf (T:="list") ⟨_,ea1,rfl⟩ ?_)
 rw [if_pos (by decide)]
 refine wpAny_bind (uP ea1 hr.hd fun h1 tk1 k1=>?_)
 rw [if_pos (by rfl)]
 refine wpAny_bind (wpAny_rule ?_)
 have eah:h1.get? a = some { cls:=.type "list",data:=.seq its.toArray m }:=k1 _ _ ea1
 have hla:h1.IsList a its.toArray:=⟨_,eah,rfl,_,rfl⟩
 have hsz:s.heap.objs.size < h1.objs.size:=Heap.lt_size (k1 _ _ hT)
 have ks:∀ b o,s.heap.get? b = some o -> h1.get? b = some o:=fun b o e=>k1 b o (Heap.get?_push_of_some _ e)
 have alt:a < h1.objs.size:=Heap.lt_size eah
 refine wpAny_bind (wpAny_pyIter_list (l:=a) (items:=its.toArray) hla ?_)
 refine wpAny_pure ⟨plainId_quiet wa _,?_⟩
 refine Ym (A:=X.A.in1) (H:=H) (s₀:=s) (D:=s.heap.objs.size) (I:=h1.objs.size) I.hok (Walks.list (A:=X.A.in1.in1) hr.hd h1.objs.size a (Nat.ne_of_lt alt) its.toArray) ?_ (Nat.le_refl _) ?_ (by rw [List.size_toArray,← il]; exact z) (by rw [List.size_toArray,← il,zl]) hall ?_ _ 0 _ rfl (Nat.zero_le _) ⟨⟨_,Heap.get?_push_size _ rfl,rfl,rfl⟩,hla.push _⟩ (fun b o _ _ e=>Heap.get?_push_of_some _ (ks b o e)) ⟨[],.nil,_,#[],0,Heap.get?_push_of_some _ (k1 _ _ hT),⟨rfl,rfl,rfl⟩,rfl,fun e he=>by simp at he,.nil,List.nodup_nil⟩ ?_
 ·intro hm
  simp only [List.mem_cons,List.mem_nil_iff,or_false] at hm
  rcases hm with e | e
  ·exact absurd e (Nat.ne_of_lt hsz)
  ·rw [← e] at ea; exact absurd (Heap.lt_size ea) (Nat.lt_irrefl _)
 ·intro b hb
  rw [List.mem_singleton.mp hb]; exact Nat.le_of_lt hsz
 ·intro i v hv
  exact qz rits (show its[i]? = some v by simpa using hv)
 ·rintro h' tk kp' ⟨us,rel,dd⟩
  have hf:H s.heap.objs.size = none:=I.hok.fresh (Nat.le_refl _)
  have hsM:(s.heap.objs.size == sysModules) = false:=beq_false_of_ne (Nat.ne_of_gt I.big)
  have hzz:(vG ps).length <= sizeLine:=Nat.le_trans (qw ps) (by rw [← zl]; exact z)
  refine ⟨rfl,.ref s.heap.objs.size,_,I.laid (t':=tk) (o:=.dK (vG ps)) (fun b ob e=>kp' b ob (Nat.ne_of_lt (Heap.lt_size e)) (fun w=>?_) e) (Nat.le_refl _) ⟨hzz,hsM,us,rel,dd⟩,rfl,q _ hf⟩
  have:=Heap.lt_size e
  rw [List.mem_singleton.mp w] at this; exact absurd hsz (Nat.not_lt.mpr (Nat.le_of_lt this))
end
def atB (j:Nat) (as:List Ask):List Ask:=as.filter fun a=>decide (a.box = (j:Int))
def AnsD (b:List Int) (as:List Ask) (tk:List (Key × V)):Prop:=tk.length <= as.length /\ ∀ a ∈ as,∃ a' pre post,a' ∈ as /\ a'.hand = a.hand /\ as = pre ++ [a'] ++ post /\ valV tk (.inl a.hand) = some (.int (runR (bdF b a'.box.toNat) (atB a'.box.toNat pre)))
theorem AnsD.nil {b:List Int}:AnsD b [] []:=⟨Nat.le_refl _,fun _ h=>nomatch h⟩
theorem AnsD.snoc {b:List Int} {as:List Ask} {tk:List (Key × V)} {a:Ask} (h:AnsD b as tk):AnsD b (as ++ [a]) (putK tk (.inl a.hand) (.int (runR (bdF b a.box.toNat) (atB a.box.toNat as)))):=by
 refine ⟨?_,fun x hx=>?_⟩
 ·have:=yh tk (Sum.inl a.hand) (V.int (runR (bdF b a.box.toNat) (atB a.box.toNat as)))
  rw [List.length_append]
  have h1:=h.1
  exact Nat.le_trans this (Nat.succ_le_succ h1)
 ·by_cases c:x.hand = a.hand
  ·refine ⟨a,as,[],by simp,c.symm,by simp,?_⟩
   rw [xh,if_pos (by rw [c])]
  ·rcases List.mem_append.mp hx with hx | hx
   ·obtain ⟨a',pre,post,h1,h2,h3,h4⟩:=h.2 x hx
    refine ⟨a',pre,post ++ [a],List.mem_append_left _ h1,h2,by rw [h3,List.append_assoc],?_⟩
    rw [xh,if_neg (fun z=>c (Sum.inl.inj z))]; exact h4
   ·exact absurd (by rw [List.mem_singleton.mp hx]) c
theorem wy {key:Key}:∀ {ps d:List (Key × V)},(∀ p ∈ ps,p.1 ≠ key) -> valV (ps.foldl (fun d p=>putK d p.1 p.2) d) key = valV d key
 | [],d,_=>rfl
 | p :: ps,d,h=>by
  rw [List.foldl_cons,wy fun q hq=>h q (by simp [hq]),xh,if_neg (fun z=>h p (by simp) z.symm)]
theorem up {p:Key × V}:∀ {ps d:List (Key × V)},(ps.map (·.1)).Nodup -> p ∈ ps -> valV (ps.foldl (fun d p=>putK d p.1 p.2) d) p.1 = some p.2
 | q :: ps,d,nd,h=>by
  rw [List.map_cons,List.nodup_cons] at nd
  rw [List.foldl_cons]
  rcases List.mem_cons.mp h with rfl | h
  ·rw [wy fun x hx z=>nd.1 (List.mem_map.mpr ⟨x,hx,z⟩),xh,if_pos rfl]
  ·exact up nd.2 h
def ByAt (K:FG7) (H:Hp) (ks:List Ask) (ps:List (Key × V)):Prop:=ps.length = ks.length /\ ∀ (i:Nat) (a:Ask),ks[i]? = some a -> ∃ t dv,ps[i]? = some (.inl a.hand,.ref t) /\ H t = some (.tup [.int a.box,dv]) /\ yR K H dv a.deed
theorem ByAt.grow {K:FG7} {H H':Hp} {m:List Addr} {ks:List Ask} {ps:List (Key × V)} (g:Grow m H H') (h:ByAt K H ks ps):ByAt K H' ks ps :=
 ⟨h.1,fun i a ha=>by obtain ⟨t,dv,h1,h2,h3⟩:=h.2 i a ha; exact ⟨t,dv,h1,g.tup _ _ h2,g.deed h3⟩⟩
theorem ByAt.keys {K:FG7} {H:Hp} {ks:List Ask} {ps:List (Key × V)} (h:ByAt K H ks ps):ps.map (·.1) = ks.map fun a=>Sum.inl a.hand:=by
 refine List.ext_getElem? fun i=>?_
 rw [List.getElem?_map,List.getElem?_map]
 by_cases c:i < ks.length
 ·obtain ⟨t,dv,h1,_⟩:=h.2 i ks[i] (List.getElem?_eq_getElem c)
  rw [h1,List.getElem?_eq_getElem c]; rfl
 ·rw [List.getElem?_eq_none (by rw [h.1]; omega),List.getElem?_eq_none (by omega)]; rfl
theorem ByAt.some {K:FG7} {H:Hp} {ks:List Ask} {ps:List (Key × V)} (h:ByAt K H ks ps) (nd:(ks.map (·.hand)).Nodup) {a:Ask} (ha:a ∈ ks):∃ t dv,valV (vG ps) (.inl a.hand) = some (.ref t) /\ H t = some (.tup [.int a.box,dv]) /\ yR K H dv a.deed:=by
 obtain ⟨i,hi,rfl⟩:=List.getElem_of_mem ha
 obtain ⟨t,dv,h1,h2,h3⟩:=h.2 i ks[i] (List.getElem?_eq_getElem hi)
 refine ⟨t,dv,?_,h2,h3⟩
 have nd':(ps.map (·.1)).Nodup:=by
  rw [h.keys]
  have e:(ks.map fun a=>(Sum.inl a.hand:Key)) = (ks.map (·.hand)).map Sum.inl:=by rw [List.map_map]; rfl
  rw [e]
  exact nd.map _ fun x y hxy z=>hxy (Sum.inl.inj z)
 exact up (p:=(Sum.inl ks[i].hand,.ref t)) nd' (List.mem_of_getElem? h1)
theorem ByAt.none {K:FG7} {H:Hp} {ks:List Ask} {ps:List (Key × V)} (h:ByAt K H ks ps) {i:Int} (hno:∀ a ∈ ks,a.hand ≠ i):valV (vG ps) (.inl i) = none:=by
 refine wy fun p hp z=>?_
 have:p.1 ∈ ps.map (·.1):=List.mem_map.mpr ⟨p,hp,rfl⟩
 rw [h.keys] at this
 obtain ⟨a,ha,e⟩:=List.mem_map.mp this
 exact hno a ha (Sum.inl.inj (e.trans z))
theorem AllA.ins {K:FG7} {H:Hp} {y:V} {a:Ask} (ha:wN K H y a):∀ {xs:List V} {ks:List Ask} {i:Nat},AllA K H xs ks -> AllA K H (xs.take i ++ [y] ++ xs.drop i) (ks.take i ++ [a] ++ ks.drop i)
 | xs,ks,0,h=>⟨ha,h⟩
 | [],[],i + 1,h=>⟨ha,trivial⟩
 | x :: xs,k :: ks,i + 1,h=>⟨h.1,AllA.ins ha (i:=i) h.2⟩
structure RndS (j m:Nat) (ks:List Ask):Prop where
 nd:(ks.map (·.hand)).Nodup
 hand:∀ a ∈ ks,0 <= a.hand /\ a.hand < (j:Int)
 box:∀ a ∈ ks,0 <= a.box /\ a.box < (m:Int)
 ok:∀ a ∈ ks,a.deed.Ok
 sm:∀ a ∈ ks,a.deed.Sm
theorem RndS.nil {j m:Nat}:RndS j m []:=⟨List.nodup_nil,(fun _ h=>nomatch h),(fun _ h=>nomatch h),(fun _ h=>nomatch h),(fun _ h=>nomatch h)⟩
theorem RndS.next {j m:Nat} {ks:List Ask} (h:RndS j m ks):RndS (j + 1) m ks:=⟨h.nd,fun a ha=>by have:=h.hand a ha; omega,h.box,h.ok,h.sm⟩
theorem RndS.ins {j m i:Nat} {ks:List Ask} {a:Ask} (h:RndS j m ks) (h1:a.hand = (j:Int)) (h2:0 <= a.box /\ a.box < (m:Int)) (h3:a.deed.Ok) (h4:a.deed.Sm):RndS (j + 1) m (ks.take i ++ [a] ++ ks.drop i):=by
 have mem:∀ c ∈ ks.take i ++ [a] ++ ks.drop i,c = a \/ c ∈ ks:=fun c hc=>by
  rcases List.mem_append.mp hc with hc | hc
  ·rcases List.mem_append.mp hc with hc | hc
   ·exact .inr (List.mem_of_mem_take hc)
   ·exact .inl (List.mem_singleton.mp hc)
  ·exact .inr (List.mem_of_mem_drop hc)
 have pm:(ks.take i ++ [a] ++ ks.drop i).Perm (a :: ks):=by
  have p1:(ks.take i ++ [a]).Perm (a :: ks.take i):=List.perm_append_singleton a (ks.take i)
  have p2:=p1.append_right (ks.drop i)
  rw [List.cons_append,List.take_append_drop] at p2
  exact p2
 refine ⟨?_,fun c hc=>?_,fun c hc=>?_,fun c hc=>?_,fun c hc=>?_⟩
 ·refine ((pm.map (·.hand)).nodup_iff).mpr ?_
  rw [List.map_cons,List.nodup_cons]
  refine ⟨fun z=>?_,h.nd⟩
  obtain ⟨c,hc,e⟩:=List.mem_map.mp z
  have:=(h.hand c hc).2
  rw [e,h1] at this
  omega
 ·rcases mem c hc with rfl | hc
  ·rw [h1]; omega
  ·have:=h.hand c hc; omega
 ·rcases mem c hc with rfl | hc
  ·exact h2
  ·exact h.box c hc
 ·rcases mem c hc with rfl | hc
  ·exact h3
  ·exact h.ok c hc
 ·rcases mem c hc with rfl | hc
  ·exact h4
  ·exact h.sm c hc
theorem RndS.done {k m:Nat} {ks:List Ask} (h:RndS (2 ^ k) m ks):RndOk k m ks:=by
 have e:((2 ^ k:Nat):Int) = 2 ^ k:=by simp
 refine ⟨h.nd,fun a ha=>?_,h.box,h.ok⟩
 have:=h.hand a ha
 rw [e] at this
 exact this
def misH (ds tab:List (List Int)) (i j:Nat):Prop:=ds.getD (XA tab i j).toNat [] ≠ y4 (ds.getD i []) (ds.getD j [])
def tL (R:Nat) (ds tab:List (List Int)) (i j:Nat):Prop:=(i < R /\ j < R) /\ misH ds tab i j /\ ∀ i' j':Nat,i' < R -> j' < R -> (i' < i \/ (i' = i /\ j' < j)) -> ¬ misH ds tab i' j'
theorem tL.eq {R:Nat} {ds tab:List (List Int)} {i j i' j':Nat} (a:tL R ds tab i j) (b:tL R ds tab i' j'):i = i' /\ j = j':=by
 have h1:¬ (i' < i \/ (i' = i /\ j' < j)):=fun z=>a.2.2 i' j' b.1.1 b.1.2 z b.2.1
 have h2:¬ (i < i' \/ (i = i' /\ j < j')):=fun z=>b.2.2 i j a.1.1 a.1.2 z a.2.1
 omega
def Vc (K:FG7) (H:Hp) (R:Nat) (ds tab:List (List Int)) (y:V):Prop :=
 (y = .non /\ ∀ i j:Nat,i < R -> j < R -> ¬ misH ds tab i j) \/ ∃ i j:Nat,tL R ds tab i j /\ zV K H y [(i:Int),(j:Int)]
structure DT (K:FG7) (H:Hp) (R M:Nat) (ds tab:List (List Int)) (x y:V):Prop where
 hx:vw K H x ds
 hy:vw K H y tab
 r1:1 <= R
 r60:R <= 60
 m1:1 <= M
 m5:M <= 5
 hD:Ut R M ds
 hT:Ut R R tab
theorem DT.grow {K:FG7} {m:List Addr} {H H':Hp} {R M:Nat} {ds tab:List (List Int)} {x y:V} (h:DT K H R M ds tab x y) (g:Grow m H H'):DT K H' R M ds tab x y :=
 ⟨g.rows h.hx,g.rows h.hy,h.r1,h.r60,h.m1,h.m5,h.hD,h.hT⟩
def HldO (R:Nat) (ds tab:List (List Int)):Option (Nat × Nat) -> Prop
 | none=>∀ i j:Nat,i < R -> j < R -> ¬ misH ds tab i j
 | some t=>tL R ds tab t.1 t.2
theorem HldO.eq {R:Nat} {ds tab:List (List Int)} {o o':Option (Nat × Nat)} (a:HldO R ds tab o) (b:HldO R ds tab o'):o = o':=by
 cases o with
 | none=>cases o' with
  | none=>rfl
  | some t=>exact absurd b.2.1 (a _ _ b.1.1 b.1.2)
 | some t=>cases o' with
  | none=>exact absurd a.2.1 (b _ _ a.1.1 a.1.2)
  | some t' =>
   obtain ⟨i,j⟩:=t
   obtain ⟨i',j'⟩:=t'
   obtain ⟨e1,e2⟩:=tL.eq a b
   rw [show i = i' from e1,show j = j' from e2]
theorem Vc.grow {K:FG7} {m:List Addr} {H H':Hp} {R:Nat} {ds tab:List (List Int)} {y:V} (h:Vc K H R ds tab y) (g:Grow m H H'):Vc K H' R ds tab y:=by
 rcases h with h | ⟨i,j,h,hb⟩
 ·exact .inl h
 ·exact .inr ⟨i,j,h,g.board hb⟩
theorem FamOk.closed {ms:List (List Int)} {S:Nat} {r:FW} (h:FamOk ms S r) (hM:Mks ms S) (hl:r.length <= 60) {a b:List Int} (ha:a ∈ zU r) (hb:b ∈ zU r):y4 a b ∈ zU r :=
 h.all hl ((h.good.wd a ha).mul hM (h.good.wd b hb))
structure SomeAt (K:FG7) (H:Hp) (p lf:Addr) (S:Nat) (rows:List (List Int)):Prop where
 l:∃ zs,H lf = some (.lst zs) /\ AllR (zV K H) zs rows
 np:lf ∉ [p]
 r1:1 <= rows.length
 r60:rows.length <= 60
 ok:Mks rows S
 cl:∀ a ∈ rows,∀ b ∈ rows,y4 a b ∈ rows
theorem SomeAt.of {K:FG7} {H:Hp} {p lf:Addr} {S:Nat} {rows ms:List (List Int)} {zs:List V} {f:FW} (hF:FamL ms S f) (hM:Mks ms S) (hf:Few ms S) (hl:H lf = some (.lst zs)) (np:lf ∉ [p]) (hz:AllR (zV K H) zs rows) (pm:rows.Perm (zU f)):SomeAt K H p lf S rows:=by
 have hO:=hF.ok
 have h60:=hO.le hf
 have lk:rows.length = f.length:=by rw [pm.length_eq]; unfold zU; rw [List.length_map]
 refine ⟨⟨zs,hl,hz⟩,np,?_,by omega,fun d hd=>(hO.good.wd d (pm.mem_iff.mp hd)).dd hM,fun a ha b hb=>pm.mem_iff.mpr (hO.closed hM h60 (pm.mem_iff.mp ha) (pm.mem_iff.mp hb))⟩
 have:0 < rows.length:=List.length_pos_of_mem (pm.mem_iff.mpr hO.idk)
 omega
def XI (K:FG7) (H:Hp) (z:V):Prop:=∃ t y1 y2 y3 R M ds tab,z = .ref t /\ SqT K H t [y1,y2,y3] /\ DT K H R M ds tab y1 y2 /\ Vc K H R ds tab y3
theorem XI.grow {K:FG7} {m:List Addr} {H H':Hp} {z:V} (h:XI K H z) (g:Grow m H H'):XI K H' z:=by
 obtain ⟨t,y1,y2,y3,R,M,ds,tab,e,h1,h2,h3⟩:=h
 exact ⟨t,y1,y2,y3,R,M,ds,tab,e,g.sqT h1,h2.grow g,h3.grow g⟩
theorem GoodF.le {ms:List (List Int)} {S:Nat} {f:FW} (h:GoodF ms S f) (hf:Few ms S):f.length <= 60:=by
 obtain ⟨l,hl,hw⟩:=hf
 have:=sK h.nd fun d hd=>hw d (h.wd d hd)
 unfold zU at this
 rw [List.length_map] at this
 omega
structure MksAt (K:FG7) (H:Hp) (x:V) (ms:List (List Int)) (S:Nat):Prop where
 at':vw K H x ms
 ok:Mks ms S
 s1:1 <= S
 s5:S <= 5
 m1:1 <= ms.length
 m4:ms.length <= 4
 few:Few ms S
theorem MksAt.grow {K:FG7} {m:List Addr} {H H':Hp} {x:V} {ms:List (List Int)} {S:Nat} (h:MksAt K H x ms S) (g:Grow m H H'):MksAt K H' x ms S:=⟨g.rows h.at',h.ok,h.s1,h.s5,h.m1,h.m4,h.few⟩
def XJ (K:FG7) (H:Hp) (x:V) (rows:List (List Int)):Prop:=∃ r xs,x = .ref r /\ SqT K H r xs /\ AllR (KeyB H) xs rows
theorem XJ.rows {K:FG7} {H:Hp} {x:V} {rows:List (List Int)} (h:XJ K H x rows):vw K H x rows:=let ⟨r,xs,e,h1,h2⟩:=h; ⟨r,xs,e,h1,h2.imp fun _ _ z=>z.board⟩
theorem XJ.grow {K:FG7} {m:List Addr} {H H':Hp} {x:V} {rows:List (List Int)} (h:XJ K H x rows) (g:Grow m H H'):XJ K H' x rows:=let ⟨r,xs,e,h1,h2⟩:=h; ⟨r,xs,e,g.sqT h1,h2.imp fun _ _ z=>z.grow g⟩
structure OrdB (n:Nat) (lt:Nat -> Nat -> Bool):Prop where
 tr:∀ {i j k:Nat},lt i j = true -> lt j k = true -> lt i k = true
 as:∀ {i j:Nat},lt i j = true -> lt j i = false
 to:∀ {i j:Nat},i < n -> j < n -> i ≠ j -> lt i j = false -> lt j i = true
structure PmA (n:Nat) (p:Array Nat):Prop where
 sz:p.size = n
 pm:p.toList.Perm (List.range n)
theorem PmA.lt {n:Nat} {p:Array Nat} (h:PmA n p) {i:Nat} (hi:i < n):p.getD i 0 < n:=by
 have hi':i < p.toList.length:=by rw [Array.length_toList,h.sz]; exact hi
 have e:p.getD i 0 = p.toList[i]:=by simp [Array.getD,h.sz,hi]
 rw [e]
 exact List.mem_range.mp (h.pm.mem_iff.mp (List.getElem_mem hi'))
theorem PmA.inj {n:Nat} {p:Array Nat} (h:PmA n p) {i j:Nat} (hi:i < n) (hj:j < n) (hne:i ≠ j):p.getD i 0 ≠ p.getD j 0:=by
 have hi':i < p.toList.length:=by rw [Array.length_toList,h.sz]; exact hi
 have hj':j < p.toList.length:=by rw [Array.length_toList,h.sz]; exact hj
 have e:p.getD i 0 = p.toList[i]:=by simp [Array.getD,h.sz,hi]
 have e':p.getD j 0 = p.toList[j]:=by simp [Array.getD,h.sz,hj]
 rw [e,e']
 intro z
 exact hne ((List.getElem_inj (h.pm.nodup_iff.mpr List.nodup_range)).mp z)
theorem PmA.of_perm {n:Nat} {p q:Array Nat} (h:PmA n p) (hq:q.Perm p):PmA n q :=
 ⟨hq.size_eq.trans h.sz,(Array.perm_iff_toList_perm.mp hq).trans h.pm⟩
def Ups (lt:Nat -> Nat -> Bool) (p:Array Nat) (k:Nat):Prop:=∀ i j,i < j -> j < k -> lt (p.getD i 0) (p.getD j 0) = true
def jJ (lt:Nat -> Nat -> Bool) (p:Array Nat) (k:Nat):Prop:=∀ i j,i < j -> j < k -> lt (p.getD j 0) (p.getD i 0) = true
theorem Zz {p q:Array Nat} {i j:Nat} (h:p[i]? = q[j]?):p.getD i 0 = q.getD j 0:=by
 rw [Array.getD_eq_getD_getElem?,Array.getD_eq_getD_getElem?,h]
section
variable {n:Nat} {lt:Nat -> Nat -> Bool} {cmp:Nat -> Nat -> (Bool -> Shared -> Prop) -> Shared -> Prop} {s:Shared}
def Says (n:Nat) (lt:Nat -> Nat -> Bool) (cmp:Nat -> Nat -> (Bool -> Shared -> Prop) -> Shared -> Prop) (s:Shared):Prop:=∀ i j (C:Bool -> Shared -> Prop),i < n -> j < n -> C (lt i j) s -> cmp i j C s
theorem Ups.snoc {p:Array Nat} {m:Nat} (o:OrdB n lt) (h1:1 <= m) (u:Ups lt p m) (e:lt (p.getD (m - 1) 0) (p.getD m 0) = true):Ups lt p (m + 1):=by
 intro i j hij hj
 by_cases hjm:j < m
 ·exact u i j hij hjm
 ·obtain rfl:j = m:=by omega
  by_cases hi:i = j - 1
  ·subst hi; exact e
  ·exact o.tr (u i (j - 1) (by omega) (by omega)) e
theorem sN (o:OrdB n lt) (hc:Says n lt cmp s) {p:Array Nat} (hp:PmA n p):∀ (f m:Nat) {Q:Nat -> Shared -> Prop},1 <= m -> m + f = n -> Ups lt p m →
  (∀ k,m <= k -> k <= n -> Ups lt p k -> (k = n \/ lt (p.getD k 0) (p.getD (k - 1) 0) = true) -> Q k s) -> (kas_asc p f m).kasWp cmp Q s
 | 0,m,Q,h1,e,u,q=>q m (Nat.le_refl _) (by omega) u (.inl (by omega))
 | f + 1,m,Q,h1,e,u,q=>by
  refine hc _ _ _ (hp.lt (by omega)) (hp.lt (by omega)) ?_
  cases c:lt (p.getD m 0) (p.getD (m - 1) 0) with
  | true =>
   dsimp only
   rw [if_pos rfl]
   exact q m (Nat.le_refl _) (by omega) u (.inr c)
  | false =>
   dsimp only
   rw [if_neg (by decide)]
   exact sN o hc hp f (m + 1) (by omega) (by omega) (u.snoc o h1 (o.to (hp.lt (by omega)) (hp.lt (by omega)) (hp.inj (by omega) (by omega) (by omega)) c)) fun k hk=>q k (by omega)
theorem jJ.snoc {p:Array Nat} {m:Nat} (o:OrdB n lt) (h1:1 <= m) (u:jJ lt p m) (e:lt (p.getD m 0) (p.getD (m - 1) 0) = true):jJ lt p (m + 1):=by
 intro i j hij hj
 by_cases hjm:j < m
 ·exact u i j hij hjm
 ·obtain rfl:j = m:=by omega
  by_cases hi:i = j - 1
  ·subst hi; exact e
  ·exact o.tr e (u i (j - 1) (by omega) (by omega))
theorem qA (o:OrdB n lt) (hc:Says n lt cmp s) {p:Array Nat} (hp:PmA n p):∀ (f m:Nat) {Q:Array Nat × Nat × Nat -> Shared -> Prop},1 <= m -> m + f = n -> jJ lt p m →
  (∀ k,m <= k -> k <= n -> jJ lt p k -> Q (p,k,0) s) -> (kas_desc f p m 0).kasWp cmp Q s
 | 0,m,Q,h1,e,u,q=>q m (Nat.le_refl _) (by omega) u
 | f + 1,m,Q,h1,e,u,q=>by
  refine hc _ _ _ (hp.lt (by omega)) (hp.lt (by omega)) ?_
  cases c:lt (p.getD m 0) (p.getD (m - 1) 0) with
  | true =>
   dsimp only
   rw [if_pos rfl,if_neg (by decide)]
   exact qA o hc hp f (m + 1) (by omega) (by omega) (u.snoc o h1 c) fun k hk=>q k (by omega)
  | false =>
   dsimp only
   rw [if_neg (by decide)]
   refine hc _ _ _ (hp.lt (by omega)) (hp.lt (by omega)) ?_
   rw [o.to (hp.lt (by omega)) (hp.lt (by omega)) (hp.inj (by omega) (by omega) (by omega)) c]
   dsimp only
   rw [if_pos rfl]
   exact q m (Nat.le_refl _) (by omega) u
theorem UC {p:Array Nat} {k:Nat} (hp:PmA n p) (hk:k <= n) (d:jJ lt p k):Ups lt (kas_rev p 0 k) k:=by
 intro i j hij hj
 have g:∀ x,x < k -> (kas_rev p 0 k).getD x 0 = p.getD (k - 1 - x) 0:=fun x hx=>by
  refine Zz ?_
  unfold kas_rev
  rw [getElem?_mirror_all (by rw [hp.sz]; exact hk),if_pos (by omega)]
  congr 1; omega
 rw [g i (by omega),g j hj]
 exact d _ _ (by omega) (by omega)
theorem XL (o:OrdB n lt) (hc:Says n lt cmp s) {p:Array Nat} (hp:PmA n p) {k:Nat} (h1:1 <= k) (hk:k <= n) (d:jJ lt p k) {Q:Nat × Array Nat -> Shared -> Prop}
  (q:∀ m p',PmA n p' -> 1 <= m -> m <= n -> Ups lt p' m -> Q (m,p') s):(kas_tail3 k n p).kasWp cmp Q s:=by
 unfold kas_tail3
 rw [KasT.kasWp_bind]
 have hp':PmA n (kas_rev p 0 k):=hp.of_perm (mirror_perm _ _ _ _)
 exact sN o hc hp' (n - k) k h1 (by omega) (UC hp hk d) fun m hm hm' u _=>q m _ hp' (by omega) hm' u
theorem XM (o:OrdB n lt) (hc:Says n lt cmp s) {p:Array Nat} (hp:PmA n p) (h2:2 <= n) (c:lt (p.getD 1 0) (p.getD 0 0) = true) {Q:Nat × Array Nat -> Shared -> Prop}
  (q:∀ m p',PmA n p' -> 1 <= m -> m <= n -> Ups lt p' m -> Q (m,p') s):(kas_descPart 1 n p).kasWp cmp Q s:=by
 unfold kas_descPart
 rw [KasT.kasWp_bind]
 refine qA o hc hp (n - 2) 2 (by decide) (by omega) (fun i j hij hj=>?_) fun k hk hk' d=>?_
 ·obtain rfl:i = 0:=by omega
  obtain rfl:j = 1:=by omega
  exact c
 ·dsimp only
  rw [if_neg (by omega)]
  exact XL o hc hp (by omega) hk' d q
theorem Yo (o:OrdB n lt) (hc:Says n lt cmp s) {p:Array Nat} (hp:PmA n p) (h2:2 <= n) {Q:Nat × Array Nat -> Shared -> Prop}
  (q:∀ m p',PmA n p' -> 1 <= m -> m <= n -> Ups lt p' m -> Q (m,p') s):(kas_count n p).kasWp cmp Q s:=by
 unfold kas_count
 rw [KasT.kasWp_bind]
 refine sN o hc hp (n - 1) 1 (Nat.le_refl _) (by omega) (fun i j hij hj=>by omega) fun k h1 hk u e=>?_
 by_cases hkn:k = n
 ·rw [if_pos (by simpa using hkn)]
  exact q k p hp h1 hk u
 rw [if_neg (by simpa using hkn)]
 have e:=e.resolve_left hkn
 by_cases hg:k > 1
 ·rw [if_pos hg]
  refine hc _ _ _ (hp.lt (by omega)) (hp.lt (by omega)) ?_
  rw [u 0 (k - 1) (by omega) (by omega)]
  dsimp only
  rw [if_pos rfl]
  exact q k p hp h1 hk u
 ·rw [if_neg hg]
  obtain rfl:k = 1:=by omega
  exact XM o hc hp h2 e q
theorem ve (o:OrdB n lt) (hc:Says n lt cmp s) {p:Array Nat} (hp:PmA n p) {k:Nat} (hk:k < n) (u:Ups lt p k):∀ (f l r:Nat) {Q:Nat -> Shared -> Prop},l <= r -> r <= k -> r - l <= f →
  (∀ i,i < l -> lt (p.getD i 0) (p.getD k 0) = true) -> (∀ i,r <= i -> i < k -> lt (p.getD k 0) (p.getD i 0) = true) →
  (∀ x,x <= k -> (∀ i,i < x -> lt (p.getD i 0) (p.getD k 0) = true) -> (∀ i,x <= i -> i < k -> lt (p.getD k 0) (p.getD i 0) = true) -> Q x s) -> (kas_place p k f l r).kasWp cmp Q s
 | 0,l,r,Q,h1,h2,h3,a,b,q=>q l (by omega) a fun i hi=>b i (by omega)
 | f + 1,l,r,Q,h1,h2,h3,a,b,q=>by
  unfold kas_place
  by_cases hlr:l >= r
  ·rw [if_pos hlr]
   exact q l (by omega) a fun i hi=>b i (by omega)
  rw [if_neg hlr]
  refine hc _ _ _ (hp.lt hk) (hp.lt (by omega)) ?_
  cases c:lt (p.getD k 0) (p.getD ((l + r) / 2) 0) with
  | true =>
   dsimp only
   rw [if_pos rfl]
   refine ve o hc hp hk u f l ((l + r) / 2) (by omega) (by omega) (by omega) a (fun i hi hik=>?_) q
   by_cases e:i = (l + r) / 2
   ·rw [e]; exact c
   ·exact o.tr c (u _ i (by omega) hik)
  | false =>
   dsimp only
   rw [if_neg (by decide)]
   have c':=o.to (hp.lt hk) (hp.lt (by omega)) (hp.inj hk (by omega) (by omega)) c
   refine ve o hc hp hk u f ((l + r) / 2 + 1) r (by omega) h2 (by omega) (fun i hi=>?_) b q
   by_cases e:i = (l + r) / 2
   ·rw [e]; exact c'
   ·exact o.tr (u i _ (by omega) (by omega)) c'
theorem UD {p:Array Nat} {k x:Nat} (o:OrdB n lt) (hp:PmA n p) (hk:k < n) (u:Ups lt p k) (hx:x <= k) (a:∀ i,i < x -> lt (p.getD i 0) (p.getD k 0) = true) (b:∀ i,x <= i -> i < k -> lt (p.getD k 0) (p.getD i 0) = true):Ups lt (bubble p k (k - x)) (k + 1):=by
 have g:=fun i=>getElem?_bubble (xs:=p) (src:=k) (by rw [hp.sz]; exact hk) (k - x) (by omega) i
 have e:k - (k - x) = x:=by omega
 rw [e] at g
 have g1:∀ i,i < x -> (bubble p k (k - x)).getD i 0 = p.getD i 0:=fun i hi=>Zz (by rw [g,if_neg (by omega),if_neg (by omega)])
 have g2:(bubble p k (k - x)).getD x 0 = p.getD k 0:=Zz (by rw [g,if_pos rfl])
 have g3:∀ i,x < i -> i <= k -> (bubble p k (k - x)).getD i 0 = p.getD (i - 1) 0:=fun i hi hik=>Zz (by rw [g,if_neg (by omega),if_pos ⟨hi,hik⟩])
 intro i j hij hj
 rcases Nat.lt_trichotomy j x with h | h | h
 ·rw [g1 i (by omega),g1 j h]; exact u i j hij (by omega)
 ·subst h; rw [g1 i hij,g2]; exact a i hij
 ·rw [g3 j h (by omega)]
  rcases Nat.lt_trichotomy i x with h' | h' | h'
  ·rw [g1 i h']; exact u i _ (by omega) (by omega)
  ·subst h'; rw [g2]; exact b _ (by omega) (by omega)
  ·rw [g3 i h' (by omega)]; exact u _ _ (by omega) (by omega)
theorem ZA (o:OrdB n lt) (hc:Says n lt cmp s):∀ (f:Nat) (p:Array Nat) (k:Nat) {Q:Array Nat -> Shared -> Prop},PmA n p -> k + f = n -> Ups lt p k -> (∀ p',PmA n p' -> Ups lt p' n -> Q p' s) -> (kas_bin f p k).kasWp cmp Q s
 | 0,p,k,Q,hp,e,u,q=>q p hp (by rw [← show k = n by omega]; exact u)
 | f + 1,p,k,Q,hp,e,u,q=>by
  unfold kas_bin
  rw [KasT.kasWp_bind]
  refine ve o hc hp (by omega) u k 0 k (Nat.zero_le _) (Nat.le_refl _) (by omega) (fun i hi=>by omega) (fun i h1 h2=>by omega) fun x hx a b=>?_
  exact ZA o hc f _ (k + 1) (hp.of_perm (bubble_perm _ _ _)) (by omega) (UD o hp (by omega) u hx a b) q
theorem XN (o:OrdB n lt) (hc:Says n lt cmp s) (h2:2 <= n) {Q:Array Nat -> Shared -> Prop} (q:∀ p,PmA n p -> Ups lt p n -> Q p s):(kas_sort n).kasWp cmp Q s:=by
 unfold kas_sort
 rw [KasT.kasWp_bind]
 have h0:PmA n (List.toArray (List.range n)):=⟨by simp,by simp⟩
 refine Yo o hc h0 h2 fun m p hp h1 hm u=>?_
 by_cases hmn:m < n
 ·rw [if_pos hmn]
  have e:max m 1 = m:=by omega
  show (kas_bin (n - max m 1) p (max m 1)).kasWp cmp Q s
  rw [e]
  exact ZA o hc (n - m) p m hp (by omega) u q
 ·rw [if_neg hmn]
  obtain rfl:m = n:=by omega
  exact q p hp u
end
section
variable {prog:Program} {w:World} {A:Around} {E:VS7} {s:Shared}
def Asks (prog:Program) (w:World) (A:Around) (s:Shared) (a:Addr) (vs:List Value) (lt:Nat -> Nat -> Bool):Prop:=∃ κ,∀ h':Heap,(∀ b ob,b ≠ a -> s.heap.get? b = some ob -> h'.get? b = some ob) →
 (∀ (Q:SortKind -> Shared -> Prop) (E':VS7),Q κ { s with heap:=h' } -> wpAny (model prog w) A (keyKind' vs.toArray) Q E' { s with heap:=h' }) /\ Says vs.length lt (kas_ask prog w A κ vs) { s with heap:=h' }
theorem XO (vs:List Value):((List.range vs.length).map fun i=>vs.getD i Value.none) = vs:=by
 refine List.ext_getElem? fun i=>?_
 rw [List.getElem?_map]
 by_cases h:i < vs.length
 ·rw [List.getElem?_range h]
  show some (vs.getD i Value.none) = _
  rw [List.getD_eq_getElem?_getD,List.getElem?_eq_getElem h]; rfl
 ·rw [List.getElem?_eq_none (by rw [List.length_range]; omega),List.getElem?_eq_none (by omega)]; rfl
theorem XQ {a:Addr} {vs:List Value} {n:Nat} {P:PySem.Fin -> Shared -> Prop} {lt:Nat -> Nat -> Bool} (here:s.heap.get? a = some (seqObj "list" vs.toArray n)) (few:vs.length < 64) (o:OrdB vs.length lt) (asks:2 <= vs.length -> Asks prog w A s a vs lt)
  (fin:∀ p,PmA vs.length p -> Ups lt p vs.length -> P (.done (.ret .none)) { s with heap:=sortedHeap s.heap a vs (List.toArray (p.toList.map fun i=>vs.getD i Value.none)) }) :
  wpAny (model prog w) A (Builtin.«list.sort» ⟨[.ref a],[]⟩) P E s:=by
 have low:a < s.heap.objs.size:=Heap.lt_size here
 obtain ⟨ep,emp⟩:∃ ep,(s.heap.update a (Obj.mapSeq fun _=>(#[]:Array Value))).get? a = some (seqObj "list" #[] ep):=⟨_,get?_update_seq here fun _=>#[]⟩
 have big:sizeLine = sizeLine:=rfl
 have fits:vs.length <= sizeLine:=by have:=sizeLine_eq; omega
 have empty:(((s.heap.update a (Obj.mapSeq fun _=>(#[]:Array Value))).push (seqObj "tuple" vs.toArray 0)).push (seqObj "list" #[] 0)).get? a = some (seqObj "list" #[] ep):=Heap.get?_push_of_some _ (Heap.get?_push_of_some _ emp)
 have old:∀ b ob,b ≠ a -> s.heap.get? b = some ob -> (((s.heap.update a (Obj.mapSeq fun _=>(#[]:Array Value))).push (seqObj "tuple" vs.toArray 0)).push (seqObj "list" #[] 0)).get? b = some ob:=fun b ob ne e =>
  Heap.get?_push_of_some _ (Heap.get?_push_of_some _ (by rw [Heap.get?_update_ne _ _ _ _ ne]; exact e))
 rw [list_sort_plain]
 refine wpAny_bind (listItems_at here rfl (wpAny_bind (listUpdate_at here rfl ?_ (by rw [List.size_toArray]; exact fits) (Nat.zero_le _))))
 refine wpAny_bind (seqEpoch_at emp rfl (wpAny_bind (wpAny_newTuple ?_ (by show vs.length <= _; exact fits))))
 refine wpAny_bind (wpAny_newList (wpAny_holding ?_) (Nat.zero_le _))
 show wpAny (model prog w) A _ P E { s with heap:=((s.heap.update a (Obj.mapSeq fun _=>(#[]:Array Value))).push (seqObj "tuple" vs.toArray 0)).push (seqObj "list" #[] 0),toks:=s.toks }
 have sz:vs.toArray.size = vs.length:=by simp
 by_cases h2:vs.toArray.size < 2
 ·rw [if_pos h2,if_pos h2]
  refine wpAny_bind (wpAny_pure ?_)
  dsimp only
  rw [StateT.run_pure]
  refine wpAny_bind (wpAny_pure (wpAny_bind (seqEpoch_at empty rfl (wpAny_bind (listUpdate_at empty rfl ?_ (Nat.zero_le _) ?_)))))
  ·have f:=fin (List.toArray (List.range vs.length)) ⟨by simp,by simp⟩ (fun i j hij hj=>by omega)
   have e:(List.toArray ((List.toArray (List.range vs.length)).toList.map fun i=>vs.getD i Value.none)) = (vs.toArray.zip vs.toArray).map (·.2):=by
    apply Array.toList_inj.mp
    rw [Array.toList_map]
    show (List.range vs.length).map (fun i=>vs.getD i Value.none) = _
    rw [XO,Array.toList_zip]
    show vs = (vs.zip vs).map Prod.snd
    rw [List.map_snd_zip (Nat.le_refl _)]
   rw [e] at f
   have ne:(ep != ep) = false:=by simp
   show wpAny _ _ _ P E _
   simp only [ne,Bool.false_eq_true,if_false]
   exact wpAny_pure f
  ·show ((vs.toArray.zip vs.toArray).map (·.2)).size <= _
   rw [Array.size_map,Array.size_zip,sz]; omega
 have h2':2 <= vs.length:=by omega
 obtain ⟨κ,ok⟩:=asks h2'
 obtain ⟨kd,says⟩:=ok _ old
 rw [if_neg h2,if_neg h2]
 refine wpAny_bind (kd _ _ ?_)
 refine wpAny_bind (wpAny_mono (kat_run (ks:=vs) (Q:=fun st' s'=>s' = { s with heap:=((s.heap.update a (Obj.mapSeq fun _=>(#[]:Array Value))).push (seqObj "tuple" vs.toArray 0)).push (seqObj "list" #[] 0) } /\ failedOf st' = none /\ ∃ p,PmA vs.length p /\ Ups lt p vs.length /\ (arrOf st').map (·.2) = List.toArray (p.toList.map fun i=>vs.getD i Value.none)) (G:=fun p s'=>s' = { s with heap:=((s.heap.update a (Obj.mapSeq fun _=>(#[]:Array Value))).push (seqObj "tuple" vs.toArray 0)).push (seqObj "list" #[] 0) } /\ PmA vs.length p /\ Ups lt p vs.length) rfl h2' few
  (fun p st' s' _ har hf g=>⟨g.1,hf,p,g.2.1,g.2.2,kat_snds rfl har⟩) (XN o says h2' fun p hp u=>⟨rfl,hp,u⟩)) ?_ fun _ _ e=>e)
 rintro ⟨⟨⟩,st'⟩ s' ⟨rfl,hf,p,hp,u,out⟩
 refine wpAny_bind (seqEpoch_at empty rfl (wpAny_bind (listUpdate_at empty rfl ?_ (Nat.zero_le _) ?_)))
 ·have f:=fin p hp u
  rw [← out] at f
  show wpAny _ _ _ P E _
  have ne:(ep != ep) = false:=by simp
  have hf':failedOf st' = none:=hf
  dsimp only
  rw [hf']
  simp only [ne,Bool.false_eq_true,if_false]
  exact wpAny_pure f
 ·show ((arrOf st').map (·.2)).size <= _
  rw [out,List.size_toArray,List.length_map,Array.length_toList,hp.sz]; omega
end
def ltL:List Int -> List Int -> Bool
 | [],[]=>false
 | [],_ :: _=>true
 | _ :: _,[]=>false
 | a :: as,b :: bs=>if a = b then ltL as bs else decide (a < b)
theorem VM:∀ {a b c:List Int},ltL a b = true -> ltL b c = true -> ltL a c = true
 | [],[],_,h,_=>nomatch h
 | [],_ :: _,[],_,h=>nomatch h
 | [],_ :: _,_ :: _,_,_=>rfl
 | _ :: _,[],_,h,_=>nomatch h
 | _ :: _,_ :: _,[],_,h=>nomatch h
 | a :: as,b :: bs,c :: cs,h,k=>by
  unfold ltL at h k ⊢
  by_cases e:a = b
  ·subst e
   rw [if_pos rfl] at h
   by_cases e':a = c
   ·rw [if_pos e'] at k ⊢; exact VM h k
   ·rw [if_neg e'] at k ⊢; exact k
  ·rw [if_neg e] at h
   have h:=of_decide_eq_true h
   by_cases e':b = c
   ·subst e'; rw [if_neg e]; exact decide_eq_true h
   ·rw [if_neg e'] at k
    have k:=of_decide_eq_true k
    rw [if_neg (by omega)]; exact decide_eq_true (by omega)
theorem XR:∀ {a b:List Int},ltL a b = true -> ltL b a = false
 | [],[],h=>nomatch h
 | [],_ :: _,_=>rfl
 | _ :: _,[],h=>nomatch h
 | a :: as,b :: bs,h=>by
  unfold ltL at h ⊢
  by_cases e:a = b
  ·subst e; rw [if_pos rfl] at h ⊢; exact XR h
  ·rw [if_neg e] at h; rw [if_neg (Ne.symm e)]
   have h:=of_decide_eq_true h
   exact decide_eq_false (by omega)
theorem VN:∀ {a b:List Int},a ≠ b -> ltL a b = false -> ltL b a = true
 | [],[],h,_=>absurd rfl h
 | [],_ :: _,_,h=>nomatch h
 | _ :: _,[],_,_=>rfl
 | a :: as,b :: bs,n,h=>by
  unfold ltL at h ⊢
  by_cases e:a = b
  ·subst e; rw [if_pos rfl] at h ⊢; exact VN (fun z=>n (by rw [z])) h
  ·rw [if_neg e] at h; rw [if_neg (Ne.symm e)]
   have h:=of_decide_eq_false h
   exact decide_eq_true (by omega)
theorem UE {a:List Int}:ltL a a = false:=by
 cases h:ltL a a with
 | false=>rfl
 | true=>have:=XR h; rw [h] at this; cases this
section
variable {prog:Program} {w:World} {A:Around} {E:VS7} {s:Shared} {b fin:Bool} {Q:Bool -> Shared -> Prop}
structure RowAt (h:Heap) (v:Value) (row:List Int) (x:Addr) (ob:Obj) (its:Array Value) (n:Nat):Prop where
 e:v = .ref x
 g:h.get? x = some ob
 c:ob.cls = .type "tuple"
 d:ob.data = .seq its n
 i:IntsAre its.toList row
def Row1 (h:Heap) (v:Value) (row:List Int):Prop:=∃ x ob its n,RowAt h v row x ob its n
inductive Rows (h:Heap):List Value -> List (List Int) -> Prop
 | nil:Rows h [] []
 | cons {v vs row rows}:Row1 h v row -> Rows h vs rows -> Rows h (v :: vs) (row :: rows)
theorem Rows.len {h:Heap}:∀ {vs rows},Rows h vs rows -> vs.length = rows.length
 | _,_,.nil=>rfl
 | _,_,.cons _ t=>congrArg (· + 1) t.len
theorem Rows.get {h:Heap}:∀ {vs rows} {i:Nat},Rows h vs rows -> i < vs.length -> Row1 h (vs.getD i Value.none) (rows.getD i [])
 | _,_,_,.nil,hi=>absurd hi (by simp)
 | _,_,0,.cons r _,_=>r
 | _,_,i + 1,.cons _ t,hi=>by
  have:=t.get (i:=i) (by simpa using hi)
  exact this
theorem Rows.old {h h':Heap} (k:∀ x ob,h.get? x = some ob -> h'.get? x = some ob):∀ {vs rows},Rows h vs rows -> Rows h' vs rows
 | _,_,.nil=>.nil
 | _,_,.cons ⟨x,ob,its,n,r⟩ t=>.cons ⟨x,ob,its,n,r.e,k _ _ r.g,r.c,r.d,r.i⟩ (t.old k)
theorem Rows.tups {h:Heap}:∀ {vs rows},Rows h vs rows -> (∀ r ∈ rows,r ≠ []) -> ∃ fs,KatTups h vs fs /\ fs.length = vs.length /\ ∀ f ∈ fs,∃ n t,f = Value.int n t
 | _,_,.nil,_=>⟨[],.nil,rfl,fun f hf=>absurd hf (by simp)⟩
 | _,_,.cons ⟨x,ob,its,n,r⟩ t,ne=>by
  rename_i v vs row rows
  obtain ⟨fs,k,l,a⟩:=t.tups fun r hr=>ne r (List.mem_cons_of_mem _ hr)
  have hne:=ne row List.mem_cons_self
  obtain ⟨f,hf,n',t',rfl⟩:∃ f,its[0]? = some f /\ ∃ n t,f = Value.int n t:=by
   have hi:=r.i
   rw [← Array.getElem?_toList]
   revert hi
   generalize its.toList = us
   intro hi
   cases hi with
   | nil=>exact absurd rfl hne
   | cons n t _=>exact ⟨_,rfl,n,t,rfl⟩
  obtain rfl:=r.e
  exact ⟨Value.int n' t' :: fs,.cons r.g r.c r.d hf k,congrArg (· + 1) l,fun f hf=>by
   rcases List.mem_cons.mp hf with rfl | hf
   ·exact ⟨n',t',rfl⟩
   ·exact a f hf⟩
theorem Vd {rows:List (List Int)} (nd:rows.Nodup):OrdB rows.length (fun i j=>ltL (rows.getD i []) (rows.getD j [])) where
 tr:=VM
 as:=XR
 to:=fun {i j} hi hj hne h=>by
  refine VN (fun z=>hne ?_) h
  have e:∀ {i:Nat} (h:i < rows.length),rows.getD i [] = rows[i]:=fun h=>by rw [List.getD_eq_getElem?_getD,List.getElem?_eq_getElem h]; rfl
  rw [e hi,e hj] at z
  exact (List.getElem_inj nd).mp z
end
section
variable {X:Cx} {K:FG7}
theorem XS {α:Type} {l:List α} {d:α} {is:List Nat} (h:is.Perm (List.range l.length)):(is.map fun i=>l.getD i d).Perm l:=by
 refine (h.map _).trans ?_
 have e:(List.range l.length).map (fun i=>l.getD i d) = l:=by
  refine List.ext_getElem? fun i=>?_
  rw [List.getElem?_map]
  by_cases h:i < l.length
  ·rw [List.getElem?_range h]
   show some (l.getD i d) = _
   rw [List.getD_eq_getElem?_getD,List.getElem?_eq_getElem h]; rfl
  ·rw [List.getElem?_eq_none (by rw [List.length_range]; omega),List.getElem?_eq_none (by omega)]; rfl
 rw [e]
end
section
variable {prog:Program} {w:World} {A:Around} {E:VS7} {s:Shared}
theorem Yp {l:Addr} {us:List Value} {Q:List Value -> Shared -> Prop} (tu:s.heap.IsList l us.toArray) (hu:us.length <= sizeLine)
  (q:Q us { s with heap:=(s.heap.push (seqObj "list" #[] 0)).update s.heap.objs.size (Obj.mapSeq (· ++ us.toArray)) }):wpAny (model prog w) A (collect (.ref l)) Q E s:=by
 obtain ⟨ob,eo,ec,m,ed⟩:=id tu
 have eo2:(s.heap.push (seqObj "list" #[] 0)).get? l = some ob:=Heap.get?_push_of_some _ eo
 unfold collect
 refine wpAny_bind (wpAny_runValue (codeAny_builtin entry_proto_collect' (show wpAny _ _ (do again (.builtin "list.__iadd__" ⟨[← newList [],.ref l],[]⟩)) _ _ s from ?_)))
 refine wpAny_bind (wpAny_newList (wpAny_pure ⟨Code.quiet_builtin _ (by decide +kernel),codeAny_builtin entry_list_iadd' (show wpAny _ _ (Builtin.List.listExtendWith (.ref s.heap.objs.size) (.ref l) (.ref s.heap.objs.size)) _ _ { s with heap:=s.heap.push (seqObj "list" #[] 0) } from ?_)⟩))
 unfold Builtin.List.listExtendWith
 refine wpAny_bind (wpAny_typeOf (T:="list") ⟨ob,eo2,ec⟩ ?_)
 have k1:(Value.type "list" == Value.type "list") = true:=rfl
 rw [if_pos (by simp [k1])]
 refine wpAny_bind (listItems_at eo2 ed (wpAny_bind (listItems_at (xs:=#[]) (n:=0) (Heap.get?_push_size _ rfl) rfl ?_)))
 rw [if_neg (by simp)]
 refine wpAny_bind (listUpdate_at (xs:=#[]) (n:=0) (Heap.get?_push_size _ rfl) rfl (wpAny_pure ?_) (Nat.zero_le _) (by show (#[] ++ us.toArray).size <= sizeLine + 1; simp only [Array.size_append,List.size_toArray,List.length_nil]; omega))
 refine wpAny_bind (wpAny_load (get?_update_seq (Heap.get?_push_size _ rfl) _) ?_)
 show wpAny _ _ (pure ((#[]:Array Value) ++ us.toArray).toList) Q E _
 rw [show ((#[]:Array Value) ++ us.toArray).toList = us by simp]
 exact wpAny_pure q
theorem sO {l:Addr} {vs:List Value} {Q:VS7} {lt:Nat -> Nat -> Bool} (tu:s.heap.IsList l vs.toArray) (few:vs.length < 64) (o:OrdB vs.length lt)
  (asks:2 <= vs.length -> ∀ s':Shared,(∀ b ob,s.heap.get? b = some ob -> s'.heap.get? b = some ob /\ b ≠ s.heap.objs.size + 1) -> Asks prog w A.in1.in1 s' (s.heap.objs.size + 1) vs lt)
  (fin:∀ p,PmA vs.length p -> Ups lt p vs.length -> Q (.ref (s.heap.objs.size + 1)) { s with heap:=sortedAll s.heap vs (List.toArray (p.toList.map fun i=>vs.getD i Value.none)) }) :
  wpAny (model prog w) A (call (.builtin "sorted") [.ref l]) Q E s:=by
 refine Calls.call_function_entry kind_sorted plain_sorted entry_sorted (args_sorted1 _) ?_
 unfold Builtin.«sorted»
 refine wpAny_bind (m:=checkCount "sorted" 1 1 _) (wpAny_pure (wpAny_bind (Yp tu (by rw [sizeLine_eq]; omega) (wpAny_bind (wpAny_newList ?_ (by rw [sizeLine_eq]; omega))))))
 have e1:((s.heap.push (seqObj "list" #[] 0)).update s.heap.objs.size (Obj.mapSeq (· ++ vs.toArray))).objs.size = s.heap.objs.size + 1:=by rw [Heap.size_update,size_push']
 have e2:(((s.heap.push (seqObj "list" #[] 0)).update s.heap.objs.size (Obj.mapSeq (· ++ vs.toArray))).push (seqObj "list" vs.toArray 0)).get? (s.heap.objs.size + 1) = some (seqObj "list" vs.toArray 0):=by
  rw [← e1]; exact Heap.get?_push_size _ rfl
 show wpAny _ _ _ _ _ { s with heap:=((s.heap.push (seqObj "list" #[] 0)).update s.heap.objs.size (Obj.mapSeq (· ++ vs.toArray))).push (seqObj "list" vs.toArray 0) }
 rw [e1]
 refine wpAny_bind (wpAny_holding (wpAny_call_entry slot_list_sort ⟨_,e2,rfl⟩ entry_list_sort (XQ (s:={ s with heap:=((s.heap.push (seqObj "list" #[] 0)).update s.heap.objs.size (Obj.mapSeq (· ++ vs.toArray))).push (seqObj "list" vs.toArray 0) }) e2 few o (fun h2=>asks h2 _ fun b ob e=>⟨?_,?_⟩) fun p hp u=>⟨_,rfl,wpAny_pure ⟨_,rfl,fin p hp u⟩⟩) (args_list_sort _)))
 ·have lo:b < s.heap.objs.size:=Heap.lt_size e
  refine Heap.get?_push_of_some _ ?_
  rw [Heap.get?_update_ne _ _ _ _ (Nat.ne_of_lt lo)]
  exact Heap.get?_push_of_some _ e
 ·exact Nat.ne_of_lt (Nat.lt_succ_of_lt (Heap.lt_size e))
end
section
variable {prog:Program} {w:World} {A:Around} {E:VS7} {s:Shared} {b fin:Bool} {Q:Bool -> Shared -> Prop}
theorem XT {v:Value} {Q:Bool -> Shared -> Prop} (h:Q true s):wpAny (model prog w) A (eqBool v v) Q E s:=by
 unfold eqBool
 refine wpAny_holding ?_
 rw [if_pos (beq_self_eq_true v)]
 exact wpAny_bind (wpAny_rule (wpAny_pure h))
theorem tM:∀ {us:List Value} (i:Nat),Q fin s -> KatLex prog w A b fin Q (us.zip us) i s
 | [],_,q=>kat_nil q
 | u :: us,i,q=>by
  rw [List.zip_cons_cons]
  exact kat_cons (XT (kat_yes (tM (i + 1) q)))
theorem qB:∀ {us vs rs ts:List Value} {as bs:List Int} (i:Nat),IntsAre us as -> IntsAre vs bs -> as.length = bs.length -> as ≠ bs -> Q (ltL as bs) s -> KatLex prog w A b fin Q ((us ++ rs).zip (vs ++ ts)) i s
 | _,_,_,_,_,_,i,.nil,.nil,_,ne,_=>absurd rfl ne
 | _,_,_,_,_,_,i,.nil,.cons _ _ _,l,_,_=>absurd l (by simp)
 | _,_,_,_,_,_,i,.cons _ _ _,.nil,l,_,_=>absurd l (by simp)
 | _,_,rs,ts,_,_,i,.cons x t hx,.cons y u hy,l,ne,q=>by
  rename_i us as vs bs
  rw [List.cons_append,List.cons_append,List.zip_cons_cons]
  refine kat_cons (wpAny_eqBool_int (kat_go (fun h=>?_) fun h=>?_))
  ·have h:=eq_of_beq h
   subst h
   refine kat_yes (qB (i + 1) hx hy (by simpa using l) (fun z=>ne (by rw [z])) ?_)
   unfold ltL at q
   rw [if_pos rfl] at q
   exact q
  ·have h:=ne_of_beq_false h
   unfold ltL at q
   rw [if_neg h] at q
   refine kat_no ?_
   cases (b && i == 0) with
   | true=>exact oneLt_int q
   | false=>exact kat_one _ _ (PyProof.Rows.lt_int (show PySem.W.BoolBack Q (.bool (decide (x < y))) s from q))
structure RowAtP (h:Heap) (v:Value) (row:List Int) (x:Addr) (ob:Obj) (its:Array Value) (n:Nat) (us rest:List Value):Prop where
 e:v = .ref x
 g:h.get? x = some ob
 c:ob.cls = .type "tuple"
 d:ob.data = .seq its n
 t:its.toList = us ++ rest
 i:IntsAre us row
def T8 (h:Heap) (v:Value) (row:List Int):Prop:=∃ x ob its n us rest,RowAtP h v row x ob its n us rest
inductive RowsP (h:Heap):List Value -> List (List Int) -> Prop
 | nil:RowsP h [] []
 | cons {v vs row rows}:T8 h v row -> RowsP h vs rows -> RowsP h (v :: vs) (row :: rows)
theorem RowsP.len {h:Heap}:∀ {vs rows},RowsP h vs rows -> vs.length = rows.length
 | _,_,.nil=>rfl
 | _,_,.cons _ t=>congrArg (· + 1) t.len
theorem RowsP.get {h:Heap}:∀ {vs rows} {i:Nat},RowsP h vs rows -> i < vs.length -> T8 h (vs.getD i Value.none) (rows.getD i [])
 | _,_,_,.nil,hi=>absurd hi (by simp)
 | _,_,0,.cons r _,_=>r
 | _,_,i + 1,.cons _ t,hi=>by
  have:=t.get (i:=i) (by simpa using hi)
  exact this
theorem RowsP.old {h h':Heap} (k:∀ x ob,h.get? x = some ob -> h'.get? x = some ob):∀ {vs rows},RowsP h vs rows -> RowsP h' vs rows
 | _,_,.nil=>.nil
 | _,_,.cons ⟨x,ob,its,n,us,rest,r⟩ t=>.cons ⟨x,ob,its,n,us,rest,r.e,k _ _ r.g,r.c,r.d,r.t,r.i⟩ (t.old k)
theorem RowsP.tups {h:Heap}:∀ {vs rows},RowsP h vs rows -> (∀ r ∈ rows,r ≠ []) -> ∃ fs,KatTups h vs fs /\ fs.length = vs.length /\ ∀ f ∈ fs,∃ n t,f = Value.int n t
 | _,_,.nil,_=>⟨[],.nil,rfl,fun f hf=>absurd hf (by simp)⟩
 | _,_,.cons ⟨x,ob,its,n,us,rest,r⟩ t,ne=>by
  rename_i v vs row rows
  obtain ⟨fs,k,l,a⟩:=t.tups fun r hr=>ne r (List.mem_cons_of_mem _ hr)
  have hne:=ne row List.mem_cons_self
  obtain ⟨f,hf,n',t',rfl⟩:∃ f,its[0]? = some f /\ ∃ n t,f = Value.int n t:=by
   have hi:=r.i
   rw [← Array.getElem?_toList,r.t]
   revert hi
   generalize us = us'
   intro hi
   cases hi with
   | nil=>exact absurd rfl hne
   | cons n t _=>exact ⟨_,rfl,n,t,rfl⟩
  obtain rfl:=r.e
  exact ⟨Value.int n' t' :: fs,.cons r.g r.c r.d hf k,congrArg (· + 1) l,fun f hf=>by
   rcases List.mem_cons.mp hf with rfl | hf
   ·exact ⟨n',t',rfl⟩
   ·exact a f hf⟩
theorem Yq {vs:List Value} {rows:List (List Int)} {a:Addr} {m:Nat} (r:RowsP s.heap vs rows) (nd:rows.Nodup) (m1:1 <= m) (hm:∀ r ∈ rows,r.length = m) (ha:∀ x ob,s.heap.get? x = some ob -> (∃ v ∈ vs,v = .ref x) -> x ≠ a) (h2:2 <= vs.length):Asks prog w A s a vs (fun i j=>ltL (rows.getD i []) (rows.getD j [])):=by
 refine ⟨tuples' (Value.type "int" != Value.type "tuple"),fun h' k=>?_⟩
 have ne:∀ r ∈ rows,r ≠ []:=fun r hr z=>by have:=hm r hr; rw [z] at this; have:0 = m:=this; omega
 have r':RowsP h' vs rows:=by
  have go:∀ {vs' rows'},RowsP s.heap vs' rows' -> (∀ v ∈ vs',v ∈ vs) -> RowsP h' vs' rows':=by
   intro vs' rows' q
   induction q with
   | nil=>intro _; exact .nil
   | cons q t ih =>
    intro sub
    obtain ⟨x,ob,its,n,us,rest,q⟩:=q
    exact .cons ⟨x,ob,its,n,us,rest,q.e,k x ob (ha x ob q.g ⟨_,sub _ List.mem_cons_self,q.e⟩) q.g,q.c,q.d,q.t,q.i⟩ (ih fun v hv=>sub v (List.mem_cons_of_mem _ hv))
  exact go r fun v hv=>hv
 have rl:=r'.len
 have get:∀ {i:Nat} (h:i < rows.length),rows.getD i [] = rows[i]:=fun h=>by rw [List.getD_eq_getElem?_getD,List.getElem?_eq_getElem h]; rfl
 obtain ⟨fs,kt,fl,fi⟩:=r'.tups ne
 refine ⟨fun Q E' q=>kat_kind (s:={ s with heap:=h' }) (T:=.type "int") kt (by omega) (fun v hv=>?_) (by simp) q,fun i j C hi hj c=>?_⟩
 ·obtain ⟨n,t,rfl⟩:=fi v hv
  exact Looks.of_pure rfl
 ·obtain ⟨x,ox,xs,n,us,rest,p⟩:=r'.get hi
  obtain ⟨y,oy,ys,m',us',rest',q⟩:=r'.get hj
  unfold kas_ask
  by_cases hij:i = j
  ·subst hij
   rw [p.e]
   refine kat_lt (s:={ s with heap:=h' }) p.g p.d p.g p.d (tM 0 ?_)
   dsimp only at c
   rw [UE] at c
   rw [decide_eq_false (Nat.lt_irrefl _)]; exact c
  ·rw [p.e,q.e]
   refine kat_lt (s:={ s with heap:=h' }) p.g p.d q.g q.d ?_
   rw [p.t,q.t]
   have hi':i < rows.length:=by omega
   have hj':j < rows.length:=by omega
   refine qB 0 p.i q.i ?_ (fun z=>hij ?_) c
   ·rw [get hi',get hj',hm _ (List.getElem_mem hi'),hm _ (List.getElem_mem hj')]
   ·rw [get hi',get hj'] at z
    exact (List.getElem_inj nd).mp z
end
section
variable {X:Cx} {K:FG7}
def sP (K:FG7) (H:Hp) (z:V) (p:List Int × List V):Prop:=∃ r,z = .ref r /\ SqT K H r (p.1.map V.int ++ p.2)
def T9 (K:FG7):List V -> Hp -> VK -> Prop:=fun xs H Q=>∃ (l:Addr) (zs:List V) (items:List (List Int × List V)) (m:Nat),xs = [.ref l] /\ SqL K H l zs /\ AllR (sP K H) zs items /\ (items.map (·.1)).Nodup /\ 1 <= m /\ (∀ p ∈ items,p.1.length = m) /\ items.length < 64 ∧
 ∀ (p:Addr) (zs':List V) (items':List (List Int × List V)),H p = none -> items'.Perm items -> items'.Pairwise (fun x y=>ltL x.1 y.1 = true) -> AllR (sP K H) zs' items' -> Q (.ref p) (upd H p (.lst zs'))
theorem tN:∀ {ns:List Int} {rest:List V} {us:List Value},Vals (ns.map V.int ++ rest) us -> ∃ a b,us = a ++ b /\ IntsAre a ns
 | [],_,us,_=>⟨[],us,rfl,.nil⟩
 | n :: ns,rest,_,.cons r t=>by
  obtain ⟨a,b,rfl,h⟩:=tN (ns:=ns) (rest:=rest) t
  obtain ⟨tk,rfl⟩:=r
  exact ⟨_ :: a,b,rfl,.cons n tk h⟩
theorem ZB {pins:List (Addr × Obj)} {σ:L2.St} {H:Hp} {s:Shared} (I:Inv X pins σ H s):∀ {zs:List V} {items:List (List Int × List V)} {vs:List Value},AllR (sP X.K H) zs items -> Vals zs vs -> RowsP s.heap vs (items.map (·.1))
 | [],[],_,_,.nil=>.nil
 | z :: zs,it :: items,_,⟨h,t⟩,.cons r rs=>by
  obtain ⟨b,rfl,hb⟩:=h
  obtain ⟨its,rv,⟨ob,eo,ec,m,ed⟩,_⟩:=I.tuple hb
  obtain ⟨a,c,e,hi⟩:=tN rv
  exact .cons ⟨b,ob,its.toArray,m,a,c,r,eo,ec,ed,e,hi⟩ (ZB I t rs)
 | [],_ :: _,_,h,_=>h.elim
 | _ :: _,[],_,h,_=>h.elim
theorem Yr (hK:X.K = K):xq X (.builtin "sorted") (T9 K):=by
 subst hK
 intro pins s σ H xs us Q I r h
 obtain ⟨l,zs,items,m,rfl,hl,hr,nd,m1,hm,few,q⟩:=h
 obtain ⟨rows,hrows⟩:∃ rows,rows = items.map (·.1):=⟨_,rfl⟩
 have rlen:rows.length = items.length:=by rw [hrows,List.length_map]
 rw [← hrows] at nd
 have hm':∀ r ∈ rows,r.length = m:=fun r hr=>by rw [hrows] at hr; obtain ⟨p,hp,rfl⟩:=List.mem_map.mp hr; exact hm p hp
 obtain ⟨u,rfl,rx⟩:=wK r
 cases (show u = Value.ref l from rx)
 obtain ⟨vs,rv,pl,hz⟩:=I.list hl
 have e1:=rv.length
 have e2:=hr.len
 have R:=ZB I hr rv
 rw [← hrows] at R
 have e3:=R.len
 have o:=Vd nd
 rw [← e3] at o
 refine sO pl.isList (by omega) o (fun h2 s' k=>Yq (R.old fun x ob e=>(k x ob e).1) nd m1 hm' (fun x ob e ⟨v,hv,ev⟩=>?_) h2) fun p hp u=>?_
 ·subst ev
  obtain ⟨i,hi,ei⟩:=List.getElem_of_mem hv
  obtain ⟨x',ob',its,n,us,rest,p⟩:=R.get hi
  have ex:vs.getD i Value.none = .ref x:=by rw [List.getD_eq_getElem?_getD,List.getElem?_eq_getElem hi,ei]; rfl
  rw [ex] at p
  cases p.e
  exact (k _ _ p.g).2
 ·obtain ⟨e,he⟩:=sortedAll_at s.heap vs (List.toArray (p.toList.map fun i=>vs.getD i Value.none))
  have hn:H (s.heap.objs.size + 1) = none:=I.hok.fresh (Nat.le_succ _)
  have mem:∀ i ∈ p.toList,i < vs.length:=fun i hi=>List.mem_range.mp (hp.pm.mem_iff.mp hi)
  have rl:∀ is:List Nat,(∀ i ∈ is,i < vs.length) -> Vals (is.map fun i=>zs.getD i .non) (is.map fun i=>vs.getD i Value.none):=by
   intro is
   induction is with
   | nil=>intro _; exact .nil
   | cons i is ih =>
    intro hm
    have hi:=hm i List.mem_cons_self
    refine .cons ?_ (ih fun j hj=>hm j (List.mem_cons_of_mem _ hj))
    obtain ⟨u,hu,ru⟩:=rv.get (List.getElem?_eq_getElem (show i < zs.length by omega))
    dsimp only
    rw [List.getD_eq_getElem?_getD,List.getD_eq_getElem?_getD,hu,List.getElem?_eq_getElem (show i < zs.length by omega)]
    exact ru
  have al:∀ is:List Nat,(∀ i ∈ is,i < vs.length) -> AllR (sP X.K H) (is.map fun i=>zs.getD i .non) (is.map fun i=>items.getD i ([],[])):=by
   intro is
   induction is with
   | nil=>intro _; trivial
   | cons i is ih =>
    intro hm
    have hi:=hm i List.mem_cons_self
    refine ⟨?_,ih fun j hj=>hm j (List.mem_cons_of_mem _ hj)⟩
    obtain ⟨row,hrow,br⟩:=hr.get (List.getElem?_eq_getElem (show i < zs.length by omega))
    dsimp only
    rw [List.getD_eq_getElem?_getD,List.getD_eq_getElem?_getD,hrow,List.getElem?_eq_getElem (show i < zs.length by omega)]
    exact br
  have hpm:p.toList.Perm (List.range items.length):=by rw [← rlen,← e3]; exact hp.pm
  have pw:(p.toList.map fun i=>items.getD i ([],[])).Pairwise (fun x y=>ltL x.1 y.1 = true):=by
   rw [List.pairwise_map,List.pairwise_iff_getElem]
   intro i j hi hj hij
   have g:∀ {i:Nat} (h:i < p.toList.length),p.getD i 0 = p.toList[i]:=fun {i} h=>by
    have h':i < p.size:=by simpa using h
    simp [Array.getD,h']
   have:=u i j hij (by rw [← hp.sz,← Array.length_toList]; exact hj)
   rw [g hi,g hj] at this
   have gg:∀ n:Nat,rows.getD n [] = (items.getD n ([],[])).1:=fun n=>by
    rw [hrows,List.getD_eq_getElem?_getD,List.getD_eq_getElem?_getD,List.getElem?_map]
    cases items[n]? <;> rfl
   dsimp only at this
   rw [gg,gg] at this
   exact this
  refine ⟨.ref (s.heap.objs.size + 1),_,?_,rfl,q _ (p.toList.map fun i=>zs.getD i .non) _ hn (XS hpm) pw (al _ mem)⟩
  refine I.laid (t':=s.toks) (fun b o q=>sortedAll_old q) (Nat.le_succ _) (show z5 X.prog X.w _ _ _ (.lst (p.toList.map fun i=>zs.getD i .non)) from ⟨by rw [List.length_map,Array.length_toList,hp.sz]; have:=sizeLine_eq; omega,_,e,rl _ mem,he⟩)
end
theorem sP.grow {K:FG7} {H H':Hp} {m:List Addr} {z:V} {p:List Int × List V} (g:Grow m H H') (h:sP K H z p):sP K H' z p:=by
 obtain ⟨r,e,hr⟩:=h
 exact ⟨r,e,g.sqT hr⟩
structure Wt where
 box:Nat
 deed:Deed
 nums:List Nat
 met:List (Nat × Nat)
instance:Inhabited Wt:=⟨⟨0,⟨0,none,none⟩,[],[]⟩⟩
instance:Inhabited Ask:=⟨⟨0,0,⟨0,none,none⟩⟩⟩
structure NS where
 k:Nat
 room:Nat
 kept:Nat
 boxes:List Int
 asks:List Ask
 now:Nat
 lines:Nat -> Nat -> List Wt
 keep:Nat -> Nat -> Int
 /-- how many beats are in the table of what was done -/
 nd:Nat
 done:Nat -> List Wt
 log:List Nat
 fnd:List (Nat × Int)
 ans:List (Nat × Int)
def updL {α:Type} (f:Nat -> Nat -> α) (l j:Nat) (v:α):Nat -> Nat -> α:=fun a b=>if a = l /\ b = j then v else f a b
theorem zD {α:Type} {f:Nat -> Nat -> α} {l j:Nat} {v:α}:updL f l j v l j = v:=if_pos ⟨rfl,rfl⟩
theorem zE {α:Type} {f:Nat -> Nat -> α} {l j a b:Nat} {v:α} (h:¬ (a = l /\ b = j)):updL f l j v a b = f a b:=if_neg h
def putN (f:List (Nat × Int)) (n:Nat) (v:Int):List (Nat × Int):=if (f.any fun p=>decide (p.1 = n)) = true then f.map fun p=>if p.1 = n then (n,v) else p else f ++ [(n,v)]
def getN (f:List (Nat × Int)) (n:Nat):Option Int:=(f.find? fun p=>decide (p.1 = n)).map (·.2)
def qC (out:List Wt) (b:Nat):Option Nat:=((List.range out.length).filter fun i=>decide ((out.getD i default).box = b)).getLast?
def wp (sw:Nat × Nat) (w c:Wt):Wt:=⟨w.box,Z2 w.deed c.deed,w.nums ++ c.nums,w.met ++ c.met ++ [sw]⟩
def addS (ns:NS) (s l:Nat) (c:Wt) (r:List Wt):NS :=
 if (ns.lines s (outR ns.k s l c.box)).length < ns.room then { ns with lines:=updL (updL ns.lines (s - 1) l r) s (outR ns.k s l c.box) (ns.lines s (outR ns.k s l c.box) ++ [c]) } else ns
def yE (ns:NS) (s l:Nat):NS :=
  match ns.lines (s - 1) l with
  | []=>ns
  | c :: r =>
    match qC (ns.lines s (outR ns.k s l c.box)) c.box with
    | none=>addS ns s l c r
    | some i =>
      if ns.keep s (nN ns.k s l) < ns.kept then
        { ns with
          lines:=updL (updL ns.lines (s - 1) l r) s (outR ns.k s l c.box) ((ns.lines s (outR ns.k s l c.box)).set i (wp (s,nN ns.k s l) ((ns.lines s (outR ns.k s l c.box)).getD i default) c))
          keep:=updL ns.keep s (nN ns.k s l) (ns.keep s (nN ns.k s l) + 1) }
      else addS ns s l c r
def inlN (k s n m:Nat):Nat:=(n / 2 ^ (k - s) * 2 + m) * 2 ^ (k - s) + n % 2 ^ (k - s)
def yH (gone:List (Nat × Nat)) (s:Nat) (ns:NS) (n:Nat):NS :=
 if (s,n) ∈ gone then ns else yE (yE ns s (inlN ns.k s n (ns.now % 2))) s (inlN ns.k s n (1 - ns.now % 2))
def passS (gone:List (Nat × Nat)) (ns:NS) (s:Nat) (i:Nat):NS:=(List.range i).foldl (yH gone s) ns
def passA (gone:List (Nat × Nat)) (ns:NS) (i:Nat):NS:=(List.range i).foldl (fun ns i=>passS gone ns (ns.k - i) (2 ^ (ns.k - 1))) ns
def qD (gone:List (Nat × Nat)) (k:Nat) (st:List Wt × (Nat -> Nat -> List Wt)) (side:Nat):List Wt × (Nat -> Nat -> List Wt) :=
 match st.2 k side with
 | []=>st
 | w :: r=>if (0,side) ∈ gone then st else (st.1 ++ [w],updL st.2 k side r)
def zA (gone:List (Nat × Nat)) (ns:NS) (i:Nat):List Wt × (Nat -> Nat -> List Wt):=(List.range i).foldl (qD gone ns.k) ([],ns.lines)
def doN (b:Nat) (ns:NS) (n:Nat):NS :=
 { ns with boxes:=ns.boxes.set b ((ns.asks.getD n default).deed.mk' (ns.boxes.getD b 0)),fnd:=putN ns.fnd n (ns.boxes.getD b 0),log:=ns.log ++ [n] }
def doW (ns:NS) (w:Wt):NS:=w.nums.foldl (doN w.box) ns
def updD (f:Nat -> List Wt) (t:Nat) (v:List Wt):Nat -> List Wt:=fun a=>if a = t then v else f a
def gotS (gone:List (Nat × Nat)) (ns:NS):NS :=
 { ns with lines:=(zA gone ns (2 ^ ns.k)).2,nd:=ns.nd + 1,done:=updD ns.done ns.now (zA gone ns (2 ^ ns.k)).1 }
def ym (gone:List (Nat × Nat)) (ns:NS):NS:=(zA gone ns (2 ^ ns.k)).1.foldl doW (gotS gone ns)
def agoS (ns:NS) (many:Nat):List Wt:=if many < ns.now /\ ns.now - many <= ns.nd then ns.done (ns.now - many) else []
def fgM (s:Nat) (kp:Nat -> Nat -> Int) (sw:Nat × Nat):Nat -> Nat -> Int:=if sw.1 = s then updL kp sw.1 sw.2 (kp sw.1 sw.2 - 1) else kp
def fgW (s:Nat) (kp:Nat -> Nat -> Int) (w:Wt):Nat -> Nat -> Int:=w.met.foldl (fgM s) kp
def fgS (ns:NS) (kp:Nat -> Nat -> Int) (s:Nat):Nat -> Nat -> Int:=(agoS ns (ns.k - s + 1)).foldl (fgW s) kp
def zm (ns:NS):NS:={ ns with keep:=(List.range ns.k).foldl (fun kp i=>fgS ns kp (i + 1)) ns.keep }
def uQ (ns:NS) (w:Wt):List (Nat × Int):=w.nums.map fun n=>(n,(getN ns.fnd n).getD 0)
def xk (ns:NS):List (Nat × Int):=(agoS ns ns.k).flatMap (uQ ns)
def qE (l:List (Nat × Int)):List (Nat × Int):=l.foldl (fun f p=>putN f p.1 p.2) []
def XU (ns:NS):NS:={ ns with ans:=(qE (xk ns)).foldl (fun f p=>putN f p.1 p.2) ns.ans }
def zz (ns:NS):NS:={ ns with now:=ns.now + 1 }
def zX (gone:List (Nat × Nat)) (ns:NS):NS:=passA gone (ym gone (zm (zz ns))) ns.k
def beatS (gone:List (Nat × Nat)) (ns:NS):NS:=XU (zX gone ns)
def putS (ns:NS) (a:Ask):NS :=
 { ns with asks:=ns.asks ++ [a],lines:=updL ns.lines 0 a.hand.toNat (ns.lines 0 a.hand.toNat ++ [⟨a.box.toNat,a.deed,[ns.asks.length],[]⟩]) }
def newS (k:Nat) (b:List Int) (room kept:Nat):NS:=⟨k,room,kept,b,[],0,fun _ _=>[],fun _ _=>0,0,fun _=>[],[],[],[]⟩
def sumR (n:Nat) (F:Nat -> Nat):Nat:=((List.range n).map F).sum
theorem yu {n:Nat} {F:Nat -> Nat}:sumR (n + 1) F = sumR n F + F n:=by
 unfold sumR
 rw [List.range_succ,List.map_append,List.sum_append]
 show _ + (F n + 0) = _
 omega
theorem wb:∀ {n:Nat} {F G:Nat -> Nat},(∀ i < n,F i = G i) -> sumR n F = sumR n G
 | 0,_,_,_=>rfl
 | n + 1,F,G,h=>by rw [yu,yu,wb fun i hi=>h i (by omega),h n (by omega)]
theorem sQ:∀ {n:Nat} {F G:Nat -> Nat} {i:Nat},i < n -> (∀ j < n,j ≠ i -> G j = F j) -> sumR n G + F i = sumR n F + G i
 | 0,_,_,_,h,_=>absurd h (Nat.not_lt_zero _)
 | n + 1,F,G,i,h,e=>by
  rw [yu,yu]
  by_cases c:i = n
  ·subst c
   rw [wb (F:=G) (G:=F) fun j hj=>e j (by omega) (by omega)]
   omega
  ·have:=sQ (n:=n) (F:=F) (G:=G) (i:=i) (by omega) fun j hj=>e j (by omega)
   rw [e n (by omega) (fun z=>c z.symm)]
   omega
theorem jK:∀ {n:Nat} {F:Nat -> Nat} {i:Nat},i < n -> F i <= sumR n F
 | 0,_,_,h=>absurd h (Nat.not_lt_zero _)
 | n + 1,F,i,h=>by
  rw [yu]
  by_cases c:i = n
  ·subst c; omega
  ·have:=jK (n:=n) (F:=F) (i:=i) (by omega)
   omega
theorem xV:∀ {n:Nat} {F:Nat -> Nat},(∀ i < n,F i = 0) -> sumR n F = 0
 | 0,_,_=>rfl
 | n + 1,F,h=>by rw [yu,xV fun i hi=>h i (by omega),h n (by omega)]
def lsum (g:Wt -> Nat) (ws:List Wt):Nat:=(ws.map g).sum
theorem wc {g:Wt -> Nat}:lsum g [] = 0:=rfl
theorem zS {g:Wt -> Nat} {w:Wt} {ws:List Wt}:lsum g (w :: ws) = g w + lsum g ws:=rfl
theorem we {g:Wt -> Nat} {a b:List Wt}:lsum g (a ++ b) = lsum g a + lsum g b:=by unfold lsum; rw [List.map_append,List.sum_append]
theorem sR {g:Wt -> Nat}:∀ {ws:List Wt} {i:Nat} {v:Wt},i < ws.length -> lsum g (ws.set i v) + g (ws.getD i default) = lsum g ws + g v
 | [],_,_,h=>absurd h (Nat.not_lt_zero _)
 | w :: ws,0,v,_=>by
  show g v + lsum g ws + g w = g w + lsum g ws + g v
  omega
 | w :: ws,i + 1,v,h=>by
  have:=sR (g:=g) (ws:=ws) (i:=i) (v:=v) (by simpa using h)
  show g w + lsum g (ws.set i v) + g (ws.getD i default) = g w + lsum g ws + g v
  omega
theorem sS {g:Wt -> Nat}:∀ {ws:List Wt} {w:Wt},w ∈ ws -> g w <= lsum g ws
 | a :: ws,w,h=>by
  rw [zS]
  rcases List.mem_cons.mp h with rfl | h
  ·omega
  ·have:=sS (g:=g) h; omega
theorem vK {g:Wt -> Nat}:∀ {ws:List Wt},(∀ w ∈ ws,1 <= g w) -> ws.length <= lsum g ws
 | [],_=>Nat.zero_le _
 | a :: ws,h=>by
  rw [zS]
  have h1:=h a (List.mem_cons_self ..)
  have:=vK (g:=g) (ws:=ws) fun w hw=>h w (List.mem_cons_of_mem _ hw)
  show ws.length + 1 <= _
  omega
def wsN (k:Nat) (f:Nat -> Nat -> List Wt) (g:Wt -> Nat):Nat:=sumR (k + 1) fun l=>sumR (2 ^ k) fun j=>lsum g (f l j)
theorem xc {k l j:Nat} {f:Nat -> Nat -> List Wt} {v:List Wt} {g:Wt -> Nat} (hl:l <= k) (hj:j < 2 ^ k):wsN k (updL f l j v) g + lsum g (f l j) = wsN k f g + lsum g v:=by
 have h1:=sQ (n:=k + 1) (i:=l) (F:=fun l=>sumR (2 ^ k) fun j=>lsum g (f l j)) (G:=fun a=>sumR (2 ^ k) fun b=>lsum g (updL f l j v a b)) (by omega) fun a _ ha=>wb fun b _=>by rw [zE fun z=>ha z.1]
 have h2:=sQ (n:=2 ^ k) (i:=j) (F:=fun j=>lsum g (f l j)) (G:=fun b=>lsum g (updL f l j v l b)) hj fun b _ hb=>by
  show lsum g (updL f l j v l b) = lsum g (f l b)
  rw [zE fun z=>hb z.2]
 have e:lsum g (updL f l j v l j) = lsum g v:=by rw [zD]
 have h1':wsN k (updL f l j v) g + sumR (2 ^ k) (fun j=>lsum g (f l j)) = wsN k f g + sumR (2 ^ k) (fun b=>lsum g (updL f l j v l b)):=h1
 have h2':sumR (2 ^ k) (fun b=>lsum g (updL f l j v l b)) + lsum g (f l j) = sumR (2 ^ k) (fun j=>lsum g (f l j)) + lsum g v:=by rw [← e]; exact h2
 omega
theorem XV {k l j:Nat} {f:Nat -> Nat -> List Wt} {g:Wt -> Nat} (hl:l <= k) (hj:j < 2 ^ k):lsum g (f l j) <= wsN k f g :=
 Nat.le_trans (jK (n:=2 ^ k) (F:=fun j=>lsum g (f l j)) hj) (jK (n:=k + 1) (F:=fun l=>sumR (2 ^ k) fun j=>lsum g (f l j)) (by omega))
theorem UF {k l j l' j':Nat} {f:Nat -> Nat -> List Wt} {g:Wt -> Nat} (hl:l <= k) (hj:j < 2 ^ k) (hl':l' <= k) (hj':j' < 2 ^ k) (ne:¬ (l' = l /\ j' = j)):lsum g (f l j) + lsum g (f l' j') <= wsN k f g:=by
 have h1:=xc (f:=f) (v:=[]) (g:=g) hl hj
 have h2:=XV (f:=updL f l j []) (g:=g) hl' hj'
 rw [zE ne] at h2
 rw [wc] at h1
 omega
inductive Ad where
 | p | lb | la | dl | dk | dd | lg | df | da
 | ln (l j:Nat)
 | dn (t:Nat)
deriving DecidableEq
def okA (ns:NS):Ad -> Prop
 | .ln l j=>l <= ns.k /\ j < 2 ^ ns.k
 | .dn t=>1 <= t /\ t <= ns.nd
 | _=>True
def SwAt (H:Hp) (x:V) (q:Nat × Nat):Prop:=∃ r,x = .ref r /\ H r = some (.tup [.int q.1,.int q.2])
def WtAt (K:FG7) (H:Hp) (x:V) (w:Wt):Prop:=∃ r rd rn rm ms,x = .ref r /\ SqT K H r [.int w.box,.ref rd,.ref rn,.ref rm] /\ SqT K H rd w.deed.vs /\ SqT K H rn (yt w.nums) /\ SqT K H rm ms /\ AllR (SwAt H) ms w.met
theorem SwAt.grow {m:List Addr} {H H':Hp} {x:V} {q:Nat × Nat} (h:SwAt H x q) (g:Grow m H H'):SwAt H' x q:=by
 obtain ⟨r,e,h⟩:=h
 exact ⟨r,e,g.tup _ _ h⟩
theorem WtAt.grow {K:FG7} {m:List Addr} {H H':Hp} {x:V} {w:Wt} (h:WtAt K H x w) (g:Grow m H H'):WtAt K H' x w:=by
 obtain ⟨r,rd,rn,rm,ms,e,h1,h2,h3,h4,h5⟩:=h
 exact ⟨r,rd,rn,rm,ms,e,g.sqT h1,g.sqT h2,g.sqT h3,g.sqT h4,h5.imp fun _ _ z=>z.grow g⟩
def zB (A:Ad -> Addr) (ns:NS):List (Str × V) :=
 [("depth",.int ns.k),("room",.int ns.room),("most_kept",.int ns.kept),("boxes",.ref (A .lb)),("asks",.ref (A .la)),("now",.int ns.now),("lines",.ref (A .dl)),("keeping",.ref (A .dk)),("done_in",.ref (A .dd)),("logged",.ref (A .lg)),("found",.ref (A .df)),("answers",.ref (A .da))]
def xt (A:Ad -> Addr) (k:Nat):List (List Key × V):=(List.range (k + 1)).flatMap fun (l:Nat)=>(List.range (2 ^ k)).map fun (j:Nat)=>(kI [(l:Int),(j:Int)],.ref (A (.ln l j)))
def zW (k:Nat) (kp:Nat -> Nat -> Int):List (List Key × V):=(List.range k).flatMap fun (s:Nat)=>(List.range (2 ^ (k - 1))).map fun (n:Nat)=>(kI [((s + 1:Nat):Int),(n:Int)],.int (kp (s + 1) n))
def xf (A:Ad -> Addr) (nd:Nat):List (Key × V):=(List.range nd).map fun t=>(.inl ((t + 1:Nat):Int),.ref (A (.dn (t + 1))))
def nKv (f:List (Nat × Int)):List (Key × V):=f.map fun p=>(.inl (p.1:Int),.int p.2)
def ObjA (K:FG7) (C:Addr) (H:Hp) (A:Ad -> Addr) (ns:NS):Ad -> HO -> Prop
 | .p,o=>∃ dx,o = .ins C dx (zB A ns)
 | .lb,o=>o = .lst (ns.boxes.map V.int)
 | .la,o=>∃ xs,o = .lst xs /\ AllR (wN K H) xs ns.asks
 | .dl,o=>o = .dT (xt A ns.k)
 | .dk,o=>o = .dT (zW ns.k ns.keep)
 | .dd,o=>o = .dK (xf A ns.nd)
 | .lg,o=>o = .lst (yt ns.log)
 | .df,o=>o = .dK (nKv ns.fnd)
 | .da,o=>o = .dK (nKv ns.ans)
 | .ln l j,o=>∃ ys,o = .lst ys /\ AllR (WtAt K H) ys (ns.lines l j)
 | .dn t,o=>∃ ys,o = .lst ys /\ AllR (WtAt K H) ys (ns.done t)
structure NetAt (K:FG7) (C:Addr) (H:Hp) (A:Ad -> Addr) (ns:NS):Prop where
 at_:∀ a,okA ns a -> ∃ o,H (A a) = some o /\ ObjA K C H A ns a o
 inj:∀ a b,okA ns a -> okA ns b -> A a = A b -> a = b
theorem ObjA.grow {K:FG7} {C:Addr} {m:List Addr} {H H':Hp} {A:Ad -> Addr} {ns:NS} (g:Grow m H H'):∀ {a:Ad} {o:HO},ObjA K C H A ns a o -> ObjA K C H' A ns a o
 | .p,_,h=>h
 | .lb,_,h=>h
 | .la,_,⟨xs,e,h⟩=>⟨xs,e,h.imp fun _ _ z=>g.ask z⟩
 | .dl,_,h=>h
 | .dk,_,h=>h
 | .dd,_,h=>h
 | .lg,_,h=>h
 | .df,_,h=>h
 | .da,_,h=>h
 | .ln _ _,_,⟨xs,e,h⟩=>⟨xs,e,h.imp fun _ _ z=>z.grow g⟩
 | .dn _,_,⟨xs,e,h⟩=>⟨xs,e,h.imp fun _ _ z=>z.grow g⟩
section
variable {K:FG7} {C:Addr} {m:List Addr} {H H':Hp} {A:Ad -> Addr} {ns ns':NS}
theorem NetAt.grow (h:NetAt K C H A ns) (g:Grow m H H') (hm:∀ a,okA ns a -> A a ∉ m):NetAt K C H' A ns :=
 ⟨fun a ha=>by
  obtain ⟨o,h1,h2⟩:=h.at_ a ha
  exact ⟨o,g.keep _ _ (hm a ha) h1,h2.grow g⟩,h.inj⟩
theorem NetAt.grow0 (h:NetAt K C H A ns) (g:Grow [] H H'):NetAt K C H' A ns:=h.grow g fun _ _=>by simp
theorem NetAt.put {c:Ad} {o:HO} (h:NetAt K C H A ns) (hc:okA ns c) (g:Grow [A c] H (upd H (A c) o)) (ho:ObjA K C (upd H (A c) o) A ns' c o) (hk:∀ a,okA ns' a -> okA ns a)
  (hs:∀ a,a ≠ c -> okA ns a -> ∀ o H,ObjA K C H A ns a o -> ObjA K C H A ns' a o):NetAt K C (upd H (A c) o) A ns' :=
 ⟨fun a ha=>by
  by_cases e:a = c
  ·subst e; exact ⟨o,ze,ho⟩
  ·obtain ⟨o',h1,h2⟩:=h.at_ a (hk a ha)
   exact ⟨o',by rw [zt fun z=>e (h.inj _ _ (hk a ha) hc z)]; exact h1,hs a e (hk a ha) _ _ (h2.grow g)⟩,fun a b ha hb=>h.inj a b (hk a ha) (hk b hb)⟩
theorem NetAt.ob (h:NetAt K C H A ns):∃ dx,H (A .p) = some (.ins C dx (zB A ns)):=by
 obtain ⟨o,h1,dx,rfl⟩:=h.at_ .p trivial
 exact ⟨dx,h1⟩
theorem NetAt.lb (h:NetAt K C H A ns):H (A .lb) = some (.lst (ns.boxes.map V.int)):=by
 obtain ⟨o,h1,h2⟩:=h.at_ .lb trivial
 rw [h1]; exact congrArg some h2
theorem NetAt.la (h:NetAt K C H A ns):∃ xs,H (A .la) = some (.lst xs) /\ AllR (wN K H) xs ns.asks:=by
 obtain ⟨o,h1,xs,rfl,h2⟩:=h.at_ .la trivial
 exact ⟨xs,h1,h2⟩
theorem NetAt.dl (h:NetAt K C H A ns):H (A .dl) = some (.dT (xt A ns.k)):=by
 obtain ⟨o,h1,h2⟩:=h.at_ .dl trivial
 rw [h1]; exact congrArg some h2
theorem NetAt.dk (h:NetAt K C H A ns):H (A .dk) = some (.dT (zW ns.k ns.keep)):=by
 obtain ⟨o,h1,h2⟩:=h.at_ .dk trivial
 rw [h1]; exact congrArg some h2
theorem NetAt.dd (h:NetAt K C H A ns):H (A .dd) = some (.dK (xf A ns.nd)):=by
 obtain ⟨o,h1,h2⟩:=h.at_ .dd trivial
 rw [h1]; exact congrArg some h2
theorem NetAt.lg (h:NetAt K C H A ns):H (A .lg) = some (.lst (yt ns.log)):=by
 obtain ⟨o,h1,h2⟩:=h.at_ .lg trivial
 rw [h1]; exact congrArg some h2
theorem NetAt.df (h:NetAt K C H A ns):H (A .df) = some (.dK (nKv ns.fnd)):=by
 obtain ⟨o,h1,h2⟩:=h.at_ .df trivial
 rw [h1]; exact congrArg some h2
theorem NetAt.da (h:NetAt K C H A ns):H (A .da) = some (.dK (nKv ns.ans)):=by
 obtain ⟨o,h1,h2⟩:=h.at_ .da trivial
 rw [h1]; exact congrArg some h2
theorem NetAt.ln (h:NetAt K C H A ns) {l j:Nat} (hl:l <= ns.k) (hj:j < 2 ^ ns.k):∃ ys,H (A (.ln l j)) = some (.lst ys) /\ AllR (WtAt K H) ys (ns.lines l j):=by
 obtain ⟨o,h1,xs,rfl,h2⟩:=h.at_ (.ln l j) ⟨hl,hj⟩
 exact ⟨xs,h1,h2⟩
theorem NetAt.dn (h:NetAt K C H A ns) {t:Nat} (h1:1 <= t) (h2:t <= ns.nd):∃ ys,H (A (.dn t)) = some (.lst ys) /\ AllR (WtAt K H) ys (ns.done t):=by
 obtain ⟨o,h1,xs,rfl,h2⟩:=h.at_ (.dn t) ⟨h1,h2⟩
 exact ⟨xs,h1,h2⟩
theorem Grow.setK5 {m:List Addr} {H:Hp} {p:Addr} {xs:List (Key × V)} (h:H p = some (.dK xs)) (hm:p ∈ m) (ys:List (Key × V)):Grow m H (upd H p (.dK ys)) :=
 ⟨fun b u hb q=>by rw [zt (show b ≠ p from fun z=>hb (by rw [z]; exact hm))]; exact q,fun b zs q=>by rw [zt (fun z=>by subst z; rw [h] at q; cases q)]; exact q,fun b u v q=>by rw [zt (fun z=>by subst z; rw [h] at q; cases q)]; exact q⟩
theorem NetAt.setB (h:NetAt K C H A ns) (bs:List Int):NetAt K C (upd H (A .lb) (.lst (bs.map V.int))) A { ns with boxes:=bs } /\ Grow [A .lb] H (upd H (A .lb) (.lst (bs.map V.int))) :=
 have g:=Grow.set (m:=[A .lb]) h.lb (by simp) (bs.map V.int)
 ⟨h.put (c:=.lb) trivial g rfl (fun a h=>by cases a <;> exact h) fun a n _ o H z=>by cases a <;> first | exact z | exact absurd rfl n,g⟩
theorem NetAt.setG (h:NetAt K C H A ns) (l:List Nat):NetAt K C (upd H (A .lg) (.lst (yt l))) A { ns with log:=l } /\ Grow [A .lg] H (upd H (A .lg) (.lst (yt l))) :=
 have g:=Grow.set (m:=[A .lg]) h.lg (by simp) (yt l)
 ⟨h.put (c:=.lg) trivial g rfl (fun a h=>by cases a <;> exact h) fun a n _ o H z=>by cases a <;> first | exact z | exact absurd rfl n,g⟩
theorem NetAt.setF (h:NetAt K C H A ns) (f:List (Nat × Int)):NetAt K C (upd H (A .df) (.dK (nKv f))) A { ns with fnd:=f } /\ Grow [A .df] H (upd H (A .df) (.dK (nKv f))) :=
 have g:=Grow.setK5 (m:=[A .df]) h.df (by simp) (nKv f)
 ⟨h.put (c:=.df) trivial g rfl (fun a h=>by cases a <;> exact h) fun a n _ o H z=>by cases a <;> first | exact z | exact absurd rfl n,g⟩
theorem NetAt.setS (h:NetAt K C H A ns) (f:List (Nat × Int)):NetAt K C (upd H (A .da) (.dK (nKv f))) A { ns with ans:=f } /\ Grow [A .da] H (upd H (A .da) (.dK (nKv f))) :=
 have g:=Grow.setK5 (m:=[A .da]) h.da (by simp) (nKv f)
 ⟨h.put (c:=.da) trivial g rfl (fun a h=>by cases a <;> exact h) fun a n _ o H z=>by cases a <;> first | exact z | exact absurd rfl n,g⟩
theorem NetAt.setK (h:NetAt K C H A ns) (kp:Nat -> Nat -> Int):NetAt K C (upd H (A .dk) (.dT (zW ns.k kp))) A { ns with keep:=kp } /\ Grow [A .dk] H (upd H (A .dk) (.dT (zW ns.k kp))) :=
 have g:=Grow.setDT (m:=[A .dk]) h.dk (by simp) (zW ns.k kp)
 ⟨h.put (c:=.dk) trivial g rfl (fun a h=>by cases a <;> exact h) fun a n _ o H z=>by cases a <;> first | exact z | exact absurd rfl n,g⟩
theorem NetAt.setA (h:NetAt K C H A ns) {xs:List V} {as:List Ask} (hx:AllR (wN K H) xs as):NetAt K C (upd H (A .la) (.lst xs)) A { ns with asks:=as } /\ Grow [A .la] H (upd H (A .la) (.lst xs)) :=
 have ⟨_,e,_⟩:=h.la
 have g:=Grow.set (m:=[A .la]) e (by simp) xs
 ⟨h.put (c:=.la) trivial g ⟨xs,rfl,hx.imp fun _ _ z=>g.ask z⟩ (fun a h=>by cases a <;> exact h) fun a n _ o H z=>by cases a <;> first | exact z | exact absurd rfl n,g⟩
theorem NetAt.setLn (h:NetAt K C H A ns) {l j:Nat} (hl:l <= ns.k) (hj:j < 2 ^ ns.k) {xs:List V} {ws:List Wt} (hx:AllR (WtAt K H) xs ws) :
  NetAt K C (upd H (A (.ln l j)) (.lst xs)) A { ns with lines:=updL ns.lines l j ws } /\ Grow [A (.ln l j)] H (upd H (A (.ln l j)) (.lst xs)) :=
 have ⟨_,e,_⟩:=h.ln hl hj
 have g:=Grow.set (m:=[A (.ln l j)]) e (by simp) xs
 ⟨h.put (c:=.ln l j) ⟨hl,hj⟩ g ⟨xs,rfl,by
  show AllR _ xs (updL ns.lines l j ws l j)
  rw [zD]; exact hx.imp fun _ _ z=>z.grow g⟩ (fun a h=>by cases a <;> exact h) fun a n _ o H z=>by
   cases a with
   | ln l' j' =>
    obtain ⟨ys,e,z⟩:=z
    refine ⟨ys,e,?_⟩
    show AllR _ ys (updL ns.lines l j ws l' j')
    rw [zE fun w=>n (by rw [w.1,w.2])]; exact z
   | _=>exact z,g⟩
theorem Sa {n:Nat}:putF "now" (.int (n:Int)) (zB A ns) = zB A { ns with now:=n }:=by
 unfold zB
 simp only [putF]
 rw [if_neg (by decide +kernel),if_neg (by decide +kernel),if_neg (by decide +kernel),if_neg (by decide +kernel),if_neg (by decide +kernel),if_pos trivial]
theorem NetAt.setNow (h:NetAt K C H A ns) {dx:Addr} (hp:H (A .p) = some (.ins C dx (zB A ns))) (n:Nat):NetAt K C (upd H (A .p) (.ins C dx (putF "now" (.int (n:Int)) (zB A ns)))) A { ns with now:=n } /\ Grow [A .p] H (upd H (A .p) (.ins C dx (putF "now" (.int (n:Int)) (zB A ns)))) :=
 have g:=Grow.setI (m:=[A .p]) hp (by simp) (.ins C dx (putF "now" (.int (n:Int)) (zB A ns)))
 ⟨h.put (c:=.p) trivial g ⟨dx,by rw [Sa]⟩ (fun a h=>by cases a <;> exact h) fun a n _ o H z=>by cases a <;> first | exact z | exact absurd rfl n,g⟩
end
section
variable {κ:Type} [DecidableEq κ]
theorem wR {k:κ} {v:V}:∀ {kvs:List (κ × V)},(k,v) ∈ kvs -> (∀ v',(k,v') ∈ kvs -> v' = v) -> valV kvs k = some v
 | [],h,_=>by cases h
 | p :: r,h,u=>by
  by_cases e:p.1 = k
  ·rw [yc e,u p.2 (by rw [← e]; exact List.mem_cons_self ..)]
  ·rw [z7 e]
   rcases List.mem_cons.mp h with z | z
   ·exact absurd (by rw [← z]) e
   ·exact wR z fun v' h'=>u v' (List.mem_cons_of_mem _ h')
theorem uq {k:κ}:∀ {kvs:List (κ × V)},(∀ v,(k,v) ∉ kvs) -> valV kvs k = none
 | [],_=>rfl
 | p :: r,u=>by
  by_cases e:p.1 = k
  ·exact absurd (by rw [← e]; exact List.mem_cons_self ..) (u p.2)
  ·rw [z7 e]; exact uq fun v h=>u v (List.mem_cons_of_mem _ h)
theorem XW {kvs:List (κ × V)} {k:κ} {v w:V} (h:valV kvs k = some w):putK kvs k v = kvs.map fun kv=>if kv.1 = k then (kv.1,v) else kv:=by
 unfold putK
 rw [xg,h]; exact if_pos rfl
end
theorem vf {a b c d:Int}:kI [a,b] = kI [c,d] ↔ a = c /\ b = d:=by
 constructor
 ·intro h
  have h:([Sum.inl a,Sum.inl b]:List Key) = [Sum.inl c,Sum.inl d]:=h
  injection h with h1 h
  injection h with h2 _
  exact ⟨Sum.inl.inj h1,Sum.inl.inj h2⟩
 ·rintro ⟨rfl,rfl⟩; rfl
theorem tO {A:Ad -> Addr} {k:Nat} {q:List Key} {v:V}:(q,v) ∈ xt A k ↔ ∃ l j:Nat,l <= k /\ j < 2 ^ k /\ q = kI [(l:Int),(j:Int)] /\ v = .ref (A (.ln l j)):=by
 unfold xt
 rw [List.mem_flatMap]
 constructor
 ·rintro ⟨l,hl,h⟩
  obtain ⟨j,hj,e⟩:=List.mem_map.mp h
  cases e
  exact ⟨l,j,by have:=List.mem_range.mp hl; omega,List.mem_range.mp hj,rfl,rfl⟩
 ·rintro ⟨l,j,hl,hj,rfl,rfl⟩
  exact ⟨l,List.mem_range.mpr (by omega),List.mem_map.mpr ⟨j,List.mem_range.mpr hj,rfl⟩⟩
theorem wS {A:Ad -> Addr} {k l j:Nat} (hl:l <= k) (hj:j < 2 ^ k):valV (xt A k) (kI [(l:Int),(j:Int)]) = some (.ref (A (.ln l j))):=by
 refine wR (tO.mpr ⟨l,j,hl,hj,rfl,rfl⟩) fun v h=>?_
 obtain ⟨l',j',_,_,e,rfl⟩:=tO.mp h
 obtain ⟨e1,e2⟩:=vf.mp e
 rw [show l = l' by omega,show j = j' by omega]
theorem tP {k:Nat} {kp:Nat -> Nat -> Int} {q:List Key} {v:V}:(q,v) ∈ zW k kp ↔ ∃ s n:Nat,1 <= s /\ s <= k /\ n < 2 ^ (k - 1) /\ q = kI [(s:Int),(n:Int)] /\ v = .int (kp s n):=by
 unfold zW
 rw [List.mem_flatMap]
 constructor
 ·rintro ⟨l,hl,h⟩
  obtain ⟨j,hj,e⟩:=List.mem_map.mp h
  cases e
  exact ⟨l + 1,j,by omega,by have:=List.mem_range.mp hl; omega,List.mem_range.mp hj,rfl,rfl⟩
 ·rintro ⟨s,n,h1,h2,h3,rfl,rfl⟩
  refine ⟨s - 1,List.mem_range.mpr (by omega),List.mem_map.mpr ⟨n,List.mem_range.mpr h3,?_⟩⟩
  show (kI [((s - 1 + 1:Nat):Int),(n:Int)],V.int (kp (s - 1 + 1) n)) = _
  rw [show s - 1 + 1 = s by omega]
theorem wT {k s n:Nat} {kp:Nat -> Nat -> Int} (h1:1 <= s) (h2:s <= k) (h3:n < 2 ^ (k - 1)):valV (zW k kp) (kI [(s:Int),(n:Int)]) = some (.int (kp s n)):=by
 refine wR (tP.mpr ⟨s,n,h1,h2,h3,rfl,rfl⟩) fun v h=>?_
 obtain ⟨s',n',_,_,_,e,rfl⟩:=tP.mp h
 obtain ⟨e1,e2⟩:=vf.mp e
 rw [show s = s' by omega,show n = n' by omega]
theorem ZC {k s n:Nat} {kp:Nat -> Nat -> Int} {v:Int} (h1:1 <= s) (h2:s <= k) (h3:n < 2 ^ (k - 1)):putK (zW k kp) (kI [(s:Int),(n:Int)]) (.int v) = zW k (updL kp s n v):=by
 rw [XW (wT h1 h2 h3)]
 unfold zW
 rw [List.map_flatMap]
 refine congrArg (fun f=>(List.range k).flatMap f) (funext fun a=>?_)
 rw [List.map_map]
 refine List.map_congr_left fun b _=>?_
 show (if kI [((a + 1:Nat):Int),(b:Int)] = kI [(s:Int),(n:Int)] then (kI [((a + 1:Nat):Int),(b:Int)],V.int v) else (kI [((a + 1:Nat):Int),(b:Int)],V.int (kp (a + 1) b))) = (kI [((a + 1:Nat):Int),(b:Int)],V.int (updL kp s n v (a + 1) b))
 by_cases c:a + 1 = s /\ b = n
 ·rw [if_pos (vf.mpr ⟨by omega,by omega⟩),c.1,c.2,zD]
 ·rw [if_neg fun z=>c ⟨by have:=(vf.mp z).1; omega,by have:=(vf.mp z).2; omega⟩,zE c]
theorem ZD {k:Nat} {kp:Nat -> Nat -> Int} (k4:k <= 4):(zW k kp).length < 1000:=by
 have e:(zW k kp).length = (zW k fun _ _=>0).length:=by
  unfold zW
  rw [List.length_flatMap,List.length_flatMap]
  congr 1
  refine List.map_congr_left fun a _=>?_
  rw [List.length_map,List.length_map]
 rw [e]
 rcases (by omega:k = 0 \/ k = 1 \/ k = 2 \/ k = 3 \/ k = 4) with rfl | rfl | rfl | rfl | rfl <;> decide +kernel
theorem vg {A:Ad -> Addr} {nd:Nat} {q:Key} {v:V}:(q,v) ∈ xf A nd ↔ ∃ t:Nat,1 <= t /\ t <= nd /\ q = .inl (t:Int) /\ v = .ref (A (.dn t)):=by
 unfold xf
 rw [List.mem_map]
 constructor
 ·rintro ⟨t,ht,e⟩
  cases e
  exact ⟨t + 1,by omega,by have:=List.mem_range.mp ht; omega,rfl,rfl⟩
 ·rintro ⟨t,h1,h2,rfl,rfl⟩
  refine ⟨t - 1,List.mem_range.mpr (by omega),?_⟩
  show (Sum.inl ((t - 1 + 1:Nat):Int),V.ref (A (.dn (t - 1 + 1)))) = _
  rw [show t - 1 + 1 = t by omega]
theorem Ve {A:Ad -> Addr} {nd t:Nat} (h1:1 <= t) (h2:t <= nd):valV (xf A nd) (.inl (t:Int)) = some (.ref (A (.dn t))):=by
 refine wR (vg.mpr ⟨t,h1,h2,rfl,rfl⟩) fun v h=>?_
 obtain ⟨t',_,_,e,rfl⟩:=vg.mp h
 rw [show t = t' by have:=Sum.inl.inj e; omega]
theorem qF {A:Ad -> Addr} {nd:Nat} {t:Int} (h:¬ (1 <= t /\ t <= nd)):valV (xf A nd) (.inl t) = none:=by
 refine uq fun v hv=>?_
 obtain ⟨t',h1,h2,e,_⟩:=vg.mp hv
 have:=Sum.inl.inj e
 exact h ⟨by omega,by omega⟩
theorem Vf {A A':Ad -> Addr} {nd:Nat} {q:Addr} (hA:∀ t,1 <= t -> t <= nd -> A' (.dn t) = A (.dn t)) (hq:A' (.dn (nd + 1)) = q):putK (xf A nd) (.inl ((nd + 1:Nat):Int)) (.ref q) = xf A' (nd + 1):=by
 rw [sI _ (qF (by omega))]
 unfold xf
 rw [List.range_succ,List.map_append]
 congr 1
 ·refine List.map_congr_left fun t ht=>?_
  rw [hA (t + 1) (by omega) (by have:=List.mem_range.mp ht; omega)]
 ·show [(Sum.inl ((nd + 1:Nat):Int),V.ref q)] = [(Sum.inl ((nd + 1:Nat):Int),V.ref (A' (.dn (nd + 1))))]
  rw [hq]
theorem ur {n:Nat}:∀ {f:List (Nat × Int)},valV (nKv f) (.inl (n:Int)) = (getN f n).map V.int
 | []=>rfl
 | p :: r=>by
  show valV ((Sum.inl (p.1:Int),V.int p.2) :: nKv r) _ = _
  unfold getN
  rw [List.find?_cons]
  by_cases e:p.1 = n
  ·rw [yc (by show Sum.inl (p.1:Int) = _; rw [e]),decide_eq_true e]; rfl
  ·rw [z7 (fun z=>e (by have:=Sum.inl.inj z; omega)),decide_eq_false e,ur]; rfl
theorem jL {f:List (Nat × Int)} {n:Nat} {v:Int}:putK (nKv f) (.inl (n:Int)) (.int v) = nKv (putN f n v):=by
 unfold putK putN
 have e:((nKv f).any fun kv=>decide (kv.1 = Sum.inl (n:Int))) = (f.any fun p=>decide (p.1 = n)):=by
  unfold nKv
  rw [List.any_map]
  refine congrArg (fun g=>f.any g) (funext fun p=>?_)
  show decide (Sum.inl (p.1:Int) = (Sum.inl (n:Int):Key)) = decide (p.1 = n)
  by_cases c:p.1 = n
  ·rw [decide_eq_true c,decide_eq_true (by rw [c])]
  ·rw [decide_eq_false c,decide_eq_false fun z=>c (by have:=Sum.inl.inj z; omega)]
 rw [e]
 split
 ·unfold nKv
  rw [List.map_map,List.map_map]
  refine List.map_congr_left fun p _=>?_
  show (if Sum.inl (p.1:Int) = (Sum.inl (n:Int):Key) then (Sum.inl (p.1:Int),V.int v) else (Sum.inl (p.1:Int),V.int p.2)) = (Sum.inl ((if p.1 = n then (n,v) else p).1:Int),V.int (if p.1 = n then (n,v) else p).2)
  by_cases c:p.1 = n
  ·rw [if_pos (by rw [c]),if_pos c,c]
  ·rw [if_neg fun z=>c (by have:=Sum.inl.inj z; omega),if_neg c]
 ·unfold nKv; rw [List.map_append]; rfl
theorem ZE {f:List (Nat × Int)} {n:Nat} {v:Int}:(putN f n v).length <= f.length + 1:=by
 unfold putN
 split
 ·rw [List.length_map]; omega
 ·rw [List.length_append]; exact Nat.le_refl _
theorem Vg {n m:Nat} {v:Int} {f:List (Nat × Int)}:getN (putN f n v) m = if m = n then some v else getN f m:=by
 have h:=xh (nKv f) (.inl (n:Int)) (.inl (m:Int)) (.int v)
 rw [jL,ur,ur] at h
 by_cases c:m = n
 ·rw [if_pos c]
  rw [if_pos (by rw [c])] at h
  cases e:getN (putN f n v) m with
  | none=>rw [e] at h; cases h
  | some x=>rw [e] at h; cases h; rfl
 ·rw [if_neg c]
  rw [if_neg fun z=>c (by have:=Sum.inl.inj z; omega)] at h
  cases e:getN (putN f n v) m with
  | none=>rw [e] at h; cases e2:getN f m with
   | none=>rfl
   | some y=>rw [e2] at h; cases h
  | some x=>rw [e] at h; cases e2:getN f m with
   | none=>rw [e2] at h; cases h
   | some y=>rw [e2] at h; cases h; rfl
section
variable {A:Ad -> Addr} {ns:NS}
theorem lkT5 {f:Str} {v:V} {r:List (Str × V)}:List.lookup f ((f,v) :: r) = some v:=by rw [List.lookup_cons,beq_self_eq_true]
theorem lkF5 {f g:Str} {v:V} {r:List (Str × V)} (h:(f == g) = false):List.lookup f ((g,v) :: r) = List.lookup f r:=by rw [List.lookup_cons,h]
theorem zT:(zB A ns).lookup ("depth":Str) = some (.int ns.k):=by unfold zB; repeat first | exact lkT5 | exact rfl | rw [lkF5 (by decide +kernel)]
theorem UG:(zB A ns).lookup ("room":Str) = some (.int ns.room):=by unfold zB; repeat first | exact lkT5 | exact rfl | rw [lkF5 (by decide +kernel)]
theorem qG:(zB A ns).lookup ("most_kept":Str) = some (.int ns.kept):=by unfold zB; repeat first | exact lkT5 | exact rfl | rw [lkF5 (by decide +kernel)]
theorem vL:(zB A ns).lookup ("boxes":Str) = some (.ref (A .lb)):=by unfold zB; repeat first | exact lkT5 | exact rfl | rw [lkF5 (by decide +kernel)]
theorem ut:(zB A ns).lookup ("asks":Str) = some (.ref (A .la)):=by unfold zB; repeat first | exact lkT5 | exact rfl | rw [lkF5 (by decide +kernel)]
theorem ZF:(zB A ns).lookup ("now":Str) = some (.int ns.now):=by unfold zB; repeat first | exact lkT5 | exact rfl | rw [lkF5 (by decide +kernel)]
theorem wU:(zB A ns).lookup ("lines":Str) = some (.ref (A .dl)):=by unfold zB; repeat first | exact lkT5 | exact rfl | rw [lkF5 (by decide +kernel)]
theorem wf:(zB A ns).lookup ("keeping":Str) = some (.ref (A .dk)):=by unfold zB; repeat first | exact lkT5 | exact rfl | rw [lkF5 (by decide +kernel)]
theorem tQ:(zB A ns).lookup ("done_in":Str) = some (.ref (A .dd)):=by unfold zB; repeat first | exact lkT5 | exact rfl | rw [lkF5 (by decide +kernel)]
theorem qH:(zB A ns).lookup ("logged":Str) = some (.ref (A .lg)):=by unfold zB; repeat first | exact lkT5 | exact rfl | rw [lkF5 (by decide +kernel)]
theorem ZG:(zB A ns).lookup ("found":Str) = some (.ref (A .df)):=by unfold zB; repeat first | exact lkT5 | exact rfl | rw [lkF5 (by decide +kernel)]
theorem vh:(zB A ns).lookup ("answers":Str) = some (.ref (A .da)):=by unfold zB; repeat first | exact lkT5 | exact rfl | rw [lkF5 (by decide +kernel)]
theorem VO:(zB A ns).lookup ("put":Str) = none:=by unfold zB; repeat first | exact lkT5 | exact rfl | rw [lkF5 (by decide +kernel)]
theorem sT:(zB A ns).lookup ("beat":Str) = none:=by unfold zB; repeat first | exact lkT5 | exact rfl | rw [lkF5 (by decide +kernel)]
theorem uu:(zB A ns).lookup ("done_ago":Str) = none:=by unfold zB; repeat first | exact lkT5 | exact rfl | rw [lkF5 (by decide +kernel)]
theorem XX:(zB A ns).lookup ("forget":Str) = none:=by unfold zB; repeat first | exact lkT5 | exact rfl | rw [lkF5 (by decide +kernel)]
theorem UH:(zB A ns).lookup ("take":Str) = none:=by unfold zB; repeat first | exact lkT5 | exact rfl | rw [lkF5 (by decide +kernel)]
theorem Ys:(zB A ns).lookup ("do_asks":Str) = none:=by unfold zB; repeat first | exact lkT5 | exact rfl | rw [lkF5 (by decide +kernel)]
theorem Yt:(zB A ns).lookup ("pass_on":Str) = none:=by unfold zB; repeat first | exact lkT5 | exact rfl | rw [lkF5 (by decide +kernel)]
theorem tR:(zB A ns).lookup ("hand_on":Str) = none:=by unfold zB; repeat first | exact lkT5 | exact rfl | rw [lkF5 (by decide +kernel)]
theorem UI:(zB A ns).lookup ("tell":Str) = none:=by unfold zB; repeat first | exact lkT5 | exact rfl | rw [lkF5 (by decide +kernel)]
theorem VP:(zB A ns).lookup ("log":Str) = none:=by unfold zB; repeat first | exact lkT5 | exact rfl | rw [lkF5 (by decide +kernel)]
theorem UJ:(zB A ns).lookup ("todo":Str) = none:=by unfold zB; repeat first | exact lkT5 | exact rfl | rw [lkF5 (by decide +kernel)]
theorem XY:(zB A ns).lookup ("answer":Str) = none:=by unfold zB; repeat first | exact lkT5 | exact rfl | rw [lkF5 (by decide +kernel)]
theorem Yu:(zB A ns).lookup ("waiting":Str) = none:=by unfold zB; repeat first | exact lkT5 | exact rfl | rw [lkF5 (by decide +kernel)]
theorem jM:(zB A ns).lookup ("joinings":Str) = none:=by unfold zB; repeat first | exact lkT5 | exact rfl | rw [lkF5 (by decide +kernel)]
end
structure NTxt (K:FG7) (mg:Str -> Option Value) (C:Addr):Prop where
 cl:Cls K C
 n_depth:yy K C "depth"
 n_room:yy K C "room"
 n_most_kept:yy K C "most_kept"
 n_boxes:yy K C "boxes"
 n_asks:yy K C "asks"
 n_now:yy K C "now"
 n_lines:yy K C "lines"
 n_keeping:yy K C "keeping"
 n_done_in:yy K C "done_in"
 n_logged:yy K C "logged"
 n_found:yy K C "found"
 n_answers:yy K C "answers"
 mgC:mg "Net" = some (.ref C)
structure WtOk (k b a:Nat) (w:Wt):Prop where
 bx:w.box < b
 ne:w.nums ≠ []
 nm:∀ n ∈ w.nums,n < a
 mt:∀ q ∈ w.met,1 <= q.1 /\ q.1 <= k /\ q.2 < 2 ^ (k - 1)
 ln:w.met.length + 1 = w.nums.length
def nlen (w:Wt):Nat:=w.nums.length
structure NR (ns:NS):Prop where
 k4:ns.k <= 4
 b16:ns.boxes.length <= 16
 a40:ns.asks.length <= 40
 lw:∀ l j,l <= ns.k -> j < 2 ^ ns.k -> ∀ w ∈ ns.lines l j,WtOk ns.k ns.boxes.length ns.asks.length w
 dw:∀ t,1 <= t -> t <= ns.nd -> ∀ w ∈ ns.done t,WtOk ns.k ns.boxes.length ns.asks.length w
 tot:wsN ns.k ns.lines nlen + ns.log.length = ns.asks.length
 nw:ns.now <= 10000
 nd:ns.nd <= ns.now
 fl:ns.fnd.length <= ns.log.length
def sU (K:FG7) (H:Hp) (x:V) (q:Nat × Nat):Prop:=∃ r,x = .ref r /\ SqT K H r [.int q.1,.int q.2]
def xM (K:FG7) (H:Hp) (y:V) (gone:List (Nat × Nat)):Prop:=∃ r ys,y = .ref r /\ SqT K H r ys /\ AllR (sU K H) ys gone /\ ys.length <= 1000
theorem xM.grow {K:FG7} {m:List Addr} {H H':Hp} {y:V} {gone:List (Nat × Nat)} (h:xM K H y gone) (g:Grow m H H'):xM K H' y gone:=by
 obtain ⟨r,ys,e,h1,h2,h3⟩:=h
 exact ⟨r,ys,e,g.sqT h1,h2.imp fun _ _ ⟨r,e,z⟩=>⟨r,e,g.sqT z⟩,h3⟩
def vC (k:Nat) (q:Nat × Nat):Prop:=(1 <= q.1 /\ q.1 <= k /\ q.2 < 2 ^ (k - 1)) \/ (q.1 = 0 /\ q.2 < 2 ^ k)
def ST (K:FG7) (H:Hp) (A:Ad -> Addr) (ns:NS) (z:V) (ws:List Wt):Prop:=(∃ t,1 <= t /\ t <= ns.nd /\ z = .ref (A (.dn t)) /\ ws = ns.done t) \/ ∃ a,z = .ref a /\ SqT K H a [] /\ ws = []
def sV (C:Addr) (K:FG7):Sp:=sp2 fun x y H Q=>∃ (A:Ad -> Addr) (ns:NS) (many:Nat),x = .ref (A .p) /\ y = .int many /\ NetAt K C H A ns /\ ∀ z H',Grow [] H H' -> ST K H' A ns z (agoS ns many) -> Q z H'
def vi (C:Addr) (K:FG7):Sp:=sp1 fun x H Q=>∃ (A:Ad -> Addr) (ns:NS),x = .ref (A .p) /\ NetAt K C H A ns /\ NR ns /\ ∀ H',Grow [A .dk] H H' -> NetAt K C H' A (zm ns) -> Q .non H'
def vj (C:Addr) (K:FG7):Sp:=sp3 fun x y z H Q=>∃ (A:Ad -> Addr) (ns:NS) (b:Nat) (nums:List Nat) (r:Addr),x = .ref (A .p) /\ y = .int b /\ z = .ref r /\ SqT K H r (yt nums) /\ NetAt K C H A ns /\ b < ns.boxes.length /\ (∀ n ∈ nums,n < ns.asks.length) /\ ns.log.length + nums.length <= 40 /\ ns.fnd.length + nums.length <= 40 ∧
 ∀ H',Grow [A .lb,A .df,A .lg] H H' -> NetAt K C H' A (nums.foldl (doN b) ns) -> Q .non H'
def Ext5 (H:Hp) (A A':Ad -> Addr) (ns:NS):Prop:=(∀ a,okA ns a -> A' a = A a) /\ H (A' (.dn (ns.nd + 1))) = none
def sW (C:Addr) (K:FG7):Sp:=sp2 fun x y H Q=>∃ (A:Ad -> Addr) (ns:NS) (gone:List (Nat × Nat)) (ms:List Addr),x = .ref (A .p) /\ xM K H y gone /\ NetAt K C H A ns /\ NR ns /\ ns.nd + 1 = ns.now /\ (∀ a,okA ns a -> A a ∈ ms) ∧
 ∀ A' H',Grow ms H H' -> Ext5 H A A' ns -> NetAt K C H' A' (ym gone ns) -> Q .non H'
def sX (C:Addr) (K:FG7):Sp:=sp3 fun x y z H Q=>∃ (A:Ad -> Addr) (ns:NS) (s l:Nat) (ms:List Addr),x = .ref (A .p) /\ y = .int s /\ z = .int l /\ 1 <= s /\ s <= ns.k /\ l < 2 ^ ns.k /\ NetAt K C H A ns /\ NR ns /\ (∀ a,okA ns a -> A a ∈ ms) ∧
 ∀ H',Grow ms H H' -> NetAt K C H' A (yE ns s l) -> Q .non H'
def sY (C:Addr) (K:FG7):Sp:=sp3 fun x y z H Q=>∃ (A:Ad -> Addr) (ns:NS) (s:Nat) (gone:List (Nat × Nat)) (ms:List Addr),x = .ref (A .p) /\ y = .int s /\ xM K H z gone /\ 1 <= s /\ s <= ns.k /\ NetAt K C H A ns /\ NR ns /\ (∀ a,okA ns a -> A a ∈ ms) ∧
 ∀ H',Grow ms H H' -> NetAt K C H' A (passS gone ns s (2 ^ (ns.k - 1))) -> Q .non H'
structure NT (ns:NS):Prop where
 nd:((xk ns).map (·.1)).Nodup
 fk:∀ w ∈ agoS ns ns.k,∀ n ∈ w.nums,(getN ns.fnd n).isSome = true
 l40:(xk ns).length <= 40
 al:ns.ans.length <= 400000
def Sb (K:FG7) (H:Hp) (z:V) (l:List (Nat × Int)):Prop:=∃ r ys,z = .ref r /\ SqT K H r ys /\ AllR (fun x (p:Nat × Int)=>zV K H x [(p.1:Int),p.2]) ys l
def sZ (C:Addr) (K:FG7):Sp:=sp1 fun x H Q=>∃ (A:Ad -> Addr) (ns:NS) (ms:List Addr),x = .ref (A .p) /\ NetAt K C H A ns /\ NR ns /\ NT ns /\ (∀ a,okA ns a -> A a ∈ ms) ∧
 ∀ z l H',Grow ms H H' -> NetAt K C H' A (XU ns) -> Sb K H' z l -> l.Perm (xk ns) -> l.Pairwise (fun a b=>a.1 < b.1) -> Q z H'
section
variable {X:Cx} {K:FG7} {tg:Expr}
def SU (K:FG7) (tl:TE):TI:=fun σ H R=>tl σ H fun x H1=>∃ a,x = .ref a /\ (((∃ xs,SqL K H1 a xs) /\ R (Itl K a) H1) \/ ((∃ xs,SqT K H1 a xs) /\ R (Itt K a) H1))
theorem XZ (hK:X.K = K) {l:Expr} {tl:TE} (hl:PE X l tl):PI X tg l (SU K tl):=by
 subst hK
 intro pins s σ H R I h
 refine thn (hl pins s σ H _ I h) fun v s1 ⟨x,H1,I1,r1,q1⟩=>?_
 obtain ⟨a,e,q⟩:=q1
 subst e
 cases r1
 rcases q with ⟨⟨xs,hq⟩,q⟩ | ⟨⟨xs,hq⟩,q⟩
 ·obtain ⟨its,rv,p,hz⟩:=I1.list hq
  refine wpAny_pyIter_list p.isList ?_
  refine ⟨s1.heap.objs.size,[s1.heap.objs.size],_,_,H1,rfl,I1.kept (t':=s1.toks) fun b o e=>Heap.get?_push_of_some _ e,rJ a _,⟨_,Heap.get?_push_size _ rfl,rfl,rfl⟩,fun b hb=>?_,q⟩
  have e:b = s1.heap.objs.size:=by simpa using hb
  subst e
  exact I1.fpOk (Nat.le_refl _) (I1.hok.fresh (Nat.le_refl _))
 ·obtain ⟨its,rv,p,hz⟩:=I1.tuple hq
  refine wpAny_pyIter_tuple (show s1.heap.IsTuple a its.toArray from p) ?_
  refine ⟨s1.heap.objs.size,[s1.heap.objs.size],_,_,H1,rfl,I1.kept (t':=s1.toks) fun b o e=>Heap.get?_push_of_some _ e,u5 a _,⟨_,Heap.get?_push_size _ rfl,rfl,rfl⟩,fun b hb=>?_,q⟩
  have e:b = s1.heap.objs.size:=by simpa using hb
  subst e
  exact I1.fpOk (Nat.le_refl _) (I1.hok.fresh (Nat.le_refl _))
def isP5 (q:Nat × Nat) (h:Heap):Value -> Bool
 | .ref a=>match h.get? a with
  | some o=>match o.data with
   | .seq its _=>match its.toList with
    | [.int i _,.int j _]=>decide (i = q.1) && decide (j = q.2)
    | _=>false
   | _=>false
  | none=>false
 | _=>false
theorem VQ {p q:Nat × Nat}:(decide ((p.1:Int) = q.1) && decide ((p.2:Int) = q.2)) = decide (p = q):=by
 rw [Bool.eq_iff_iff,Bool.and_eq_true,decide_eq_true_eq,decide_eq_true_eq,decide_eq_true_eq]
 constructor
 ·rintro ⟨a,b⟩; exact Prod.ext (by omega) (by omega)
 ·rintro rfl; exact ⟨rfl,rfl⟩
theorem X0 {q p:Nat × Nat} {h:Heap} {a:Addr} {us:List Value} (t:IsTup h a us.toArray) (r:Vals [.int p.1,.int p.2] us):isP5 q h (.ref a) = decide (p = q):=by
 obtain ⟨o,e1,_,n,e2⟩:=t
 obtain ⟨u1,u2,rfl,⟨t1,rfl⟩,⟨t2,rfl⟩⟩:=YY r
 show (match h.get? a with | some o=>_ | none=>_) = _
 rw [e1]
 show (match o.data with | .seq its _=>_ | _=>_) = _
 rw [e2]
 exact VQ
theorem Vh {a b c d:Int}:eqVs [.int a,.int b] [.int c,.int d] = (decide (a = c) && decide (b = d)):=by
 rw [show [V.int a,V.int b] = [a,b].map V.int from rfl,show [V.int c,V.int d] = [c,d].map V.int from rfl,uc]
 by_cases h1:a = c
 ·by_cases h2:b = d
  ·rw [decide_eq_true h1,decide_eq_true h2,decide_eq_true (by rw [h1,h2])]; rfl
  ·rw [decide_eq_false h2,Bool.and_false,decide_eq_false fun z=>h2 (by injection z with _ z; injection z)]
 ·rw [decide_eq_false h1,Bool.false_and,decide_eq_false fun z=>h1 (by injection z)]
theorem VR {pins:List (Addr × Obj)} {σ:L2.St} {H:Hp} {s:Shared} (I:Inv X pins σ H s) {r:Addr} {q:Nat × Nat} (hr:A.units < cLine) (hx:SqT X.K H r [.int q.1,.int q.2]):∀ {ys:List V} {us:List Value} {l:List (Nat × Nat)},Vals ys us -> AllR (sU X.K H) ys l →
  (∀ w ∈ us,SeqAt.EqAt A s w (.ref r) (isP5 q s.heap w)) /\ us.any (isP5 q s.heap) = decide (q ∈ l)
 | [],_,[],.nil,_=>⟨(fun w h=>by cases h),rfl⟩
 | y :: ys,_,p :: l,.cons ry rr,⟨⟨a,e,hs⟩,t⟩=>by
  obtain ⟨h1,h2⟩:=VR I hr hx rr t
  subst e
  cases ry
  obtain ⟨ws,r1,t1,_⟩:=I.tuple hs
  obtain ⟨vs,r2,t2,_⟩:=I.tuple hx
  have key:isP5 q s.heap (.ref a) = decide (p = q):=X0 t1 r1
  refine ⟨fun w hw=>?_,?_⟩
  ·rcases List.mem_cons.mp hw with rfl | hw
   ·rw [key]
    by_cases c:a = r
    ·subst c
     have k2:isP5 q s.heap (.ref a) = decide (q = q):=X0 t2 r2
     rw [← key,k2,decide_eq_true rfl]
     exact SeqAt.EqAt.same _
    ·refine SeqAt.EqAt.of_refs c ?_
     have z:=SeqAt.RcAt.tuples (A:=A) (y6 t1) (y6 t2) hr (VD r1 r2 rfl rfl)
     rw [List.size_toArray,List.size_toArray,← r1.length,← r2.length,tE,Vh] at z
     rw [VQ] at z
     exact z
   ·exact h1 w hw
  ·rw [List.any_cons,h2,key]
   by_cases c:p = q
   ·subst c; rw [decide_eq_true rfl,decide_eq_true (List.mem_cons_self ..)]; rfl
   ·rw [decide_eq_false c,Bool.false_or]
    by_cases d:q ∈ l
    ·rw [decide_eq_true d,decide_eq_true (List.mem_cons_of_mem _ d)]
    ·rw [decide_eq_false d,decide_eq_false fun z=>(List.mem_cons.mp z).elim (fun w=>c w.symm) d]
def SV (K:FG7) (neg:Bool):R2:=fun x y H Q=>∃ (r p:Addr) (ys:List V) (q:Nat × Nat) (l:List (Nat × Nat)),x = .ref r /\ y = .ref p /\ SqT K H r [.int q.1,.int q.2] /\ SqT K H p ys /\ AllR (sU K H) ys l /\ Q (.bl (if neg then !decide (q ∈ l) else decide (q ∈ l))) H
theorem tS {k:Nat} (hK:X.K = K) (hr:Room k X.A):OpR X (compareOp .NotIn) (SV K true):=by
 subst hK
 intro pins s σ H x y v u Q I rx ry h
 obtain ⟨r,p,ys,q,l,rfl,rfl,hx,hq,ha,qq⟩:=h
 cases rx; cases ry
 obtain ⟨its,rv,pl,hz⟩:=I.tuple hq
 have key:=fun (A:Around) (h:A.units < cLine)=>VR (A:=A) I h hx rv ha
 refine SeqAt.notIn_tupleAt (isP5 q s.heap) pl (fun w hw=>(key _ ?_).1 w (by simpa using hw)) ⟨.bl _,H,I,rfl,?_⟩
 ·have:=hr.un; show _ < _; simp; omega
 ·rw [show its.toArray.any (isP5 q s.heap) = its.any (isP5 q s.heap) by simp,(key X.A (by have:=hr.un; omega)).2]
  exact qq
end
theorem KV.merge5:∀ {kws:List (Key × V)} {ws:List (Key × Value)},KV kws ws -> ∀ {kvs:List (Key × V)} {vs:List (Key × Value)},KV kvs vs -> KV (kws.foldl (fun f p=>putK f p.1 p.2) kvs) (merged vs ws)
 | [],_,r,_,_,r0=>by
  cases r
  exact r0
 | p :: kws,_,r,kvs,vs,r0=>by
  cases r with
  | cons h t =>
   rename_i q ws
   obtain ⟨e,rv⟩:=h
   show KV (kws.foldl _ (putK kvs p.1 p.2)) (merged (stored vs q.1 q.2) ws)
   rw [← e]
   exact KV.merge5 t (r0.put p.1 rv)
theorem tT:∀ {kws kvs:List (Key × V)},(kws.foldl (fun f p=>putK f p.1 p.2) kvs).length <= kvs.length + kws.length
 | [],_=>Nat.le_refl _
 | p :: kws,kvs=>by
  have h1:=tT (kws:=kws) (kvs:=putK kvs p.1 p.2)
  have h2:=yh kvs p.1 p.2
  show (kws.foldl _ (putK kvs p.1 p.2)).length <= kvs.length + (kws.length + 1)
  omega
theorem Yv {X:Cx} {K:FG7} (hK:X.K = K):MtR X "dict.update" (fun x vs H Q=>∃ (d o:Addr) (kvs kws:List (Key × V)),x = .ref d /\ vs = [.ref o] /\ H d = some (.dK kvs) /\ H o = some (.dK kws) /\ d ≠ o /\ kvs.length + kws.length <= sizeLine /\ Q .non (upd H d (.dK (kws.foldl (fun f p=>putK f p.1 p.2) kvs)))):=by
 subst hK
 intro pins s σ H x vs v us Q I rx rv h
 obtain ⟨d,o,kvs,kws,rfl,rfl,hd,ho,ne,hl,q⟩:=h
 cases rx
 obtain ⟨u,rfl,ru⟩:=wK rv
 cases ru
 obtain ⟨z1,hd1,vs1,r1,dd1⟩:=Ux I.hok hd
 obtain ⟨z2,hd2,vs2,r2,dd2⟩:=Ux I.hok ho
 refine call_meetsIn PySem.F.slot_dict_update dd1.typeIs PySem.F.entry_dict_update (PySem.F.args_dict_update_2 _ _) (meets_dict_update (zH X.prog X.w) d o ne hd2) ⟨vs1,vs2,dd1,dd2,by rw [← r1.length,← r2.length]; exact hl,fun h' dd' _ hs=>?_⟩
 have he:∃ q,h'.get? d = some q:=let ⟨q,_,_,hq,_⟩:=dd'; ⟨q,hq⟩
 exact ⟨.non,_,jz I (by rw [hd]; exact True.intro) hs he (VH (Nat.le_trans tT hl) hd1 (KV.merge5 r2 r1) dd'),rfl,q⟩
theorem vk:∀ {g f:List (Nat × Int)},(nKv g).foldl (fun f p=>putK f p.1 p.2) (nKv f) = nKv (g.foldl (fun f p=>putN f p.1 p.2) f)
 | [],_=>rfl
 | p :: g,f=>by
  show (nKv g).foldl _ (putK (nKv f) (.inl (p.1:Int)) (.int p.2)) = _
  rw [jL]
  exact vk
def X1 (_:FG7):Sp:=sp4 fun x y z u H Q=>∃ (k s n m:Nat),x = .int k /\ y = .int s /\ z = .int n /\ u = .int m /\ k <= 4 /\ 1 <= s /\ s <= k /\ n < 2 ^ (k - 1) /\ m < 2 /\ Q (.int (inlN k s n m:Nat)) H
def X2 (K:FG7):Sp:=sp3 fun x y z H Q=>∃ (sw:Nat × Nat) (w c:Wt),SwAt H x sw /\ WtAt K H y w /\ WtAt K H z c /\ w.nums.length + c.nums.length <= 40 /\ w.met.length + c.met.length <= 40 /\ ∀ r H',Grow [] H H' -> WtAt K H' r (wp sw w c) -> Q r H'
theorem xW {k s n m:Nat} (k4:k <= 4) (s1:1 <= s) (sk:s <= k) (hn:n < 2 ^ (k - 1)) (hm:m < 2):inlN k s n m < 2 ^ k:=by
 have key:∀ k:Fin 5,∀ s:Fin 5,1 <= s.val -> s.val <= k.val -> ∀ n:Fin 8,n.val < 2 ^ (k.val - 1) -> ∀ m:Fin 2,inlN k.val s.val n.val m.val < 2 ^ k.val:=by decide +kernel
 have n8:n < 8:=Nat.lt_of_lt_of_le hn (Nat.le_trans (Nat.pow_le_pow_right (by decide) (show k - 1 <= 3 by omega)) (by decide))
 exact key ⟨k,by omega⟩ ⟨s,by omega⟩ s1 sk ⟨n,n8⟩ hn ⟨m,hm⟩
theorem xE {α β:Type} {f:β -> α -> β} {a:β} {l:List α} {j:Nat} {w:α} (h:l[j]? = some w):(l.take (j + 1)).foldl f a = f ((l.take j).foldl f a) w:=by
 obtain ⟨hj,e⟩:=List.getElem?_eq_some_iff.mp h
 rw [List.take_succ_eq_append_getElem hj,e,List.foldl_append]; rfl
theorem zF {β:Type} {f:β -> Nat -> β} {a:β} {j:Nat}:(List.range (j + 1)).foldl f a = f ((List.range j).foldl f a) j:=by
 rw [List.range_succ,List.foldl_append]; rfl
theorem Sc {K:FG7} {H:Hp} {r:Addr} {q:Nat × Nat} (h:H r = some (.tup [.int q.1,.int q.2])):SqT K H r [.int q.1,.int q.2]:=SqT.of h
theorem yV {H:Hp} {r:Addr} {a b:Int} (h:H r = some (.tup [.int a,.int b])):H r = some (.tup ((kI [a,b]).map kV)):=by rw [SS]; exact h
theorem nd5 {a b:Ad} {K:FG7} {C:Addr} {H:Hp} {A:Ad -> Addr} {ns:NS} (h:NetAt K C H A ns) (ha:okA ns a) (hb:okA ns b) (n:a ≠ b):A a ≠ A b:=fun z=>n (h.inj _ _ ha hb z)
theorem xu {b:Nat}:∀ {l:List Nat} {ns:NS},(l.foldl (doN b) ns).boxes.length = ns.boxes.length /\ (l.foldl (doN b) ns).asks = ns.asks /\ (l.foldl (doN b) ns).log = ns.log ++ l /\ (l.foldl (doN b) ns).fnd.length <= ns.fnd.length + l.length
 | [],ns=>⟨rfl,rfl,(List.append_nil _).symm,Nat.le_refl _⟩
 | n :: l,ns=>by
  obtain ⟨h1,h2,h3,h4⟩:=xu (b:=b) (l:=l) (ns:=doN b ns n)
  refine ⟨h1.trans (List.length_set ..),h2,?_,Nat.le_trans h4 ?_⟩
  ·show (l.foldl (doN b) (doN b ns n)).log = _
   rw [h3]
   show (ns.log ++ [n]) ++ l = _
   rw [List.append_assoc]; rfl
  ·have:=ZE (f:=ns.fnd) (n:=n) (v:=ns.boxes.getD b 0)
   show (putN ns.fnd n (ns.boxes.getD b 0)).length + l.length <= ns.fnd.length + (l.length + 1)
   omega
theorem s8 {n i:Nat} (h:i < n):ixN n (i:Int) = some i:=by
 have:=Uq (n:=n) (i:=(i:Int)) (by omega) (by omega)
 rw [this,Int.toNat_natCast]
theorem Yw {k s n m:Nat} (k4:k <= 4) (s1:1 <= s) (sk:s <= k) (hn:n < 2 ^ (k - 1)) (hm:m < 2):n < 8 /\ CPow ((n:Int) / 2 ^ ((k:Int) - s).toNat) ((k:Int) - s + 1) /\ CPow (m:Int) ((k:Int) - s) /\ CPow 1 ((k:Int) - s) /\ True ∧
  Builtin.bitOr (Builtin.bitOr ((n:Int) / 2 ^ ((k:Int) - s).toNat * 2 ^ ((k:Int) - s + 1).toNat) ((m:Int) * 2 ^ ((k:Int) - s).toNat)) (Builtin.bitAnd (n:Int) (1 * 2 ^ ((k:Int) - s).toNat - 1)) = (inlN k s n m:Nat):=by
 have n8:n < 8:=Nat.lt_of_lt_of_le hn (Nat.le_trans (Nat.pow_le_pow_right (by decide) (show k - 1 <= 3 by omega)) (by decide))
 have e2:(n:Int) / 2 ^ ((k:Int) - s).toNat <= n:=Int.ediv_le_self _ (by omega)
 have e1:(0:Int) <= (n:Int) / 2 ^ ((k:Int) - s).toNat:=Int.ediv_nonneg (by omega) (Int.le_of_lt (Int.pow_pos (by decide)))
 refine ⟨n8,⟨by omega,by omega,by omega⟩,⟨by omega,by omega,by omega⟩,⟨by omega,by omega,by decide⟩,trivial,?_⟩
 have key:∀ k:Fin 5,∀ s:Fin 5,1 <= s.val -> s.val <= k.val -> ∀ n:Fin 8,n.val < 2 ^ (k.val - 1) -> ∀ m:Fin 2,Builtin.bitOr (Builtin.bitOr ((n.val:Int) / 2 ^ ((k.val:Int) - s.val).toNat * 2 ^ ((k.val:Int) - s.val + 1).toNat) ((m.val:Int) * 2 ^ ((k.val:Int) - s.val).toNat)) (Builtin.bitAnd (n.val:Int) (1 * 2 ^ ((k.val:Int) - s.val).toNat - 1)) = (inlN k.val s.val n.val m.val:Nat):=by decide +kernel
 exact key ⟨k,by omega⟩ ⟨s,by omega⟩ s1 sk ⟨n,n8⟩ hn ⟨m,hm⟩
theorem UK {c:TT} {t u:TS} {D:Ends} {σ:L2.St} {H:Hp} (Good:Bool -> Hp -> Prop) (hc:∀ K:Bool -> Hp -> Prop,(∀ b H',Good b H' -> K b H') -> c σ H K) (hr:∀ b H',Good b H' -> if b = true then t D σ H' else u D σ H'):tIfS c t u D σ H:=hc _ hr
theorem Sd {is:List Nat} {i:Nat}:atI (yt (is ++ [i])) (-1) = some (V.int i):=by
 have:=SG (ys:=is.map fun n:Nat=>(n:Int)) (v:=(i:Int))
 unfold yt
 rw [List.map_append,List.map_map] at this
 rw [List.map_append]
 exact this
theorem re {out:List Wt} {b i:Nat} (h:qC out b = some i):i < out.length /\ (out.getD i default).box = b:=by
 have hm:=List.mem_of_getLast? h
 rw [List.mem_filter] at hm
 exact ⟨List.mem_range.mp hm.1,of_decide_eq_true hm.2⟩
theorem qI {ns:NS} (nr:NR ns) {l j:Nat} (hl:l <= ns.k) (hj:j < 2 ^ ns.k):(ns.lines l j).length <= 40 /\ lsum nlen (ns.lines l j) <= 40:=by
 have h1:=XV (f:=ns.lines) (g:=nlen) hl hj
 have h2:=nr.tot
 have h3:=nr.a40
 have h4:=vK (g:=nlen) (ws:=ns.lines l j) fun w hw=>by
  have:=(nr.lw l j hl hj w hw).ne
  cases e:w.nums with
  | nil=>exact absurd e this
  | cons a r=>show 1 <= w.nums.length; rw [e]; exact Nat.succ_le_succ (Nat.zero_le _)
 omega
theorem UL {v:V} {r:List V}:seqIndex? 0 (v :: r).length = some 0:=(jo (s8 (n:=(v :: r).length) (i:=0) (Nat.succ_pos _))).1
inductive HandC (ns:NS) (s l:Nat):NS -> Prop
 | stay:HandC ns s l ns
 | add (c:Wt) (r:List Wt):ns.lines (s - 1) l = c :: r -> (ns.lines s (outR ns.k s l c.box)).length < ns.room →
   HandC ns s l { ns with lines:=updL (updL ns.lines (s - 1) l r) s (outR ns.k s l c.box) (ns.lines s (outR ns.k s l c.box) ++ [c]) }
 | join (c:Wt) (r:List Wt) (i:Nat):ns.lines (s - 1) l = c :: r -> i < (ns.lines s (outR ns.k s l c.box)).length -> ((ns.lines s (outR ns.k s l c.box)).getD i default).box = c.box -> ns.keep s (nN ns.k s l) < ns.kept →
   HandC ns s l { ns with lines:=updL (updL ns.lines (s - 1) l r) s (outR ns.k s l c.box) ((ns.lines s (outR ns.k s l c.box)).set i (wp (s,nN ns.k s l) ((ns.lines s (outR ns.k s l c.box)).getD i default) c)),keep:=updL ns.keep s (nN ns.k s l) (ns.keep s (nN ns.k s l) + 1) }
theorem addC {ns:NS} {s l:Nat} {c:Wt} {r:List Wt} (h:ns.lines (s - 1) l = c :: r):HandC ns s l (addS ns s l c r):=by
 unfold addS
 split
 ·exact .add c r h (by assumption)
 ·exact .stay
theorem X3 (ns:NS) (s l:Nat):HandC ns s l (yE ns s l):=by
 unfold yE
 split
 ·exact .stay
 ·rename_i c r h
  split
  ·exact addC h
  ·rename_i i hi
   split
   ·rename_i hk
    exact .join c r i h (re hi).1 (re hi).2 hk
   ·exact addC h
structure Same5 (a b:NS):Prop where
 k:a.k = b.k
 room:a.room = b.room
 kept:a.kept = b.kept
 boxes:a.boxes = b.boxes
 asks:a.asks = b.asks
 now:a.now = b.now
 nd:a.nd = b.nd
 done:a.done = b.done
 log:a.log = b.log
 fnd:a.fnd = b.fnd
 ans:a.ans = b.ans
theorem Same5.refl (a:NS):Same5 a a:=⟨rfl,rfl,rfl,rfl,rfl,rfl,rfl,rfl,rfl,rfl,rfl⟩
theorem Same5.trans {a b c:NS} (h:Same5 a b) (g:Same5 b c):Same5 a c :=
 ⟨h.k.trans g.k,h.room.trans g.room,h.kept.trans g.kept,h.boxes.trans g.boxes,h.asks.trans g.asks,h.now.trans g.now,h.nd.trans g.nd,h.done.trans g.done,h.log.trans g.log,h.fnd.trans g.fnd,h.ans.trans g.ans⟩
theorem HandC.same {ns n':NS} {s l:Nat} (h:HandC ns s l n'):Same5 n' ns:=by
 cases h <;> exact ⟨rfl,rfl,rfl,rfl,rfl,rfl,rfl,rfl,rfl,rfl,rfl⟩
theorem yA (ns:NS) (s l:Nat):Same5 (yE ns s l) ns:=(X3 ns s l).same
def Addv (g:Wt -> Nat):Prop:=∀ sw w c,g (wp sw w c) = g w + g c
theorem xm {k s l b:Nat} (k4:k <= 4) (s1:1 <= s) (sk:s <= k) (hl:l < 2 ^ k):outR k s l b < 2 ^ k:=(outF (b:=b) k4 s1 sk hl).lt
section
variable {ns n':NS} {s l:Nat}
theorem HandC.ws (h:HandC ns s l n') {g:Wt -> Nat} (hg:Addv g) (k4:ns.k <= 4) (s1:1 <= s) (sk:s <= ns.k) (hl:l < 2 ^ ns.k):wsN ns.k n'.lines g = wsN ns.k ns.lines g:=by
 cases h with
 | stay=>rfl
 | add c r hc hr =>
  have o:=xm (b:=c.box) k4 s1 sk hl
  have h1:=xc (f:=ns.lines) (v:=r) (g:=g) (show s - 1 <= ns.k by omega) hl
  have h2:=xc (f:=updL ns.lines (s - 1) l r) (v:=ns.lines s (outR ns.k s l c.box) ++ [c]) (g:=g) sk o
  rw [zE (fun z=>by have:=z.1; omega)] at h2
  rw [hc,zS] at h1
  rw [we,zS,wc] at h2
  show wsN ns.k (updL (updL ns.lines (s - 1) l r) s (outR ns.k s l c.box) (ns.lines s (outR ns.k s l c.box) ++ [c])) g = _
  omega
 | join c r i hc hi hb hk =>
  have o:=xm (b:=c.box) k4 s1 sk hl
  have h1:=xc (f:=ns.lines) (v:=r) (g:=g) (show s - 1 <= ns.k by omega) hl
  have h2:=xc (f:=updL ns.lines (s - 1) l r) (v:=(ns.lines s (outR ns.k s l c.box)).set i (wp (s,nN ns.k s l) ((ns.lines s (outR ns.k s l c.box)).getD i default) c)) (g:=g) sk o
  rw [zE (fun z=>by have:=z.1; omega)] at h2
  have h3:=sR (g:=g) (v:=wp (s,nN ns.k s l) ((ns.lines s (outR ns.k s l c.box)).getD i default) c) hi
  rw [hg] at h3
  rw [hc,zS] at h1
  show wsN ns.k (updL (updL ns.lines (s - 1) l r) s (outR ns.k s l c.box) ((ns.lines s (outR ns.k s l c.box)).set i (wp (s,nN ns.k s l) ((ns.lines s (outR ns.k s l c.box)).getD i default) c))) g = _
  omega
theorem HandC.all (h:HandC ns s l n') {P:Wt -> Prop} (k4:ns.k <= 4) (s1:1 <= s) (sk:s <= ns.k) (hl:l < 2 ^ ns.k) (hp:∀ a b,a <= ns.k -> b < 2 ^ ns.k -> ∀ w ∈ ns.lines a b,P w)
  (hj:∀ w c,P w -> P c -> w.box = c.box -> P (wp (s,nN ns.k s l) w c)):∀ a b,a <= ns.k -> b < 2 ^ ns.k -> ∀ w ∈ n'.lines a b,P w:=by
 have h1:s - 1 <= ns.k:=by omega
 cases h with
 | stay=>exact hp
 | add c r hc hr =>
  intro a b ha hb w hw
  have hw:w ∈ updL (updL ns.lines (s - 1) l r) s (outR ns.k s l c.box) (ns.lines s (outR ns.k s l c.box) ++ [c]) a b:=hw
  by_cases e:a = s /\ b = outR ns.k s l c.box
  ·rw [e.1,e.2,zD] at hw
   rcases List.mem_append.mp hw with z | z
   ·exact hp s _ sk (xm k4 s1 sk hl) w z
   ·rw [List.mem_singleton.mp z]; exact hp (s - 1) l h1 hl c (by rw [hc]; exact List.mem_cons_self ..)
  ·rw [zE e] at hw
   by_cases e2:a = s - 1 /\ b = l
   ·rw [e2.1,e2.2,zD] at hw
    exact hp (s - 1) l h1 hl w (by rw [hc]; exact List.mem_cons_of_mem _ hw)
   ·rw [zE e2] at hw; exact hp a b ha hb w hw
 | join c r i hc hi hb' hk =>
  intro a b ha hb w hw
  have hw:w ∈ updL (updL ns.lines (s - 1) l r) s (outR ns.k s l c.box) ((ns.lines s (outR ns.k s l c.box)).set i (wp (s,nN ns.k s l) ((ns.lines s (outR ns.k s l c.box)).getD i default) c)) a b:=hw
  have o:=xm (b:=c.box) k4 s1 sk hl
  have pc:P c:=hp (s - 1) l h1 hl c (by rw [hc]; exact List.mem_cons_self ..)
  by_cases e:a = s /\ b = outR ns.k s l c.box
  ·rw [e.1,e.2,zD] at hw
   rcases List.mem_or_eq_of_mem_set hw with z | z
   ·exact hp s _ sk o w z
   ·rw [z]
    refine hj _ _ (hp s _ sk o _ ?_) pc hb'
    rw [List.getD_eq_getElem?_getD,List.getElem?_eq_getElem hi]; exact List.getElem_mem hi
  ·rw [zE e] at hw
   by_cases e2:a = s - 1 /\ b = l
   ·rw [e2.1,e2.2,zD] at hw
    exact hp (s - 1) l h1 hl w (by rw [hc]; exact List.mem_cons_of_mem _ hw)
   ·rw [zE e2] at hw; exact hp a b ha hb w hw
theorem Vi:Addv nlen:=fun _ w c=>List.length_append ..
theorem Se {k b a:Nat} {w c:Wt} {sw:Nat × Nat} (hw:WtOk k b a w) (hc:WtOk k b a c) (hs:1 <= sw.1 /\ sw.1 <= k /\ sw.2 < 2 ^ (k - 1)):WtOk k b a (wp sw w c) where
 bx:=hw.bx
 ne:=fun z=>hw.ne (List.append_eq_nil_iff.mp z).1
 nm:=fun n hn=>(List.mem_append.mp hn).elim (hw.nm n) (hc.nm n)
 mt:=fun q hq=>by
  rcases List.mem_append.mp hq with z | z
  ·exact (List.mem_append.mp z).elim (hw.mt q) (hc.mt q)
  ·rw [List.mem_singleton.mp z]; exact hs
 ln:=by
  have h1:=hw.ln
  have h2:=hc.ln
  show (w.met ++ c.met ++ [sw]).length + 1 = (w.nums ++ c.nums).length
  rw [List.length_append,List.length_append,List.length_append]
  show w.met.length + c.met.length + 1 + 1 = _
  omega
theorem NR.hand (nr:NR ns) (s1:1 <= s) (sk:s <= ns.k) (hl:l < 2 ^ ns.k):NR (yE ns s l):=by
 have hc:=X3 ns s l
 have sm:=hc.same
 have F1:=oneF nr.k4 s1 sk hl
 have ws:=hc.ws Vi nr.k4 s1 sk hl
 have al:=hc.all (P:=WtOk ns.k ns.boxes.length ns.asks.length) nr.k4 s1 sk hl nr.lw fun w c hw hc _=>Se hw hc ⟨s1,sk,F1.lt⟩
 refine ⟨by rw [sm.k]; exact nr.k4,by rw [sm.boxes]; exact nr.b16,by rw [sm.asks]; exact nr.a40,?_,?_,?_,by rw [sm.now]; exact nr.nw,by rw [sm.nd,sm.now]; exact nr.nd,by rw [sm.fnd,sm.log]; exact nr.fl⟩
 ·rw [sm.k,sm.boxes,sm.asks]; exact al
 ·rw [sm.k,sm.boxes,sm.asks,sm.nd,sm.done]; exact nr.dw
 ·rw [sm.k,sm.log,sm.asks,ws]; exact nr.tot
end
theorem Yx (gone:List (Nat × Nat)) (s:Nat) (ns:NS) (n:Nat):Same5 (yH gone s ns n) ns:=by
 unfold yH
 split
 ·exact Same5.refl _
 ·exact (yA _ _ _).trans (yA _ _ _)
theorem NR.pass1 {ns:NS} (nr:NR ns) {gone:List (Nat × Nat)} {s n:Nat} (s1:1 <= s) (sk:s <= ns.k) (hn:n < 2 ^ (ns.k - 1)):NR (yH gone s ns n):=by
 unfold yH
 split
 ·exact nr
 ·have h1:=nr.hand s1 sk (l:=inlN ns.k s n (ns.now % 2)) (xW nr.k4 s1 sk hn (Nat.mod_lt _ (by decide)))
  have sm:=yA ns s (inlN ns.k s n (ns.now % 2))
  exact h1.hand s1 (by rw [sm.k]; exact sk) (by rw [sm.k]; exact xW nr.k4 s1 sk hn (by omega))
theorem xv (gone:List (Nat × Nat)) (ns:NS) (s:Nat):∀ i,Same5 (passS gone ns s i) ns
 | 0=>Same5.refl _
 | i + 1=>by
  unfold passS
  rw [zF]
  exact (Yx _ _ _ _).trans (xv gone ns s i)
theorem NR.passS {ns:NS} (nr:NR ns) {gone:List (Nat × Nat)} {s:Nat} (s1:1 <= s) (sk:s <= ns.k):∀ {i},i <= 2 ^ (ns.k - 1) -> NR (passS gone ns s i)
 | 0,_=>nr
 | i + 1,h=>by
  unfold L3.passS
  rw [zF]
  have sm:=xv gone ns s i
  exact (NR.passS nr s1 sk (gone:=gone) (i:=i) (by omega)).pass1 s1 (by rw [sm.k]; exact sk) (by rw [sm.k]; omega)
theorem y7 (gone:List (Nat × Nat)) (ns:NS):∀ i,Same5 (passA gone ns i) ns
 | 0=>Same5.refl _
 | i + 1=>by
  unfold passA
  rw [zF]
  exact (xv _ _ _ _).trans (y7 gone ns i)
theorem NR.passA {ns:NS} (nr:NR ns) {gone:List (Nat × Nat)}:∀ {i},i <= ns.k -> NR (passA gone ns i)
 | 0,_=>nr
 | i + 1,h=>by
  unfold L3.passA
  rw [zF]
  have sm:=y7 gone ns i
  refine NR.passS (NR.passA nr (gone:=gone) (i:=i) (by omega)) ?_ ?_ ?_
  ·show 1 <= (L3.passA gone ns i).k - i; rw [sm.k]; omega
  ·show (L3.passA gone ns i).k - i <= (L3.passA gone ns i).k; omega
  ·exact Nat.le_refl _
theorem y8 {gone:List (Nat × Nat)} {ns:NS} {i:Nat}:zA gone ns (i + 1) = qD gone ns.k (zA gone ns i) i:=by unfold zA; rw [zF]
theorem xX {gone:List (Nat × Nat)} {k i:Nat} {st:List Wt × (Nat -> Nat -> List Wt)} (h:st.2 k i = []):qD gone k st i = st:=by unfold qD; rw [h]
theorem xw {gone:List (Nat × Nat)} {k i:Nat} {st:List Wt × (Nat -> Nat -> List Wt)} (hg:(0,i) ∈ gone):qD gone k st i = st:=by
 unfold qD
 split
 ·rfl
 ·rw [if_pos hg]
theorem wg {gone:List (Nat × Nat)} {k i:Nat} {st:List Wt × (Nat -> Nat -> List Wt)} {w:Wt} {r:List Wt} (h:st.2 k i = w :: r) (hg:(0,i) ∉ gone):qD gone k st i = (st.1 ++ [w],updL st.2 k i r):=by
 unfold qD; rw [h]; exact if_neg hg
structure TakeF (ns:NS) (st:List Wt × (Nat -> Nat -> List Wt)):Prop where
 tk:∀ w ∈ st.1,∃ j,j < 2 ^ ns.k /\ w ∈ ns.lines ns.k j
 ln:∀ l j,∀ w ∈ st.2 l j,w ∈ ns.lines l j
 lo:∀ l j,l ≠ ns.k -> st.2 l j = ns.lines l j
 ws:∀ g:Wt -> Nat,lsum g st.1 + wsN ns.k st.2 g = wsN ns.k ns.lines g
theorem jN {gone:List (Nat × Nat)} {ns:NS}:∀ {i},i <= 2 ^ ns.k -> TakeF ns (zA gone ns i)
 | 0,_=>⟨(fun _ h=>by cases h),fun _ _ _ h=>h,fun _ _ _=>rfl,fun g=>by show 0 + wsN ns.k ns.lines g = _; omega⟩
 | i + 1,h=>by
  have ih:=jN (gone:=gone) (ns:=ns) (i:=i) (by omega)
  rw [y8]
  cases hc:(zA gone ns i).2 ns.k i with
  | nil=>rw [xX hc]; exact ih
  | cons w r =>
   by_cases hg:(0,i) ∈ gone
   ·rw [xw hg]; exact ih
   ·rw [wg hc hg]
    refine ⟨fun x hx=>?_,fun l j x hx=>?_,fun l j hl=>?_,fun g=>?_⟩
    ·rcases List.mem_append.mp hx with z | z
     ·exact ih.tk x z
     ·rw [List.mem_singleton.mp z]
      exact ⟨i,by omega,ih.ln _ _ w (by rw [hc]; exact List.mem_cons_self ..)⟩
    ·have hx:x ∈ updL (zA gone ns i).2 ns.k i r l j:=hx
     by_cases e:l = ns.k /\ j = i
     ·rw [e.1,e.2,zD] at hx
      rw [e.1,e.2]
      exact ih.ln _ _ x (by rw [hc]; exact List.mem_cons_of_mem _ hx)
     ·rw [zE e] at hx; exact ih.ln l j x hx
    ·show updL (zA gone ns i).2 ns.k i r l j = _
     rw [zE fun z=>hl z.1]; exact ih.lo l j hl
    ·have h1:=ih.ws g
     have h2:=xc (f:=(zA gone ns i).2) (v:=r) (g:=g) (Nat.le_refl ns.k) (show i < 2 ^ ns.k by omega)
     rw [hc,zS] at h2
     show lsum g ((zA gone ns i).1 ++ [w]) + wsN ns.k (updL (zA gone ns i).2 ns.k i r) g = _
     rw [we,zS,wc]
     omega
def yF (l:List Wt):List Nat:=l.flatMap (·.nums)
theorem uw:∀ {l:List Wt},(yF l).length = lsum nlen l
 | []=>rfl
 | w :: l=>by
  show (w.nums ++ yF l).length = w.nums.length + lsum nlen l
  rw [List.length_append,uw]
theorem ux {n:Nat}:∀ {l:List Wt},(yF l).count n = lsum (fun w=>w.nums.count n) l
 | []=>rfl
 | w :: l=>by
  show (w.nums ++ yF l).count n = w.nums.count n + lsum (fun w=>w.nums.count n) l
  rw [List.count_append,ux]
structure DoF (ns n':NS) (l:List Wt):Prop where
 k:n'.k = ns.k
 room:n'.room = ns.room
 kept:n'.kept = ns.kept
 bl:n'.boxes.length = ns.boxes.length
 asks:n'.asks = ns.asks
 now:n'.now = ns.now
 lines:n'.lines = ns.lines
 keep:n'.keep = ns.keep
 nd:n'.nd = ns.nd
 done:n'.done = ns.done
 log:n'.log = ns.log ++ yF l
 fl:n'.fnd.length <= ns.fnd.length + (yF l).length
 ans:n'.ans = ns.ans
theorem doF1 {b:Nat}:∀ {l:List Nat} {ns:NS},(l.foldl (doN b) ns).k = ns.k /\ (l.foldl (doN b) ns).room = ns.room /\ (l.foldl (doN b) ns).kept = ns.kept /\ (l.foldl (doN b) ns).now = ns.now /\ (l.foldl (doN b) ns).lines = ns.lines /\ (l.foldl (doN b) ns).keep = ns.keep /\ (l.foldl (doN b) ns).nd = ns.nd /\ (l.foldl (doN b) ns).done = ns.done /\ (l.foldl (doN b) ns).ans = ns.ans
 | [],ns=>⟨rfl,rfl,rfl,rfl,rfl,rfl,rfl,rfl,rfl⟩
 | n :: l,ns=>doF1 (b:=b) (l:=l) (ns:=doN b ns n)
theorem doF:∀ {l:List Wt} {ns:NS},DoF ns (l.foldl doW ns) l
 | [],ns=>⟨rfl,rfl,rfl,rfl,rfl,rfl,rfl,rfl,rfl,rfl,(List.append_nil _).symm,Nat.le_refl _,rfl⟩
 | w :: l,ns=>by
  have ih:=doF (l:=l) (ns:=doW ns w)
  obtain ⟨a1,a2,a3,a4,a5,a6,a7,a8,a9⟩:=doF1 (b:=w.box) (l:=w.nums) (ns:=ns)
  obtain ⟨b1,b2,b3,b4⟩:=xu (b:=w.box) (l:=w.nums) (ns:=ns)
  refine ⟨ih.k.trans a1,ih.room.trans a2,ih.kept.trans a3,ih.bl.trans b1,ih.asks.trans b2,ih.now.trans a4,ih.lines.trans a5,ih.keep.trans a6,ih.nd.trans a7,ih.done.trans a8,?_,?_,ih.ans.trans a9⟩
  ·show (l.foldl doW (doW ns w)).log = ns.log ++ (w.nums ++ yF l)
   rw [ih.log,show (doW ns w).log = ns.log ++ w.nums from b3,List.append_assoc]
  ·have h1:=ih.fl
   have b4:(doW ns w).fnd.length <= ns.fnd.length + w.nums.length:=b4
   show (l.foldl doW (doW ns w)).fnd.length <= ns.fnd.length + (w.nums ++ yF l).length
   rw [List.length_append]
   omega
theorem big5 {n:Nat} (h:n <= 1000000):n < sizeLine:=Nat.lt_of_le_of_lt h (by decide)
def extA (A:Ad -> Addr) (nd:Nat) (q:Addr):Ad -> Addr:=fun a=>if a = .dn (nd + 1) then q else A a
theorem wV {A:Ad -> Addr} {nd:Nat} {q:Addr}:extA A nd q (.dn (nd + 1)) = q:=if_pos rfl
theorem xG {A:Ad -> Addr} {ns:NS} {q:Addr} {a:Ad} (h:okA ns a):extA A ns.nd q a = A a:=if_neg fun z=>by
 subst z
 have h:1 <= ns.nd + 1 /\ ns.nd + 1 <= ns.nd:=h
 omega
section
variable {K:FG7} {C:Addr} {H:Hp} {A:Ad -> Addr} {ns:NS}
theorem NetAt.setDone (h:NetAt K C H A ns) {q:Addr} {tv:List V} {ws:List Wt} (hq:H q = some (.lst tv)) (hw:AllR (WtAt K H) tv ws) (nq:∀ a,okA ns a -> A a ≠ q) :
  NetAt K C (upd H (A .dd) (.dK (putK (xf A ns.nd) (.inl ((ns.nd + 1:Nat):Int)) (.ref q)))) (extA A ns.nd q) { ns with nd:=ns.nd + 1,done:=updD ns.done (ns.nd + 1) ws } /\ Grow [A .dd] H (upd H (A .dd) (.dK (putK (xf A ns.nd) (.inl ((ns.nd + 1:Nat):Int)) (.ref q)))):=by
 have g:=Grow.setK5 (m:=[A .dd]) h.dd (by simp) (putK (xf A ns.nd) (.inl ((ns.nd + 1:Nat):Int)) (.ref q))
 refine ⟨⟨fun a ha=>?_,fun a b ha hb e=>?_⟩,g⟩
 ·by_cases e:a = .dn (ns.nd + 1)
  ·subst e
   rw [wV]
   refine ⟨_,by rw [zt (fun z=>nq .dd trivial z.symm)]; exact hq,tv,rfl,?_⟩
   show AllR _ tv (updD ns.done (ns.nd + 1) ws (ns.nd + 1))
   rw [show updD ns.done (ns.nd + 1) ws (ns.nd + 1) = ws from if_pos rfl]
   exact hw.imp fun _ _ z=>z.grow g
  ·have ok:okA ns a:=by
    cases a with
    | dn t =>
     have ha:1 <= t /\ t <= ns.nd + 1:=ha
     have:t ≠ ns.nd + 1:=fun z=>e (by rw [z])
     exact ⟨ha.1,by omega⟩
    | _=>exact ha
   rw [xG ok]
   by_cases ed:a = .dd
   ·subst ed
    refine ⟨_,ze,?_⟩
    show HO.dK _ = .dK (xf (extA A ns.nd q) (ns.nd + 1))
    rw [Vf (A':=extA A ns.nd q) (fun t h1 h2=>xG (ns:=ns) (a:=.dn t) ⟨h1,h2⟩) wV]
   ·obtain ⟨o,h1,h2⟩:=h.at_ a ok
    refine ⟨o,by rw [zt fun z=>ed (h.inj _ _ ok trivial z)]; exact h1,?_⟩
    have h3:=h2.grow g
    have ef:zB (extA A ns.nd q) { ns with nd:=ns.nd + 1,done:=updD ns.done (ns.nd + 1) ws } = zB A ns:=rfl
    have el:xt (extA A ns.nd q) ns.k = xt A ns.k:=by
     unfold xt
     refine congrArg (fun f=>(List.range (ns.k + 1)).flatMap f) (funext fun l=>List.map_congr_left fun j _=>?_)
     rfl
    cases a with
    | p=>obtain ⟨dx,e⟩:=h3; exact ⟨dx,e⟩
    | dl=>exact h3
    | dd=>exact absurd rfl ed
    | dn t =>
     obtain ⟨ys,e1,e2⟩:=h3
     refine ⟨ys,e1,?_⟩
     show AllR _ ys (updD ns.done (ns.nd + 1) ws t)
     rw [show updD ns.done (ns.nd + 1) ws t = ns.done t from if_neg fun z=>e (by rw [z])]
     exact e2
    | _=>exact h3
 ·have key:∀ a,okA ({ ns with nd:=ns.nd + 1,done:=updD ns.done (ns.nd + 1) ws }:NS) a -> a = .dn (ns.nd + 1) \/ okA ns a:=fun a ha=>by
   cases a with
   | dn t =>
    have ha:1 <= t /\ t <= ns.nd + 1:=ha
    by_cases z:t = ns.nd + 1
    ·exact .inl (by rw [z])
    ·exact .inr ⟨ha.1,by omega⟩
   | _=>exact .inr ha
  rcases key a ha with ea | oa
  ·rcases key b hb with eb | ob
   ·rw [ea,eb]
   ·rw [ea,wV,xG ob] at e
    exact absurd e.symm (nq b ob)
  ·rcases key b hb with eb | ob
   ·rw [eb,wV,xG oa] at e
    exact absurd e (nq a oa)
   ·rw [xG oa,xG ob] at e
    exact h.inj a b oa ob e
end
def TpAt (H:Hp) (x:V) (p:Nat × Int):Prop:=∃ r,x = .ref r /\ H r = some (.tup [.int p.1,.int p.2])
theorem TpAt.grow {m:List Addr} {H H':Hp} {x:V} {p:Nat × Int} (h:TpAt H x p) (g:Grow m H H'):TpAt H' x p:=by
 obtain ⟨r,e,h⟩:=h
 exact ⟨r,e,g.tup _ _ h⟩
theorem Vj {H:Hp} {zs:List V} {tl:List (Nat × Int)} (h:AllR (TpAt H) zs tl):jI H zs (nKv tl):=by
 refine ⟨by unfold nKv; rw [List.length_map]; exact h.len,fun i p hp=>?_⟩
 unfold nKv at hp
 rw [List.getElem?_map] at hp
 obtain ⟨q,hq,rfl⟩:=Option.map_eq_some_iff.mp hp
 obtain ⟨x,hx,r,rfl,hr⟩:=h.getR hq
 exact ⟨r,hx,hr⟩
theorem Vk {tl:List (Nat × Int)}:vG (nKv tl) = nKv (qE tl):=vk (g:=tl) (f:=[])
def itF (p:Nat × Int):List Int × List V:=([(p.1:Int)],[.int p.2])
def itB (p:List Int × List V):Nat × Int:=((p.1.getD 0 0).toNat,match p.2 with | [.int v]=>v | _=>0)
theorem itBF (p:Nat × Int):itB (itF p) = p:=rfl
theorem VS {K:FG7} {H:Hp}:∀ {zs:List V} {tl:List (Nat × Int)},AllR (TpAt H) zs tl -> AllR (sP K H) zs (tl.map itF)
 | [],[],_=>trivial
 | _ :: _,p :: _,⟨⟨r,e,h⟩,t⟩=>⟨⟨r,e,SqT.of h⟩,VS t⟩
 | [],_ :: _,h=>h.elim
 | _ :: _,[],h=>h.elim
theorem X4 {K:FG7} {H:Hp}:∀ {zs:List V} {its:List (List Int × List V)},(∀ q ∈ its,∃ p,q = itF p) -> AllR (sP K H) zs its -> AllR (fun x (p:Nat × Int)=>zV K H x [(p.1:Int),p.2]) zs (its.map itB)
 | [],[],_,_=>trivial
 | _ :: _,q :: its,hq,⟨⟨r,e,h⟩,t⟩=>by
  obtain ⟨p,rfl⟩:=hq q (List.mem_cons_self ..)
  exact ⟨⟨r,e,h⟩,X4 (fun q' h'=>hq q' (List.mem_cons_of_mem _ h')) t⟩
 | [],_ :: _,_,h=>h.elim
 | _ :: _,[],_,h=>h.elim
theorem UM {its:List (List Int × List V)} {tl:List (Nat × Int)} (h:its.Perm (tl.map itF)):(its.map itB).Perm tl /\ ∀ q ∈ its,∃ p,q = itF p:=by
 refine ⟨?_,fun q hq=>?_⟩
 ·have:=h.map itB
  rw [List.map_map,show itB ∘ itF = id from funext itBF,List.map_id] at this
  exact this
 ·obtain ⟨p,_,e⟩:=List.mem_map.mp (h.mem_iff.mp hq)
  exact ⟨p,e.symm⟩
theorem SW {its:List (List Int × List V)} (hq:∀ q ∈ its,∃ p,q = itF p) (h:its.Pairwise fun x y=>ltL x.1 y.1 = true):(its.map itB).Pairwise fun a b=>a.1 < b.1:=by
 rw [List.pairwise_map]
 refine h.imp_of_mem fun {x y} hx hy hlt=>?_
 obtain ⟨p,rfl⟩:=hq x hx
 obtain ⟨r,rfl⟩:=hq y hy
 rw [itBF,itBF]
 have e:ltL [(p.1:Int)] [(r.1:Int)] = true:=hlt
 unfold ltL at e
 split at e
 ·rename_i c; simp [ltL] at e
 ·have:=of_decide_eq_true e; omega
theorem ZH {ns:NS} {l:List Wt}:(l.flatMap (uQ ns)).length = lsum nlen l:=by
 induction l with
 | nil=>rfl
 | cons w l ih =>
  show (uQ ns w ++ l.flatMap (uQ ns)).length = w.nums.length + lsum nlen l
  rw [List.length_append,ih]
  show (w.nums.map _).length + _ = _
  rw [List.length_map]
theorem UN {tl:List (Nat × Int)} (h:(tl.map (·.1)).Nodup):((tl.map itF).map (·.1)).Nodup:=by
 rw [List.map_map]
 have e:((fun x:List Int × List V=>x.1) ∘ itF) = (fun n:Nat=>[(n:Int)]) ∘ (fun p:Nat × Int=>p.1):=rfl
 rw [e,← List.map_map]
 exact List.Nodup.map_on5 h
where
 List.Nodup.map_on5:∀ {l:List Nat},l.Nodup -> (l.map fun n:Nat=>[(n:Int)]).Nodup
 | [],_=>List.nodup_nil
 | n :: l,h=>by
  obtain ⟨h1,h2⟩:=List.nodup_cons.mp h
  refine List.nodup_cons.mpr ⟨fun z=>?_,List.Nodup.map_on5 h2⟩
  obtain ⟨m,hm,e⟩:=List.mem_map.mp z
  have:(m:Int) = n:=by injection e
  exact h1 (by rw [← Int.ofNat_inj.mp this]; exact hm)
theorem tU:∀ {g f:List (Nat × Int)},(g.foldl (fun f p=>putN f p.1 p.2) f).length <= f.length + g.length
 | [],_=>Nat.le_refl _
 | p :: g,f=>by
  have h1:=tU (g:=g) (f:=putN f p.1 p.2)
  have h2:=ZE (f:=f) (n:=p.1) (v:=p.2)
  show (g.foldl _ (putN f p.1 p.2)).length <= f.length + (g.length + 1)
  omega
theorem X5 {tl:List (Nat × Int)}:(qE tl).length <= tl.length:=by
 have:=tU (g:=tl) (f:=[])
 show (tl.foldl _ []).length <= _
 simpa using this
theorem tV {it:TI} {g:TG} {tb r:TS} {D:Ends} {σ:L2.St} {H:Hp} (Good:L2.St -> Hp -> Prop) (hc:∀ D':Ends,(∀ σ' H',Good σ' H' -> D'.nx σ' H') -> tFor it g tb D' σ H) (hr:∀ σ' H',Good σ' H' -> r D σ' H'):tSeq (tFor it g tb) r D σ H:=hc _ hr
abbrev dc2 (kx vx t0 i0 t1 i1:Expr) (ifs:List Expr) (scope:Scope) (pos:Pos):Expr:=.DictComp kx vx [⟨t0,i0,[],0⟩,⟨t1,i1,ifs,0⟩] scope pos
section
variable {prog:Program} {w:World} {A:Around} {R:Result -> Shared -> Prop} {s:Shared}
variable {kx vx t0 i0 t1 i1:Expr} {ifs:List Expr} {scope:Scope} {pos:Pos} {it acc:Value} {env:Env} {D:Addr}
theorem UO:compTurn (dc2 kx vx t0 i0 t1 i1 ifs scope pos) 0 it acc env = (do
      standAt i0.pos
      match ← pyNext it with
      | none=>pure (.done .next)
      | some u =>
        letOwnedTupleGo t0 it u
        assign t0 env u
        let mut ko:=true
        for d in ([]:List Expr) do
          if ko then ko ← isTrue d env (eval d env)
        if ko then
          let y ← eval i1 env
          standAt i1.pos
          let y ← foldedSetIterable i1 env y
          let _ ← runOwn (.compStart (dc2 kx vx t0 i0 t1 i1 ifs scope pos) 1 (← holding [y] (pyIter y)) acc env) env
        again (.compLoop (dc2 kx vx t0 i0 t1 i1 ifs scope pos) 0 it acc env)):=by rfl
theorem UP:compTurn (dc2 kx vx t0 i0 t1 i1 ifs scope pos) 1 it (.ref D) env = (do
      standAt i1.pos
      match ← pyNext it with
      | none=>pure (.done .next)
      | some u =>
        letOwnedTupleGo t1 it u
        assign t1 env u
        let mut ko:=true
        for d in ifs do
          if ko then ko ← isTrue d env (eval d env)
        if ko then
          (do
            let kv ← eval kx env
            let vv ← holding [kv] (eval vx env)
            standAt { kx.pos with endLine:=vx.pos.endLine,endCol:=vx.pos.endCol }
            holding [kv,vv] (dictSet D kv vv))
        again (.compLoop (dc2 kx vx t0 i0 t1 i1 ifs scope pos) 1 it (.ref D) env)):=by rfl
theorem UQ (I:Nat -> Shared -> Prop)
  (turn:∀ n s,I n s -> wpAny (model prog w) A (pyNext it) (fun r s₁=>match r with
   | none=>R (.ok .next) s₁
   | some v=>wpAny (model prog w) A (letOwnedTupleGo t1 it v) (fun _ s₂=>wpAny (model prog w) A (assign t1 env v) (fun _ s₃ =>
     wpAny (model prog w) A (forIn ifs true fun c r=>if r = true then do let ok ← isTrue c env (eval c env); pure (ForInStep.yield ok) else pure (ForInStep.yield r)) (fun ok s₄ =>
      if ok = true then wpAny (model prog w) A (eval kx env) (fun kv s₅=>wpAny (model prog w) A (eval vx env) (fun vv s₆ =>
       wpAny (model prog w) A (dictSet D kv vv) (fun _ s₇=>∃ m,m < n /\ I m s₇) noX s₆) noX s₅) noX s₄
      else ∃ m,m < n /\ I m s₄) noX s₃) noX s₂) noX s₁) noX s)
  (n:Nat) (h:I n s):codeAny (model prog w) A (.compLoop (dc2 kx vx t0 i0 t1 i1 ifs scope pos) 1 it (.ref D) env) R s:=by
 refine codeAny_loop rfl I (fun n s hI=>?_) n h
 show wpAny _ A ((compTurn (dc2 kx vx t0 i0 t1 i1 ifs scope pos) 1 it (.ref D) env).onRaise (fun x=>do noteFrame x env; theTreesLotGoes x)) _ _ s
 refine wpAny_noted ?_
 rw [UP]
 have no:∀ (E:VS7) (e:Value) (s:Shared),noX e s -> E e s:=fun _ _ _ f=>f.elim
 refine wpAny_bind (wpAny_standAt (wpAny_bind (wpAny_mono (turn n s hI) (fun r s₁ h₁=>?_) (no _))))
 cases r with
 | none=>exact wpAny_pure h₁
 | some v =>
  refine wpAny_bind (wpAny_mono h₁ (fun _ s₂ h₂=>?_) (no _))
  refine wpAny_bind (wpAny_mono h₂ (fun _ s₃ h₃=>wpAny_bind (wpAny_mono h₃ (fun ok s₄ h₄=>?_) (no _))) (no _))
  cases ok with
  | false=>exact wpAny_pure ⟨rfl,h₄⟩
  | true =>
   exact wpAny_bind (wpAny_bind (wpAny_mono h₄ (fun kv s₅ h₅=>wpAny_bind (wpAny_holding (wpAny_mono h₅ (fun vv s₆ h₆=>wpAny_bind (wpAny_standAt (wpAny_holding (wpAny_mono h₆ (fun _ s₇ h₇=>wpAny_pure ⟨rfl,h₇⟩) (no _))))) (no _)))) (no _)))
theorem UR (I:Nat -> Shared -> Prop) (hs:∀ x,foldedSetIterable i1 env x = pure x)
  (turn:∀ n s,I n s -> wpAny (model prog w) A (pyNext it) (fun r s₁=>match r with
   | none=>R (.ok .next) s₁
   | some v=>wpAny (model prog w) A (letOwnedTupleGo t0 it v) (fun _ s₂=>wpAny (model prog w) A (assign t0 env v) (fun _ s₃ =>
     wpAny (model prog w) A (eval i1 env) (fun y s₄=>wpAny (model prog w) A (pyIter y) (fun j s₅ =>
      codeAny (model prog w) A (.compStart (dc2 kx vx t0 i0 t1 i1 ifs scope pos) 1 j acc env) (fun r s'=>match r with | .ok _=>∃ m,m < n /\ I m s' | .error _=>False) s₅) noX s₄) noX s₃) noX s₂) noX s₁) noX s)
  (n:Nat) (h:I n s):codeAny (model prog w) A (.compLoop (dc2 kx vx t0 i0 t1 i1 ifs scope pos) 0 it acc env) R s:=by
 refine codeAny_loop rfl I (fun n s hI=>?_) n h
 show wpAny _ A ((compTurn (dc2 kx vx t0 i0 t1 i1 ifs scope pos) 0 it acc env).onRaise (fun x=>do noteFrame x env; theTreesLotGoes x)) _ _ s
 refine wpAny_noted ?_
 rw [UO]
 have no:∀ (E:VS7) (e:Value) (s:Shared),noX e s -> E e s:=fun _ _ _ f=>f.elim
 refine wpAny_bind (wpAny_standAt (wpAny_bind (wpAny_mono (turn n s hI) (fun r s₁ h₁=>?_) (no _))))
 cases r with
 | none=>exact wpAny_pure h₁
 | some v =>
  refine wpAny_bind (wpAny_mono h₁ (fun _ s₂ h₂=>?_) (no _))
  refine wpAny_bind (wpAny_mono h₂ (fun _ s₃ h₃=>wpAny_bind (wpAny_pure ?_)) (no _))
  simp only [if_true]
  refine wpAny_bind (wpAny_mono h₃ (fun y s₄ h₄=>wpAny_bind (wpAny_standAt (wpAny_bind (wpAny_of_eq (hs y) (wpAny_bind (wpAny_holding (wpAny_mono h₄ (fun j s₅ h₅=>?_) (no _)))))))) (no _))
  refine wpAny_bind (wpAny_runOwn (codeAny_mono h₅ fun r s' hr=>?_))
  cases r with
  | ok f=>first
    | exact wpAny_pure ⟨rfl,hr⟩
    | exact wpAny_pure (wpAny_pure ⟨rfl,hr⟩)
  | error e=>exact hr.elim
theorem Vl (h0:codeAny (model prog w) A (.compLoop (dc2 kx vx t0 i0 t1 i1 ifs scope pos) 1 it acc env) R s)
  (h:wpAny (model prog w) A (pyIter it) (fun it' s'=>codeAny (model prog w) A (.compLoop (dc2 kx vx t0 i0 t1 i1 ifs scope pos) 1 it' acc env) R s') noX s) :
  codeAny (model prog w) A (.compStart (dc2 kx vx t0 i0 t1 i1 ifs scope pos) 1 it acc env) R s:=by
 refine codeAny_of_tree ?_
 show wpAny _ _ ((compStart (dc2 kx vx t0 i0 t1 i1 ifs scope pos) 1 it acc env).onRaise (fun x=>do noteFrame x env; standAt theWindowsPlace)) _ _ s
 refine wpAny_notedAt ?_
 unfold compStart
 show wpAny _ _ (ask >>= _) _ _ s
 have no:∀ (E:VS7) (e:Value) (s:Shared),noX e s -> E e s:=fun _ _ _ f=>f.elim
 refine wpAny_bind (wpAny_askSetting (wpAny_ite ?_))
 split
 ·first
   | exact wpAny_bind (wpAny_pure (wpAny_pure ⟨rfl,h0⟩))
   | exact wpAny_pure ⟨rfl,h0⟩
 ·first
   | exact wpAny_bind (wpAny_rule (wpAny_bind (wpAny_standAt (wpAny_bind (wpAny_mono h (fun jt s' q=>wpAny_pure ⟨rfl,q⟩) (no _))))))
   | (refine wpAny_bind (wpAny_rule ?_); show wpAny _ _ (standAt i1.pos >>= _) _ _ s; exact wpAny_bind (wpAny_standAt (wpAny_bind (wpAny_mono h (fun jt s' q=>wpAny_pure ⟨rfl,q⟩) (no _)))))
end
def InWF (J:It) (kvs0:List (List Key × V)) (Hb0:Hp) (σ0:L2.St) (H1:Hp) (g:TG) (tt:TT) (tk tv:TE) (Out:List (List Key × V) -> Hp -> L2.St -> Hp -> Prop):Prop :=
 ∃ W:Nat -> Nat -> List (List Key × V) -> Hp -> L2.St -> Hp -> Prop,(∃ m,W 0 m kvs0 Hb0 σ0 H1) /\ ∀ i m kvs Hb σ' H',W i m kvs Hb σ' H' →
  (J.stop i H' /\ Out kvs Hb σ' H') ∨
  (J.go i H' /\ ∃ Nn:List (List Key × V) -> Hp -> L2.St -> Hp -> Prop,(∀ zs Hc σ2 H2,Nn zs Hc σ2 H2 -> ∃ m',m' < m /\ W (i + 1) m' zs Hc σ2 H2) ∧
   ∀ x H2,J.yld i H' x H2 -> g x σ' H2 fun σ2 H3=>tt σ2 H3 fun b H4=>if b = true then tk σ2 H4 fun y H5=>tv σ2 H5 fun v H6=>kvs.length < sizeLine /\ ∃ b ks,y = .ref b /\ H6 b = some (.tup (ks.map kV)) /\ (∀ c xs,Hb c = some (.tup xs) -> H6 c = some (.tup xs)) /\ Nn (putK kvs ks v) H6 σ2 H6 else Nn kvs Hb σ2 H4)
def X6 (J:It) (σ0:L2.St) (H1:Hp) (g0:TG) (wi1:TI) (g1:TG) (tt:TT) (tk tv:TE) (Q:VK):Prop :=
 ∃ W:Nat -> Nat -> List (List Key × V) -> Hp -> L2.St -> Hp -> Prop,(∃ m,W 0 m [] H1 σ0 H1) /\ ∀ i m kvs Hb σ' H',W i m kvs Hb σ' H' →
  (J.stop i H' /\ (∀ b xs,Hb b = some (.tup xs) -> H' b = some (.tup xs)) /\ ∀ l,H' l = none -> Q (.ref l) (upd H' l (.dT kvs))) ∨
  (J.go i H' /\ ∃ Nn:List (List Key × V) -> Hp -> L2.St -> Hp -> Prop,(∀ zs Hc σ2 H2,Nn zs Hc σ2 H2 -> ∃ m',m' < m /\ W (i + 1) m' zs Hc σ2 H2) ∧
   ∀ x H2,J.yld i H' x H2 -> g0 x σ' H2 fun σ2 H3=>wi1 σ2 H3 fun J2 H4=>InWF J2 kvs Hb σ2 H4 g1 tt tk tv Nn)
def Sf (wi:TI) (sub:List (Option Nat)) (g0:TG) (wi1:TI) (g1:TG) (tt:TT) (tk tv:TE):TE:=fun σ H Q=>wi σ H fun J H1=>X6 J (capt sub σ) H1 g0 wi1 g1 tt tk tv Q
section
variable {Y:Cx} {pins:List (Addr × Obj)} {D it2:Addr} {fp2:List Addr} {tn2:Nat -> Heap -> Prop} {J2:It} {y:Str} {py pos:Pos} {kx vx t0 i0 i1:Expr} {ifs:List Expr} {scope:Scope} {g1:TG} {tt:TT} {tk tv:TE} {Out:List (List Key × V) -> Hp -> L2.St -> Hp -> Prop} {W:Nat -> Nat -> List (List Key × V) -> Hp -> L2.St -> Hp -> Prop} {R:Result -> Shared -> Prop}
theorem Sg (hu:Y.A.units + 1 < cLine) (hxe:Y.xe = noX) (hcalm:Y.calm = true) (T:Turn Y.prog Y.w Y.K (.Name y py) J2 fp2 it2 tn2) (hD:∀ H':Hp,H' D = none -> FpOk Y pins H' D) (f2:∀ b ∈ fp2,∀ H':Hp,H' b = none -> FpOk Y pins H' b) (hDf:D ∉ fp2)
  (hg:PG Y (.Name y py) g1) (ht:PIfs Y ifs tt) (hk:PE Y kx tk) (he:PE Y vx tv)
  (turn:∀ i m kvs Hb σ' H',W i m kvs Hb σ' H' -> (J2.stop i H' /\ Out kvs Hb σ' H') ∨
   (J2.go i H' /\ ∃ Nn:List (List Key × V) -> Hp -> L2.St -> Hp -> Prop,(∀ zs Hc σ2 H2,Nn zs Hc σ2 H2 -> ∃ m',m' < m /\ W (i + 1) m' zs Hc σ2 H2) ∧
    ∀ x H2,J2.yld i H' x H2 -> g1 x σ' H2 fun σ2 H3=>tt σ2 H3 fun b H4=>if b = true then tk σ2 H4 fun y H5=>tv σ2 H5 fun v H6=>kvs.length < sizeLine /\ ∃ b ks,y = .ref b /\ H6 b = some (.tup (ks.map kV)) /\ (∀ c xs,Hb c = some (.tup xs) -> H6 c = some (.tup xs)) /\ Nn (putK kvs ks v) H6 σ2 H6 else Nn kvs Hb σ2 H4))
  (hR:∀ (kvs:List (List Key × V)) (Hb:Hp) (o:Obj) (σ':L2.St) (H':Hp) (s':Shared),Inv Y pins σ' H' s' -> H' D = none -> DRaw Y.prog Y.w Hb s'.heap D o kvs -> Out kvs Hb σ' H' -> R (.ok .next) s')
  (n:Nat) (s:Shared) (h:∃ i kvs Hb o σ' H',Inv Y pins σ' H' s /\ tn2 i s.heap /\ (∀ b ∈ fp2,H' b = none) /\ H' D = none /\ DRaw Y.prog Y.w Hb s.heap D o kvs /\ W i n kvs Hb σ' H') :
  codeAny (model Y.prog Y.w) Y.A (.compLoop (dc2 kx vx t0 i0 (.Name y py) i1 ifs scope pos) 1 (.ref it2) (.ref D) Y.env) R s:=by
 refine UQ (fun n s=>∃ i kvs Hb o σ' H',Inv Y pins σ' H' s /\ tn2 i s.heap /\ (∀ b ∈ fp2,H' b = none) /\ H' D = none /\ DRaw Y.prog Y.w Hb s.heap D o kvs /\ W i n kvs Hb σ' H') ?_ n h
 rintro n s ⟨i,kvs,Hb,o,σ',H',I',st',fr,hn,rv,w'⟩
 have hy:s.heap.get? D = some o:=let ⟨_,_,_,_,_,_,e,_⟩:=rv; e
 obtain ⟨_,dL,dF,dE,dC,dP⟩:=hD H' hn
 have pD:Inv Y (pins ++ [(D,o)]) σ' H' s:=I'.pins_of fun p hp=>by
  rcases List.mem_append.mp hp with hp | hp
  ·exact I'.pin p (List.mem_append_right _ hp)
  ·rw [List.mem_singleton.mp hp]
   exact ⟨hy,hn,dL,dF,rv.nocell⟩
 have fpok:∀ {H'':Hp},(∀ b ∈ fp2,H'' b = none) -> ∀ b ∈ fp2,FpOk Y (pins ++ [(D,o)]) H'' b:=fun hz b hb=>by
  obtain ⟨q0,q1,q2,q3,q4,q5⟩:=f2 b hb _ (hz b hb)
  refine ⟨q0,q1,q2,q3,q4,fun p hp=>?_⟩
  rcases List.mem_append.mp hp with hp | hp
  ·exact q5 p (List.mem_append_left _ hp)
  ·rcases List.mem_append.mp hp with hp | hp
   ·exact q5 p (List.mem_append_right _ hp)
   ·rw [List.mem_singleton.mp hp]; exact fun z=>hDf (by rw [show D = b from z]; exact hb)
 rcases turn i n kvs Hb σ' H' w' with ⟨stop,q⟩ | ⟨go,Nn,hN,step⟩
 ·refine thn (T.done Y rfl rfl rfl hcalm i _ s σ' H' noX pD (fpok fr) st' stop) fun r s1 ⟨hr,I1⟩=>?_
  subst hr
  exact hR kvs Hb o σ' H' s1 I1.unpinned hn (rv.at (I1.pin (D,o) (by simp)).1) q
 ·refine thn (T.item Y rfl rfl rfl hcalm i _ s σ' H' noX pD (fpok fr) st' go) fun r s1 ⟨u,hr,h4⟩=>?_
  subst hr
  refine thn h4 fun _ s2 ⟨x5,H5,I5,r5,y5,st5,fr5⟩=>?_
  have I5':=I5.pinned (fpok fr5) (T.obj _ _ st5)
  have hg5:=hg _ s2 σ' H5 x5 u _ I5' r5 (step x5 H5 y5)
  rw [hxe] at hg5
  refine thn hg5 fun _ s3 ⟨σ6,H6,I6,q6⟩=>?_
  have ht6:=ht _ s3 σ6 H6 _ I6 q6
  rw [hxe] at ht6
  refine thn ht6 fun ok s4 ⟨H7,I7,q7⟩=>?_
  have stay:∀ {σ7:L2.St} {H7:Hp} {s7:Shared},Inv Y (pins ++ [(D,o)] ++ wI fp2 s2.heap) σ7 H7 s7 →
    (∀ b ∈ fp2,∀ o,s2.heap.get? b = some o -> s7.heap.get? b = some o) /\ (∀ b ∈ fp2,H7 b = none) /\ H7 D = none /\ s7.heap.get? D = some o:=fun {σ7 H7 s7} I7=>by
   have d:=I7.pin (D,o) (by simp)
   refine ⟨fun b hb o e=>(I7.pin (b,o) (List.mem_append_right _ (List.mem_append_right _ (yx hb e)))).1,fun b hb=>?_,d.2.1,d.1⟩
   obtain ⟨o,e,_⟩:=T.obj _ _ st5 b hb
   exact (I7.pin (b,o) (List.mem_append_right _ (List.mem_append_right _ (yx hb e)))).2.1
  cases ok with
  | false =>
   rw [if_neg (by decide)] at q7 ⊢
   obtain ⟨k1,k2,k3,k4⟩:=stay I7
   obtain ⟨m',hm,w7⟩:=hN kvs Hb σ6 H7 q7
   exact ⟨m',hm,i + 1,kvs,Hb,o,σ6,H7,I7.unpinned.unpinned,T.keep _ _ _ st5 k1,k2,k3,rv.at k4,w7⟩
  | true =>
   rw [if_pos rfl] at q7 ⊢
   have hk7:=hk _ s4 σ6 H7 _ I7 q7
   rw [hxe] at hk7
   refine thn hk7 fun kv s5 ⟨y,H8,I8,ry,q8⟩=>?_
   have he8:=he _ s5 σ6 H8 _ I8 q8
   rw [hxe] at he8
   refine thn he8 fun vv s6 ⟨v,H9,I9,r9,hl9,b,ks,ey,eb,tp,n9⟩=>?_
   subst ey
   cases (show kv = Value.ref b from ry)
   obtain ⟨k1,k2,k3,k4⟩:=stay I9
   obtain ⟨z,hd,xs,rel,es,ep,h1,h2,h3,h4',h5⟩:=rv.at k4
   have dd:s6.heap.DictOfH (tupleKind (zH Y.prog Y.w)) D xs:=by
    refine ⟨o,es,ep,h1,h2,h3,h4',fun x hx=>?_,h5⟩
    have all:∀ {l:List (List Key × V)} {m:List (List Key × Addr × Value)},KT Hb l m -> ∀ x ∈ m,(tupleKind (zH Y.prog Y.w)).is s6.heap x.1 x.2.1:=by
     intro l m q
     induction q with
     | nil=>intro x hx; exact nomatch hx
     | @cons p q ps qs hq t ih =>
      intro x hx
      rcases List.mem_cons.mp hx with e | hx
      ·subst e
       exact uk I9.hok (by rw [← hq.1]; exact tp _ _ hq.2.1)
      ·exact ih x hx
    exact all rel x hx
   have xl:xs.length <= sizeLine:=by rw [← Paired.length rel]; exact z
   refine wpAny_dictSet_heap (hsz:=xl) (show (tupleKind (zH Y.prog Y.w)).room Y.A from Nat.lt_of_succ_lt hu) (uk I9.hok eb) dd fun h' dd' sb=>?_
   obtain ⟨o',es',ep',hq1,hq2,hq3,hq4,_,hq5⟩:=dd'
   obtain ⟨m',hm,w9⟩:=hN _ _ σ6 H9 n9
   have pl:=yh kvs ks v
   refine ⟨m',hm,i + 1,putK kvs ks v,H9,o',σ6,H9,?_,T.keep _ _ _ (T.keep _ _ _ st5 k1) fun b hb o e=>sb.extBut b o (fun z=>hDf (by rw [← z]; exact hb)) e,k2,k3,⟨by omega,hd,_,(KT.keeps rel tp).put ks eb r9,es',ep',hq1,hq2,hq3,hq4,hq5⟩,w9⟩
   exact (I9.unpinned.unpinned).turned (it:=D) (t':=_) (h':=h') (fun b o hb e=>sb.extBut b o hb e) k3 dL dE dC dP
end
section
variable {X:Cx} {pins:List (Addr × Obj)} {σ:L2.St} {H2:Hp} {s₂:Shared} {it:Addr} {fp:List Addr} {tn:Nat -> Heap -> Prop} {J:It} {scope:Scope} {cl:List (Str × Addr)} {N':List Str} {sub:List (Option Nat)}
theorem runF {C D:Addr} {s₀:Shared} {x y:Str} {px py pos:Pos} {kx vx i0 i1:Expr} {ifs:List Expr} {g0 g1:TG} {wi1:TI} {tt:TT} {tk tv:TE} {Q:VK} {RR:Value -> Addr -> Result -> Shared -> Prop} {W:Nat -> Nat -> List (List Key × V) -> Hp -> L2.St -> Hp -> Prop}
  (hu:X.A.units + 1 < cLine) (I:Inv X pins σ H2 s₂) (hcalm:X.calm = true) (T:Turn X.prog X.w X.K (.Name x px) J fp it tn) (f2:∀ b ∈ fp,FpOk X pins H2 b) (hfp:∀ b ∈ fp,b < s₂.heap.objs.size)
  (hs₀:∀ b o,s₂.heap.get? b = some o -> s₀.heap.get? b = some o) (hos:s₀.os = s₂.os) (hD:s₂.heap.objs.size <= D) (hC:s₂.heap.objs.size <= C) (hDC:D ≠ C)
  (hcl1:∀ x c,cl.lookup x = some c -> X.env.cells.lookup x = some c)
  (hg0:PG (cxC X N' scope cl C D fp s₀ H2) (.Name x px) g0) (hi1:PI (cxC X N' scope cl C D fp s₀ H2) (.Name y py) i1 wi1) (hg1:PG (cxC X N' scope cl C D fp s₀ H2) (.Name y py) g1) (ht:PIfs (cxC X N' scope cl C D fp s₀ H2) ifs tt) (hk:PE (cxC X N' scope cl C D fp s₀ H2) kx tk) (he:PE (cxC X N' scope cl C D fp s₀ H2) vx tv)
  (hss:∀ v,foldedSetIterable i1 (compEnvC scope cl C X.env) v = pure v)
  (turn:∀ i m kvs Hb σ' H',W i m kvs Hb σ' H' →
   (J.stop i H' /\ (∀ b xs,Hb b = some (.tup xs) -> H' b = some (.tup xs)) /\ ∀ l,H' l = none -> Q (.ref l) (upd H' l (.dT kvs))) ∨
   (J.go i H' /\ ∃ Nn:List (List Key × V) -> Hp -> L2.St -> Hp -> Prop,(∀ zs Hc σ2 H2,Nn zs Hc σ2 H2 -> ∃ m',m' < m /\ W (i + 1) m' zs Hc σ2 H2) ∧
    ∀ x H2,J.yld i H' x H2 -> g0 x σ' H2 fun σ2 H3=>wi1 σ2 H3 fun J2 H4=>InWF J2 kvs Hb σ2 H4 g1 tt tk tv Nn))
  (hRR:∀ (D C:Addr) (oC:Obj) (m:Str -> Option Value) (s':Shared) (Hf:Hp),Inv X (pins ++ [(C,oC)]) σ Hf s' -> s'.heap.Ns C m -> FpOk X pins Hf C -> Q (.ref D) Hf -> RR (.ref D) C (.ok .next) s')
  (n:Nat) (s:Shared) (h:∃ i kvs Hb o σ' H',Inv (cxC X N' scope cl C D fp s₀ H2) pins σ' H' s /\ tn i s.heap /\ (∀ b ∈ fp,H' b = none) /\ H' D = none ∧
   DRaw X.prog X.w Hb s.heap D o kvs /\ W i n kvs Hb σ' H') :
  codeAny (model X.prog X.w) X.A (.compLoop (dc2 kx vx (.Name x px) i0 (.Name y py) i1 ifs scope pos) 0 (.ref it) (.ref D) (compEnvC scope cl C X.env)) (RR (.ref D) C) s:=by
 have frsz:∀ b ∈ frs X.stack,b < s₂.heap.objs.size:=fun b hb=>by
  rcases List.mem_cons.mp (I.stkSub b hb) with z | z
  ·rw [z]; exact I.lt
  ·exact Nat.lt_of_not_le fun q=>I.nofs q z
 have cells:∀ x c,cl.lookup x = some c -> c < s₂.heap.objs.size:=fun x c e=>let ⟨v,q⟩:=I.cell x c (hcl1 x c e); q.lt
 have pinsz:∀ p ∈ X.pn ++ pins,p.1 < s₂.heap.objs.size:=fun p hp=>Heap.lt_size (I.pin p hp).1
 refine UR (fun n s=>∃ i kvs Hb o σ' H',Inv (cxC X N' scope cl C D fp s₀ H2) pins σ' H' s /\ tn i s.heap /\ (∀ b ∈ fp,H' b = none) /\ H' D = none ∧
   DRaw X.prog X.w Hb s.heap D o kvs /\ W i n kvs Hb σ' H') hss ?_ n h
 rintro n s ⟨i,kvs,Hb,o,σ',H',I',st',fr,hn,rv,w'⟩
 have hy:s.heap.get? D = some o:=let ⟨_,_,_,_,_,_,e,_⟩:=rv; e
 have pD:Inv (cxC X N' scope cl C D fp s₀ H2) (pins ++ [(D,o)]) σ' H' s:=I'.pins_of fun p hp=>by
  rcases List.mem_append.mp hp with hp | hp
  ·exact I'.pin p (List.mem_append_right _ hp)
  ·rw [List.mem_singleton.mp hp]
   exact ⟨hy,hn,hDC,fun z=>absurd (Nat.lt_of_lt_of_le (frsz _ z) hD) (Nat.lt_irrefl _),rv.nocell⟩
 have fpok:∀ {H'':Hp},(∀ b ∈ fp,H'' b = none) -> ∀ b ∈ fp,FpOk (cxC X N' scope cl C D fp s₀ H2) (pins ++ [(D,o)]) H'' b:=fun hz b hb=>by
  refine ⟨hz b hb,Nat.ne_of_lt (Nat.lt_of_lt_of_le (hfp b hb) hC),fun z=>?_,.inl (List.mem_cons_of_mem _ hb),fun x c e=>(f2 b hb).2.2.2.2.1 x c (hcl1 x c e),fun p hp=>?_⟩
  ·rcases List.mem_cons.mp (I.stkSub b z) with z | z
   ·exact (f2 b hb).2.1 z
   ·exact (f2 b hb).2.2.1 z
  ·rcases List.mem_append.mp hp with hp | hp
   ·exact (f2 b hb).2.2.2.2.2 p (List.mem_append_left _ hp)
   ·rcases List.mem_append.mp hp with hp | hp
    ·exact (f2 b hb).2.2.2.2.2 p (List.mem_append_right _ hp)
    ·rw [List.mem_singleton.mp hp]
     exact Nat.ne_of_gt (Nat.lt_of_lt_of_le (hfp b hb) hD)
 rcases turn i n kvs Hb σ' H' w' with ⟨stop,hbt,q⟩ | ⟨go,Nn,hN,step⟩
 ·refine thn (T.done (cxC X N' scope cl C D fp s₀ H2) rfl rfl rfl hcalm i _ s σ' H' noX pD (fpok fr) st' stop) fun r s1 ⟨hr,I1⟩=>?_
  subst hr
  have hy1:=(I1.pin (D,o) (by simp)).1
  obtain ⟨m,hm,_⟩:=I1.loc
  obtain ⟨oC,es,ep,hoC,hdC,_⟩:=id hm
  obtain ⟨IX,fpc⟩:=XD I hs₀ hos hD hC hDC f2 I1.unpinned hn hbt (rv.at hy1) hoC (by intro v z; rw [hdC] at z; cases z)
  exact hRR D C oC m s1 _ IX hm fpc (q D hn)
 ·refine thn (T.item (cxC X N' scope cl C D fp s₀ H2) rfl rfl rfl hcalm i _ s σ' H' noX pD (fpok fr) st' go) fun r s1 ⟨u,hr,h4⟩=>?_
  subst hr
  refine thn h4 fun _ s2 ⟨x5,H5,I5,r5,y5,st5,fr5⟩=>?_
  have I5':=I5.pinned (fpok fr5) (T.obj _ _ st5)
  refine thn (hg0 _ s2 σ' H5 x5 u _ I5' r5 (step x5 H5 y5)) fun _ s3 ⟨σ6,H6,I6,q6⟩=>?_
  refine thn (hi1 _ s3 σ6 H6 _ I6 q6) fun v s4 h4'=>?_
  refine thn h4' fun itv s5 ⟨it2,fp2,tn2,J2,H7,e2,I7,T2,st7,f7,W2,⟨m2,w2⟩,turn2⟩=>?_
  subst e2
  have dpin:=I7.pin (D,o) (by simp)
  have I8:Inv (cxC X N' scope cl C D fp s₀ H2) (pins ++ wI fp s2.heap) σ6 H7 s5:=I7.pins_of fun p hp=>I7.pin p (by
   rcases List.mem_append.mp hp with hp | hp
   ·exact List.mem_append_right _ (List.mem_append_left _ (List.mem_append_left _ hp))
   ·exact List.mem_append_right _ (List.mem_append_right _ hp))
  have hDfp2:D ∉ fp2:=fun z=>(f7 D z).2.2.2.2.2 (D,o) (by simp) rfl
  have hDok:∀ H':Hp,H' D = none -> FpOk (cxC X N' scope cl C D fp s₀ H2) (pins ++ wI fp s2.heap) H' D:=fun H' hn'=>by
   refine ⟨hn',hDC,fun z=>absurd (Nat.lt_of_lt_of_le (frsz _ z) hD) (Nat.lt_irrefl _),.inl (by simp),fun x c e=>Nat.ne_of_lt (Nat.lt_of_lt_of_le (cells x c e) hD),fun p hp=>?_⟩
   rcases List.mem_append.mp hp with hp | hp
   ·exact Nat.ne_of_lt (Nat.lt_of_lt_of_le (pinsz p (List.mem_append_left _ hp)) hD)
   ·rcases List.mem_append.mp hp with hp | hp
    ·exact Nat.ne_of_lt (Nat.lt_of_lt_of_le (pinsz p (List.mem_append_right _ hp)) hD)
    ·obtain ⟨b,hb,e⟩:=List.mem_filterMap.mp hp
     have:p.1 = b:=by
      cases q:s2.heap.get? b with
      | none=>rw [q] at e; cases e
      | some o=>rw [q] at e; cases e; rfl
     rw [this]; exact Nat.ne_of_lt (Nat.lt_of_lt_of_le (hfp b hb) hD)
  have f8:∀ b ∈ fp2,∀ H':Hp,H' b = none -> FpOk (cxC X N' scope cl C D fp s₀ H2) (pins ++ wI fp s2.heap) H' b:=fun b hb H' hn'=>by
   obtain ⟨_,q1,q2,q3,q4,q5⟩:=f7 b hb
   refine ⟨hn',q1,q2,q3,q4,fun p hp=>q5 p ?_⟩
   rcases List.mem_append.mp hp with hp | hp
   ·exact List.mem_append_left _ hp
   ·rcases List.mem_append.mp hp with hp | hp
    ·exact List.mem_append_right _ (List.mem_append_left _ (List.mem_append_left _ hp))
    ·exact List.mem_append_right _ (List.mem_append_right _ hp)
  have loop:codeAny (model X.prog X.w) X.A (.compLoop (dc2 kx vx (.Name x px) i0 (.Name y py) i1 ifs scope pos) 1 (.ref it2) (.ref D) (compEnvC scope cl C X.env)) (fun r s'=>match r with
    | .ok _=>∃ m,m < n /\ ∃ i kvs Hb o σ' H',Inv (cxC X N' scope cl C D fp s₀ H2) pins σ' H' s' /\ tn i s'.heap /\ (∀ b ∈ fp,H' b = none) /\ H' D = none ∧
      DRaw X.prog X.w Hb s'.heap D o kvs /\ W i m kvs Hb σ' H'
    | .error _=>False) s5:=by
   refine Sg (Y:=cxC X N' scope cl C D fp s₀ H2) hu rfl hcalm T2 hDok f8 hDfp2 hg1 ht hk he turn2 ?_ m2 s5 ⟨0,kvs,Hb,o,σ6,H7,I8,st7,fun b hb=>(f7 b hb).1,dpin.2.1,rv.at dpin.1,w2⟩
   intro kvs9 Hb9 o9 σ9 H9 s9 I9 hn9 rv9 q9
   obtain ⟨m',hm,w9⟩:=hN kvs9 Hb9 σ9 H9 q9
   refine ⟨m',hm,i + 1,kvs9,Hb9,o9,σ9,H9,I9.unpinned,T.keep _ _ _ st5 fun b hb o e=>(I9.pin (b,o) (List.mem_append_right _ (List.mem_append_right _ (yx hb e)))).1,fun b hb=>?_,hn9,rv9,w9⟩
   obtain ⟨o,e,_⟩:=T.obj _ _ st5 b hb
   exact (I9.pin (b,o) (List.mem_append_right _ (List.mem_append_right _ (yx hb e)))).2.1
  exact Vl loop (T2.self _ _ _ _ _ st7 loop)
theorem jO {x y:Str} {px py pos:Pos} {kx vx i0 i1:Expr} {ifs:List Expr} {g0 g1:TG} {wi1:TI} {tt:TT} {tk tv:TE} {E:VS7} {Q:VK} {RR:Value -> Addr -> Result -> Shared -> Prop}
  (hu:X.A.units + 1 < cLine) (I:Inv X pins σ H2 s₂) (hcalm:X.calm = true) (T:Turn X.prog X.w X.K (.Name x px) J fp it tn) (st:tn 0 s₂.heap) (f2:∀ b ∈ fp,FpOk X pins H2 b)
  (S:CSc X scope N' sub) (hcl1:∀ x c,cl.lookup x = some c -> X.env.cells.lookup x = some c) (hcl2:∀ y ∈ scope.names,y.2 = .free -> ∃ c,cl.lookup y.1 = some c)
  (hg0:∀ C D fp s H,PG (cxC X N' scope cl C D fp s H) (.Name x px) g0) (hi1:∀ C D fp s H,PI (cxC X N' scope cl C D fp s H) (.Name y py) i1 wi1) (hg1:∀ C D fp s H,PG (cxC X N' scope cl C D fp s H) (.Name y py) g1) (ht:∀ C D fp s H,PIfs (cxC X N' scope cl C D fp s H) ifs tt) (hk:∀ C D fp s H,PE (cxC X N' scope cl C D fp s H) kx tk) (he:∀ C D fp s H,PE (cxC X N' scope cl C D fp s H) vx tv)
  (hss:∀ C v,foldedSetIterable i1 (compEnvC scope cl C X.env) v = pure v)
  (hW:X6 J (capt sub σ) H2 g0 wi1 g1 tt tk tv Q)
  (hRR:∀ (D C:Addr) (oC:Obj) (m:Str -> Option Value) (s':Shared) (Hf:Hp),Inv X (pins ++ [(C,oC)]) σ Hf s' -> s'.heap.Ns C m -> FpOk X pins Hf C -> Q (.ref D) Hf -> RR (.ref D) C (.ok .next) s') :
  wpAny (model X.prog X.w) X.A newDict (fun acc s₃=>wpAny (model X.prog X.w) X.A (newFunctionEnv scope X.env.globals cl [] X.env.qual none .none (some X.env)) (fun cenv s₄ =>
   codeAny (model X.prog X.w) X.A (.compStart (dc2 kx vx (.Name x px) i0 (.Name y py) i1 ifs scope pos) 0 (.ref it) acc { cenv with scope:=relabel scope X.env }) (RR acc cenv.locals) s₄) E s₃) E s₂:=by
 obtain ⟨W,⟨m0,w0⟩,turn⟩:=hW
 refine wpAny_newObj_type (wpAny_newFunctionEnv S.nocell (by intro y hy; simp at hy) (fun h₁ hns₁ hsb₁=>?_) S.kind)
 dsimp only at hns₁ hsb₁ ⊢
 have hC:(s₂.heap.push { cls:=.type "dict",dict:=none,data:=.dict #[] }).objs.size = s₂.heap.objs.size + 1:=Heap.size_push ..
 rw [hC] at hns₁ hsb₁ ⊢
 have hk1:∀ b o,(s₂.heap.push { cls:=.type "dict",dict:=none,data:=.dict #[] }).get? b = some o -> h₁.get? b = some o:=fun b o e =>
  hsb₁.extBut b o (by have:=Heap.lt_size e; rw [hC] at this; exact Nat.ne_of_lt this) (Heap.get?_push_of_some _ e)
 have hfp:∀ b ∈ fp,b < s₂.heap.objs.size:=fun b hb=>by
  obtain ⟨o,e,_⟩:=T.obj _ _ st b hb
  exact Heap.lt_size e
 have I0:=tD (tk:=s₂.toks + ([]:List (Str × Value)).length) I S hcl1 hcl2 f2 hfp hns₁ hk1
 have hD0:h₁.get? s₂.heap.objs.size = some { cls:=.type "dict",data:=.dict #[] }:=hk1 _ _ (Heap.get?_push_size _ rfl)
 obtain ⟨_,hd0,xs0,rel0,o0,es0,ep0,q1,q2,q3,q4,q5⟩:=(W3 (P:=X.prog) (w:=X.w) (H:=H2) s₂.heap I.big)
 rw [Heap.get?_push_size _ rfl] at q1
 cases q1
 have loop:codeAny (model X.prog X.w) X.A (.compLoop (dc2 kx vx (.Name x px) i0 (.Name y py) i1 ifs scope pos) 0 (.ref it) (.ref s₂.heap.objs.size) (compEnvC scope cl (s₂.heap.objs.size + 1) X.env)) (RR (.ref s₂.heap.objs.size) (s₂.heap.objs.size + 1)) { s₂ with heap:=h₁,toks:=s₂.toks + ([]:List (Str × Value)).length } :=
  runF (s₀:={ s₂ with heap:=s₂.heap.push { cls:=.type "dict",dict:=none,data:=.dict #[] } }) (C:=s₂.heap.objs.size + 1) (D:=s₂.heap.objs.size) hu I hcalm T f2 hfp (fun b o e=>Heap.get?_push_of_some _ e) rfl (Nat.le_refl _) (Nat.le_succ _) (Nat.ne_of_lt (Nat.lt_succ_self _)) hcl1 (hg0 _ _ _ _ _) (hi1 _ _ _ _ _) (hg1 _ _ _ _ _) (ht _ _ _ _ _) (hk _ _ _ _ _) (he _ _ _ _ _) (hss _) turn hRR m0 _
   ⟨0,[],H2,_,capt sub σ,H2,I0,T.keep _ _ _ st fun b hb o e=>hk1 b o (Heap.get?_push_of_some _ e),fun b hb=>(f2 b hb).1,I.hok.fresh (Nat.le_refl _),⟨Nat.zero_le _,hd0,[],.nil,es0,ep0,hD0,q2,q3,by cases rel0; exact q4,List.nodup_nil⟩,w0⟩
 exact codeAny_compStart_dict loop (T.self _ _ _ _ _ (T.keep _ _ _ st fun b hb o e=>hk1 b o (Heap.get?_push_of_some _ e)) loop)
end
section
variable {X:Cx} {scope:Scope} {N':List Str} {sub:List (Option Nat)} {x y:Str} {px py pos:Pos} {kx vx i0 i1:Expr} {ifs:List Expr} {wi wi1:TI} {g0 g1:TG} {tt:TT} {tk tv:TE}
theorem ZI (hu:X.A.units + 1 < cLine) (S:CSc X scope N' sub) (hcalm:X.calm = true) (hi:PI X (.Name x px) i0 wi)
  (hg0:∀ cl C D fp s H,PG (cxC X N' scope cl C D fp s H) (.Name x px) g0) (hi1:∀ cl C D fp s H,PI (cxC X N' scope cl C D fp s H) (.Name y py) i1 wi1) (hg1:∀ cl C D fp s H,PG (cxC X N' scope cl C D fp s H) (.Name y py) g1) (ht:∀ cl C D fp s H,PIfs (cxC X N' scope cl C D fp s H) ifs tt) (hk:∀ cl C D fp s H,PE (cxC X N' scope cl C D fp s H) kx tk) (he:∀ cl C D fp s H,PE (cxC X N' scope cl C D fp s H) vx tv)
  (hs:∀ x,foldedSetIterable i0 X.env x = pure x:=by intro _; rfl) (hss:∀ cl C v,foldedSetIterable i1 (compEnvC scope cl C X.env) v = pure v:=by intro _ _ _; rfl):PE X (dc2 kx vx (.Name x px) i0 (.Name y py) i1 ifs scope pos) (Sf wi sub g0 wi1 g1 tt tk tv):=by
 intro pins s σ H Q I h
 obtain ⟨cl,hclos,hcl1,hcl2⟩:=S.clos I
 rw [arm_eval_DictComp]
 refine wpAny_comprehension_free (use:=none) rfl hs hclos S.kind S.names (thn (hi pins s σ H _ I h) fun v s1 h1=>thn h1 fun itv s2 h2=>?_)
 obtain ⟨it,fp,tn,J,H2,e,I2,T,st2,f2,hW⟩:=h2
 subst e
 refine jO (RR:=fun acc C=>compPost (model X.prog X.w) X.A X.xe none (EP X pins σ Q) acc C) hu I2 hcalm T st2 f2 S hcl1 hcl2 (hg0 cl) (hi1 cl) (hg1 cl) (ht cl) (hk cl) (he cl) (hss cl) hW ?_
 intro D C oC m s' Hf IX hm fpc q
 refine ⟨m,hm,fun h' sb=>⟨.ref D,Hf,?_,rfl,q⟩⟩
 exact (IX.unpinned).turned (it:=C) (t':=s'.toks) (h':=h') (fun b o hb e=>sb.extBut b o hb e) fpc.1 fpc.2.1 fpc.2.2.2.1 fpc.2.2.2.2.1 fpc.2.2.2.2.2
end
section
variable {v0 v1 v2 v3 v4 v5 v6 v7 v8 v9 v10 v11:V}
theorem X7:putF "depth" v0 ([]:List (Str × V)) = ([("depth",v0)]:List (Str × V)):=by
 simp only [putF]
theorem Vm:putF "room" v1 ([("depth",v0)]:List (Str × V)) = ([("depth",v0),("room",v1)]:List (Str × V)):=by
 simp only [putF]
 repeat rw [if_neg (by decide +kernel)]
theorem rf:putF "most_kept" v2 ([("depth",v0),("room",v1)]:List (Str × V)) = ([("depth",v0),("room",v1),("most_kept",v2)]:List (Str × V)):=by
 simp only [putF]
 repeat rw [if_neg (by decide +kernel)]
theorem X8:putF "boxes" v3 ([("depth",v0),("room",v1),("most_kept",v2)]:List (Str × V)) = ([("depth",v0),("room",v1),("most_kept",v2),("boxes",v3)]:List (Str × V)):=by
 simp only [putF]
 repeat rw [if_neg (by decide +kernel)]
theorem Vn:putF "asks" v4 ([("depth",v0),("room",v1),("most_kept",v2),("boxes",v3)]:List (Str × V)) = ([("depth",v0),("room",v1),("most_kept",v2),("boxes",v3),("asks",v4)]:List (Str × V)):=by
 simp only [putF]
 repeat rw [if_neg (by decide +kernel)]
theorem US:putF "now" v5 ([("depth",v0),("room",v1),("most_kept",v2),("boxes",v3),("asks",v4)]:List (Str × V)) = ([("depth",v0),("room",v1),("most_kept",v2),("boxes",v3),("asks",v4),("now",v5)]:List (Str × V)):=by
 simp only [putF]
 repeat rw [if_neg (by decide +kernel)]
theorem X9:putF "lines" v6 ([("depth",v0),("room",v1),("most_kept",v2),("boxes",v3),("asks",v4),("now",v5)]:List (Str × V)) = ([("depth",v0),("room",v1),("most_kept",v2),("boxes",v3),("asks",v4),("now",v5),("lines",v6)]:List (Str × V)):=by
 simp only [putF]
 repeat rw [if_neg (by decide +kernel)]
theorem jP:putF "keeping" v7 ([("depth",v0),("room",v1),("most_kept",v2),("boxes",v3),("asks",v4),("now",v5),("lines",v6)]:List (Str × V)) = ([("depth",v0),("room",v1),("most_kept",v2),("boxes",v3),("asks",v4),("now",v5),("lines",v6),("keeping",v7)]:List (Str × V)):=by
 simp only [putF]
 repeat rw [if_neg (by decide +kernel)]
theorem jQ:putF "done_in" v8 ([("depth",v0),("room",v1),("most_kept",v2),("boxes",v3),("asks",v4),("now",v5),("lines",v6),("keeping",v7)]:List (Str × V)) = ([("depth",v0),("room",v1),("most_kept",v2),("boxes",v3),("asks",v4),("now",v5),("lines",v6),("keeping",v7),("done_in",v8)]:List (Str × V)):=by
 simp only [putF]
 repeat rw [if_neg (by decide +kernel)]
theorem Yy:putF "logged" v9 ([("depth",v0),("room",v1),("most_kept",v2),("boxes",v3),("asks",v4),("now",v5),("lines",v6),("keeping",v7),("done_in",v8)]:List (Str × V)) = ([("depth",v0),("room",v1),("most_kept",v2),("boxes",v3),("asks",v4),("now",v5),("lines",v6),("keeping",v7),("done_in",v8),("logged",v9)]:List (Str × V)):=by
 simp only [putF]
 repeat rw [if_neg (by decide +kernel)]
theorem Wa:putF "found" v10 ([("depth",v0),("room",v1),("most_kept",v2),("boxes",v3),("asks",v4),("now",v5),("lines",v6),("keeping",v7),("done_in",v8),("logged",v9)]:List (Str × V)) = ([("depth",v0),("room",v1),("most_kept",v2),("boxes",v3),("asks",v4),("now",v5),("lines",v6),("keeping",v7),("done_in",v8),("logged",v9),("found",v10)]:List (Str × V)):=by
 simp only [putF]
 repeat rw [if_neg (by decide +kernel)]
theorem jR:putF "answers" v11 ([("depth",v0),("room",v1),("most_kept",v2),("boxes",v3),("asks",v4),("now",v5),("lines",v6),("keeping",v7),("done_in",v8),("logged",v9),("found",v10)]:List (Str × V)) = ([("depth",v0),("room",v1),("most_kept",v2),("boxes",v3),("asks",v4),("now",v5),("lines",v6),("keeping",v7),("done_in",v8),("logged",v9),("found",v10),("answers",v11)]:List (Str × V)):=by
 simp only [putF]
 repeat rw [if_neg (by decide +kernel)]
end
def prs5 (a m i j:Nat):List (Nat × Nat):=((List.range i).flatMap fun l=>(List.range m).map fun y=>(a + l,y)) ++ (List.range j).map fun y=>(a + i,y)
theorem xH {a m i j:Nat} {q:Nat × Nat}:q ∈ prs5 a m i j ↔ (a <= q.1 /\ q.1 < a + i /\ q.2 < m) \/ (q.1 = a + i /\ q.2 < j):=by
 unfold prs5
 rw [List.mem_append,List.mem_flatMap,List.mem_map]
 constructor
 ·rintro (⟨l,hl,h⟩ | ⟨y,hy,rfl⟩)
  ·obtain ⟨y,hy,rfl⟩:=List.mem_map.mp h
   have:=List.mem_range.mp hl
   exact .inl ⟨Nat.le_add_right _ _,by show a + l < a + i; omega,List.mem_range.mp hy⟩
  ·exact .inr ⟨rfl,List.mem_range.mp hy⟩
 ·rintro (⟨h1,h2,h3⟩ | ⟨h1,h2⟩)
  ·refine .inl ⟨q.1 - a,List.mem_range.mpr (by omega),List.mem_map.mpr ⟨q.2,List.mem_range.mpr h3,Prod.ext (by show a + (q.1 - a) = q.1; omega) rfl⟩⟩
  ·exact .inr ⟨q.2,List.mem_range.mpr h2,Prod.ext h1.symm rfl⟩
theorem ZJ {a m i j:Nat}:prs5 a m i (j + 1) = prs5 a m i j ++ [(a + i,j)]:=by
 unfold prs5
 rw [List.range_succ,List.map_append,List.append_assoc]; rfl
theorem qJ {a m i:Nat}:prs5 a m i m = prs5 a m (i + 1) 0:=by
 unfold prs5
 rw [List.range_succ,List.flatMap_append]
 simp
def kvP5 (F:Nat -> Nat -> V) (P:List (Nat × Nat)):List (List Key × V):=P.map fun q=>(kI [(q.1:Int),(q.2:Int)],F q.1 q.2)
theorem Vo {F:Nat -> Nat -> V} {P:List (Nat × Nat)} {a b:Nat} {v:V} (h:(a,b) ∉ P):putK (kvP5 F P) (kI [(a:Int),(b:Int)]) v = kvP5 (updL F a b v) (P ++ [(a,b)]):=by
 rw [sI _ (uq fun w hw=>?_)]
 ·unfold kvP5
  rw [List.map_append]
  congr 1
  ·refine List.map_congr_left fun q hq=>?_
   rw [zE fun z=>h (by rw [← z.1,← z.2]; exact hq)]
  ·show _ = [(kI [(a:Int),(b:Int)],updL F a b v a b)]
   rw [zD]
 ·unfold kvP5 at hw
  obtain ⟨q,hq,e⟩:=List.mem_map.mp hw
  have e1:=congrArg Prod.fst e
  obtain ⟨h1,h2⟩:=vf.mp e1
  exact h (by rw [show (a,b) = q from Prod.ext (by show a = q.1; omega) (by show b = q.2; omega)]; exact hq)
theorem Vp {F:Nat -> Nat -> V} {P:List (Nat × Nat)}:(kvP5 F P).length = P.length:=List.length_map ..
theorem vM {a m i j:Nat} (hm:m <= 16) (hi:i <= 5) (hj:j <= 16):(prs5 a m i j).length < 1000:=by
 have h1:∀ i:Nat,((List.range i).flatMap fun l=>(List.range m).map fun y=>(a + l,y)).length = i * m:=by
  intro i
  induction i with
  | zero=>rw [Nat.zero_mul]; rfl
  | succ i ih=>rw [List.range_succ,List.flatMap_append,List.length_append,ih,Nat.succ_mul]; simp
 unfold prs5
 rw [List.length_append,h1,List.length_map,List.length_range]
 have:=Nat.mul_le_mul hi hm
 omega
theorem Yz {A:Ad -> Addr} {k:Nat}:xt A k = kvP5 (fun l j=>.ref (A (.ln l j))) (prs5 0 (2 ^ k) (k + 1) 0):=by
 unfold xt kvP5 prs5
 rw [List.range_zero,List.map_nil,List.append_nil,List.map_flatMap]
 refine congrArg (fun f=>(List.range (k + 1)).flatMap f) (funext fun l=>?_)
 rw [List.map_map]
 refine List.map_congr_left fun j _=>?_
 show _ = (kI [((0 + l:Nat):Int),(j:Int)],V.ref (A (.ln (0 + l) j)))
 rw [Nat.zero_add]
theorem YA {k:Nat} {kp:Nat -> Nat -> Int}:zW k kp = kvP5 (fun s n=>.int (kp s n)) (prs5 1 (2 ^ (k - 1)) k 0):=by
 unfold zW kvP5 prs5
 rw [List.range_zero,List.map_nil,List.append_nil,List.map_flatMap]
 refine congrArg (fun f=>(List.range k).flatMap f) (funext fun l=>?_)
 rw [List.map_map]
 refine List.map_congr_left fun j _=>?_
 show _ = (kI [((1 + l:Nat):Int),(j:Int)],V.int (kp (1 + l) j))
 rw [Nat.add_comm 1 l]
theorem uy {lo:Int} {n a m:Nat} {σ:L2.St} {H1:Hp} {wi1:TI} {tk tv:TE} {Q:VK} {e2:List (Option V)} (Pv:Nat -> Nat -> (Nat -> Nat -> V) -> Hp -> Prop) (hlo:lo = (a:Int)) (hn5:n <= 5) (hm16:m <= 16)
  (hσ:∃ e0 e1,σ = e0 :: e1 :: e2) (F0:Nat -> Nat -> V) (h0:Pv 0 0 F0 H1)
  (hr:∀ i e1 F H' (R:It -> Hp -> Prop),i < n -> Pv i 0 F H' -> R (Itr 0 m) H' -> wi1 (some (.int ((a + i:Nat):Int)) :: e1 :: e2) H' R)
  (hs:∀ i j F H' (KK:V -> V -> Hp -> Prop),i < n -> j < m -> Pv i j F H' -> (∀ b v H6,H6 b = some (.tup [.int ((a + i:Nat):Int),.int (j:Int)]) -> (∀ c xs,H' c = some (.tup xs) -> H6 c = some (.tup xs)) -> Pv i (j + 1) (updL F (a + i) j v) H6 -> KK (.ref b) v H6) →
   tk (some (.int ((a + i:Nat):Int)) :: some (.int (j:Int)) :: e2) H' fun y H5=>tv (some (.int ((a + i:Nat):Int)) :: some (.int (j:Int)) :: e2) H5 fun v H6=>KK y v H6)
  (hi:∀ i F H',i < n -> Pv i m F H' -> Pv (i + 1) 0 F H')
  (hd:∀ F H',Pv n 0 F H' -> ∀ l,H' l = none -> Q (.ref l) (upd H' l (.dT (kvP5 F (prs5 a m n 0))))) :
  X6 (Itr lo n) σ H1 (vb 0) wi1 (vb 1) Xd tk tv Q:=by
 obtain ⟨e0,e1,rfl⟩:=hσ
 refine ⟨fun i x kvs Hb σ' H'=>x = n - i /\ i <= n /\ (∃ e0 e1,σ' = e0 :: e1 :: e2) /\ (∀ c xs,Hb c = some (.tup xs) -> H' c = some (.tup xs)) /\ ∃ F,kvs = kvP5 F (prs5 a m i 0) /\ Pv i 0 F H',⟨n,by simp,Nat.zero_le _,⟨_,_,rfl⟩,fun _ _ h=>h,F0,rfl,h0⟩,?_⟩
 rintro i x kvs Hb σ' H' ⟨rfl,hin,⟨e0,e1,rfl⟩,hb,F,rfl,pv⟩
 by_cases hlt:i < n
 rotate_left
 ·have:i = n:=by omega
  subst this
  exact .inl ⟨by show i <= i; exact Nat.le_refl _,hb,hd F H' pv⟩
 refine .inr ⟨hlt,fun kvs Hc σ2 H2=>(∃ e0 e1,σ2 = e0 :: e1 :: e2) /\ (∀ c xs,Hc c = some (.tup xs) -> H2 c = some (.tup xs)) /\ ∃ F,kvs = kvP5 F (prs5 a m (i + 1) 0) /\ Pv (i + 1) 0 F H2,fun zs Hc σ2 H2 ⟨p1,p2,p3⟩=>⟨n - (i + 1),by omega,rfl,by omega,p1,p2,p3⟩,fun x H2 hx=>?_⟩
 obtain ⟨rfl,rfl⟩:=hx
 have ev:lo + (i:Int) = ((a + i:Nat):Int):=by omega
 show wi1 (some (.int (lo + (i:Int))) :: e1 :: e2) H2 _
 rw [ev]
 refine hr i e1 F H2 _ hlt pv ?_
 refine ⟨fun j x kvs Hb σ' H'=>x = m - j /\ j <= m /\ (∃ e1,σ' = some (.int ((a + i:Nat):Int)) :: e1 :: e2) /\ (∀ c xs,Hb c = some (.tup xs) -> H' c = some (.tup xs)) /\ ∃ F,kvs = kvP5 F (prs5 a m i j) /\ Pv i j F H',⟨m,by simp,Nat.zero_le _,⟨_,rfl⟩,hb,F,rfl,pv⟩,?_⟩
 rintro j x kvs Hb σ' H' ⟨rfl,hjm,⟨e1,rfl⟩,hb,F,rfl,pv⟩
 by_cases hjl:j < m
 rotate_left
 ·have:j = m:=by omega
  subst this
  refine .inl ⟨by show j <= j; exact Nat.le_refl _,⟨_,_,rfl⟩,hb,F,by rw [qJ],hi i F H' hlt pv⟩
 refine .inr ⟨hjl,fun kvs Hc σ2 H2=>(∃ e1,σ2 = some (.int ((a + i:Nat):Int)) :: e1 :: e2) /\ (∀ c xs,Hc c = some (.tup xs) -> H2 c = some (.tup xs)) /\ ∃ F,kvs = kvP5 F (prs5 a m i (j + 1)) /\ Pv i (j + 1) F H2,fun zs Hc σ2 H2 ⟨p1,p2,p3⟩=>⟨m - (j + 1),by omega,rfl,by omega,p1,p2,p3⟩,fun x H2 hx=>?_⟩
 obtain ⟨rfl,rfl⟩:=hx
 have ej:(0:Int) + (j:Int) = (j:Int):=Int.zero_add _
 rw [ej]
 refine hs i j F H2 (fun y v H6=>(kvP5 F (prs5 a m i j)).length < sizeLine /\ ∃ b ks,y = V.ref b /\ H6 b = some (HO.tup (List.map kV ks)) /\ (∀ c xs,Hb c = some (HO.tup xs) -> H6 c = some (HO.tup xs)) /\ (∃ e1',some (V.int ((a + i:Nat):Int)) :: some (V.int (j:Int)) :: e2 = some (V.int ((a + i:Nat):Int)) :: e1' :: e2) /\ (∀ c xs,H6 c = some (HO.tup xs) -> H6 c = some (HO.tup xs)) /\ ∃ F',putK (kvP5 F (prs5 a m i j)) ks v = kvP5 F' (prs5 a m i (j + 1)) /\ Pv i (j + 1) F' H6) hlt hjl pv fun b v H6 h1 h2 p6=>?_
 refine ⟨?_,b,kI [((a + i:Nat):Int),(j:Int)],rfl,yV h1,fun c xs hc=>h2 c xs (hb c xs hc),⟨_,rfl⟩,fun c xs h=>h,updL F (a + i) j v,?_,p6⟩
 ·rw [Vp]; exact zr (Nat.le_of_lt (vM hm16 (by omega) (by omega)))
 ·rw [Vo (fun z=>by rcases xH.mp z with ⟨_,h,_⟩ | ⟨_,h⟩; exact absurd h (by show ¬ (a + i < a + i); omega); exact absurd h (by show ¬ (j < j); omega)),ZJ]
def qK (K:FG7):Sp:=sp2 fun x y H Q=>∃ (room kept:Nat),x = .int room /\ y = .int kept /\ 1 <= room /\ room <= 6 /\ kept <= 6 /\ Q .non H
def Wb (K:FG7):Sp:=sp3 fun x y z H Q=>∃ (k s n:Nat),x = .int k /\ y = .int s /\ z = .int n /\ k <= 4 /\ Q (.bl (decide (1 <= s /\ s <= k /\ n < 2 ^ (k - 1)))) H
def ZK (K:FG7):Sp:=sp2 fun x y H Q=>∃ (k:Nat) (q:Nat × Nat),x = .int k /\ sU K H y q /\ k <= 4 /\ vC k q /\ Q (.bl true) H
def qL (K:FG7):Sp:=sp2 fun x y H Q=>∃ (k:Nat) (gone:List (Nat × Nat)),x = .int k /\ xM K H y gone /\ k <= 4 /\ (∀ q ∈ gone,vC k q) /\ ∀ H',Grow [] H H' -> Q .non H'
def qM (K:FG7):Sp:=sp2 fun x y H Q=>∃ (l:Addr) (xs:List V) (k:Ask),x = .ref l /\ SqL K H l xs /\ wN K H y k /\ WR xs.length k /\ Q (.bl true) H
def rh (C:Addr) (K:FG7):Sp:=sp5 fun x y z u w H Q=>∃ (p dx:Addr) (k room kept:Nat) (b:List Int),x = .ref p /\ y = .int k /\ zV K H z b /\ u = .int room /\ w = .int kept /\ k <= 4 /\ 1 <= b.length /\ b.length <= 16 /\ 1 <= room /\ room <= 6 /\ kept <= 6 /\ H p = some (.ins C dx []) ∧
 ∀ A H',Grow [p] H H' -> A .p = p -> (∀ a,okA (newS k b room kept) a -> a ≠ .p -> H (A a) = none) -> NetAt K C H' A (newS k b room kept) -> Q .non H'
def Si (K:FG7) (H:Hp) (y:V) (gone:List (Nat × Nat)):Prop:=(y = .non /\ gone = []) \/ xM K H y gone
def jS (C:Addr) (K:FG7):Sp:=sp2 fun x y H Q=>∃ (A:Ad -> Addr) (ns:NS) (a:Ask) (ms:List Addr),x = .ref (A .p) /\ wN K H y a /\ NetAt K C H A ns /\ NR ns /\ WR ns.boxes.length a /\ a.hand < (2 ^ ns.k:Nat) /\ ns.asks.length < 40 /\ (∀ a,okA ns a -> A a ∈ ms) ∧
 ∀ H',Grow ms H H' -> NetAt K C H' A (putS ns a) -> Q (.int ns.asks.length) H'
def wW (C:Addr) (K:FG7):Sp:=sp2 fun x y H Q=>∃ (A:Ad -> Addr) (ns:NS) (gone:List (Nat × Nat)) (ms:List Addr),x = .ref (A .p) /\ Si K H y gone /\ (∀ q ∈ gone,vC ns.k q) /\ NetAt K C H A ns /\ NR ns /\ ns.nd = ns.now /\ ns.now < 10000 /\ NT (zX gone ns) /\ (∀ a,okA ns a -> A a ∈ ms) ∧
 ∀ A' z l H',Grow ms H H' -> Ext5 H A A' ns -> NetAt K C H' A' (beatS gone ns) -> Sb K H' z l -> l.Perm (xk (zX gone ns)) -> l.Pairwise (fun a b=>a.1 < b.1) -> Q z H'
def jT (C:Addr) (K:FG7):Sp:=sp1 fun x H Q=>∃ (A:Ad -> Addr) (ns:NS),x = .ref (A .p) /\ NetAt K C H A ns /\ ns.log.length <= 1000 /\ ∀ z H',Grow [] H H' -> zV K H' z (ns.log.map Int.ofNat) -> Q z H'
def rj (C:Addr) (K:FG7):Sp:=sp1 fun x H Q=>∃ (A:Ad -> Addr) (ns:NS),x = .ref (A .p) /\ NetAt K C H A ns /\ Q (.int ((ns.asks.length:Int) - ns.ans.length)) H
def oN5:Option Int -> V
 | none=>.non
 | some i=>.int i
def vm (C:Addr) (K:FG7):Sp:=sp2 fun x y H Q=>∃ (A:Ad -> Addr) (ns:NS) (n:Nat),x = .ref (A .p) /\ y = .int n /\ n < ns.asks.length /\ NetAt K C H A ns /\ Q (oN5 (getN ns.ans n)) H
def W3At (K:FG7) (H:Hp) (x:V) (w:Wt):Prop:=∃ r rd rn,x = .ref r /\ SqT K H r [.int w.box,.ref rd,.ref rn] /\ SqT K H rd w.deed.vs /\ SqT K H rn (yt w.nums)
def wz (C:Addr) (K:FG7):Sp:=sp3 fun x y z H Q=>∃ (A:Ad -> Addr) (ns:NS) (l j:Nat),x = .ref (A .p) /\ y = .int l /\ z = .int j /\ l <= ns.k /\ j < 2 ^ ns.k /\ ns.k <= 4 /\ (ns.lines l j).length <= 1000 /\ NetAt K C H A ns /\ ∀ u H',Grow [] H H' -> (∃ r ys,u = .ref r /\ SqT K H' r ys /\ AllR (W3At K H') ys (ns.lines l j)) -> Q u H'
def xY (C:Addr) (K:FG7):Sp:=sp3 fun x y z H Q=>∃ (A:Ad -> Addr) (ns:NS) (s n:Nat),x = .ref (A .p) /\ y = .int s /\ z = .int n /\ 1 <= s /\ s <= ns.k /\ n < 2 ^ (ns.k - 1) /\ ns.k <= 4 /\ NetAt K C H A ns /\ ∀ H',Grow [] H H' -> Q (.int (ns.keep s n)) H'
structure Part (K:FG7) (C p:Addr) (H0 H:Hp) (A:Ad -> Addr) (ns:NS) (D:Ad -> Prop):Prop where
 at_:∀ a,D a -> ∃ o,H (A a) = some o /\ ObjA K C H A ns a o
 inj:∀ a b,D a -> D b -> A a = A b -> a = b
 fr:∀ a,D a -> H0 (A a) = none
 hp0:∃ o,H0 p = some o
 hp:∃ o,H p = some o
 g:Grow [p] H0 H
section
variable {K:FG7} {C p l:Addr} {H0 H H':Hp} {A:Ad -> Addr} {ns:NS} {D:Ad -> Prop} {c:Ad} {o:HO}
def updA (A:Ad -> Addr) (c:Ad) (l:Addr):Ad -> Addr:=fun a=>if a = c then l else A a
theorem yB:updA A c l c = l:=if_pos rfl
theorem yC {a:Ad} (h:a ≠ c):updA A c l a = A a:=if_neg h
theorem Part.nil {ns:NS} (h:H0 p = some o):Part K C p H0 H0 A ns fun _=>False:=⟨fun _ h=>h.elim,fun _ _ h=>h.elim,fun _ h=>h.elim,⟨_,h⟩,⟨_,h⟩,Grow.refl _ _⟩
theorem Part.np (h:Part K C p H0 H A ns D) {a:Ad} (ha:D a):A a ≠ p:=fun e=>by
 have h1:=h.fr a ha
 obtain ⟨o,h2⟩:=h.hp0
 rw [e,h2] at h1; cases h1
theorem Part.grow (h:Part K C p H0 H A ns D) (g:Grow [p] H H') (hp:∃ o,H' p = some o):Part K C p H0 H' A ns D :=
 ⟨fun a ha=>by
  obtain ⟨o,h1,h2⟩:=h.at_ a ha
  exact ⟨o,g.keep _ _ (by simpa using h.np ha) h1,h2.grow g⟩,h.inj,h.fr,h.hp0,hp,h.g.trans g⟩
theorem Part.grow0 (h:Part K C p H0 H A ns D) (g:Grow [] H H'):Part K C p H0 H' A ns D :=
 h.grow g.wk (by obtain ⟨o,e⟩:=h.hp; exact ⟨o,g.keep _ _ (by simp) e⟩)
theorem Part.setP {dx:Addr} {fs fs':List (Str × V)} (h:Part K C p H0 H A ns D) (e:H p = some (.ins C dx fs)):Part K C p H0 (upd H p (.ins C dx fs')) A ns D :=
 h.grow (Grow.setI e (by simp) _) ⟨_,ze⟩
theorem Part.add (h:Part K C p H0 H A ns D) (hl:H l = none) (hc:¬ D c) (ho:ObjA K C (upd H l o) (updA A c l) ns c o) (hi:∀ a,D a -> ∀ o H,ObjA K C H A ns a o -> ObjA K C H (updA A c l) ns a o) :
  Part K C p H0 (upd H l o) (updA A c l) ns fun a=>D a \/ a = c:=by
 have g:=Grow.new (m:=[]) hl o
 have nl:∀ a,D a -> A a ≠ l:=fun a ha e=>by
  obtain ⟨o,h1,_⟩:=h.at_ a ha
  rw [e,hl] at h1; cases h1
 have lp:l ≠ p:=fun e=>by
  obtain ⟨o,h1⟩:=h.hp
  rw [← e,hl] at h1; cases h1
 have ne:∀ a,D a -> a ≠ c:=fun a ha e=>hc (e ▸ ha)
 refine ⟨fun a ha=>?_,fun a b ha hb e=>?_,fun a ha=>?_,h.hp0,?_,h.g.trans g.wk⟩
 ·rcases ha with ha | rfl
  ·rw [yC (ne a ha)]
   obtain ⟨o',h1,h2⟩:=h.at_ a ha
   exact ⟨o',g.keep _ _ (by simp) h1,hi a ha _ _ (h2.grow g)⟩
  ·rw [yB]; exact ⟨o,ze,ho⟩
 ·rcases ha with ha | rfl <;> rcases hb with hb | rfl
  ·rw [yC (ne a ha),yC (ne b hb)] at e; exact h.inj a b ha hb e
  ·rw [yC (ne a ha),yB] at e; exact absurd e (nl a ha)
  ·rw [yC (ne b hb),yB] at e; exact absurd e.symm (nl b hb)
  ·rfl
 ·rcases ha with ha | rfl
  ·rw [yC (ne a ha)]; exact h.fr a ha
  ·rw [yB]; exact h.g.free (by simpa using lp) hl
 ·obtain ⟨o,e⟩:=h.hp; exact ⟨o,g.keep _ _ (by simp) e⟩
theorem Part.sub {D':Ad -> Prop} (h:Part K C p H0 H A ns D) (hd:∀ a,D' a -> D a):Part K C p H0 H A ns D':=⟨fun a ha=>h.at_ a (hd a ha),fun a b ha hb=>h.inj a b (hd a ha) (hd b hb),fun a ha=>h.fr a (hd a ha),h.hp0,h.hp,h.g⟩
theorem Part.net {dx:Addr} (h:Part K C p H0 H A ns D) (hd:∀ a,okA ns a -> a ≠ .p -> D a) (hpd:¬ D .p) (e:H p = some (.ins C dx (zB A ns))):NetAt K C H (updA A .p p) ns:=by
 refine ⟨fun a ha=>?_,fun a b ha hb e=>?_⟩
 ·by_cases c:a = .p
  ·subst c; rw [yB]; exact ⟨_,e,dx,rfl⟩
  ·rw [yC c]
   obtain ⟨o,h1,h2⟩:=h.at_ a (hd a ha c)
   refine ⟨o,h1,?_⟩
   cases a <;> first | exact absurd rfl c | exact h2
 ·by_cases c1:a = .p <;> by_cases c2:b = .p
  ·rw [c1,c2]
  ·subst c1; rw [yB,yC c2] at e; exact absurd e.symm (h.np (hd b hb c2))
  ·subst c2; rw [yB,yC c1] at e; exact absurd e (h.np (hd a ha c1))
  ·rw [yC c1,yC c2] at e; exact h.inj a b (hd a ha c1) (hd b hb c2) e
end
def DL (m i j:Nat) (D:Ad -> Prop):Ad -> Prop
 | .ln l y=>(l,y) ∈ prs5 0 m i j
 | a=>D a
structure LnP (K:FG7) (C p dx:Addr) (fs:List (Str × V)) (H0:Hp) (ns:NS) (D:Ad -> Prop) (A0:Ad -> Addr) (m i j:Nat) (F:Nat -> Nat -> V) (H':Hp):Prop where
 ex:∃ A,Part K C p H0 H' A ns (DL m i j D) /\ (∀ q ∈ prs5 0 m i j,F q.1 q.2 = .ref (A (.ln q.1 q.2))) /\ (∀ a,D a -> (∀ l y,a ≠ .ln l y) -> A a = A0 a)
 e:H' p = some (.ins C dx fs)
section
variable {K:FG7} {C p dx l:Addr} {fs:List (Str × V)} {H0 H H':Hp} {A0:Ad -> Addr} {ns:NS} {D:Ad -> Prop} {m i j:Nat} {F:Nat -> Nat -> V}
theorem LnP.grow (h:LnP K C p dx fs H0 ns D A0 m i j F H) (g:Grow [] H H'):LnP K C p dx fs H0 ns D A0 m i j F H':=by
 obtain ⟨A,h1,h2⟩:=h.ex
 exact ⟨⟨A,h1.grow0 g,h2⟩,g.keep _ _ (by simp) h.e⟩
theorem LnP.row (h:LnP K C p dx fs H0 ns D A0 m i m F H):LnP K C p dx fs H0 ns D A0 m (i + 1) 0 F H:=by
 obtain ⟨A,h1,h2,h3⟩:=h.ex
 exact ⟨⟨A,h1.sub fun a ha=>by
  cases a <;> first | exact ha | (show _ ∈ _; rw [qJ]; exact ha),by rw [← qJ]; exact h2,h3⟩,h.e⟩
theorem LnP.step (hD:∀ l y,¬ D (.ln l y)) (hdp:¬ D .p /\ ¬ D .dl) (hns:∀ l j,ns.lines l j = []) (h:LnP K C p dx fs H0 ns D A0 m i j F H) (hl:H l = none):LnP K C p dx fs H0 ns D A0 m i (j + 1) (updL F (0 + i) j (.ref l)) (upd H l (.lst [])):=by
 obtain ⟨A,h1,h2,h3⟩:=h.ex
 have nm:(0 + i,j) ∉ prs5 0 m i j:=fun z=>by
  rcases xH.mp z with ⟨_,h,_⟩ | ⟨_,h⟩
  ·exact absurd h (by show ¬ (0 + i < 0 + i); omega)
  ·exact absurd h (by show ¬ (j < j); omega)
 have z:=h1.add (c:=.ln (0 + i) j) (o:=.lst []) hl nm ⟨[],rfl,by rw [hns]; trivial⟩ fun a ha o H h=>by
  cases a <;> first | exact h | exact absurd ha hdp.1 | exact absurd ha hdp.2
 ·refine ⟨⟨updA A (.ln (0 + i) j) l,z.sub fun a ha=>?_,fun q hq=>?_,fun a ha hn=>?_⟩,?_⟩
  ·cases a with
   | ln x y =>
    have ha:(x,y) ∈ prs5 0 m i (j + 1):=ha
    rw [ZJ,List.mem_append] at ha
    rcases ha with ha | ha
    ·exact .inl ha
    ·have:=List.mem_singleton.mp ha
     right
     rw [show x = 0 + i from congrArg Prod.fst this,show y = j from congrArg Prod.snd this]
   | _=>exact .inl ha
  ·rw [ZJ,List.mem_append] at hq
   rcases hq with hq | hq
   ·have ne:¬ (q.1 = 0 + i /\ q.2 = j):=fun e=>nm (by rw [show ((0 + i,j):Nat × Nat) = q from Prod.ext e.1.symm e.2.symm]; exact hq)
    rw [zE ne,yC (fun e=>ne (by injection e with a b; exact ⟨a,b⟩))]
    exact h2 q hq
   ·rw [List.mem_singleton.mp hq]
    show updL F (0 + i) j (.ref l) (0 + i) j = _
    rw [zD,yB]
  ·rw [yC (hn _ _)]; exact h3 a ha hn
  ·exact (Grow.new (m:=[]) hl _).keep _ _ (by simp) h.e
end
theorem tW {F G:Nat -> Nat -> V} {P:List (Nat × Nat)} (h:∀ q ∈ P,F q.1 q.2 = G q.1 q.2):kvP5 F P = kvP5 G P:=List.map_congr_left fun q hq=>by rw [h q hq]
theorem shl5 {k:Nat}:(1:Int) * 2 ^ ((k:Int)).toNat = ((2 ^ k:Nat):Int):=sy
theorem NR.tick {ns:NS} (nr:NR ns) (h:ns.now < 10000):NR (zz ns):=⟨nr.k4,nr.b16,nr.a40,nr.lw,nr.dw,nr.tot,h,Nat.le_succ_of_le nr.nd,nr.fl⟩
theorem NR.forget {ns:NS} (nr:NR ns):NR (zm ns):=⟨nr.k4,nr.b16,nr.a40,nr.lw,nr.dw,nr.tot,nr.nw,nr.nd,nr.fl⟩
structure TakeD (gone:List (Nat × Nat)) (ns n':NS):Prop where
 k:n'.k = ns.k
 room:n'.room = ns.room
 kept:n'.kept = ns.kept
 bl:n'.boxes.length = ns.boxes.length
 asks:n'.asks = ns.asks
 now:n'.now = ns.now
 lines:n'.lines = (zA gone ns (2 ^ ns.k)).2
 keep:n'.keep = ns.keep
 nd:n'.nd = ns.nd + 1
 done:n'.done = updD ns.done ns.now (zA gone ns (2 ^ ns.k)).1
 log:n'.log = ns.log ++ yF (zA gone ns (2 ^ ns.k)).1
 fl:n'.fnd.length <= ns.fnd.length + (yF (zA gone ns (2 ^ ns.k)).1).length
 ans:n'.ans = ns.ans
theorem Wc (gone:List (Nat × Nat)) (ns:NS):TakeD gone ns (ym gone ns) :=
 have D:=doF (l:=(zA gone ns (2 ^ ns.k)).1) (ns:=gotS gone ns)
 ⟨D.k,D.room,D.kept,D.bl,D.asks,D.now,D.lines,D.keep,D.nd,D.done,D.log,D.fl,D.ans⟩
theorem NR.take {ns:NS} (nr:NR ns) {gone:List (Nat × Nat)} (hnd:ns.nd + 1 = ns.now):NR (ym gone ns):=by
 have D:=Wc gone ns
 have F:=jN (gone:=gone) (ns:=ns) (Nat.le_refl _)
 generalize ym gone ns = n' at D ⊢
 refine ⟨by rw [D.k]; exact nr.k4,by rw [D.bl]; exact nr.b16,by rw [D.asks]; exact nr.a40,?_,?_,?_,by rw [D.now]; exact nr.nw,by rw [D.nd,D.now]; omega,?_⟩
 ·intro l j hl hj w hw
  rw [D.k] at hl hj
  rw [D.lines] at hw
  rw [D.k,D.bl,D.asks]
  exact nr.lw l j hl hj w (F.ln l j w hw)
 ·intro t t1 t2 w hw
  rw [D.nd] at t2
  rw [D.done] at hw
  rw [D.k,D.bl,D.asks]
  unfold updD at hw
  by_cases c:t = ns.now
  ·rw [if_pos c] at hw
   obtain ⟨j,hj,hw⟩:=F.tk w hw
   exact nr.lw ns.k j (Nat.le_refl _) hj w hw
  ·rw [if_neg c] at hw
   exact nr.dw t t1 (by omega) w hw
 ·rw [D.k,D.lines,D.log,D.asks,List.length_append,uw]
  have h1:=F.ws nlen
  have h2:=nr.tot
  omega
 ·have h1:=D.fl
  have h2:=nr.fl
  rw [D.log,List.length_append]
  omega
theorem vn {gone:List (Nat × Nat)} {ns:NS} {i:Nat}:passA gone ns (i + 1) = passS gone (passA gone ns i) ((passA gone ns i).k - i) (2 ^ ((passA gone ns i).k - 1)):=by unfold passA; rw [zF]
theorem ZL {a b:NS} (h:Same5 a b) {c:Ad} (hc:okA a c):okA b c:=by
 cases c <;> first | exact trivial | exact ⟨by rw [← h.k]; exact hc.1,by rw [← h.k]; exact hc.2⟩ | exact ⟨hc.1,by rw [← h.nd]; exact hc.2⟩
theorem jU {ns:NS} {a:Ask} {g:Wt -> Nat} (hh:a.hand.toNat < 2 ^ ns.k):wsN ns.k (putS ns a).lines g = wsN ns.k ns.lines g + g ⟨a.box.toNat,a.deed,[ns.asks.length],[]⟩:=by
 have h:=xc (k:=ns.k) (l:=0) (j:=a.hand.toNat) (f:=ns.lines) (g:=g) (v:=ns.lines 0 a.hand.toNat ++ [⟨a.box.toNat,a.deed,[ns.asks.length],[]⟩]) (Nat.zero_le _) hh
 rw [we] at h
 have e:lsum g [⟨a.box.toNat,a.deed,[ns.asks.length],[]⟩] = g ⟨a.box.toNat,a.deed,[ns.asks.length],[]⟩:=by rw [zS,wc]; rfl
 rw [e] at h
 show wsN ns.k (updL ns.lines 0 a.hand.toNat _) g = _
 omega
theorem WtOk.more {k b a:Nat} {w:Wt} (h:WtOk k b a w):WtOk k b (a + 1) w:=⟨h.bx,h.ne,fun n hn=>Nat.lt_succ_of_lt (h.nm n hn),h.mt,h.ln⟩
theorem NR.put {ns:NS} (nr:NR ns) {a:Ask} (hh:a.hand.toNat < 2 ^ ns.k) (hb:a.box.toNat < ns.boxes.length) (h40:ns.asks.length < 40):NR (putS ns a):=by
 have el:(putS ns a).asks.length = ns.asks.length + 1:=by show (ns.asks ++ [a]).length = _; rw [List.length_append]; rfl
 refine ⟨nr.k4,nr.b16,by rw [el]; exact h40,?_,?_,?_,nr.nw,nr.nd,nr.fl⟩
 ·intro l j hl hj w hw
  rw [el]
  have hw:w ∈ updL ns.lines 0 a.hand.toNat (ns.lines 0 a.hand.toNat ++ [⟨a.box.toNat,a.deed,[ns.asks.length],[]⟩]) l j:=hw
  by_cases c:l = 0 /\ j = a.hand.toNat
  ·rw [c.1,c.2,zD,List.mem_append] at hw
   rcases hw with hw | hw
   ·exact (nr.lw 0 _ (Nat.zero_le _) hh w hw).more
   ·rw [List.mem_singleton.mp hw]
    exact ⟨hb,by simp,fun n hn=>by rw [List.mem_singleton.mp hn]; exact Nat.lt_succ_self _,fun q hq=>by simp at hq,rfl⟩
  ·rw [zE c] at hw
   exact (nr.lw l j hl hj w hw).more
 ·intro t t1 t2 w hw
  rw [el]
  exact (nr.dw t t1 t2 w hw).more
 ·rw [el]
  have h:=jU (ns:=ns) (a:=a) (g:=nlen) hh
  have h2:=nr.tot
  have e:nlen ⟨a.box.toNat,a.deed,[ns.asks.length],[]⟩ = 1:=rfl
  show wsN ns.k (putS ns a).lines nlen + ns.log.length = _
  omega
section
variable {P:NS -> Prop} {gone:List (Nat × Nat)} (k4:∀ n,P n -> n.k <= 4) (hP:∀ n s l,P n -> 1 <= s -> s <= n.k -> l < 2 ^ n.k -> P (yE n s l))
include k4 hP
theorem qN {n:NS} {s i:Nat} (h:P n) (s1:1 <= s) (sk:s <= n.k) (hi:i < 2 ^ (n.k - 1)):P (yH gone s n i):=by
 unfold yH
 split
 ·exact h
 ·have m2:n.now % 2 < 2:=Nat.mod_lt _ (by decide)
  have l1:=xW (k4 n h) s1 sk hi m2
  have l2:=xW (k4 n h) s1 sk hi (show 1 - n.now % 2 < 2 by omega)
  have e:=(yA n s (inlN n.k s i (n.now % 2))).k
  exact hP _ _ _ (hP _ _ _ h s1 sk l1) s1 (by rw [e]; exact sk) (by rw [e]; exact l2)
theorem uz {n:NS} {s:Nat} (h:P n) (s1:1 <= s) (sk:s <= n.k):∀ {i},i <= 2 ^ (n.k - 1) -> P (passS gone n s i)
 | 0,_=>h
 | i + 1,hi=>by
  have ih:=uz h s1 sk (i:=i) (by omega)
  have e:=(xv gone n s i).k
  have es:passS gone n s (i + 1) = yH gone s (passS gone n s i) i:=by unfold passS; rw [zF]
  rw [es]
  exact qN k4 hP ih s1 (by rw [e]; exact sk) (by rw [e]; omega)
theorem uA {n:NS} (h:P n):∀ {i},i <= n.k -> P (passA gone n i)
 | 0,_=>h
 | i + 1,hi=>by
  have ih:=uA h (i:=i) (by omega)
  have e:=(y7 gone n i).k
  rw [vn]
  exact uz k4 hP ih (by rw [e]; omega) (by omega) (Nat.le_refl _)
end
def gq (q:Nat × Nat) (w:Wt):Nat:=w.met.count q
theorem UT {q sw:Nat × Nat} {w c:Wt}:gq q (wp sw w c) = gq q w + gq q c + if sw = q then 1 else 0:=by
 show (w.met ++ c.met ++ [sw]).count q = _
 rw [List.count_append,List.count_append,List.count_singleton]
 by_cases h:sw = q
 ·rw [if_pos h,if_pos (by rw [h]; exact beq_self_eq_true _)]; rfl
 ·rw [if_neg h,if_neg (fun z=>h (beq_iff_eq.mp z))]; rfl
theorem UU {n:Nat}:Addv (fun w=>w.nums.count n):=fun _ w c=>List.count_append ..
theorem HandC.kp {ns n':NS} {s l:Nat} (h:HandC ns s l n') {q:Nat × Nat} (k4:ns.k <= 4) (s1:1 <= s) (sk:s <= ns.k) (hl:l < 2 ^ ns.k) :
  (wsN ns.k n'.lines (gq q):Int) - n'.keep q.1 q.2 = wsN ns.k ns.lines (gq q) - ns.keep q.1 q.2:=by
 cases h with
 | stay=>rfl
 | add c r hc hr =>
  have o:=xm (b:=c.box) k4 s1 sk hl
  have h1:=xc (f:=ns.lines) (v:=r) (g:=gq q) (show s - 1 <= ns.k by omega) hl
  have h2:=xc (f:=updL ns.lines (s - 1) l r) (v:=ns.lines s (outR ns.k s l c.box) ++ [c]) (g:=gq q) sk o
  rw [zE (fun z=>by have:=z.1; omega)] at h2
  rw [hc,zS] at h1
  rw [we,zS,wc] at h2
  show (wsN ns.k (updL (updL ns.lines (s - 1) l r) s (outR ns.k s l c.box) (ns.lines s (outR ns.k s l c.box) ++ [c])) (gq q):Int) - ns.keep q.1 q.2 = _
  omega
 | join c r i hc hi hb hk =>
  have o:=xm (b:=c.box) k4 s1 sk hl
  have h1:=xc (f:=ns.lines) (v:=r) (g:=gq q) (show s - 1 <= ns.k by omega) hl
  have h2:=xc (f:=updL ns.lines (s - 1) l r) (v:=(ns.lines s (outR ns.k s l c.box)).set i (wp (s,nN ns.k s l) ((ns.lines s (outR ns.k s l c.box)).getD i default) c)) (g:=gq q) sk o
  rw [zE (fun z=>by have:=z.1; omega)] at h2
  have h3:=sR (g:=gq q) (v:=wp (s,nN ns.k s l) ((ns.lines s (outR ns.k s l c.box)).getD i default) c) hi
  rw [UT] at h3
  rw [hc,zS] at h1
  show (wsN ns.k (updL (updL ns.lines (s - 1) l r) s (outR ns.k s l c.box) ((ns.lines s (outR ns.k s l c.box)).set i (wp (s,nN ns.k s l) ((ns.lines s (outR ns.k s l c.box)).getD i default) c))) (gq q):Int) - updL ns.keep s (nN ns.k s l) (ns.keep s (nN ns.k s l) + 1) q.1 q.2 = _
  by_cases e:(s,nN ns.k s l) = q
  ·rw [if_pos e] at h3
   subst e
   have z:updL ns.keep s (nN ns.k s l) (ns.keep s (nN ns.k s l) + 1) (s,nN ns.k s l).1 (s,nN ns.k s l).2 = ns.keep s (nN ns.k s l) + 1:=zD
   rw [z]
   show _ = _ - ns.keep s (nN ns.k s l)
   omega
  ·rw [if_neg e] at h3
   rw [zE fun z=>e (Prod.ext z.1.symm z.2.symm)]
   omega
structure PassI (n0 n:NS):Prop where
 same:Same5 n n0
 k4:n0.k <= 4
 cnt:∀ g,Addv g -> wsN n0.k n.lines g = wsN n0.k n0.lines g
 kp:∀ q:Nat × Nat,(wsN n0.k n.lines (gq q):Int) - n.keep q.1 q.2 = wsN n0.k n0.lines (gq q) - n0.keep q.1 q.2
theorem SX {n0:NS} {gone:List (Nat × Nat)} (k4:n0.k <= 4) {i:Nat} (hi:i <= n0.k):PassI n0 (passA gone n0 i):=by
 refine uA (P:=fun n=>PassI n0 n) (fun n h=>by rw [h.same.k]; exact k4) (fun n s l h s1 sk hl=>?_) ⟨Same5.refl _,k4,fun _ _=>rfl,fun _=>rfl⟩ hi
 have C:=X3 n s l
 have k4':n.k <= 4:=by rw [h.same.k]; exact k4
 refine ⟨C.same.trans h.same,k4,fun g hg=>?_,fun q=>?_⟩
 ·rw [← h.cnt g hg,← h.same.k]; exact C.ws hg k4' s1 sk hl
 ·rw [← h.kp q,← h.same.k]; exact C.kp k4' s1 sk hl
def NeL (k:Nat) (f:Nat -> Nat -> List Wt) (h:Nat):Prop:=∃ l j,h <= l /\ l <= k /\ j < 2 ^ k /\ f l j ≠ []
theorem vo {ns:NS} {s l h:Nat} (k4:ns.k <= 4) (s1:1 <= s) (sk:s <= ns.k) (hl:l < 2 ^ ns.k) (e:NeL ns.k ns.lines h):NeL ns.k (yE ns s l).lines h:=by
 obtain ⟨a,b,ha,hak,hb,hn⟩:=e
 have C:=X3 ns s l
 generalize yE ns s l = n' at C ⊢
 cases C with
 | stay=>exact ⟨a,b,ha,hak,hb,hn⟩
 | add c r hc hr =>
  have o:=xm (b:=c.box) k4 s1 sk hl
  by_cases c2:a = s - 1 /\ b = l
  ·refine ⟨s,_,by omega,sk,o,?_⟩
   show updL _ s _ _ s _ ≠ []
   rw [zD]; simp
  ·by_cases c3:a = s /\ b = outR ns.k s l c.box
   ·refine ⟨s,_,by omega,sk,o,?_⟩
    show updL _ s _ _ s _ ≠ []
    rw [zD]; simp
   ·refine ⟨a,b,ha,hak,hb,?_⟩
    show updL _ s _ _ a b ≠ []
    rw [zE c3,zE c2]; exact hn
 | join c r i hc hi hbx hk =>
  have o:=xm (b:=c.box) k4 s1 sk hl
  have ne:∀ v,(ns.lines s (outR ns.k s l c.box)).set i v ≠ []:=fun v z=>by
   have:=congrArg List.length z
   rw [List.length_set] at this
   rw [this] at hi
   exact absurd hi (Nat.not_lt_zero _)
  by_cases c2:a = s - 1 /\ b = l
  ·refine ⟨s,_,by omega,sk,o,?_⟩
   show updL _ s _ _ s _ ≠ []
   rw [zD]; exact ne _
  ·by_cases c3:a = s /\ b = outR ns.k s l c.box
   ·refine ⟨s,_,by omega,sk,o,?_⟩
    show updL _ s _ _ s _ ≠ []
    rw [zD]; exact ne _
   ·refine ⟨a,b,ha,hak,hb,?_⟩
    show updL _ s _ _ a b ≠ []
    rw [zE c3,zE c2]; exact hn
theorem VT {ns:NS} {s l:Nat} {c:Wt} {r:List Wt} (k4:ns.k <= 4) (s1:1 <= s) (sk:s <= ns.k) (hl:l < 2 ^ ns.k) (r1:1 <= ns.room):NeL ns.k (addS ns s l c r).lines s:=by
 have o:=xm (b:=c.box) k4 s1 sk hl
 refine ⟨s,outR ns.k s l c.box,Nat.le_refl _,sk,o,?_⟩
 unfold addS
 split
 ·show updL _ s _ _ s _ ≠ []
  rw [zD]; simp
 ·rename_i h
  intro z
  rw [z] at h
  exact h (by show 0 < ns.room; omega)
theorem UV {ns:NS} {s l:Nat} (k4:ns.k <= 4) (s1:1 <= s) (sk:s <= ns.k) (hl:l < 2 ^ ns.k) (r1:1 <= ns.room) (e:ns.lines (s - 1) l ≠ []):NeL ns.k (yE ns s l).lines s:=by
 unfold yE
 split
 ·rename_i h; exact absurd h e
 ·rename_i c r h
  have o:=xm (b:=c.box) k4 s1 sk hl
  split
  ·exact VT k4 s1 sk hl r1
  ·rename_i i hi
   split
   ·refine ⟨s,outR ns.k s l c.box,Nat.le_refl _,sk,o,?_⟩
    show updL _ s _ _ s _ ≠ []
    rw [zD]
    intro z
    have:=congrArg List.length z
    rw [List.length_set] at this
    have:=(re hi).1
    simp_all
   ·exact VT k4 s1 sk hl r1
theorem rk {ns:NS} {s l a b:Nat} (h:¬ (a = s - 1 /\ b = l)) (h2:a ≠ s):(yE ns s l).lines a b = ns.lines a b:=by
 have C:=X3 ns s l
 generalize yE ns s l = n' at C ⊢
 cases C with
 | stay=>rfl
 | add c r hc hr =>
  show updL _ s _ _ a b = _
  rw [zE (fun z=>h2 z.1),zE h]
 | join c r i hc hi hbx hk =>
  show updL _ s _ _ a b = _
  rw [zE (fun z=>h2 z.1),zE h]
theorem SY {k s j:Nat} (k4:k <= 4) (s1:1 <= s) (sk:s <= k) (hj:j < 2 ^ k):∃ n m,n < 2 ^ (k - 1) /\ m < 2 /\ inlN k s n m = j:=by
 have key:∀ k:Fin 5,∀ s:Fin 5,1 <= s.val -> s.val <= k.val -> ∀ j:Fin 16,j.val < 2 ^ k.val -> ∃ n:Fin 8,∃ m:Fin 2,n.val < 2 ^ (k.val - 1) /\ inlN k.val s.val n.val m.val = j.val:=by decide +kernel
 obtain ⟨n,m,h1,h2⟩:=key ⟨k,by omega⟩ ⟨s,by omega⟩ s1 sk ⟨j,Nat.lt_of_lt_of_le hj (wx k4)⟩ hj
 exact ⟨n.val,m.val,h1,m.isLt,h2⟩
structure UpI (k0 room0 s j:Nat) (n:NS):Prop where
 k:n.k = k0
 room:n.room = room0
 or:n.lines (s - 1) j ≠ [] \/ NeL k0 n.lines s
theorem Wd {k room s j l:Nat} {n:NS} (k4:k <= 4) (s1:1 <= s) (sk:s <= k) (hl:l < 2 ^ k) (r1:1 <= room) (U:UpI k room s j n):UpI k room s j (yE n s l) /\ (l = j -> NeL k (yE n s l).lines s):=by
 obtain ⟨rfl,rfl,U⟩:=U
 have sm:=yA n s l
 have key:l = j -> NeL n.k (yE n s l).lines s:=fun e=>by
  rcases U with U | U
  ·rw [← e] at U; exact UV k4 s1 sk hl r1 U
  ·exact vo k4 s1 sk hl U
 refine ⟨⟨sm.k,sm.room,?_⟩,key⟩
 by_cases c:l = j
 ·exact .inr (key c)
 ·rcases U with U | U
  ·left; rw [rk (fun z=>c z.2.symm) (by omega)]; exact U
  ·exact .inr (vo k4 s1 sk hl U)
theorem Vq {k room s j i:Nat} {n:NS} (k4:k <= 4) (s1:1 <= s) (sk:s <= k) (hi:i < 2 ^ (k - 1)) (r1:1 <= room) (U:UpI k room s j n):UpI k room s j (yH [] s n i) /\ ((∃ m,m < 2 /\ inlN k s i m = j) -> NeL k (yH [] s n i).lines s):=by
 have ek:=U.k
 have e:yH [] s n i = yE (yE n s (inlN k s i (n.now % 2))) s (inlN k s i (1 - n.now % 2)):=by
  unfold yH
  rw [if_neg (by simp),ek]
 have m2:n.now % 2 < 2:=Nat.mod_lt _ (by decide)
 have l1:=xW k4 s1 sk hi m2
 have l2:=xW k4 s1 sk hi (show 1 - n.now % 2 < 2 by omega)
 obtain ⟨U1,h1⟩:=Wd k4 s1 sk l1 r1 U
 obtain ⟨U2,h2⟩:=Wd k4 s1 sk l2 r1 U1
 rw [e]
 refine ⟨U2,fun ⟨m,hm,em⟩=>?_⟩
 by_cases c:m = n.now % 2
 ·have:=h1 (by rw [← c]; exact em)
  have k1:=U1.k
  have z:=vo (ns:=yE n s (inlN k s i (n.now % 2))) (s:=s) (l:=inlN k s i (1 - n.now % 2)) (h:=s) (by rw [k1]; exact k4) s1 (by rw [k1]; exact sk) (by rw [k1]; exact l2) (by rw [k1]; exact this)
  rw [k1] at z; exact z
 ·exact h2 (by rw [show 1 - n.now % 2 = m by omega]; exact em)
theorem ZM {k room s j:Nat} {n:NS} (k4:k <= 4) (s1:1 <= s) (sk:s <= k) (r1:1 <= room) (U:UpI k room s j n):∀ {i},i <= 2 ^ (k - 1) -> UpI k room s j (passS [] n s i) /\ ((∃ i' m,i' < i /\ m < 2 /\ inlN k s i' m = j) -> NeL k (passS [] n s i).lines s)
 | 0,_=>⟨U,fun ⟨_,_,h,_⟩=>absurd h (Nat.not_lt_zero _)⟩
 | i + 1,hi=>by
  obtain ⟨U1,h1⟩:=ZM k4 s1 sk r1 U (i:=i) (by omega)
  have es:passS [] n s (i + 1) = yH [] s (passS [] n s i) i:=by unfold passS; rw [zF]
  rw [es]
  obtain ⟨U2,h2⟩:=Vq k4 s1 sk (show i < 2 ^ (k - 1) by omega) r1 U1
  refine ⟨U2,fun ⟨i',m,h3,hm,em⟩=>?_⟩
  by_cases c:i' = i
  ·exact h2 ⟨m,hm,by rw [← c]; exact em⟩
  ·have z:=h1 ⟨i',m,by omega,hm,em⟩
   have k1:=U1.k
   exact (qN (P:=fun n=>n.k = k /\ NeL k n.lines s) (gone:=[]) (fun n h=>by rw [h.1]; exact k4) (fun n s' l h s1 sk hl=>⟨(yA n s' l).k.trans h.1,by
    have:=vo (by rw [h.1]; exact k4) s1 sk hl (by rw [h.1]; exact h.2)
    rw [h.1] at this; exact this⟩) ⟨k1,z⟩ s1 (by rw [k1]; exact sk) (by rw [k1]; omega)).2
theorem qO {s a b:Nat} {gone:List (Nat × Nat)} {n:NS} (h:a + 1 < s):∀ {i},(passS gone n s i).lines a b = n.lines a b
 | 0=>rfl
 | i + 1=>by
  have es:passS gone n s (i + 1) = yH gone s (passS gone n s i) i:=by unfold passS; rw [zF]
  have ih:=qO (gone:=gone) (n:=n) (b:=b) h (i:=i)
  rw [es]
  unfold yH
  split
  ·exact ih
  ·rw [rk (s:=s) (a:=a) (fun z=>by have:=z.1; omega) (by omega),rk (s:=s) (a:=a) (fun z=>by have:=z.1; omega) (by omega)]; exact ih
theorem ZN {k:Nat} {n:NS} {l j:Nat} (ek:n.k = k) (k4:k <= 4) (r1:1 <= n.room) (hl:l < k) (hj:j < 2 ^ k) (hn:n.lines l j ≠ []):∀ {i},i <= k -> ((i <= k - (l + 1) -> (passA [] n i).lines l j = n.lines l j) /\ (k - (l + 1) < i -> NeL k (passA [] n i).lines (l + 1)))
 | 0,_=>⟨fun _=>rfl,fun h=>absurd h (Nat.not_lt_zero _)⟩
 | i + 1,hi=>by
  obtain ⟨ih1,ih2⟩:=ZN ek k4 r1 hl hj hn (i:=i) (by omega)
  have sm:=y7 [] n i
  have e1:(passA [] n i).k = k:=sm.k.trans ek
  rw [vn,e1]
  refine ⟨fun h=>?_,fun h=>?_⟩
  ·rw [qO (by omega)]; exact ih1 (by omega)
  ·by_cases c:i = k - (l + 1)
   ·have es:k - i = l + 1:=by omega
    rw [es]
    have w:(passA [] n i).lines l j ≠ []:=by rw [ih1 (by omega)]; exact hn
    obtain ⟨n',m,h1,h2,h3⟩:=SY (s:=l + 1) k4 (by omega) (by omega) hj
    exact (ZM (k:=k) (room:=n.room) (s:=l + 1) (j:=j) k4 (by omega) (by omega) r1 ⟨e1,sm.room,.inl w⟩ (Nat.le_refl _)).2 ⟨n',m,h1,h2,h3⟩
   ·have z:=ih2 (by omega)
    exact (uz (P:=fun n=>n.k = k /\ NeL k n.lines (l + 1)) (gone:=[]) (fun n h=>by rw [h.1]; exact k4) (fun n s' l' h s1 sk hl=>⟨(yA n s' l').k.trans h.1,by
     have:=vo (by rw [h.1]; exact k4) s1 sk hl (by rw [h.1]; exact h.2)
     rw [h.1] at this; exact this⟩) ⟨e1,z⟩ (show 1 <= k - i by omega) (by rw [e1]; omega) (by rw [e1]; exact Nat.le_refl _)).2
theorem Vr {n:NS} {gone:List (Nat × Nat)} {h:Nat} (k4:n.k <= 4) (z:NeL n.k n.lines h):NeL n.k (passA gone n n.k).lines h :=
 (uA (P:=fun m=>m.k = n.k /\ NeL n.k m.lines h) (gone:=gone) (fun m h=>by rw [h.1]; exact k4) (fun m s' l' h s1 sk hl=>⟨(yA m s' l').k.trans h.1,by
  have:=vo (by rw [h.1]; exact k4) s1 sk hl (by rw [h.1]; exact h.2)
  rw [h.1] at this; exact this⟩) ⟨rfl,z⟩ (Nat.le_refl _)).2
def logD (d:Nat -> List Wt) (m:Nat):List Nat:=(List.range m).flatMap fun t=>yF (d (t + 1))
theorem xy {d:Nat -> List Wt} {m:Nat}:logD d (m + 1) = logD d m ++ yF (d (m + 1)):=by
 unfold logD
 rw [List.range_succ,List.flatMap_append]; simp
theorem vp {d d':Nat -> List Wt}:∀ {m:Nat},(∀ t,1 <= t -> t <= m -> d t = d' t) -> logD d m = logD d' m
 | 0,_=>rfl
 | m + 1,h=>by rw [xy,xy,vp fun t h1 h2=>h t h1 (by omega),h (m + 1) (by omega) (Nat.le_refl _)]
theorem ZO {d:Nat -> List Wt} {m:Nat}:∀ {n:Nat},m <= n -> ∃ r,logD d n = logD d m ++ r
 | 0,h=>⟨[],by rw [List.append_nil,Nat.le_zero.mp h]⟩
 | n + 1,h=>by
  by_cases c:m = n + 1
  ·exact ⟨[],by rw [List.append_nil,c]⟩
  ·obtain ⟨r,e⟩:=ZO (d:=d) (m:=m) (n:=n) (by omega)
   exact ⟨r ++ yF (d (n + 1)),by rw [xy,e,List.append_assoc]⟩
theorem jV {l:List Nat} (h:∀ n,l.count n <= 1):l.Nodup:=by
 induction l with
 | nil=>exact List.nodup_nil
 | cons a l ih =>
  refine List.nodup_cons.mpr ⟨fun z=>?_,ih fun n=>Nat.le_trans (List.count_le_count_cons ..) (h n)⟩
  have h1:=h a
  rw [List.count_cons_self] at h1
  have:=List.count_pos_iff.mpr z
  omega
def winS (now w:Nat) (F:Nat -> Nat):Nat:=sumR w fun i=>if i < now then F (now - i) else 0
theorem tX {F:Nat -> Nat}:∀ {w:Nat},sumR (w + 1) F = F 0 + sumR w fun i=>F (i + 1)
 | 0=>by rw [yu]; show 0 + F 0 = F 0 + 0; omega
 | w + 1=>by rw [yu,tX,yu]; omega
structure NW (ns:NS):Prop where
 nr:NR ns
 nd:ns.nd = ns.now
 r1:1 <= ns.room
 cnt:∀ n,wsN ns.k ns.lines (fun w=>w.nums.count n) + ns.log.count n = if n < ns.asks.length then 1 else 0
 lg:ns.log = logD ns.done ns.now
 fk:∀ n ∈ ns.log,(getN ns.fnd n).isSome = true
 an:ns.ans.map (·.1) = logD ns.done (ns.now - ns.k)
 kp:∀ s n,1 <= s -> s <= ns.k -> n < 2 ^ (ns.k - 1) -> ns.keep s n = ((wsN ns.k ns.lines (gq (s,n)) + winS ns.now (ns.k - s + 1) fun t=>lsum (gq (s,n)) (ns.done t):Nat):Int)
theorem uB {k:Nat} {f:Nat -> Nat -> List Wt} {g:Wt -> Nat} (h:∀ l j,l <= k -> j < 2 ^ k -> f l j = []):wsN k f g = 0 :=
 xV fun l hl=>xV fun j hj=>by rw [h l j (by omega) hj]; rfl
theorem NW.new {k room kept:Nat} {b:List Int} (k4:k <= 4) (b16:b.length <= 16) (r1:1 <= room):NW (newS k b room kept):=by
 have z:∀ g,wsN k (newS k b room kept).lines g = 0:=fun g=>uB fun _ _ _ _=>rfl
 refine ⟨⟨k4,b16,Nat.zero_le _,fun l j _ _ w hw=>(by cases hw),fun t h1 h2=>?_,?_,Nat.zero_le _,Nat.le_refl _,Nat.le_refl _⟩,rfl,r1,fun n=>?_,rfl,fun n hn=>(by cases hn),?_,fun s n _ _ _=>?_⟩
 ·have:t <= 0:=h2
  omega
 ·show wsN k _ nlen + 0 = 0
  rw [z]
 ·show wsN k _ _ + 0 = if n < 0 then 1 else 0
  rw [z,if_neg (Nat.not_lt_zero _)]
 ·show [] = logD _ (0 - k)
  rw [Nat.zero_sub]; rfl
 ·show (0:Int) = _
  have:winS 0 (k - s + 1) (fun t=>lsum (gq (s,n)) []) = 0:=xV fun i _=>if_neg (Nat.not_lt_zero _)
  show (0:Int) = ((wsN k _ _ + winS 0 (k - s + 1) (fun t=>lsum (gq (s,n)) []):Nat):Int)
  rw [z,this]; rfl
theorem NW.put {ns:NS} (h:NW ns) {a:Ask} (hh:a.hand.toNat < 2 ^ ns.k) (hb:a.box.toNat < ns.boxes.length) (h40:ns.asks.length < 40):NW (putS ns a):=by
 have el:(putS ns a).asks.length = ns.asks.length + 1:=by show (ns.asks ++ [a]).length = _; rw [List.length_append]; rfl
 refine ⟨h.nr.put hh hb h40,h.nd,h.r1,fun n=>?_,h.lg,h.fk,h.an,fun s n s1 sk hn=>?_⟩
 ·rw [el]
  have h1:=jU (ns:=ns) (a:=a) (g:=fun w=>w.nums.count n) hh
  have h2:=h.cnt n
  show wsN ns.k (putS ns a).lines _ + ns.log.count n = _
  have e:([ns.asks.length]:List Nat).count n = if n = ns.asks.length then 1 else 0:=by
   rw [List.count_singleton]
   by_cases c:n = ns.asks.length
   ·rw [if_pos c,if_pos (by rw [c]; exact beq_self_eq_true _)]
   ·rw [if_neg c,if_neg (fun z=>c (beq_iff_eq.mp z).symm)]
  have h1:wsN ns.k (putS ns a).lines (fun w=>w.nums.count n) = wsN ns.k ns.lines (fun w=>w.nums.count n) + ([ns.asks.length]:List Nat).count n:=h1
  rw [e] at h1
  split at h1 <;> split at h2 <;> split <;> omega
 ·have h1:=jU (ns:=ns) (a:=a) (g:=gq (s,n)) hh
  have e:gq (s,n) ⟨a.box.toNat,a.deed,[ns.asks.length],[]⟩ = 0:=rfl
  rw [e] at h1
  show ns.keep s n = ((wsN ns.k (putS ns a).lines _ + _:Nat):Int)
  rw [h1]
  exact h.kp s n s1 sk hn
theorem Sj {s a b:Nat} {kp:Nat -> Nat -> Int} {sw:Nat × Nat}:fgM s kp sw a b = kp a b - if a = s /\ sw = (a,b) then 1 else 0:=by
 unfold fgM
 by_cases c:sw.1 = s
 ·rw [if_pos c]
  by_cases d:a = sw.1 /\ b = sw.2
  ·rw [if_pos ⟨by rw [d.1,c],Prod.ext d.1.symm d.2.symm⟩,d.1,d.2,zD]
  ·rw [zE d,if_neg fun z=>d ⟨by rw [z.2],by rw [z.2]⟩]; simp
 ·rw [if_neg c,if_neg fun z=>c (by rw [z.2]; exact z.1)]; simp
theorem VU {s a b:Nat}:∀ {ms:List (Nat × Nat)} {kp:Nat -> Nat -> Int},ms.foldl (fgM s) kp a b = kp a b - if a = s then (ms.count (a,b):Int) else 0
 | [],kp=>by show kp a b = _; split <;> simp
 | m :: ms,kp=>by
  show ms.foldl (fgM s) (fgM s kp m) a b = _
  rw [VU,Sj,List.count_cons]
  by_cases c:a = s
  ·rw [if_pos c,if_pos c]
   by_cases d:m = (a,b)
   ·rw [if_pos ⟨c,d⟩,if_pos (by rw [d]; exact beq_self_eq_true _)]; push_cast; omega
   ·rw [if_neg fun z=>d z.2,if_neg (fun z=>d (beq_iff_eq.mp z))]; push_cast; omega
  ·rw [if_neg c,if_neg c,if_neg fun z=>c z.1]; omega
theorem VV {s a b:Nat}:∀ {ws:List Wt} {kp:Nat -> Nat -> Int},ws.foldl (fgW s) kp a b = kp a b - if a = s then (lsum (gq (a,b)) ws:Int) else 0
 | [],kp=>by show kp a b = _; split <;> simp [wc]
 | w :: ws,kp=>by
  show ws.foldl (fgW s) (fgW s kp w) a b = _
  rw [VV,zS]
  have:fgW s kp w a b = kp a b - if a = s then (gq (a,b) w:Int) else 0:=VU
  rw [this]
  by_cases c:a = s
  ·rw [if_pos c,if_pos c,if_pos c]; push_cast; omega
  ·rw [if_neg c,if_neg c,if_neg c]; omega
theorem VW {ns:NS} {a b:Nat} {kp:Nat -> Nat -> Int}:∀ {i:Nat},(List.range i).foldl (fun kp i=>fgS ns kp (i + 1)) kp a b = kp a b - if 1 <= a /\ a <= i then (lsum (gq (a,b)) (agoS ns (ns.k - a + 1)):Int) else 0
 | 0=>by rw [if_neg (by omega)]; show kp a b = _; omega
 | i + 1=>by
  rw [zF]
  have:∀ kp,fgS ns kp (i + 1) a b = kp a b - if a = i + 1 then (lsum (gq (a,b)) (agoS ns (ns.k - (i + 1) + 1)):Int) else 0:=fun kp=>VV
  rw [this,VW (i:=i)]
  by_cases c:a = i + 1
  ·rw [if_neg (show ¬ (1 <= a /\ a <= i) by omega),if_pos c,if_pos (show 1 <= a /\ a <= i + 1 by omega),← c]; omega
  ·rw [if_neg c]
   by_cases d:1 <= a /\ a <= i
   ·rw [if_pos d,if_pos (show 1 <= a /\ a <= i + 1 by omega)]; omega
   ·rw [if_neg d,if_neg (show ¬ (1 <= a /\ a <= i + 1) by omega)]; omega
theorem We {b:Nat}:∀ {l:List Nat} {ns:NS} {n:Nat},(n ∈ l \/ (getN ns.fnd n).isSome = true) -> (getN (l.foldl (doN b) ns).fnd n).isSome = true
 | [],ns,n,h=>by
  rcases h with h | h
  ·cases h
  ·exact h
 | a :: l,ns,n,h=>by
  refine We (l:=l) (ns:=doN b ns a) ?_
  have e:(getN (doN b ns a).fnd n) = if n = a then some (ns.boxes.getD b 0) else getN ns.fnd n:=Vg
  rw [e]
  by_cases c:n = a
  ·rw [if_pos c]; exact .inr rfl
  ·rw [if_neg c]
   rcases h with h | h
   ·exact .inl ((List.mem_cons.mp h).resolve_left c)
   ·exact .inr h
theorem VX:∀ {l:List Wt} {ns:NS} {n:Nat},(n ∈ yF l \/ (getN ns.fnd n).isSome = true) -> (getN (l.foldl doW ns).fnd n).isSome = true
 | [],ns,n,h=>by
  rcases h with h | h
  ·cases h
  ·exact h
 | w :: l,ns,n,h=>by
  refine VX (l:=l) (ns:=doW ns w) ?_
  rcases h with h | h
  ·have h:n ∈ w.nums ++ yF l:=h
   rcases List.mem_append.mp h with h | h
   ·exact .inr (We (.inl h))
   ·exact .inl h
  ·exact .inr (We (.inr h))
theorem uC:∀ {l f:List (Nat × Int)},(l.map (·.1)).Nodup -> (∀ p ∈ l,p.1 ∉ f.map (·.1)) -> l.foldl (fun f p=>putN f p.1 p.2) f = f ++ l
 | [],f,_,_=>(List.append_nil _).symm
 | p :: l,f,hn,hf=>by
  have e:putN f p.1 p.2 = f ++ [p]:=by
   unfold putN
   rw [if_neg]
   intro z
   obtain ⟨q,hq,e⟩:=List.any_eq_true.mp z
   exact hf p (List.mem_cons_self ..) (List.mem_map.mpr ⟨q,hq,of_decide_eq_true e⟩)
  show l.foldl _ (putN f p.1 p.2) = _
  have hn:(p.1 :: l.map (·.1)).Nodup:=hn
  obtain ⟨h1,h2⟩:=List.nodup_cons.mp hn
  rw [e,uC h2 fun q hq z=>?_,List.append_assoc]; rfl
  rw [List.map_append,List.mem_append] at z
  rcases z with z | z
  ·exact hf q (List.mem_cons_of_mem _ hq) z
  ·have z:q.1 = p.1:=List.mem_singleton.mp z
   exact h1 (by rw [← z]; exact List.mem_map.mpr ⟨q,hq,rfl⟩)
theorem ZP {ns:NS}:∀ {l:List Wt},(l.flatMap (uQ ns)).map (·.1) = yF l
 | []=>rfl
 | w :: l=>by
  rw [List.flatMap_cons,List.map_append,ZP]
  show _ = w.nums ++ yF l
  congr 1
  unfold uQ
  rw [List.map_map]
  exact List.map_id _
theorem NW.l40 {ns:NS} (h:NW ns):ns.log.length <= 40:=by
 have h1:=h.nr.tot
 have h2:=h.nr.a40
 omega
structure GoneI (gone:List (Nat × Nat)) (ns n4:NS):Prop where
 nr:NR n4
 k:n4.k = ns.k
 room:n4.room = ns.room
 kept:n4.kept = ns.kept
 bl:n4.boxes.length = ns.boxes.length
 asks:n4.asks = ns.asks
 now:n4.now = ns.now + 1
 nd:n4.nd = ns.now + 1
 done:n4.done = updD ns.done (ns.now + 1) (zA gone (zm (zz ns)) (2 ^ ns.k)).1
 log:n4.log = ns.log ++ yF (zA gone (zm (zz ns)) (2 ^ ns.k)).1
 ans:n4.ans = ns.ans
 cnt:∀ n,wsN ns.k n4.lines (fun w=>w.nums.count n) + n4.log.count n = if n < ns.asks.length then 1 else 0
 fk:∀ n ∈ n4.log,(getN n4.fnd n).isSome = true
 kp:∀ s n,1 <= s -> s <= ns.k -> n < 2 ^ (ns.k - 1) -> n4.keep s n = ((wsN ns.k n4.lines (gq (s,n)) + winS (ns.now + 1) (ns.k - s + 1) fun t=>lsum (gq (s,n)) (n4.done t):Nat):Int)
theorem YB {ns:NS} (h:NW ns) (nw:ns.now < 10000) (gone:List (Nat × Nat)):GoneI gone ns (zX gone ns):=by
 have k4:=h.nr.k4
 have hnd:(zm (zz ns)).nd + 1 = (zm (zz ns)).now:=by show ns.nd + 1 = ns.now + 1; rw [h.nd]
 have nr2:=(h.nr.tick nw).forget
 have nr3:=nr2.take (gone:=gone) hnd
 have D:=Wc gone (zm (zz ns))
 have F:=jN (gone:=gone) (ns:=zm (zz ns)) (Nat.le_refl _)
 have ek:(ym gone (zm (zz ns))).k = ns.k:=D.k
 have fk3:∀ n,(n ∈ yF (zA gone (zm (zz ns)) (2 ^ ns.k)).1 \/ (getN ns.fnd n).isSome = true) -> (getN (ym gone (zm (zz ns))).fnd n).isSome = true:=fun n hn=>VX (ns:=gotS gone (zm (zz ns))) hn
 have I:=SX (n0:=ym gone (zm (zz ns))) (gone:=gone) (by rw [ek]; exact k4) (i:=ns.k) (by rw [ek]; exact Nat.le_refl _)
 have nr4:=nr3.passA (gone:=gone) (i:=ns.k) (by rw [ek]; exact Nat.le_refl _)
 have eg:zX gone ns = passA gone (ym gone (zm (zz ns))) ns.k:=rfl
 have ews:∀ g,lsum g (zA gone (zm (zz ns)) (2 ^ ns.k)).1 + wsN ns.k (zA gone (zm (zz ns)) (2 ^ ns.k)).2 g = wsN ns.k ns.lines g:=F.ws
 have e2:∀ a b,(zm (zz ns)).keep a b = ns.keep a b - if 1 <= a /\ a <= ns.k then (lsum (gq (a,b)) (agoS (zz ns) (ns.k - a + 1)):Int) else 0:=fun a b=>VW (ns:=zz ns) (i:=ns.k)
 rw [eg]
 have Dl:(ym gone (zm (zz ns))).lines = (zA gone (zm (zz ns)) (2 ^ ns.k)).2:=D.lines
 have Dg:(ym gone (zm (zz ns))).log = ns.log ++ yF (zA gone (zm (zz ns)) (2 ^ ns.k)).1:=D.log
 have Dd:(ym gone (zm (zz ns))).done = updD ns.done (ns.now + 1) (zA gone (zm (zz ns)) (2 ^ ns.k)).1:=D.done
 have Dk:=D.keep
 have Dnd:(ym gone (zm (zz ns))).nd = ns.now + 1:=by rw [D.nd]; show ns.nd + 1 = _; rw [h.nd]
 have Dnow:(ym gone (zm (zz ns))).now = ns.now + 1:=D.now
 have Da:(ym gone (zm (zz ns))).asks = ns.asks:=D.asks
 have Dr:(ym gone (zm (zz ns))).room = ns.room:=D.room
 have Dq:(ym gone (zm (zz ns))).kept = ns.kept:=D.kept
 have Db:(ym gone (zm (zz ns))).boxes.length = ns.boxes.length:=D.bl
 have Ds:(ym gone (zm (zz ns))).ans = ns.ans:=D.ans
 clear D F eg
 generalize (zA gone (zm (zz ns)) (2 ^ ns.k)).2 = L2' at *
 generalize htk:(zA gone (zm (zz ns)) (2 ^ ns.k)).1 = tk at *
 generalize ym gone (zm (zz ns)) = n3 at *
 generalize passA gone n3 ns.k = n4 at *
 have sm:=I.same
 have cnt4:∀ g,Addv g -> wsN ns.k n4.lines g = wsN ns.k n3.lines g:=fun g hg=>by have:=I.cnt g hg; rw [ek] at this; exact this
 refine ⟨nr4,sm.k.trans ek,sm.room.trans Dr,sm.kept.trans Dq,by rw [sm.boxes]; exact Db,sm.asks.trans Da,sm.now.trans Dnow,sm.nd.trans Dnd,(by rw [htk]; exact sm.done.trans Dd),(by rw [htk]; exact sm.log.trans Dg),sm.ans.trans Ds,fun n=>?_,fun n hn=>?_,fun s n s1 sk hn=>?_⟩
 ·rw [cnt4 _ UU,Dl,sm.log,Dg,List.count_append,ux]
  have h1:=h.cnt n
  have h2:=ews (fun w=>w.nums.count n)
  rw [← h1]
  omega
 ·rw [sm.fnd]
  rw [sm.log,Dg] at hn
  rcases List.mem_append.mp hn with hn | hn
  ·exact fk3 n (.inr (h.fk n hn))
  ·exact fk3 n (.inl hn)
 ·have h1:=h.kp s n s1 sk hn
  have h2:=I.kp (s,n)
  rw [ek,Dl,Dk,e2 s n,if_pos ⟨s1,sk⟩] at h2
  have h3:=ews (gq (s,n))
  have h4:winS ns.now (ns.k - s + 1) (fun t=>lsum (gq (s,n)) (ns.done t)) = winS ns.now (ns.k - s) (fun t=>lsum (gq (s,n)) (ns.done t)) + lsum (gq (s,n)) (agoS (zz ns) (ns.k - s + 1)):=by
   unfold winS
   rw [yu]
   congr 1
   unfold agoS
   show (if ns.k - s < ns.now then lsum (gq (s,n)) (ns.done (ns.now - (ns.k - s))) else 0) = lsum (gq (s,n)) (if ns.k - s + 1 < ns.now + 1 /\ ns.now + 1 - (ns.k - s + 1) <= ns.nd then ns.done (ns.now + 1 - (ns.k - s + 1)) else [])
   by_cases c:ns.k - s < ns.now
   ·rw [if_pos c,if_pos ⟨by omega,by rw [h.nd]; omega⟩,show ns.now + 1 - (ns.k - s + 1) = ns.now - (ns.k - s) by omega]
   ·rw [if_neg c,if_neg (by omega)]; rfl
  have h5:winS (ns.now + 1) (ns.k - s + 1) (fun t=>lsum (gq (s,n)) (n4.done t)) = lsum (gq (s,n)) tk + winS ns.now (ns.k - s) (fun t=>lsum (gq (s,n)) (ns.done t)):=by
   unfold winS
   rw [tX,sm.done,Dd]
   congr 1
   ·rw [if_pos (Nat.succ_pos _)]
    show lsum _ (updD ns.done (ns.now + 1) tk (ns.now + 1)) = _
    unfold updD; rw [if_pos rfl]
   ·refine wb fun i _=>?_
    by_cases c:i < ns.now
    ·rw [if_pos c,if_pos (by omega)]
     show lsum _ (updD ns.done (ns.now + 1) tk (ns.now + 1 - (i + 1))) = _
     unfold updD
     rw [if_neg (by omega),show ns.now + 1 - (i + 1) = ns.now - i by omega]
    ·rw [if_neg c,if_neg (by omega)]
  rw [h5]
  rw [h4] at h1
  have h2:(wsN ns.k n4.lines (gq (s,n)):Int) - n4.keep s n = wsN ns.k L2' (gq (s,n)) - (ns.keep s n - lsum (gq (s,n)) (agoS (zz ns) (ns.k - s + 1))):=h2
  push_cast at h1 ⊢
  omega
theorem NW.beat {ns:NS} (h:NW ns) (nw:ns.now < 10000) (gone:List (Nat × Nat)):NT (zX gone ns) /\ NW (beatS gone ns):=by
 have G:=YB h nw gone
 have eb:beatS gone ns = XU (zX gone ns):=rfl
 rw [eb]
 generalize zX gone ns = n4 at G ⊢
 have hlg:n4.log = logD n4.done (ns.now + 1):=by
  rw [xy,G.log,G.done]
  have e:updD ns.done (ns.now + 1) (zA gone (zm (zz ns)) (2 ^ ns.k)).1 (ns.now + 1) = (zA gone (zm (zz ns)) (2 ^ ns.k)).1:=if_pos rfl
  rw [e,h.lg]
  congr 1
  exact vp fun t t1 t2=>by unfold updD; rw [if_neg (by omega)]
 have hnd:n4.log.Nodup:=jV fun n=>by
  have:=G.cnt n
  split at this <;> omega
 have l40:n4.log.length <= 40:=by
  have h1:=G.nr.tot
  have h2:=G.nr.a40
  omega
 have han:n4.ans.map (·.1) = logD n4.done (ns.now - ns.k):=by
  rw [G.ans,h.an,G.done]
  exact vp fun t t1 t2=>by unfold updD; rw [if_neg (by omega)]
 have hago:logD n4.done (ns.now + 1 - ns.k) = logD n4.done (ns.now - ns.k) ++ yF (agoS n4 n4.k):=by
  unfold agoS
  rw [G.k,G.now,G.nd]
  by_cases c:ns.k < ns.now + 1
  ·rw [if_pos ⟨c,by omega⟩,show ns.now + 1 - ns.k = (ns.now - ns.k) + 1 by omega,xy]
  ·rw [if_neg (by omega),show ns.now + 1 - ns.k = 0 by omega,show ns.now - ns.k = 0 by omega]; rfl
 have hkeys:(xk n4).map (·.1) = yF (agoS n4 n4.k):=ZP
 obtain ⟨r,hr⟩:=ZO (d:=n4.done) (m:=ns.now + 1 - ns.k) (n:=ns.now + 1) (by omega)
 rw [← hlg] at hr
 have hnd2:(logD n4.done (ns.now - ns.k) ++ yF (agoS n4 n4.k)).Nodup:=by
  rw [← hago]
  rw [hr] at hnd
  exact (List.nodup_append.mp hnd).1
 obtain ⟨hn1,hn2,hn3⟩:=List.nodup_append.mp hnd2
 have hlen:(logD n4.done (ns.now - ns.k)).length + (yF (agoS n4 n4.k)).length <= 40:=by
  have:=congrArg List.length hr
  rw [hago,List.length_append,List.length_append] at this
  omega
 have hmem:∀ n ∈ yF (agoS n4 n4.k),n ∈ n4.log:=fun n hn=>by
  rw [hr,hago]; exact List.mem_append_left _ (List.mem_append_right _ hn)
 have nt:NT n4:=by
  refine ⟨by rw [hkeys]; exact hn2,fun w hw n hn=>G.fk n (hmem n (List.mem_flatMap.mpr ⟨w,hw,hn⟩)),?_,?_⟩
  ·have:=congrArg List.length hkeys
   rw [List.length_map] at this
   omega
  ·have:=congrArg List.length han
   rw [List.length_map] at this
   omega
 have etell:(XU n4).ans = n4.ans ++ xk n4:=by
  show (qE (xk n4)).foldl (fun f p=>putN f p.1 p.2) n4.ans = _
  have e1:qE (xk n4) = xk n4:=by
   have:=uC (l:=xk n4) (f:=[]) (by rw [hkeys]; exact hn2) (fun p _ z=>by cases z)
   exact this
  rw [e1]
  refine uC (by rw [hkeys]; exact hn2) fun p hp z=>?_
  rw [han] at z
  exact hn3 _ z _ (by rw [← hkeys]; exact List.mem_map.mpr ⟨p,hp,rfl⟩) rfl
 refine ⟨nt,⟨⟨G.nr.k4,G.nr.b16,G.nr.a40,G.nr.lw,G.nr.dw,G.nr.tot,G.nr.nw,G.nr.nd,G.nr.fl⟩,?_,?_,fun n=>?_,?_,G.fk,?_,fun s n s1 sk hn=>?_⟩⟩
 ·show n4.nd = n4.now
  rw [G.nd,G.now]
 ·show 1 <= n4.room
  rw [G.room]; exact h.r1
 ·show wsN n4.k n4.lines _ + n4.log.count n = if n < n4.asks.length then 1 else 0
  rw [G.k,G.asks]; exact G.cnt n
 ·show n4.log = logD n4.done n4.now
  rw [G.now]; exact hlg
 ·rw [etell,List.map_append,han,hkeys,← hago]
  show logD n4.done (ns.now + 1 - ns.k) = logD n4.done (n4.now - n4.k)
  rw [G.now,G.k]
 ·have sk':s <= ns.k:=by rw [← G.k]; exact sk
  have hn':n < 2 ^ (ns.k - 1):=by rw [← G.k]; exact hn
  show n4.keep s n = ((wsN n4.k n4.lines _ + winS n4.now (n4.k - s + 1) fun t=>lsum _ (n4.done t):Nat):Int)
  rw [G.k,G.now]
  exact G.kp s n s1 sk' hn'
theorem uD {gone:List (Nat × Nat)} {ns:NS} {j:Nat}:∀ {i:Nat},i <= j -> (zA gone ns i).2 ns.k j = ns.lines ns.k j
 | 0,_=>rfl
 | i + 1,h=>by
  have ih:=uD (gone:=gone) (ns:=ns) (j:=j) (i:=i) (by omega)
  rw [y8]
  cases hc:(zA gone ns i).2 ns.k i with
  | nil=>rw [xX hc]; exact ih
  | cons w r =>
   by_cases hg:(0,i) ∈ gone
   ·rw [xw hg]; exact ih
   ·rw [wg hc hg]
    show updL _ ns.k i r ns.k j = _
    rw [zE (fun z=>by have:=z.2; omega)]; exact ih
theorem tY {gone:List (Nat × Nat)} {ns:NS} {i:Nat} (h:(zA gone ns i).1 ≠ []):∀ d,(zA gone ns (i + d)).1 ≠ []
 | 0=>h
 | d + 1=>by
  have ih:=tY h d
  rw [← Nat.add_assoc,y8]
  cases hc:(zA gone ns (i + d)).2 ns.k (i + d) with
  | nil=>rw [xX hc]; exact ih
  | cons w r =>
   by_cases hg:(0,i + d) ∈ gone
   ·rw [xw hg]; exact ih
   ·rw [wg hc hg]; simp
theorem YC {ns:NS} {j:Nat} (hj:j < 2 ^ ns.k) (h:ns.lines ns.k j ≠ []):(zA [] ns (2 ^ ns.k)).1 ≠ []:=by
 have e:2 ^ ns.k = (j + 1) + (2 ^ ns.k - (j + 1)):=by omega
 rw [e]
 refine tY ?_ _
 rw [y8]
 have z:=uD (gone:=[]) (ns:=ns) (j:=j) (i:=j) (Nat.le_refl _)
 cases hc:ns.lines ns.k j with
 | nil=>exact absurd hc h
 | cons w r=>rw [hc] at z; rw [wg z (by simp)]; simp
theorem wX {gone:List (Nat × Nat)} {ns:NS}:∀ {i:Nat},(zA gone ns i).1 = [] -> (zA gone ns i).2 = ns.lines
 | 0,_=>rfl
 | i + 1,h=>by
  rw [y8] at h ⊢
  cases hc:(zA gone ns i).2 ns.k i with
  | nil=>rw [xX hc] at h ⊢; exact wX h
  | cons w r =>
   by_cases hg:(0,i) ∈ gone
   ·rw [xw hg] at h ⊢; exact wX h
   ·rw [wg hc hg] at h; simp at h
def Phi5 (ns:NS) (m:Nat):Prop:=ns.log.length = ns.asks.length \/ ∃ h,h <= ns.k /\ NeL ns.k ns.lines h /\ (ns.asks.length - ns.log.length) * (ns.k + 1) <= m + h
theorem Sk {k:Nat} {f:Nat -> Nat -> List Wt} {g:Wt -> Nat} (h:0 < wsN k f g):NeL k f 0:=by
 apply Classical.byContradiction
 intro c
 have:wsN k f g = 0:=uB fun l j hl hj=>Classical.byContradiction fun z=>c ⟨l,j,Nat.zero_le _,hl,hj,z⟩
 omega
theorem Wf {ns:NS} (nr:NR ns) {m:Nat} (h:(ns.asks.length - ns.log.length) * (ns.k + 1) <= m):Phi5 ns m:=by
 have h1:=nr.tot
 by_cases c:ns.log.length = ns.asks.length
 ·exact .inl c
 ·exact .inr ⟨0,Nat.zero_le _,Sk (g:=nlen) (by omega),h⟩
theorem UW {ns:NS} (nr:NR ns) (h:Phi5 ns 0):ns.log.length = ns.asks.length:=by
 rcases h with h | ⟨h,hk,_,hm⟩
 ·exact h
 ·have h1:=nr.tot
  by_cases c:ns.log.length = ns.asks.length
  ·exact c
  ·have:1 * (ns.k + 1) <= (ns.asks.length - ns.log.length) * (ns.k + 1):=Nat.mul_le_mul_right _ (by omega)
   omega
theorem Wg {l:List Wt} (h:l ≠ []) (hn:∀ w ∈ l,w.nums ≠ []):1 <= (yF l).length:=by
 cases l with
 | nil=>exact absurd rfl h
 | cons w r =>
  have:=hn w (List.mem_cons_self ..)
  show 1 <= (w.nums ++ yF r).length
  rw [List.length_append]
  cases e:w.nums with
  | nil=>exact absurd e this
  | cons a b=>show 1 <= b.length + 1 + _; omega
section
variable {ns:NS} {gone:List (Nat × Nat)} {m:Nat}
theorem UX (h:NW ns):∀ w ∈ (zA gone (zm (zz ns)) (2 ^ ns.k)).1,w.nums ≠ []:=fun w hw=>by
 have F:=jN (gone:=gone) (ns:=zm (zz ns)) (Nat.le_refl _)
 obtain ⟨j,hj,hw⟩:=F.tk w hw
 exact (h.nr.lw ns.k j (Nat.le_refl _) hj w hw).ne
theorem ZQ (h:NW ns) (nw:ns.now < 10000) (hp:Phi5 ns (m + 1)) (ht:(zA gone (zm (zz ns)) (2 ^ ns.k)).1 ≠ []):Phi5 (beatS gone ns) m:=by
 have G:=YB h nw gone
 have B:=(h.beat nw gone).2
 refine Wf B.nr ?_
 show ((zX gone ns).asks.length - (zX gone ns).log.length) * ((zX gone ns).k + 1) <= m
 rw [G.asks,G.log,G.k,List.length_append]
 have h1:=Wg ht (UX h)
 have h2:=h.nr.tot
 have h3:=B.nr.tot
 have h3:wsN _ _ nlen + (zX gone ns).log.length = (zX gone ns).asks.length:=h3
 rw [G.log,G.asks,List.length_append] at h3
 rcases hp with hp | ⟨x,hk,_,hm⟩
 ·omega
 ·generalize (yF (zA gone (zm (zz ns)) (2 ^ ns.k)).1).length = t at *
  have e:(ns.asks.length - ns.log.length) * (ns.k + 1) = (ns.asks.length - (ns.log.length + t)) * (ns.k + 1) + t * (ns.k + 1):=by rw [← Nat.add_mul]; congr 1; omega
  have:1 * (ns.k + 1) <= t * (ns.k + 1):=Nat.mul_le_mul_right _ h1
  omega
theorem Vs (h:NW ns) (nw:ns.now < 10000) (hp:Phi5 ns m):Phi5 (beatS gone ns) m:=by
 by_cases ht:(zA gone (zm (zz ns)) (2 ^ ns.k)).1 = []
 ·have G:=YB h nw gone
  have el:(zX gone ns).log = ns.log:=by rw [G.log,ht]; exact List.append_nil _
  rcases hp with hp | ⟨x,hk,hx,hm⟩
  ·left
   show (zX gone ns).log.length = (zX gone ns).asks.length
   rw [el,G.asks]; exact hp
  ·right
   refine ⟨x,by show x <= (zX gone ns).k; rw [G.k]; exact hk,?_,?_⟩
   ·have D:=Wc gone (zm (zz ns))
    have ek:(ym gone (zm (zz ns))).k = ns.k:=D.k
    have eln:(ym gone (zm (zz ns))).lines = ns.lines:=D.lines.trans (wX ht)
    have z:=Vr (n:=ym gone (zm (zz ns))) (gone:=gone) (h:=x) (by rw [ek]; exact h.nr.k4) (by rw [ek,eln]; exact hx)
    show NeL (zX gone ns).k (zX gone ns).lines x
    rw [G.k,← ek]
    have:zX gone ns = passA gone (ym gone (zm (zz ns))) (ym gone (zm (zz ns))).k:=by rw [ek]; rfl
    rw [this]; exact z
   ·show ((zX gone ns).asks.length - (zX gone ns).log.length) * ((zX gone ns).k + 1) <= m + x
    rw [el,G.asks,G.k]; exact hm
 ·refine ZQ h nw ?_ ht
  rcases hp with hp | ⟨x,hk,hx,hm⟩
  ·exact .inl hp
  ·exact .inr ⟨x,hk,hx,by omega⟩
theorem Wh (h:NW ns) (nw:ns.now < 10000) (hp:Phi5 ns (m + 1)):Phi5 (beatS [] ns) m:=by
 by_cases ht:(zA [] (zm (zz ns)) (2 ^ ns.k)).1 = []
 ·have G:=YB h nw []
  have el:(zX [] ns).log = ns.log:=by rw [G.log,ht]; exact List.append_nil _
  rcases hp with hp | ⟨x,hk,⟨l,j,hl,hlk,hj,hn⟩,hm⟩
  ·left
   show (zX [] ns).log.length = (zX [] ns).asks.length
   rw [el,G.asks]; exact hp
  ·have lk:l < ns.k:=by
    apply Classical.byContradiction
    intro c
    have:l = ns.k:=by omega
    subst this
    exact YC (ns:=zm (zz ns)) hj hn ht
   right
   refine ⟨x + 1,by show x + 1 <= (zX [] ns).k; rw [G.k]; omega,?_,?_⟩
   ·have D:=Wc [] (zm (zz ns))
    have ek:(ym [] (zm (zz ns))).k = ns.k:=D.k
    have er:(ym [] (zm (zz ns))).room = ns.room:=D.room
    have eln:(ym [] (zm (zz ns))).lines = ns.lines:=D.lines.trans (wX ht)
    obtain ⟨a,b,h1,h2,h3,h4⟩:=(ZN (n:=ym [] (zm (zz ns))) ek h.nr.k4 (by rw [er]; exact h.r1) lk hj (by rw [eln]; exact hn) (i:=ns.k) (Nat.le_refl _)).2 (by omega)
    show NeL (zX [] ns).k (zX [] ns).lines (x + 1)
    rw [G.k]
    exact ⟨a,b,by omega,h2,h3,h4⟩
   ·show ((zX [] ns).asks.length - (zX [] ns).log.length) * ((zX [] ns).k + 1) <= m + (x + 1)
    rw [el,G.asks,G.k]; omega
 ·exact ZQ h nw hp ht
structure Idle (ns:NS) (i:Nat):Prop where
 nw:NW ns
 full:ns.log.length = ns.asks.length
 nil:∀ j,j < i -> j < ns.now -> ns.done (ns.now - j) = []
theorem xZ (nr:NR ns) (h:ns.log.length = ns.asks.length) {l j:Nat} (hl:l <= ns.k) (hj:j < 2 ^ ns.k):ns.lines l j = []:=by
 have h1:=nr.tot
 have h2:=XV (f:=ns.lines) (g:=nlen) hl hj
 have h3:=vK (g:=nlen) (ws:=ns.lines l j) fun w hw=>by
  have:=(nr.lw l j hl hj w hw).ne
  show 1 <= w.nums.length
  cases e:w.nums with
  | nil=>exact absurd e this
  | cons a r=>exact Nat.succ_le_succ (Nat.zero_le _)
 exact List.eq_nil_of_length_eq_zero (by omega)
theorem Idle.beat {i:Nat} (h:Idle ns i) (nw:ns.now < 10000):Idle (beatS gone ns) (i + 1):=by
 have G:=YB h.nw nw gone
 have ht:(zA gone (zm (zz ns)) (2 ^ ns.k)).1 = []:=by
  have F:=jN (gone:=gone) (ns:=zm (zz ns)) (Nat.le_refl _)
  cases e:(zA gone (zm (zz ns)) (2 ^ ns.k)).1 with
  | nil=>rfl
  | cons w r =>
   obtain ⟨j,hj,hw⟩:=F.tk w (show w ∈ (zA gone (zm (zz ns)) (2 ^ ns.k)).1 by rw [e]; exact List.mem_cons_self ..)
   have hw:w ∈ ns.lines ns.k j:=hw
   rw [xZ h.nw.nr h.full (Nat.le_refl _) hj] at hw
   cases hw
 refine ⟨(h.nw.beat nw gone).2,?_,fun j hj hjn=>?_⟩
 ·show (zX gone ns).log.length = (zX gone ns).asks.length
  rw [G.log,ht,G.asks]
  show (ns.log ++ []).length = _
  rw [List.append_nil]; exact h.full
 ·have hjn:j < (zX gone ns).now:=hjn
  show (zX gone ns).done ((zX gone ns).now - j) = []
  rw [G.now] at hjn ⊢
  rw [G.done,ht]
  unfold updD
  by_cases c:j = 0
  ·rw [if_pos (by omega)]
  ·rw [if_neg (by omega),show ns.now + 1 - j = ns.now - (j - 1) by omega]
   exact h.nil (j - 1) (by omega) (by omega)
theorem qP {d:Nat -> List Wt} {m:Nat}:∀ {r:Nat},(∀ t,m < t -> t <= m + r -> d t = []) -> logD d (m + r) = logD d m
 | 0,_=>rfl
 | r + 1,h=>by
  rw [← Nat.add_assoc,xy,h (m + r + 1) (by omega) (by omega),qP fun t h1 h2=>h t h1 (by omega)]
  exact List.append_nil _
theorem Idle.end (h:Idle ns ns.k):ns.ans.map (·.1) = ns.log:=by
 rw [h.nw.an,h.nw.lg]
 have e:ns.now = (ns.now - ns.k) + (ns.now - (ns.now - ns.k)):=by omega
 have:=qP (d:=ns.done) (m:=ns.now - ns.k) (r:=ns.now - (ns.now - ns.k)) fun t h1 h2=>by
  have:=h.nil (ns.now - t) (by omega) (by omega)
  rw [show ns.now - (ns.now - t) = t by omega] at this
  exact this
 rw [← e] at this
 exact this.symm
theorem Idle.keep (h:Idle ns ns.k) {s n:Nat} (s1:1 <= s) (sk:s <= ns.k) (hn:n < 2 ^ (ns.k - 1)):ns.keep s n = 0:=by
 rw [h.nw.kp s n s1 sk hn,uB fun l j hl hj=>xZ h.nw.nr h.full hl hj]
 have:winS ns.now (ns.k - s + 1) (fun t=>lsum (gq (s,n)) (ns.done t)) = 0:=xV fun i hi=>by
  by_cases c:i < ns.now
  ·rw [if_pos c]
   show lsum _ (ns.done (ns.now - i)) = 0
   rw [h.nil i (by omega) c]; rfl
  ·exact if_neg c
 rw [this]; rfl
theorem qQ {n:Nat}:∀ {f:List (Nat × Int)},n ∈ f.map (·.1) -> ∃ v,getN f n = some v
 | [],h=>by cases h
 | p :: f,h=>by
  by_cases c:p.1 = n
  ·exact ⟨p.2,by unfold getN; rw [List.find?_cons,decide_eq_true c]; rfl⟩
  ·obtain ⟨v,hv⟩:=qQ (f:=f) ((List.mem_cons.mp h).resolve_left fun z=>c z.symm)
   exact ⟨v,by unfold getN at hv ⊢; rw [List.find?_cons,decide_eq_false c]; exact hv⟩
theorem UY (h:NW ns) (hf:ns.log.length = ns.asks.length) {n:Nat} (hn:n < ns.asks.length):n ∈ ns.log:=by
 have h1:=h.cnt n
 rw [if_pos hn,uB fun l j hl hj=>xZ h.nr hf hl hj] at h1
 exact List.count_pos_iff.mp (by omega)
end
section
variable {prog:Program} {w:World} {A:Around} {E:VS7} {s:Shared}
theorem uE {it t:Addr} {items:Array Value} (hne:t ≠ it):∀ (n i:Nat) (s:Shared) (Q:List Value -> Shared -> Prop),s.heap.IsListIter it t i -> s.heap.IsList t items -> i + n <= items.size →
  (∀ h',h'.IsListIter it t (i + n) -> Heap.SameBut it s.heap h' -> Q ((items.toList.drop i).take n) { s with heap:=h' }) -> wpAny (model prog w) A (draw (.ref it) n) Q E s
 | 0,i,s,Q,hit,_,_,hQ=>by
  show wpAny _ _ (pure []) Q E s
  exact wpAny_pure (by simpa using hQ s.heap hit (Heap.SameBut.refl ..))
 | n + 1,i,s,Q,hit,ht,hle,hQ=>by
  have hlt:i < items.size:=by omega
  show wpAny _ _ (pyNext (.ref it) >>= _) Q E s
  refine wpAny_bind (wpAny_pyNext_list_item hit ht (x:=items[i]) (by simp [hlt]) fun h₁ hit₁ hs₁=>?_)
  refine wpAny_bind (wpAny_holding (uE hne n (i + 1) _ _ hit₁ (ht.extBut hs₁.extBut hne) (by omega) fun h₂ hit₂ hs₂=>wpAny_pure ?_))
  have hd:items.toList.drop i = items[i] :: items.toList.drop (i + 1):=by simp [List.drop_eq_getElem_cons,hlt]
  have:=hQ h₂ (by rw [show i + (n + 1) = i + 1 + n by omega]; exact hit₂) (hs₁.trans hs₂)
  rw [hd,List.take_succ_cons] at this
  exact this
theorem wY {t:Addr} {items:Array Value} {Q:List Value -> Shared -> Prop} (hh:A.handled = none) (ht:s.heap.IsList t items)
  (hQ:∀ h',Heap.ExtBut s.heap.objs.size s.heap h' -> Q items.toList { s with heap:=h' }):wpAny (model prog w) A (unpackItems (.ref t) items.size none) Q E s:=by
 have hlt:t ≠ s.heap.objs.size:=by obtain ⟨o,ho,_⟩:=ht; exact Nat.ne_of_lt (Heap.lt_size ho)
 unfold unpackItems
 refine wpAny_bind ?_
 ·unfold notIterableAtAll
  refine wpAny_bind (wpAny_specialOf ht.typeIs F.slot_list_iter.lookup ?_)
  refine wpAny_pure ?_
  simp only [Bool.false_eq_true,if_false]
  refine wpAny_bind (wpAny_holding (wpAny_pyIter_list ht ?_))
  refine wpAny_bind (wpAny_holding (uE hlt items.size 0 _ _ ⟨_,Heap.get?_push_size _ rfl,rfl,rfl⟩ (ht.push _) (by omega) fun h₁ hit₁ hs₁=>?_))
  have hall:List.take items.size (List.drop 0 items.toList) = items.toList:=by
   rw [List.drop_zero]; exact List.take_of_length_le (by simp)
  rw [hall]
  rw [if_neg (by simp)]
  have ht₁:h₁.IsList t items:=(ht.push _).extBut hs₁.extBut hlt
  refine wpAny_bind (wpAny_holding (wpAny_pyNext_list_end hh hit₁ ht₁ (by simp) fun h₂ he₂=>?_))
  simp only [Option.isSome_none,Bool.false_eq_true,if_false]
  refine wpAny_pure (hQ h₂ fun b o hb e=>he₂ b o hb (hs₁.extBut b o hb (Heap.get?_push_of_some _ e)))
theorem wA {env:Env} {elts:List Expr} {x1} {pos:Pos} {t:Addr} {items:Array Value} {Q:Unit -> Shared -> Prop} (hh:A.handled = none) (ht:s.heap.IsList t items)
  (hn:(assignEach elts env).length = items.size) (hstar:(assignEach elts env).findIdx? (·.1) = none)
  (h:∀ h',Heap.ExtBut s.heap.objs.size s.heap h' -> wpAny (model prog w) A (assignInOrder ((assignEach elts env).map (·.2)) items.toList) Q E { s with heap:=h' }) :
  wpAny (model prog w) A (assign (.Tuple elts x1 pos) env (.ref t)) Q E s:=by
 rw [assign_Tuple]
 refine wpAny_bind (wpAny_standAt ?_)
 unfold unpack
 rw [hn,hstar]
 exact wpAny_bind (wpAny_holding (wY hh ht h))
end
section
variable {X:Cx} {pos:Pos}
def Sl (K:FG7) (n:Nat) (t:TGs):TG:=fun v σ H Q=>∃ a xs,v = .ref a /\ SqL K H a xs /\ xs.length = n /\ t xs σ H Q
theorem Vt {es:List Expr} {k:Nat} {t:TGs} {n:Nat} (hc:X.calm = true) (h:PGs X es t)
  (hn:(assignEach es X.env).length = n:=by rfl) (hst:(assignEach es X.env).findIdx? (·.1) = none:=by rfl):PG X (.Tuple es k pos) (Sl X.K n t):=by
 intro pins s σ H v u Q I r hw
 obtain ⟨a,xs,e1,hq,hl,hw⟩:=hw
 subst e1
 cases r
 obtain ⟨its,rv,ht,hz⟩:=I.list hq
 refine wA (I.ok.hd hc) ht.isList (by simp [hn,← hl,rv.length]) hst fun h' hx=>?_
 have I1:Inv X pins σ H { s with heap:=h' }:=I.kept (t':=s.toks) fun b o e=>hx b o (Nat.ne_of_lt (Heap.lt_size e)) e
 exact h pins _ σ H xs _ Q I1 (by simpa using rv) hw
end
def jW (_:FG7):Sp:=sp1 fun x H Q=>∃ a,x = .ref a /\ Pot H a /\ ∀ n H',-(10 ^ 29) <= n -> n <= 10 ^ 29 -> Grow [a] H H' -> Pot H' a -> Q (.int n) H'
def ZR (K:FG7):Sp:=sp1 fun x H Q=>∃ a,x = .ref a /\ Pot H a /\ ∀ d y H',d.Ok -> Grow [a] H H' -> Pot H' a -> yR K H' y d -> Q y H'
def Wi (K:FG7):Sp:=sp4 fun x y z u H Q=>∃ (p l:Addr) (k many:Nat) (sm:List Int),x = .ref p /\ y = .int k /\ z = .int many /\ u = .ref l /\ Pot H p /\ k <= 4 /\ 1 <= many /\ many <= 16 /\ H l = some (.lst (sm.map V.int)) /\ p ≠ l /\ 1 <= sm.length /\ sm.length <= 1000 /\ (∀ b ∈ sm,0 <= b /\ b < many) ∧
 ∀ a y H',WR many a -> a.hand < (2 ^ k:Nat) -> Grow [p] H H' -> Pot H' p -> wN K H' y a -> Q y H'
def ZS (K:FG7):Sp:=sp2 fun x y H Q=>∃ (p:Addr) (k:Nat),x = .ref p /\ y = .int k /\ Pot H p /\ k <= 4 /\ ∀ gone z H',(∀ q ∈ gone,vC k q) -> Grow [p] H H' -> Pot H' p -> xM K H' z gone -> Q z H'
def SZ (K:FG7) (H:Hp) (x:V) (qs:List (Nat × Nat)):Prop:=∃ r ys,x = .ref r /\ H r = some (.lst ys) /\ AllR (sU K H) ys qs
def qR (K:FG7):Sp:=sp3 fun x y z H Q=>∃ (a k m:Nat),x = .int a /\ y = .int k /\ z = .int m /\ a <= 1 /\ k <= 4 /\ m <= 16 /\ ∀ u H',Grow [] H H' -> SZ K H' u (prs5 a m (k + 1 - a) 0) -> Q u H'
def ZT (C:Addr) (K:FG7):Sp:=sp3 fun x y z H Q=>∃ (A:Ad -> Addr) (ns:NS),x = .ref (A .p) /\ y = .int ns.k /\ z = .int ns.asks.length /\ NetAt K C H A ns /\ Idle ns ns.k /\ ∀ H',Grow [] H H' -> Q (.bl true) H'
theorem YD {X:Cx} {K:FG7} {k:Nat} (hK:X.K = K) (hr:Room k X.A):OpR X (compareOp .NotEq) (fun x y H Q=>∃ a b xs,x = .ref a /\ y = .ref b /\ SqT K H a xs /\ SqT K H b [] /\ Q (.bl (!xs.isEmpty)) H):=by
 subst hK
 intro pins s σ H x y v u Q I rx ry h
 obtain ⟨a,b,xs,rfl,rfl,ha,hb,q⟩:=h
 cases rx; cases ry
 obtain ⟨us,r1,t1,_⟩:=I.tuple ha
 obtain ⟨ws,r2,t2,_⟩:=I.tuple hb
 have hw:ws.length = 0:=r2.length.symm
 refine SeqAt.RcNeAt.tuples (e:=fun _=>true) (y6 t1) (y6 t2) hr.units0 (fun j h1 h2=>absurd h2 (by simp; omega)) _ _ _ _ ?_
 rw [WV,Bool.true_and,List.size_toArray,List.size_toArray,hw,← r1.length]
 have e:(xs.length == 0) = xs.isEmpty:=by cases xs <;> rfl
 rw [e]
 exact ⟨.bl (!xs.isEmpty),H,I,rfl,q⟩
theorem YE {X:Cx} {K:FG7} {k:Nat} (hK:X.K = K) (hr:Room k X.A):OpR X (compareOp .Eq) (fun x y H Q=>∃ a b xs,x = .ref a /\ y = .ref b /\ SqT K H a xs /\ SqT K H b [] /\ Q (.bl xs.isEmpty) H):=by
 subst hK
 intro pins s σ H x y v u Q I rx ry h
 obtain ⟨a,b,xs,rfl,rfl,ha,hb,q⟩:=h
 cases rx; cases ry
 obtain ⟨us,r1,t1,_⟩:=I.tuple ha
 obtain ⟨ws,r2,t2,_⟩:=I.tuple hb
 have hw:ws.length = 0:=r2.length.symm
 refine SeqAt.eq_tupleAt (e:=fun _=>true) (y6 t1) (y6 t2) hr.units0 (fun j h1 h2=>absurd h2 (by simp; omega)) ?_
 have e:((List.range (min us.toArray.size ws.toArray.size)).all (fun _=>true) && us.toArray.size == ws.toArray.size) = xs.isEmpty:=by
  rw [List.size_toArray,List.size_toArray,hw,← r1.length]
  cases xs with
  | nil=>rfl
  | cons a r=>simp
 rw [e]
 exact ⟨.bl _,H,I,rfl,q⟩
structure FunD (K:FG7) (x qual:Str) (st:Stmt) (f:Addr) (fd:FuncData):Prop where
 ex:∃ (oc:Value) (od:Option Addr) (dV kV doc pm:Value) (an:Option Addr) (cdv ct:Value) (osl:Array (Option Value)),
  fd = PySem.W.fnOf x qual (zL st) (zJ st) (zf st) dV kV doc pm an cdv ct /\ K.lookup f = some ⟨oc,od,.func fd,osl⟩ /\ PySem.W.codeIn K cdv qual = true
 kp:PySem.W.keepIn K (.ref f) = true
def wj (P:Program) (w:World) (K:FG7) (mg:Str -> Option Value) (base:Heap) (C:Addr) (k:Nat) (m:Str) (ps:List Str) (ds:List Value) (sp:Sp):Prop :=
 ∃ (f:Addr) (fd:FuncData),FnOk P w K mg base CX0 k f fd ps sp /\ xA K fd ps ds /\ Meth K C m f
section
variable {P:Program} {w:World} {K:FG7} {mg:Str -> Option Value} {base:Heap}
theorem FunD.ok {x qual:Str} {st:Stmt} {f:Addr} {fd:FuncData} {N ps:List Str} {k:Nat} {sp:Sp} (F:FunD K x qual st f fd) (S:FnScope N ps (zf st)) (len:∀ vs H Q E,sp vs H Q E -> vs.length = ps.length)
  (hbody:∀ (cdv:Value) (A:Around) (outer:List Env) (s:Shared) (H:Hp) (vs:List V) (Q:VK) (E:XK),Room k (A.deeper (envOfC qual (zf st) s.heap.objs.size f cdv)) -> sp vs H Q E →
   ∃ t,PSs (cxOf CX0 P w K mg base N qual (zf st) f cdv A outer s H E).nox (zJ st) t /\ t { nx:=fun _ H'=>Q .non H',rt:=Q } (si N vs) H):FnOk P w K mg base CX0 (k + 1) f fd ps sp:=by
 obtain ⟨oc,od,dV,kV,doc,pm,an,cdv,ct,osl,rfl,lk,hcd⟩:=F.ex
 refine Tj lk hcd S len fun A outer s H vs Q E hr hsp=>?_
 obtain ⟨t,h,q⟩:=hbody cdv A outer s H vs Q E hr hsp
 exact ⟨t,h.nox,q⟩
theorem UZ {x qual:Str} {st:Stmt} {f:Addr} {oc:Value} {od an:Option Addr} {osl:Array (Option Value)} {dV kV doc pm cdv ct:Value} (l:K.lookup f = some ⟨oc,od,.func (PySem.W.fnOf x qual (zL st) (zJ st) (zf st) dV kV doc pm an cdv ct),osl⟩)
  (c:PySem.W.codeIn K cdv qual = true) (k:PySem.W.keepIn K (.ref f) = true):FunD K x qual st f (PySem.W.fnOf x qual (zL st) (zJ st) (zf st) dV kV doc pm an cdv ct):=⟨⟨oc,od,dV,kV,doc,pm,an,cdv,ct,osl,rfl,l,c⟩,k⟩
theorem tZ {fd:FuncData} {ps:List Str} {T:Addr} {o:Obj} {items:Array Value} {n:Nat} {ds:List Value} (hd:fd.defaults = .ref T) (hT:K.lookup T = some o) (hs:o.data = .seq items n)
  (h:∀ us:List Value,(us ++ ds).length = ps.length -> ∃ k,bindArgs fd ⟨us,[]⟩ = seqItems? fd.defaults >>= k /\ k (some items) = pure (ps.zip (us ++ ds))):xA K fd ps ds:=fun s us X hl=>by
 obtain ⟨k,h1,h2⟩:=h us hl
 exact BindsTo.of_defaults hd (X _ _ hT) hs h1 h2
theorem wj.mono {C:Addr} {j k:Nat} {m:Str} {ps:List Str} {ds:List Value} {sp:Sp} (c:wj P w K mg base C j m ps ds sp) (h:j <= k):wj P w K mg base C k m ps ds sp:=by
 obtain ⟨f,fd,F,b,mt⟩:=c
 exact ⟨f,fd,F.mono h,b,mt⟩
end
section
variable {X:Cx} {C:Addr} {k:Nat} {m:Str} {ps:List Str} {sp:Sp} {o:Expr} {ta:TE} {apos pos:Pos}
theorem Wj {pl:Sem Bool} (c:wj X.prog X.w X.K X.mg X.base C k m ps [.none] sp) (cl:Cls X.K C) (hr:Room k X.A) (he:PE X o ta)
  (ht:eval (.Call (.Attribute o m apos) [] [] pos) X.env = (do
   let ov ← eval o X.env
   standAt apos.atName
   let (f,first) ← holding [ov] (getMethod ov m pl)
   callWith pos f first (backTo pos (starEach [] X.env)) (backToKw pos (keywordEach [] X.env))):=by rfl) :
  PE X (.Call (.Attribute o m apos) [] [] pos) (Y2 C m sp [.non] E0 ta tNil):=by
 obtain ⟨f,fd,F,b,mt⟩:=c
 exact Zi he cl mt F hr b (.cons rfl .nil) Y9 ht
end
theorem Wk {xs:List V} {lo hi:Option Int} {v:V} (h:v ∈ cutV xs lo hi):v ∈ xs:=by
 unfold cutV at h
 first
 | exact List.mem_of_mem_take (List.mem_of_mem_drop h)
 | exact List.mem_of_mem_drop (List.mem_of_mem_take h)
theorem qS {β:Type} {R:V -> β -> Prop} {x:V} {y:β} (h:R x y):∀ {n:Nat},AllR R (List.replicate n x) (List.replicate n y)
 | 0=>trivial
 | _ + 1=>⟨h,qS h⟩
def adL (ns:NS):List Ad:=[.p,.lb,.la,.dl,.dk,.dd,.lg,.df,.da] ++ ((List.range (ns.k + 1)).flatMap fun l=>(List.range (2 ^ ns.k)).map fun j=>Ad.ln l j) ++ (List.range ns.nd).map fun t=>Ad.dn (t + 1)
theorem jX {ns:NS} {a:Ad}:a ∈ adL ns ↔ okA ns a:=by
 unfold adL
 rw [List.mem_append,List.mem_append,List.mem_flatMap,List.mem_map]
 constructor
 ·rintro ((h | ⟨l,hl,h⟩) | ⟨t,ht,rfl⟩)
  ·simp only [List.mem_cons,List.not_mem_nil,or_false] at h
   rcases h with rfl | rfl | rfl | rfl | rfl | rfl | rfl | rfl | rfl <;> trivial
  ·obtain ⟨j,hj,rfl⟩:=List.mem_map.mp h
   exact ⟨Nat.le_of_lt_succ (List.mem_range.mp hl),List.mem_range.mp hj⟩
  ·exact ⟨Nat.succ_le_succ (Nat.zero_le _),List.mem_range.mp ht⟩
 ·intro h
  cases a with
  | ln l j=>exact .inl (.inr ⟨l,List.mem_range.mpr (Nat.lt_succ_of_le h.1),List.mem_map.mpr ⟨j,List.mem_range.mpr h.2,rfl⟩⟩)
  | dn t=>exact .inr ⟨t - 1,List.mem_range.mpr (by have h1:1 <= t:=h.1; have h2:t <= ns.nd:=h.2; omega),by have h1:1 <= t:=h.1; rw [Nat.sub_add_cancel h1]⟩
  | _=>exact .inl (.inl (by simp))
structure LI5 (K:FG7) (C p l:Addr) (H:Hp) (A:Ad -> Addr) (ns:NS) (k many:Nat) (sm:List Int):Prop where
 net:NetAt K C H A ns
 nw:NW ns
 pot:Pot H p
 ls:H l = some (.lst (sm.map V.int))
 pl:p ≠ l
 ap:∀ a,okA ns a -> A a ≠ p /\ A a ≠ l
 ek:ns.k = k
 bl:ns.boxes.length = many
section
variable {K:FG7} {C p l:Addr} {H H':Hp} {A A':Ad -> Addr} {ns:NS} {k many:Nat} {sm:List Int}
def msA (A:Ad -> Addr) (ns:NS):List Addr:=(adL ns).map A
theorem vq {a:Ad} (h:okA ns a):A a ∈ msA A ns:=List.mem_map.mpr ⟨a,jX.mpr h,rfl⟩
theorem LI5.npm (h:LI5 K C p l H A ns k many sm):p ∉ msA A ns /\ l ∉ msA A ns:=by
 refine ⟨fun z=>?_,fun z=>?_⟩ <;> obtain ⟨a,ha,e⟩:=List.mem_map.mp z
 ·exact (h.ap a (jX.mp ha)).1 e
 ·exact (h.ap a (jX.mp ha)).2 e
theorem LI5.potS (h:LI5 K C p l H A ns k many sm) (g:Grow [p] H H') (pp:Pot H' p):LI5 K C p l H' A ns k many sm :=
 ⟨h.net.grow g fun a ha=>by simpa using (h.ap a ha).1,h.nw,pp,g.keep _ _ (by simpa using h.pl.symm) h.ls,h.pl,h.ap,h.ek,h.bl⟩
theorem LI5.grow0 (h:LI5 K C p l H A ns k many sm) (g:Grow [] H H'):LI5 K C p l H' A ns k many sm :=
 ⟨h.net.grow0 g,h.nw,h.pot.grow g,g.keep _ _ (by simp) h.ls,h.pl,h.ap,h.ek,h.bl⟩
theorem LI5.putS (h:LI5 K C p l H A ns k many sm) {a:Ask} (g:Grow (msA A ns) H H') (hn:NetAt K C H' A (putS ns a)) (hh:a.hand.toNat < 2 ^ k) (hb:a.box.toNat < many) (h40:ns.asks.length < 40):LI5 K C p l H' A (putS ns a) k many sm:=by
 obtain ⟨n1,n2⟩:=h.npm
 refine ⟨hn,h.nw.put (by rw [h.ek]; exact hh) (by rw [h.bl]; exact hb) h40,?_,g.keep _ _ n2 h.ls,h.pl,fun a ha=>h.ap a (by cases a <;> exact ha),h.ek,h.bl⟩
 obtain ⟨p0,p1,z,z0⟩:=h.pot
 exact ⟨p0,p1,g.keep _ _ n1 z,z0⟩
theorem x6 {gone:List (Nat × Nat)} (h:NW ns) (nw:ns.now < 10000):(beatS gone ns).k = ns.k /\ (beatS gone ns).boxes.length = ns.boxes.length /\ (beatS gone ns).asks = ns.asks /\ (beatS gone ns).now = ns.now + 1 /\ (beatS gone ns).nd = ns.nd + 1:=by
 have G:=YB h nw gone
 exact ⟨G.k,G.bl,G.asks,G.now,by show (zX gone ns).nd = _; rw [G.nd,h.nd]⟩
theorem LI5.beatS (h:LI5 K C p l H A ns k many sm) {gone:List (Nat × Nat)} (nw:ns.now < 10000) (g:Grow (msA A ns) H H') (ex:Ext5 H A A' ns) (hn:NetAt K C H' A' (L3.beatS gone ns)):LI5 K C p l H' A' (L3.beatS gone ns) k many sm:=by
 obtain ⟨n1,n2⟩:=h.npm
 obtain ⟨s1,s2,s3,s4,s5⟩:=x6 (gone:=gone) h.nw nw
 refine ⟨hn,(h.nw.beat nw gone).2,?_,g.keep _ _ n2 h.ls,h.pl,fun a ha=>?_,s1.trans h.ek,s2.trans h.bl⟩
 ·obtain ⟨p0,p1,z,z0⟩:=h.pot
  exact ⟨p0,p1,g.keep _ _ n1 z,z0⟩
 ·by_cases c:a = .dn (ns.nd + 1)
  ·rw [c]
   refine ⟨fun e=>?_,fun e=>?_⟩
   ·obtain ⟨p0,p1,z,_⟩:=h.pot
    have:=ex.2
    rw [e,z] at this; cases this
   ·have:=ex.2
    rw [e,h.ls] at this; cases this
  ·have ho:okA ns a:=by
    cases a with
    | ln x y=>exact ⟨by rw [← s1]; exact ha.1,by rw [← s1]; exact ha.2⟩
    | dn t =>
     have h2:t <= (L3.beatS gone ns).nd:=ha.2
     rw [s5] at h2
     have:t ≠ ns.nd + 1:=fun e=>c (by rw [e])
     exact ⟨ha.1,by omega⟩
    | _=>trivial
   rw [ex.1 a ho]; exact h.ap a ho
theorem YF (h:NW ns) (hf:ns.log.length = ns.asks.length) {ms:List Int} (pm:ms.Perm (ns.log.map Int.ofNat)) (pw:ms.Pairwise (· <= ·)):ms.map V.int = (List.range ns.asks.length).map fun i:Nat=>V.int i:=by
 have e:ns.log.Perm (List.range ns.asks.length):=by
  rw [List.perm_iff_count]
  intro n
  have h1:=h.cnt n
  rw [uB fun l j hl hj=>xZ h.nr hf hl hj,Nat.zero_add] at h1
  rw [h1]
  by_cases c:n < ns.asks.length
  ·rw [if_pos c]
   have:=List.nodup_range (n:=ns.asks.length)
   have h2:=List.count_pos_iff.mpr (List.mem_range.mpr c)
   have h3:(List.range ns.asks.length).count n <= 1:=List.nodup_iff_count.mp this n
   omega
  ·rw [if_neg c]
   exact (List.count_eq_zero.mpr fun z=>c (List.mem_range.mp z)).symm
 have e2:ms = (List.range ns.asks.length).map Int.ofNat:=by
  refine List.Perm.eq_of_pairwise (le:=(· <= ·)) (fun _ _ _ _ h1 h2=>Int.le_antisymm h1 h2) pw ?_ (pm.trans (e.map _))
  exact List.pairwise_map.mpr ((List.pairwise_lt_range (n:=ns.asks.length)).imp fun h=>Int.ofNat_le.mpr (Nat.le_of_lt h))
 rw [e2,List.map_map]; rfl
end
end L3
namespace My
open PySem PySem.Spec PyProof.Rows L2 L3
def top (i:Nat):Stmt:=PySem.Challenge.pw_joinedasks_k53_whole_beats_enough.main.body.getD i (.Pass ⟨0,0,0,0⟩)
section
variable {P:Program} {w:World} {K:FG7} {mg:Str -> Option Value} {base:Heap} {n:Nat} {f:Addr} {fd:FuncData}
theorem xI:FnScope ["_law_first","_law_k","_law_many","_law_found","_law_level"] ["_law_first","_law_k","_law_many"] (zf (top 53)):=⟨rfl,rfl,rfl,by decide +kernel,rfl,by decide +kernel,by decide +kernel⟩
theorem rp (F:Fun K "_law_spots" "_law_spots" (top 53) f fd) (B:Blt mg)      :
  FnOk P w K mg base CX0 (n + 1) f fd ["_law_first","_law_k","_law_many"] (qR K):=by
 refine F.ok xI yK (fun cdv A outer s H vs Q E hr h=>?_)
 obtain ⟨x,y,z,rfl,a,k,m,rfl,rfl,rfl,a1,k4,m16,q⟩:=h
 refine ⟨_,(zc (zG (i:=3) xI.nd rfl (Or.inl rfl) (xr zb)) (zc (yG PassesOwn.never rfl (vQ rfl B.range (za (pv 0) (za (zp ya (pv 1) zd) zb))) (zk (i:=4) xI.nd rfl (Or.inr rfl)) (zi (zK (vF PySem.F.plainAttrs_list PySem.F.slot_list_extend PySem.F.type_list_extend vY (pv 3) (za (yZ (CSc.of (N':=["_law_line","_law_level"]) (sub:=[none,some 4]) (zf (top 53)) ["_law_first","_law_k","_law_many","_law_found","_law_level"] rfl rfl (by decide +kernel) rfl) rfl (zM rfl B.range (za (pv 2) zb)) (fun _ _ _ _ _ _=>zk (i:=0) (show (["_law_line","_law_level"]:List Str).Nodup by decide +kernel) rfl (Or.inl rfl)) (fun _ _ _ _ _ _=>yv) (fun _ _ _ _ _ _=>(zN (za (pv 1) (za (pv 0) zb))))) zb))))) (zi (zu (pv 3))))),?_⟩
 refine ⟨szl rfl,fun lt hlt=>yX ?_⟩
 have g0:=Grow.new (m:=[]) hlt (.lst [])
 have hlt0:=ze (H:=H) (a:=lt) (o:=.lst [])
 generalize upd H lt (.lst []) = H0 at g0 hlt0 ⊢
 have en:((k:Int) + 1 - a).toNat = k + 1 - a:=by omega
 refine ⟨_,rfl,_,rfl,_,_,rfl,rfl,_,_,rfl,⟨by omega,by omega,by omega,by omega⟩,yd (fun i σ H'=>∃ e4 ys,σ = [some (.int a),some (.int k),some (.int m),some (.ref lt),e4] /\ Grow [lt] H0 H' /\ H' lt = some (.lst ys) /\ AllR (sU K H') ys (prs5 a m i 0)) ⟨_,[],rfl,Grow.refl _ _,hlt0,by unfold prs5; exact trivial⟩ ?_ ?_⟩
 rotate_left
 ·rintro σ H' ⟨e4,ys,rfl,g,hy,hr⟩
  rw [en] at hr
  refine ⟨_,rfl,q _ _ ?_ ⟨lt,ys,rfl,hy,hr⟩⟩
  exact ((g0.wk (m:=[lt])).trans g).less fun b hb=>.inr (by rw [List.mem_singleton.mp hb]; exact hlt)
 rintro i σ H1 hi ⟨e4,ys,rfl,g1,hy,hr⟩
 rw [en] at hi
 have ea:(a:Int) + (i:Int) = ((a + i:Nat):Int):=by omega
 have yl:ys.length <= 100:=by
  have:=hr.len
  have h2:=vM (a:=a) (m:=m) (i:=i) (j:=0) m16 (by omega) (by omega)
  unfold prs5 at this
  have e:∀ i:Nat,((List.range i).flatMap fun l=>(List.range m).map fun y=>(a + l,y)).length = i * m:=by
   intro i
   induction i with
   | zero=>rw [Nat.zero_mul]; rfl
   | succ i ih=>rw [List.range_succ,List.flatMap_append,List.length_append,ih,Nat.succ_mul]; simp
  rw [List.length_append,e] at this
  have:=Nat.mul_le_mul (show i <= 5 by omega) m16
  simp at *
  omega
 refine ⟨_,rfl,.inl ⟨rfl,_,SqL.of hy⟩,_,rfl,_,rfl,by omega,by omega,vJ (fun j vs H'=>Grow [] H1 H' /\ vs.length = j /\ AllR (sU K H') vs ((List.range j).map fun y=>(a + i,y))) ⟨Grow.refl _ _,rfl,trivial⟩ ?_ ?_⟩
 ·rintro j vs H2 hj ⟨g2,vl,hv⟩
  rw [Int.toNat_natCast] at hj
  refine ⟨_,rfl,_,rfl,szl rfl,fun t ht=>?_⟩
  have gt:=Grow.new (m:=[]) ht (.tup [.int ((a:Int) + i),.int (0 + (j:Int))])
  refine ⟨zr (by omega),g2.trans gt,by rw [List.length_append,vl]; rfl,?_⟩
  rw [List.range_succ,List.map_append]
  exact (hv.imp fun _ _ ⟨r,e,z⟩=>⟨r,e,gt.sqT z⟩).app (.one ⟨t,rfl,SqT.of (by rw [ze,ea,Int.zero_add])⟩)
 rintro vs H2 ⟨g2,vl,hv⟩ l3 hl3
 rw [Int.toNat_natCast] at hv vl
 have g4:=Grow.new (m:=[]) hl3 (.lst vs)
 have g34:=g2.trans g4
 have hy4:=g34.keep _ _ (by simp) hy
 have g5:=Grow.set (m:=[lt]) hy4 (by simp) (ys ++ vs)
 refine ⟨lt,l3,ys,vs,rfl,rfl,hy4,ze,Nat.le_of_lt (zr (by omega)),?_⟩
 refine ⟨_,ys ++ vs,rfl,g1.trans ((g34.wk (m:=[lt])).trans g5),ze,?_⟩
 have ep:prs5 a m (i + 1) 0 = prs5 a m i 0 ++ (List.range m).map fun y=>(a + i,y):=by
  rw [← qJ]; unfold prs5; simp
 rw [ep]
 exact (hr.imp fun _ _ ⟨r,e,z⟩=>⟨r,e,g5.sqT (g34.sqT z)⟩).app (hv.imp fun _ _ ⟨r,e,z⟩=>⟨r,e,g5.sqT (g4.sqT z)⟩)
theorem jY:FnScope ["thing"] ["thing"] (zf (top 10)):=⟨rfl,rfl,rfl,by decide +kernel,rfl,by decide +kernel,by decide +kernel⟩
theorem jZ (F:Fun K "is_whole" "is_whole" (top 10) f fd) (B:Blt mg)      :
  FnOk P w K mg base CX0 (n + 1) f fd ["thing"] (xb K):=by
 refine F.ok jY yJ (fun cdv A outer s H vs Q E hr h=>?_)
 obtain ⟨x,rfl,⟨T,ty⟩,q⟩:=h
 refine ⟨_,(zi (zu (vO (zq xB rfl B.isinstance yf (za (pv 0) (za (ua rfl B.int WJ) zb))) (wH (Tb (zq xB rfl B.isinstance yf (za (pv 0) (za (ua rfl B.bool Tn) zb)))))))),?_⟩
 cases x with
 | non=>cases (show T = "NoneType" from ty); exact ⟨_,rfl,_,_,_,false,rfl,rfl,rfl,_,rfl,iteF q⟩
 | bl y=>cases (show T = "bool" from ty); exact ⟨_,rfl,_,_,_,true,rfl,rfl,rfl,_,rfl,iteT ⟨_,rfl,_,_,_,true,rfl,rfl,rfl,_,rfl,q⟩⟩
 | int i=>cases (show T = "int" from ty); exact ⟨_,rfl,_,_,_,true,rfl,rfl,rfl,_,rfl,iteT ⟨_,rfl,_,_,_,false,rfl,rfl,rfl,_,rfl,q⟩⟩
 | str y=>cases (show T = "str" from ty); exact ⟨_,rfl,_,_,_,false,rfl,rfl,rfl,_,rfl,iteF q⟩
 | byt y=>exact ty.elim
 | flt y=>exact ty.elim
 | ty y=>exact ty.elim
 | ref a =>
  rcases ty with ⟨rfl,xs,hq⟩ | ⟨rfl,xs,hq⟩ | ⟨rfl,kvs,hq⟩
  ·exact ⟨_,rfl,_,_,_,false,rfl,.inl ⟨rfl,xs,hq⟩,rfl,_,rfl,iteF q⟩
  ·exact ⟨_,rfl,_,_,_,false,rfl,.inr (.inl ⟨rfl,xs,hq⟩),rfl,_,rfl,iteF q⟩
  ·exact ⟨_,rfl,_,_,_,false,rfl,.inr (.inr ⟨rfl,kvs,hq⟩),rfl,_,rfl,iteF q⟩
theorem qT:FnScope ["thing","least","greatest"] ["thing","least","greatest"] (zf (top 11)):=⟨rfl,rfl,rfl,by decide +kernel,rfl,by decide +kernel,by decide +kernel⟩
theorem qU (F:Fun K "is_within" "is_within" (top 11) f fd) (B:Blt mg) (qc0:zn P w K mg base n "is_whole" ["thing"] (xb K))     :
  FnOk P w K mg base CX0 (n + 1) f fd ["thing","least","greatest"] (zR K):=by
 refine F.ok qT yK (fun cdv A outer s H vs Q E hr h=>?_)
 obtain ⟨x,y,z,rfl,i,l,u,rfl,rfl,rfl,q⟩:=h
 refine ⟨_,(zi (zu (vO (zh qc0 hr rfl (za (pv 0) zb)) (wH (WA Wy Wy (pv 1) (pv 0) (pv 2)))))),?_⟩
 refine ⟨_,rfl,_,rfl,Zl,_,rfl,iteT ⟨_,rfl,_,rfl,_,_,rfl,rfl,_,rfl,?_⟩⟩
 by_cases c:l <= i
 ·refine yY (decide_eq_true c) ⟨_,rfl,_,_,rfl,rfl,?_⟩
  rw [decide_eq_true c] at q; exact q
 ·refine yD (decide_eq_false c) ?_
  rw [decide_eq_false c] at q; exact q
theorem qV:FnScope ["k","stage","number"] ["k","stage","number"] (zf (top 28)):=⟨rfl,rfl,rfl,by decide +kernel,rfl,by decide +kernel,by decide +kernel⟩
theorem qW (F:Fun K "is_switch" "is_switch" (top 28) f fd) (B:Blt mg) (qc0:zn P w K mg base n "is_within" ["thing","least","greatest"] (zR K))     :
  FnOk P w K mg base CX0 (n + 1) f fd ["k","stage","number"] (Wb K):=by
 refine F.ok qV yK (fun cdv A outer s H vs Q E hr h=>?_)
 obtain ⟨x,y,z,rfl,k,s5,n5,rfl,rfl,rfl,k4,q⟩:=h
 refine ⟨_,(zi (zu (vO (zh qc0 hr rfl (za (pv 1) (za zd (za (pv 0) zb)))) (wH (zh qc0 hr rfl (za (pv 2) (za zd (za (zp zY (zp yQ zd (zp zY (pv 0) zd)) zd) zb)))))))),?_⟩
 refine ⟨_,rfl,_,rfl,_,_,_,rfl,_,_,_,rfl,rfl,rfl,_,rfl,?_⟩
 by_cases c:1 <= s5 /\ s5 <= k
 ·obtain ⟨c1,c2⟩:=c
  have ek:(k:Int) - 1 = ((k - 1:Nat):Int):=by omega
  refine yY (by rw [decide_eq_true (show (1:Int) <= s5 by omega),decide_eq_true (show (s5:Int) <= k by omega)]; rfl) ?_
  refine ⟨_,rfl,_,rfl,_,_,rfl,rfl,1,((k - 1:Nat):Int),rfl,congrArg V.int ek,wt (by omega),_,_,rfl,rfl,_,_,_,rfl,_,_,_,rfl,rfl,rfl,?_⟩
  rw [shl5]
  have e:(decide ((0:Int) <= n5) && decide ((n5:Int) <= ((2 ^ (k - 1):Nat):Int) - 1)) = decide (1 <= s5 /\ s5 <= k /\ n5 < 2 ^ (k - 1)):=by
   rw [decide_eq_true (show (0:Int) <= n5 by omega),Bool.true_and]
   exact decide_eq_decide.mpr ⟨fun h=>⟨c1,c2,by omega⟩,fun h=>by omega⟩
  rw [e]; exact q
 ·refine yD (by
   by_cases c1:1 <= s5
   ·rw [decide_eq_false (show ¬ (s5:Int) <= k by omega),Bool.and_false]
   ·rw [decide_eq_false (show ¬ (1:Int) <= s5 by omega),Bool.false_and]) ?_
  rw [decide_eq_false (fun h=>c ⟨h.1,h.2.1⟩)] at q
  exact q
theorem uF:FnScope ["self","stage","number"] ["self","stage","number"] (zf (zj (top 45) 16)):=⟨rfl,rfl,rfl,by decide +kernel,rfl,by decide +kernel,by decide +kernel⟩
theorem uG (F:Fun K "joinings" "Net.joinings" (zj (top 45) 16) f fd) (B:Blt mg) {C:Addr} (T:NTxt K mg C) (qc0:zn P w K mg base n "is_switch" ["k","stage","number"] (Wb K))     :
  FnOk P w K mg base CX0 (n + 1) f fd ["self","stage","number"] (xY C K):=by
 refine F.ok uF yK (fun cdv A outer s H vs Q E hr h=>?_)
 obtain ⟨x,y,z,rfl,A5,ns,s5,n5,rfl,rfl,rfl,s1,sk,hn5,k4,hn,q⟩:=h
 refine ⟨_,(zc (z9 (yw (yo (zh qc0 hr rfl (za (zy (pv 0) rfl) (za (pv 1) (za (pv 2) zb)))))) (zi yP) zw) (zi (zu (xU (Room.u1F hr) (zy (pv 0) rfl) (zN (za (pv 1) (za (pv 2) zb))) (fun _ _=>rfl))))),?_⟩
 refine ⟨_,rfl,_,C,_,_,_,rfl,hn.ob.choose_spec,T.cl,T.n_depth,zT,_,rfl,_,rfl,_,_,_,rfl,ns.k,s5,n5,rfl,rfl,rfl,k4,_,rfl,yD (by rw [decide_eq_true ⟨s1,sk,hn5⟩]; rfl) ?_⟩
 refine ⟨_,rfl,_,C,_,_,_,rfl,hn.ob.choose_spec,T.cl,T.n_keeping,wf,_,rfl,_,rfl,szl rfl,fun t ht=>?_⟩
 have gt:=Grow.new (m:=[]) ht (.tup [.int s5,.int n5])
 have kt:upd H t (.tup [.int s5,.int n5]) t = some (.tup [.int s5,.int n5]):=ze
 have hn2:=hn.grow0 gt
 exact ⟨_,_,rfl,(wT (kp:=ns.keep) s1 sk hn5) ▸ DGet.t hn2.dk (yV kt),q _ gt⟩
theorem YG:FnScope ["k","thing"] ["k","thing"] (zf (top 27)):=⟨rfl,rfl,rfl,by decide +kernel,rfl,by decide +kernel,by decide +kernel⟩
theorem YH (F:Fun K "is_line" "is_line" (top 27) f fd) (B:Blt mg) (qc0:zn P w K mg base n "is_within" ["thing","least","greatest"] (zR K))     :
  FnOk P w K mg base CX0 (n + 1) f fd ["k","thing"] (x8 K):=by
 refine F.ok YG yg (fun cdv A outer s H vs Q E hr h=>?_)
 obtain ⟨x,y,rfl,k,l,rfl,rfl,k4,hl,q⟩:=h
 refine ⟨_,(zi (zu (zh qc0 hr rfl (za (pv 1) (za zd (za (zp zY (zp yQ zd (pv 0)) zd) zb)))))),?_⟩
 refine ⟨_,rfl,_,rfl,_,_,rfl,rfl,wt k4,_,_,rfl,rfl,_,_,_,rfl,_,_,_,rfl,rfl,rfl,?_⟩
 rw [decide_eq_true (show (0:Int) <= l by omega),decide_eq_true (show (l:Int) <= 1 * 2 ^ ((k:Int)).toNat - 1 by rw [sy]; omega)]
 exact q
theorem uR:FnScope ["self","level","line"] ["self","level","line"] (zf (zj (top 45) 15)):=⟨rfl,rfl,rfl,by decide +kernel,rfl,by decide +kernel,by decide +kernel⟩
theorem uS (F:Fun K "waiting" "Net.waiting" (zj (top 45) 15) f fd) (B:Blt mg) {C:Addr} (T:NTxt K mg C) (qc0:zn P w K mg base n "is_line" ["k","thing"] (x8 K)) (qc1:zn P w K mg base n "is_within" ["thing","least","greatest"] (zR K))     :
  FnOk P w K mg base CX0 (n + 1) f fd ["self","level","line"] (wz C K):=by
 refine F.ok uR yK (fun cdv A outer s H vs Q E hr h=>?_)
 obtain ⟨x,y,z,rfl,A5,ns,l,j,rfl,rfl,rfl,hl,hj,k4,hlen,hn,q⟩:=h
 refine ⟨_,(zc (z9 (yw (PW.pt (wG (yo (zh qc1 hr rfl (za (pv 1) (za zd (za (zy (pv 0) rfl) zb))))) (xO (yo (zh qc0 hr rfl (za (zy (pv 0) rfl) (za (pv 2) zb)))))))) (zi yP) zw) (zi (zu (yp yz rfl B.tuple xj (za (yZ (CSc.of (N':=["box","deed","numbers","met"]) (sub:=[none,none,none,none]) (zf (zj (top 45) 15)) ["self","level","line"] rfl rfl (by decide +kernel) rfl) rfl (vP (xU (Room.u1F hr) (zy (pv 0) rfl) (zN (za (pv 1) (za (pv 2) zb))) (fun _ _=>rfl))) (fun _ _ _ _ _ _=>sC (K:=K) 4 rfl rfl (zo (zk (i:=0) (show (["box","deed","numbers","met"]:List Str).Nodup by decide +kernel) rfl (Or.inl rfl) (Or.inr rfl)) (zo (zk (i:=1) (show (["box","deed","numbers","met"]:List Str).Nodup by decide +kernel) rfl (Or.inl rfl) (Or.inr rfl)) (zo (zk (i:=2) (show (["box","deed","numbers","met"]:List Str).Nodup by decide +kernel) rfl (Or.inl rfl) (Or.inr rfl)) (zo (zk (i:=3) (show (["box","deed","numbers","met"]:List Str).Nodup by decide +kernel) rfl (Or.inl rfl) (Or.inr rfl)) yn)))) rfl rfl) (fun _ _ _ _ _ _=>yv) (fun _ _ _ _ _ _=>(zN (za (pv 0) (za (pv 1) (za (pv 2) zb)))))) zb))))),?_⟩
 refine ⟨_,rfl,_,rfl,_,C,_,_,_,rfl,hn.ob.choose_spec,T.cl,T.n_depth,zT,_,_,_,rfl,_,_,_,rfl,rfl,rfl,_,rfl,yY (by rw [decide_eq_true (show (0:Int) <= l by omega),decide_eq_true (show (l:Int) <= ns.k by omega)]; rfl) ?_⟩
 refine ⟨_,rfl,_,C,_,_,_,rfl,hn.ob.choose_spec,T.cl,T.n_depth,zT,_,rfl,_,_,rfl,ns.k,j,rfl,rfl,k4,hj,_,rfl,iteF ?_⟩
 refine ⟨_,rfl,_,C,_,_,_,rfl,hn.ob.choose_spec,T.cl,T.n_lines,wU,_,rfl,_,rfl,szl rfl,fun t ht=>?_⟩
 have gt:=Grow.new (m:=[]) ht (.tup [.int l,.int j])
 have kt:upd H t (.tup [.int l,.int j]) t = some (.tup [.int l,.int j]):=ze
 have hn2:=hn.grow0 gt
 refine ⟨_,_,rfl,(wS (A:=A5) hl hj) ▸ DGet.t hn2.dl (yV kt),?_⟩
 obtain ⟨ys,hys,hw⟩:=hn2.ln hl hj
 have el:=hw.len
 generalize upd H t _ = H2 at gt kt hn2 hys hw ⊢
 refine ⟨_,rfl,⟨_,SqL.of hys⟩,ub (xs:=ys) (fun i vs σ' H'=>(∃ e0 e1 e2 e3,σ' = [e0,e1,e2,e3]) /\ Grow [] H2 H' /\ vs.length = i /\ AllR (W3At K H') vs ((ns.lines l j).take i)) ⟨⟨_,_,_,_,rfl⟩,Grow.refl _ _,rfl,trivial⟩ (fun i vs σ' H' _ ⟨_,g,_⟩=>SqL.of (g.keep _ _ (by simp) hys)) ?_ ?_⟩
 ·rintro i x vs σ' H3 hx ⟨⟨e0,e1,e2,e3,rfl⟩,g3,hvl,hvs⟩
  obtain ⟨w5,hw5,r,rd,rn,rm,mv,rfl,w1,w2,w3,w4,w6⟩:=hw.get hx
  have il:=(List.getElem?_eq_some_iff.mp hw5).1
  have etk:(ns.lines l j).take (i + 1) = (ns.lines l j).take i ++ [w5]:=by
   obtain ⟨hi,e⟩:=List.getElem?_eq_some_iff.mp hw5
   rw [List.take_succ_eq_append_getElem hi,e]
  refine ⟨r,_,rfl,g3.sqT w1,rfl,_,_,rfl,_,_,rfl,_,_,rfl,_,_,rfl,rfl,?_⟩
  refine ⟨_,rfl,_,rfl,_,rfl,szl rfl,fun t3 ht3=>?_⟩
  have g4:=Grow.new (m:=[]) ht3 (.tup [.int w5.box,.ref rd,.ref rn])
  have G4:=g3.trans g4
  refine ⟨zr (by omega),⟨_,_,_,_,rfl⟩,G4,by simp [hvl],?_⟩
  rw [etk]
  exact (hvs.imp fun _ _ ⟨a,b,c,e,z1,z2,z3⟩=>⟨a,b,c,e,g4.sqT z1,g4.sqT z2,g4.sqT z3⟩).app (.one ⟨t3,rd,rn,rfl,SqT.of ze,G4.sqT w2,G4.sqT w3⟩)
 rintro vs σ' H3 ⟨_,g3,hvl,hvs⟩ p hp
 rw [el,List.take_length] at hvs
 have g4:=Grow.new (m:=[]) hp (.lst vs)
 refine ⟨_,_,rfl,.inl ⟨SqL.of ze,fun t4 ht4=>?_⟩⟩
 have g5:=Grow.new (m:=[]) ht4 (.tup vs)
 have g45:=g4.trans g5
 exact q _ _ (gt.trans (g3.trans g45)) ⟨t4,vs,rfl,SqT.of ze,hvs.imp fun _ _ ⟨a,b,c,e,z1,z2,z3⟩=>⟨a,b,c,e,g45.sqT z1,g45.sqT z2,g45.sqT z3⟩⟩
theorem rq:FnScope ["self","number"] ["self","number"] (zf (zj (top 45) 14)):=⟨rfl,rfl,rfl,by decide +kernel,rfl,by decide +kernel,by decide +kernel⟩
theorem rA (F:Fun K "answer" "Net.answer" (zj (top 45) 14) f fd) (B:Blt mg) {C:Addr} (T:NTxt K mg C) (qc0:zn P w K mg base n "is_within" ["thing","least","greatest"] (zR K))     :
  FnOk P w K mg base CX0 (n + 1) f fd ["self","number"] (vm C K):=by
 refine F.ok rq yg (fun cdv A outer s H vs Q E hr h=>?_)
 obtain ⟨x,y,rfl,A5,ns,n5,rfl,rfl,hlt,hn,q⟩:=h
 refine ⟨_,(zc (z9 (yw (yo (zh qc0 hr rfl (za (pv 1) (za zd (za (zp zY (zq zC rfl B.len wL (za (zy (pv 0) rfl) zb)) zd) zb)))))) (zi yP) zw) (zi (zu (W4 (Room.u1F hr) (zy (pv 0) rfl) (pv 1) ⟨rfl,rfl,rfl,rfl⟩)))),?_⟩
 obtain ⟨xs,hla,hxa⟩:=hn.la
 have e1:=hxa.len
 refine ⟨_,rfl,_,rfl,_,C,_,_,_,rfl,hn.ob.choose_spec,T.cl,T.n_asks,ut,_,_,rfl,.inl (SqL.of hla),_,_,rfl,rfl,_,_,_,rfl,_,_,_,rfl,rfl,rfl,_,rfl,yD (by rw [decide_eq_true (show (0:Int) <= n5 by omega),decide_eq_true (show (n5:Int) <= (xs.length:Int) - 1 by omega)]; rfl) ?_⟩
 have ev:valV (nKv ns.ans) (.inl (n5:Int)) = (getN ns.ans n5).map V.int:=ur
 refine ⟨_,rfl,_,C,_,_,_,rfl,hn.ob.choose_spec,T.cl,T.n_answers,vh,_,rfl,(.inl ⟨_,.inl hn.da⟩),_,rfl,_,.inl ⟨_,.inl (n5:Int),.inl hn.da,rfl,rfl⟩,?_⟩
 rw [ev]
 cases e:getN ns.ans n5 with
 | none=>rw [e] at q; exact q
 | some v=>rw [e] at q; exact q
theorem j0:FnScope ["self"] ["self"] (zf (zj (top 45) 13)):=⟨rfl,rfl,rfl,by decide +kernel,rfl,by decide +kernel,by decide +kernel⟩
theorem j1 (F:Fun K "todo" "Net.todo" (zj (top 45) 13) f fd) (B:Blt mg) {C:Addr} (T:NTxt K mg C)      :
  FnOk P w K mg base CX0 (n + 1) f fd ["self"] (rj C K):=by
 refine F.ok j0 yJ (fun cdv A outer s H vs Q E hr h=>?_)
 obtain ⟨x,rfl,A5,ns,rfl,hn,q⟩:=h
 refine ⟨_,(zi (zu (zp zY (zq zC rfl B.len wL (za (zy (pv 0) rfl) zb)) (zq Xv rfl B.len wL (za (zy (pv 0) rfl) zb))))),?_⟩
 obtain ⟨xs,hla,hxa⟩:=hn.la
 have e1:=hxa.len
 have e2:(nKv ns.ans).length = ns.ans.length:=List.length_map ..
 refine ⟨_,rfl,_,C,_,_,_,rfl,hn.ob.choose_spec,T.cl,T.n_asks,ut,_,_,rfl,.inl (SqL.of hla),_,rfl,_,C,_,_,_,rfl,hn.ob.choose_spec,T.cl,T.n_answers,vh,_,_,rfl,hn.da,_,_,rfl,rfl,?_⟩
 rw [e1,e2]; exact q
theorem qX:FnScope ["_law_net","_law_k","_law_many"] ["_law_net","_law_k","_law_many"] (zf (top 54)):=⟨rfl,rfl,rfl,by decide +kernel,rfl,by decide +kernel,by decide +kernel⟩
theorem qY (F:Fun K "_law_over" "_law_over" (top 54) f fd) (B:Blt mg) {C:Addr} (T:NTxt K mg C) (mc_joinings:zx P w K mg base C n "joinings" ["self","stage","number"] (xY C K)) (mc_waiting:zx P w K mg base C n "waiting" ["self","level","line"] (wz C K)) (mc_answer:zx P w K mg base C n "answer" ["self","number"] (vm C K)) (mc_todo:zx P w K mg base C n "todo" ["self"] (rj C K)) (qc0:zn P w K mg base n "_law_spots" ["_law_first","_law_k","_law_many"] (qR K))     :
  FnOk P w K mg base CX0 (n + 1) f fd ["_law_net","_law_k","_law_many"] (ZT C K):=by
 refine F.ok qX yK (fun cdv A outer s H vs Q E hr h=>?_)
 obtain ⟨x,y,z,rfl,A5,ns,rfl,rfl,rfl,hn,hi,q⟩:=h
 refine ⟨_,(zc (z9 (PW.pt (t7 (zI Wx (xT mc_todo T.cl hr (pv 0)) zd (zP _)) (wF (zI Y6 rH (yZ (CSc.of (N':=["_law_number_here","_law_net"]) (sub:=[none,some 0]) (zf (top 54)) ["_law_net","_law_k","_law_many"] rfl rfl (by decide +kernel) rfl) rfl (zM rfl B.range (za (pv 2) zb)) (fun _ _ _ _ _ _=>zk (i:=0) (show (["_law_number_here","_law_net"]:List Str).Nodup by decide +kernel) rfl (Or.inl rfl)) (fun _ _ _ _ _ _=>yv) (fun _ _ _ _ _ _=>(z6 mc_answer T.cl hr (pv 1) (za (pv 0) zb)))) (by with_unfolding_all rfl))))) (zi (zu vN)) zw) (zc (z9 (yw (yo (zq (wM rfl) rfl B.all WI (za (yZ (CSc.of (N':=["_law_level","_law_line","_law_net"]) (sub:=[none,none,some 0]) (zf (top 54)) ["_law_net","_law_k","_law_many"] rfl rfl (by decide +kernel) rfl) rfl (vP (zh qc0 hr rfl (za zd (za (pv 1) (za (zp yQ zd (pv 1)) zb))))) (fun _ _ _ _ _ _=>sC (K:=K) 2 rfl rfl (zo (zk (i:=0) (show (["_law_level","_law_line","_law_net"]:List Str).Nodup by decide +kernel) rfl (Or.inl rfl) (Or.inr rfl)) (zo (zk (i:=1) (show (["_law_level","_law_line","_law_net"]:List Str).Nodup by decide +kernel) rfl (Or.inl rfl) (Or.inr rfl)) yn)) rfl rfl) (fun _ _ _ _ _ _=>yv) (fun _ _ _ _ _ _=>(xP (YE (K:=K) rfl hr) (z6 mc_waiting T.cl hr (pv 2) (za (pv 0) (za (pv 1) zb))) (zN zb) (zP _)))) zb)))) (zi (zu vN)) zw) (zi (zu (zq (wM rfl) rfl B.all WI (za (yZ (CSc.of (N':=["_law_stage","_law_number_here","_law_net"]) (sub:=[none,none,some 0]) (zf (top 54)) ["_law_net","_law_k","_law_many"] rfl rfl (by decide +kernel) rfl) rfl (vP (zh qc0 hr rfl (za zd (za (pv 1) (za (zp su (zp yQ zd (pv 1)) zd) zb))))) (fun _ _ _ _ _ _=>sC (K:=K) 2 rfl rfl (zo (zk (i:=0) (show (["_law_stage","_law_number_here","_law_net"]:List Str).Nodup by decide +kernel) rfl (Or.inl rfl) (Or.inr rfl)) (zo (zk (i:=1) (show (["_law_stage","_law_number_here","_law_net"]:List Str).Nodup by decide +kernel) rfl (Or.inl rfl) (Or.inr rfl)) yn)) rfl rfl) (fun _ _ _ _ _ _=>yv) (fun _ _ _ _ _ _=>(xP wJ (z6 mc_joinings T.cl hr (pv 2) (za (pv 0) (za (pv 1) zb))) zd (zP _)))) zb)))))),?_⟩
 have nr:=hi.nw.nr
 have k4:=nr.k4
 have p16:=wx k4
 have a40:=nr.a40
 have eans:ns.ans.length = ns.asks.length:=by
  have:=congrArg List.length hi.end
  rw [List.length_map] at this
  rw [this,hi.full]
 refine Zy (fun b H'=>b = false /\ Grow [] H H') (fun Kk hk=>⟨_,rfl,_,_,_,rfl,hn.ob.choose_spec,UJ,_,rfl,A5,ns,rfl,hn,rfl,_,rfl,?_⟩) ?_
 ·refine yD (by rw [eans]; simp) ?_
  refine ⟨_,rfl,_,rfl,by omega,by omega,vJ (fun j vs H'=>Grow [] H H' /\ vs.length = j /\ ∀ v ∈ vs,∃ i:Int,v = .int i) ⟨Grow.refl _ _,rfl,by simp⟩ ?_ ?_⟩
  ·rintro j vs H1 hj ⟨g1,vl,hv⟩
   rw [Int.toNat_natCast] at hj
   have hn1:=hn.grow0 g1
   obtain ⟨v,ev⟩:=qQ (f:=ns.ans) (n:=j) (by rw [hi.end]; exact UY hi.nw hi.full hj)
   refine ⟨_,rfl,_,_,_,rfl,hn1.ob.choose_spec,XY,_,rfl,_,_,rfl,A5,ns,j,rfl,congrArg V.int (Int.zero_add _),hj,hn1,zr (by omega),g1,by rw [List.length_append,vl]; rfl,fun w hw=>?_⟩
   rcases List.mem_append.mp hw with hw | hw
   ·exact hv w hw
   ·rw [List.mem_singleton.mp hw,ev]; exact ⟨v,rfl⟩
  ·rintro vs H1 ⟨g1,vl,hv⟩ l hl
   have hin:inV .non vs = false:=by
    unfold inV
    rw [List.any_eq_false]
    intro v hv'
    obtain ⟨i,rfl⟩:=hv v hv'
    exact Bool.false_ne_true
   have hfl:vs.all wn = true:=List.all_eq_true.mpr fun v hv'=>by
    obtain ⟨i,rfl⟩:=hv v hv'; rfl
   refine ⟨l,vs,rfl,.inl (SqL.of ze),rfl,hfl,_,rfl,hk _ _ ⟨?_,g1.trans (Grow.new hl _)⟩⟩
   show inV .non vs = false
   exact hin
 rintro b H1 ⟨rfl,g1⟩
 refine iteF (vB ?_)
 have hn1:=hn.grow0 g1
 refine Zy (fun b H'=>b = false /\ Grow [] H H') (fun Kk hk=>?_) ?_
 ·refine ⟨_,rfl,_,rfl,_,_,rfl,rfl,wt k4,_,_,_,rfl,0,ns.k,2 ^ ns.k,rfl,rfl,congrArg V.int shl5,by decide,k4,p16,fun u H2 g2 hsp=>?_⟩
  obtain ⟨r,ys,rfl,hr,ha⟩:=hsp
  have G2:=g1.trans g2
  refine ⟨r,rfl,⟨_,SqL.of hr⟩,ub (xs:=ys) (fun i vs σ' H'=>(∃ e0 e1,σ' = [e0,e1,some (.ref (A5 .p))]) /\ Grow [] H2 H' /\ vs = (List.replicate i true).map V.bl) ⟨⟨_,_,rfl⟩,Grow.refl _ _,rfl⟩ (fun i vs σ' H' _ ⟨_,g,_⟩=>SqL.of (g.keep _ _ (by simp) hr)) ?_ ?_⟩
  ·rintro i x vs σ' H3 hx ⟨⟨e0,e1,rfl⟩,g3,rfl⟩
   obtain ⟨q5,hq5,r2,rfl,hr2⟩:=ha.get hx
   have il:=(List.getElem?_eq_some_iff.mp hx).1
   have hm:=xH.mp (List.mem_of_getElem? hq5)
   have hq1:q5.1 <= ns.k:=by rcases hm with ⟨_,h,_⟩ | ⟨_,h⟩ <;> omega
   have hq2:q5.2 < 2 ^ ns.k:=by rcases hm with ⟨_,_,h⟩ | ⟨_,h⟩ <;> omega
   have yl:ys.length <= 1000:=by
    rw [ha.len]; exact Nat.le_of_lt (vM p16 (by omega) (by omega))
   have hn3:=hn1.grow0 (g2.trans g3)
   have enil:=xZ nr hi.full hq1 hq2
   refine ⟨r2,_,rfl,g3.sqT hr2,rfl,_,_,rfl,_,_,rfl,rfl,?_⟩
   refine ⟨_,rfl,_,_,_,rfl,hn3.ob.choose_spec,Yu,_,rfl,_,rfl,_,_,_,rfl,A5,ns,q5.1,q5.2,rfl,rfl,rfl,hq1,hq2,k4,by rw [enil]; exact Nat.zero_le _,hn3,fun u H4 g4 ⟨r3,zs,e3,hr3,hz⟩=>?_⟩
   subst e3
   rw [enil] at hz
   have ez:zs = []:=List.eq_nil_of_length_eq_zero (by rw [hz.len]; rfl)
   subst ez
   refine ⟨szl rfl,fun t ht=>⟨r3,t,[],rfl,rfl,(Grow.new (m:=[]) ht _).sqT hr3,SqT.of ze,?_⟩⟩
   refine ⟨zr (by rw [List.length_map,List.length_replicate]; omega),⟨_,_,rfl⟩,g3.trans (g4.trans (Grow.new ht _)),?_⟩
   rw [List.replicate_succ',List.map_append]; rfl
  ·rintro vs σ' H3 ⟨_,g3,rfl⟩ l hl
   refine ⟨l,_,rfl,SqL.of ze,?_⟩
   rw [show (List.replicate ys.length true).all id = true from by rw [List.all_eq_true]; intro b hb; rw [(List.mem_replicate.mp hb).2]; rfl]
   exact ⟨_,rfl,hk _ _ ⟨rfl,G2.trans (g3.trans (Grow.new hl _))⟩⟩
 rintro b H2 ⟨rfl,g2⟩
 refine iteF (vB ?_)
 have hn2:=hn.grow0 g2
 have e2:((2 ^ ns.k:Nat):Int) / 2 = ((2 ^ ns.k / 2:Nat):Int):=rfl
 refine ⟨_,rfl,_,rfl,_,_,rfl,rfl,wt k4,_,_,rfl,rfl,⟨by decide,by decide⟩,_,_,_,rfl,1,ns.k,2 ^ ns.k / 2,rfl,rfl,congrArg V.int (by rw [shl5]; rfl),by decide,k4,by omega,fun u H3 g3 hsp=>?_⟩
 obtain ⟨r,ys,rfl,hr,ha⟩:=hsp
 have G3:=g2.trans g3
 refine ⟨r,rfl,⟨_,SqL.of hr⟩,ub (xs:=ys) (fun i vs σ' H'=>(∃ e0 e1,σ' = [e0,e1,some (.ref (A5 .p))]) /\ Grow [] H3 H' /\ vs = (List.replicate i true).map V.bl) ⟨⟨_,_,rfl⟩,Grow.refl _ _,rfl⟩ (fun i vs σ' H' _ ⟨_,g,_⟩=>SqL.of (g.keep _ _ (by simp) hr)) ?_ ?_⟩
 ·rintro i x vs σ' H4 hx ⟨⟨e0,e1,rfl⟩,g4,rfl⟩
  obtain ⟨q5,hq5,r2,rfl,hr2⟩:=ha.get hx
  have il:=(List.getElem?_eq_some_iff.mp hx).1
  have hm:=xH.mp (List.mem_of_getElem? hq5)
  have hq0:1 <= q5.1:=by rcases hm with ⟨h,_,_⟩ | ⟨_,h⟩ <;> omega
  have hq1:q5.1 <= ns.k:=by rcases hm with ⟨_,h,_⟩ | ⟨_,h⟩ <;> omega
  have hq2:q5.2 < 2 ^ ns.k / 2:=by rcases hm with ⟨_,_,h⟩ | ⟨_,h⟩ <;> omega
  have e2k:2 ^ ns.k = 2 ^ (ns.k - 1) * 2:=by rw [← Nat.pow_succ]; congr 1; omega
  have hq3:q5.2 < 2 ^ (ns.k - 1):=by omega
  have yl:ys.length <= 1000:=by
   rw [ha.len]; exact Nat.le_of_lt (vM (by omega) (by omega) (by omega))
  have hn4:=hn2.grow0 (g3.trans g4)
  refine ⟨r2,_,rfl,g4.sqT hr2,rfl,_,_,rfl,_,_,rfl,rfl,?_⟩
  refine ⟨_,rfl,_,_,_,rfl,hn4.ob.choose_spec,jM,_,rfl,_,rfl,_,_,_,rfl,A5,ns,q5.1,q5.2,rfl,rfl,rfl,hq0,hq1,hq3,k4,hn4,fun H5 g5=>?_⟩
  rw [hi.keep hq0 hq1 hq3]
  refine ⟨rfl,zr (by rw [List.length_map,List.length_replicate]; omega),⟨_,_,rfl⟩,g4.trans g5,?_⟩
  rw [List.replicate_succ',List.map_append]; rfl
 ·rintro vs σ' H4 ⟨_,g4,rfl⟩ l hl
  refine ⟨l,_,rfl,SqL.of ze,?_⟩
  rw [show (List.replicate ys.length true).all id = true from by rw [List.all_eq_true]; intro b hb; rw [(List.mem_replicate.mp hb).2]; rfl]
  exact q _ (G3.trans (g4.trans (Grow.new hl _)))
theorem vD:FnScope ["_law_pot_here","_law_many","_law_digit"] ["_law_pot_here","_law_many"] (zf (top 48)):=⟨rfl,rfl,rfl,by decide +kernel,rfl,by decide +kernel,by decide +kernel⟩
theorem qZ (F:Fun K "_law_take" "_law_take" (top 48) f fd) (B:Blt mg)      :
  FnOk P w K mg base CX0 (n + 1) f fd ["_law_pot_here","_law_many"] (vd K):=by
 refine F.ok vD yg (fun cdv A outer s H vs Q E hr h=>?_)
 obtain ⟨x,y,rfl,a,m,rfl,rfl,⟨p0,p1,hp,h0⟩,hm,hm2,q⟩:=h
 refine ⟨_,(zc (z9 (zI Wz (yq ye (pv 0) zd (fun _ _=>rfl)) zd (zP _)) (zc (xK (zq rX rfl B.divmod WH (za (yq ye (pv 0) zd (fun _ _=>rfl)) (za (pv 1) zb))) (xJ rfl (zo (Zf (pv 0) zd vI) (zo (zk (i:=2) vD.nd rfl (Or.inl rfl)) yn)))) (zi (zu (pv 2)))) zw) (zc (xK (zp rL (zp ya (zp xC (yq ye (pv 0) zd (fun _ _=>rfl)) zd) zd) zd) (Zf (pv 0) zd vI)) (zi (zu (zp rL (zp su (zp rL (zp xC (yq ye (pv 0) zd (fun _ _=>rfl)) (yq ye (pv 0) zd (fun _ _=>rfl))) zd) zd) (pv 1)))))),?_⟩
 refine ⟨_,rfl,a,_,_,_,rfl,rfl,SqL.of hp,rfl,_,_,rfl,rfl,_,rfl,?_⟩
 refine ite2 (fun c=>?_) (fun c=>?_)
 ·refine ⟨_,rfl,a,_,_,_,rfl,rfl,SqL.of hp,rfl,_,rfl,p0,m,rfl,⟨hm,hm2⟩,fun t ht=>?_⟩
  have hp':upd H t (.tup [.int (p0 / m),.int (p0 % m)]) a = some (.lst [.int p0,.int p1]):=by rw [zt (zv hp ht)]; exact hp
  refine ⟨t,_,rfl,SqT.of ze,rfl,_,_,rfl,_,rfl,a,_,0,0,rfl,rfl,hp',rfl,_,_,rfl,rfl,?_⟩
  exact ⟨_,rfl,q _ _ (Int.emod_nonneg _ (by omega)) (Int.emod_lt_of_pos _ hm) ((Grow.new ht _).trans (Grow.set hp' (by simp) _)) ⟨p0 / m,p1,ze,Int.ediv_nonneg h0 (by omega)⟩⟩
 ·refine ⟨_,rfl,a,_,_,_,rfl,rfl,SqL.of hp,rfl,p1,39373,rfl,rfl,tw ⟨by decide,by decide⟩,_,_,rfl,rfl,_,_,rfl,rfl,(by show (0:Int) < 2147483629; decide),_,rfl,a,_,1,1,rfl,rfl,hp,rfl,?_⟩
  have b0:0 <= (p1 * 39373 + 7919) % 2147483629:=Int.emod_nonneg _ (by decide)
  have b1:(p1 * 39373 + 7919) % 2147483629 < 2147483629:=Int.emod_lt_of_pos _ (by decide)
  refine ⟨_,rfl,a,_,_,_,rfl,rfl,SqL.of ze,rfl,_,rfl,a,_,_,_,rfl,rfl,SqL.of ze,rfl,(p1 * 39373 + 7919) % 2147483629,(p1 * 39373 + 7919) % 2147483629,rfl,rfl,tw ⟨by omega,by omega⟩,_,_,rfl,rfl,(by show (0:Int) < 2147483563; decide),_,_,rfl,rfl,⟨by decide,by decide⟩,_,rfl,_,_,rfl,rfl,hm,?_⟩
  exact q _ _ (Int.emod_nonneg _ (by omega)) (Int.emod_lt_of_pos _ hm) (Grow.set hp (by simp) _) ⟨p0,(p1 * 39373 + 7919) % 2147483629,ze,h0⟩
theorem yS:FnScope ["_law_pot_here","_law_k","_law_found","_law_turn","_law_stage","_law_number_here"] ["_law_pot_here","_law_k"] (zf (top 52)):=⟨rfl,rfl,rfl,by decide +kernel,rfl,by decide +kernel,by decide +kernel⟩
theorem ja (F:Fun K "_law_lost" "_law_lost" (top 52) f fd) (B:Blt mg) (qc0:zn P w K mg base n "_law_take" ["_law_pot_here","_law_many"] (vd K))     :
  FnOk P w K mg base CX0 (n + 1) f fd ["_law_pot_here","_law_k"] (ZS K):=by
 refine F.ok yS yg (fun cdv A outer s H vs Q E hr h=>?_)
 obtain ⟨x,y,rfl,p,k,rfl,rfl,pp,k4,q⟩:=h
 refine ⟨_,(zc (zG (i:=2) yS.nd rfl (Or.inl rfl) (xr zb)) (zc (z9 (zI wJ (zh qc0 hr rfl (za (pv 0) (za zd zb))) zd (zP _)) (zi (yG PassesOwn.never rfl (zM rfl B.range (za (zp ya zd (zh qc0 hr rfl (za (pv 0) (za zd zb)))) zb)) (zk (i:=3) yS.nd rfl (Or.inl rfl)) (zc (zG (i:=4) yS.nd rfl (Or.inl rfl) (zh qc0 hr rfl (za (pv 0) (za (zp ya (pv 1) zd) zb)))) (zc (zG (i:=5) yS.nd rfl (Or.inl rfl) (zh qc0 hr rfl (za (pv 0) (za (zq (vR rfl) rfl B.max Uk (za zd (za (zp su (zp yQ zd (pv 1)) (zp ya zd (yp vT rfl B.int WJ (za (xP Wz (pv 4) zd (zP _)) zb)))) zb))) zb)))) (zi (zK (vF PySem.F.plainAttrs_list PySem.F.slot_list_extend PySem.F.type_list_extend vY (pv 2) (za (zp Tm (xr (za (zN (za (pv 4) (za (pv 5) zb))) zb)) (zp ya zd (yp vT rfl B.int WJ (za (xP wJ (zh qc0 hr rfl (za (pv 0) (za zd zb))) zd (zP _)) zb)))) zb)))))))) zw) (zi (zu (yp yz rfl B.tuple xj (za (pv 2) zb)))))),?_⟩
 have p16:=wx k4
 refine ⟨szl rfl,fun lt hlt=>yX ?_⟩
 have g0:=Grow.new (m:=[]) hlt (.lst [])
 have hlt0:=ze (H:=H) (a:=lt) (o:=.lst [])
 have pp0:=pp.grow g0
 have nlp:lt ≠ p:=fun e=>by
  obtain ⟨p0,p1,z,_⟩:=pp
  rw [← e,hlt] at z; cases z
 generalize upd H lt (.lst []) = H0 at g0 hlt0 pp0 ⊢
 refine c_if (fun σ' H'=>∃ e3 e4 e5 ys gone,σ' = [some (.ref p),some (.int k),some (.ref lt),e3,e4,e5] /\ Grow [lt,p] H0 H' /\ Pot H' p /\ H' lt = some (.lst ys) /\ AllR (sU K H') ys gone /\ (∀ q ∈ gone,vC k q) /\ ys.length <= 1000) ?_ ?_
 ·rintro σ' H1 ⟨e3,e4,e5,ys,gone,rfl,g1,pp1,hy,hr,ok,yl⟩
  refine ⟨_,rfl,lt,ys,rfl,.inl ⟨SqL.of hy,fun t ht=>?_⟩⟩
  have gt:=Grow.new (m:=[]) ht (.tup ys)
  refine q gone _ _ ok ?_ (pp1.grow gt) ⟨t,ys,rfl,SqT.of ze,hr.imp fun _ _ ⟨r,e,z⟩=>⟨r,e,gt.sqT z⟩,yl⟩
  exact ((g0.wk (m:=[lt,p])).trans (g1.trans gt.wk)).less fun b hb=>by
   simp only [List.mem_cons,List.not_mem_nil,or_false] at hb
   rcases hb with rfl | rfl
   ·exact .inr hlt
   ·exact .inl (by simp)
 intro hr2
 refine ⟨_,rfl,_,_,rfl,p,3,rfl,rfl,pp0,by decide,by decide,fun n1 H1 l1 u1 g1 pp1=>⟨rfl,_,rfl,?_⟩⟩
 have hlt1:=g1.keep _ _ (by simpa using nlp) hlt0
 have G1:Grow [lt,p] H0 H1:=g1.mono (by simp)
 by_cases c:n1 = 0
 rotate_left
 ·exact yD (decide_eq_false fun z=>c (V.int.inj z)) (hr2 _ _ ⟨_,_,_,[],[],rfl,G1,pp1,hlt1,trivial,by simp,by decide⟩)
 refine yY (decide_eq_true (congrArg V.int c)) ?_
 refine ⟨_,rfl,_,_,rfl,p,5,rfl,rfl,pp1,by decide,by decide,fun n2 H2 l2 u2 g2 pp2=>⟨_,_,rfl,rfl,_,rfl,by omega,by omega,?_⟩⟩
 have hlt2:=g2.keep _ _ (by simpa using nlp) hlt1
 have G2:Grow [lt,p] H0 H2:=G1.trans (g2.mono (by simp))
 refine yd (fun i σ H'=>∃ e3 e4 e5 ys gone,σ = [some (.ref p),some (.int k),some (.ref lt),e3,e4,e5] /\ Grow [lt,p] H0 H' /\ Pot H' p /\ H' lt = some (.lst ys) /\ AllR (sU K H') ys gone /\ (∀ q ∈ gone,vC k q) /\ ys.length <= 2 * i) ⟨_,_,_,[],[],rfl,G2,pp2,hlt2,trivial,by simp,by decide⟩ ?_ ?_
 rotate_left
 ·rintro σ H' ⟨e3,e4,e5,ys,gone,rfl,g,pp',hy,hr,ok,yl⟩
  exact hr2 _ _ ⟨_,_,_,ys,gone,rfl,g,pp',hy,hr,ok,by omega⟩
 rintro i σ H3 hi ⟨e3,e4,e5,ys,gone,rfl,g3,pp3,hy,hr,ok,yl⟩
 refine ⟨_,rfl,_,rfl,_,_,rfl,rfl,_,_,rfl,p,_,rfl,rfl,pp3,by omega,by omega,fun st H4 s0 s1 g4 pp4=>yX ?_⟩
 have hy4:=g4.keep _ _ (by simpa using nlp) hy
 have hdv:∃ mx:Int,(if (1 * 2 ^ ((k:Int)).toNat) / (1 + (if decide ((0:Int) < st) = true then 1 else 0)) > (1:Int) then (1 * 2 ^ ((k:Int)).toNat) / (1 + (if decide ((0:Int) < st) = true then 1 else 0)) else (1:Int)) = mx /\ 0 < mx /\ mx <= 16 /\ ∀ n:Int,0 <= n -> n < mx -> vC k (st.toNat,n.toNat):=by
  rw [shl5]
  refine ⟨_,rfl,?_⟩
  by_cases c0:0 < st
  ·rw [decide_eq_true c0,show ((1:Int) + if true = true then 1 else 0) = 1 + 1 from rfl]
   have hk:1 <= k:=by omega
   have e2:((2 ^ k:Nat):Int) / (1 + 1) = ((2 ^ (k - 1):Nat):Int):=by
    have:2 ^ k = 2 ^ (k - 1) * 2:=by rw [← Nat.pow_succ]; congr 1; omega
    rw [this]; omega
   rw [e2]
   have hp1:=Nat.two_pow_pos (k - 1)
   have hp2:2 ^ (k - 1) <= 16:=Nat.le_trans (Nat.pow_le_pow_right (by decide) (by omega)) p16
   refine ⟨by split <;> omega,by split <;> omega,fun n n0 n1=>.inl ⟨by show 1 <= st.toNat; omega,by show st.toNat <= k; omega,?_⟩⟩
   show n.toNat < 2 ^ (k - 1)
   split at n1 <;> omega
  ·rw [decide_eq_false c0,show ((1:Int) + if false = true then 1 else 0) = 1 from rfl,Int.ediv_one]
   have hp1:=Nat.two_pow_pos k
   refine ⟨by split <;> omega,by split <;> omega,fun n n0 n1=>.inr ⟨by show st.toNat = 0; omega,?_⟩⟩
   show n.toNat < 2 ^ k
   split at n1 <;> omega
 obtain ⟨mx,emx,m0,m16,mok⟩:=hdv
 refine ⟨_,rfl,_,rfl,_,_,rfl,rfl,wt k4,_,rfl,_,_,rfl,rfl,.inr ⟨_,rfl,_,_,rfl,rfl,_,_,rfl,rfl,⟨by split <;> decide,by split <;> decide⟩,_,_,rfl,_,_,rfl,p,mx,rfl,congrArg V.int emx,pp4,m0,by omega,fun nn H5 n0 n1' g5 pp5=>yX ?_⟩⟩
 have hy5:=g5.keep _ _ (by simpa using nlp) hy4
 refine ⟨_,rfl,.inl ⟨rfl,_,SqL.of hy5⟩,_,rfl,_,rfl,szl rfl,fun t ht=>⟨szl rfl,fun l3 hl3=>?_⟩⟩
 have f1:=Grow.new (m:=[]) ht (.tup [.int st,.int nn])
 have f2:=Grow.new (m:=[]) hl3 (.lst [.ref t])
 have s1:upd (upd H5 t (.tup [.int st,.int nn])) l3 (.lst [.ref t]) t = some (.tup [.int st,.int nn]):=f2.tup _ _ ze
 have s2:upd (upd H5 t (.tup [.int st,.int nn])) l3 (.lst [.ref t]) l3 = some (.lst [.ref t]):=ze
 have F:=f1.trans f2
 have pp6:=pp5.grow F
 have hy6:=F.keep _ _ (by simp) hy5
 generalize upd (upd H5 t _) l3 _ = H6 at F s1 s2 pp6 hy6 ⊢
 have nl3:l3 ≠ p:=fun e=>by
  obtain ⟨p0,p1,z,_⟩:=pp6
  rw [← e,s2] at z; cases z
 refine ⟨_,rfl,_,_,rfl,p,6,rfl,rfl,pp6,by decide,by decide,fun n6 H7 l6 u6 g7 pp7=>⟨rfl,?_⟩⟩
 have s27:=g7.keep _ _ (by simpa using nl3) s2
 have hy7:=g7.keep _ _ (by simpa using nlp) hy6
 obtain ⟨cn,hcn,c1,c2⟩:∃ cn:Nat,((1:Int) + if decide (V.int n6 = V.int 0) = true then 1 else 0) = (cn:Int) /\ 1 <= cn /\ cn <= 2:=by
  by_cases z:V.int n6 = V.int 0
  ·rw [decide_eq_true z,if_pos rfl]; exact ⟨2,rfl,by decide,by decide⟩
  ·rw [decide_eq_false z,if_neg (by decide)]; exact ⟨1,rfl,by decide,by decide⟩
 refine .inr ⟨_,rfl,_,_,rfl,rfl,l3,(cn:Int),_,rfl,congrArg V.int hcn,s27,by omega,by omega,by rw [Int.toNat_natCast]; exact Nat.le_of_lt (zr (by show 1 * cn <= 1000; omega)),fun l4 hl4=>?_⟩
 rw [Int.toNat_natCast,WX]
 have g8:=Grow.new (m:=[]) hl4 (.lst (List.replicate cn (.ref t)))
 have hy8:=g8.keep _ _ (by simp) hy7
 have g9:=Grow.set (m:=[lt]) hy8 (by simp) (ys ++ List.replicate cn (.ref t))
 refine ⟨lt,l4,ys,_,rfl,rfl,hy8,ze,by rw [List.length_replicate]; exact Nat.le_of_lt (zr (by omega)),?_⟩
 have G5:Grow [lt,p] H3 _:=(g4.mono (m':=[lt,p]) (by simp)).trans ((g5.mono (m':=[lt,p]) (by simp)).trans (F.wk.trans ((g7.mono (m':=[lt,p]) (by simp)).trans (g8.wk.trans (g9.mono (m':=[lt,p]) (by simp))))))
 have est:((st.toNat:Nat):Int) = st:=Int.toNat_of_nonneg s0
 have enn:((nn.toNat:Nat):Int) = nn:=Int.toNat_of_nonneg n0
 have plt:p ∉ [lt]:=by simpa using nlp.symm
 have pp9:Pot (upd (upd H7 l4 (.lst (List.replicate cn (.ref t)))) lt (.lst (ys ++ List.replicate cn (.ref t)))) p:=by
  obtain ⟨p0,p1,z,z0⟩:=pp7.grow g8
  exact ⟨p0,p1,g9.keep _ _ plt z,z0⟩
 refine ⟨_,_,_,ys ++ List.replicate cn (.ref t),gone ++ List.replicate cn (st.toNat,nn.toNat),rfl,g3.trans G5,pp9,ze,?_,?_,by rw [List.length_append,List.length_replicate]; omega⟩
 ·refine (hr.imp fun _ _ ⟨r,e,z⟩=>⟨r,e,G5.sqT z⟩).app (qS ⟨t,rfl,?_⟩)
  show SqT K _ t [.int ((st.toNat:Nat):Int),.int ((nn.toNat:Nat):Int)]
  rw [est,enn]
  exact SqT.of (g9.tup _ _ (g8.tup _ _ (g7.tup _ _ s1)))
 ·intro q hq
  rcases List.mem_append.mp hq with hq | hq
  ·exact ok q hq
  ·rw [(List.mem_replicate.mp hq).2]; exact mok nn n0 n1'
theorem wv:FnScope ["_law_pot_here","_law_menu"] ["_law_pot_here"] (zf (top 49)):=⟨rfl,rfl,rfl,by decide +kernel,rfl,by decide +kernel,by decide +kernel⟩
theorem uT (F:Fun K "_law_number" "_law_number" (top 49) f fd) (B:Blt mg) (qc0:zn P w K mg base n "_law_take" ["_law_pot_here","_law_many"] (vd K))     :
  FnOk P w K mg base CX0 (n + 1) f fd ["_law_pot_here"] (jW K):=by
 refine F.ok wv yJ (fun cdv A outer s H vs Q E hr h=>?_)
 obtain ⟨x,rfl,a,rfl,pp,q⟩:=h
 refine ⟨_,(zc (zG (i:=1) wv.nd rfl (Or.inl rfl) (zh qc0 hr rfl (za (pv 0) (za zd zb)))) (zc (z9 (zI jm (pv 1) zd (zP _)) (zi (zu (zp zY (zh qc0 hr rfl (za (pv 0) (za zd zb))) zd))) zw) (zc (z9 (zI wJ (pv 1) zd (zP _)) (zi (zu (zp zY (zh qc0 hr rfl (za (pv 0) (za (zp xC zd (zp YT zd zd)) zb))) (zp YT zd zd)))) zw) (zi (zu (yq ye (xr (za zd (za zd (za (Ww Zh zd) (za (zp zY zd (zh qc0 hr rfl (za (pv 0) (za zd zb)))) zb))))) (zh qc0 hr rfl (za (pv 0) (za zd zb))) (fun _ _=>rfl))))))),?_⟩
 refine ⟨_,rfl,_,_,rfl,a,5,rfl,rfl,pp,by decide,by decide,fun c0 H1 l0 u0 g1 pp1=>⟨_,rfl,_,_,rfl,rfl,_,rfl,?_⟩⟩
 by_cases c:c0 < 2
 ·refine yY (decide_eq_true c) ⟨_,rfl,_,_,rfl,a,9,rfl,rfl,pp1,by decide,by decide,fun n1 H2 l1 u1 g2 pp2=>⟨_,_,rfl,rfl,q _ _ ?_ ?_ (g1.trans g2) pp2⟩⟩
  ·show -(10 ^ 29) <= n1 - 4
   omega
  ·show n1 - 4 <= 10 ^ 29
   omega
 refine yD (decide_eq_false c) (vB ⟨_,rfl,rfl,_,rfl,?_⟩)
 by_cases c4:c0 = 4
 ·refine yY (decide_eq_true (congrArg V.int c4)) ⟨_,rfl,_,_,rfl,rfl,⟨by decide,by decide,by decide⟩,_,_,rfl,rfl,Xm ⟨by decide,by decide⟩,_,_,rfl,a,2 * 10 ^ 29,rfl,rfl,pp1,by decide,by decide,fun n1 H2 l1 u1 g2 pp2=>⟨_,_,rfl,rfl,⟨by decide,by decide,by decide⟩,_,_,rfl,rfl,q _ _ ?_ ?_ (g1.trans g2) pp2⟩⟩
  ·show -(10 ^ 29) <= n1 - 10 ^ 29
   omega
  ·show n1 - 10 ^ 29 <= 10 ^ 29
   omega
 refine yD (decide_eq_false fun z=>c4 (V.int.inj z)) (vB ?_)
 refine ⟨_,rfl,_,rfl,_,_,rfl,a,200,rfl,rfl,pp1,by decide,by decide,fun n1 H2 l1 u1 g2 pp2=>⟨_,_,rfl,rfl,szl rfl,fun t ht=>?_⟩⟩
 have gt:=Grow.new (m:=[]) ht (.lst [V.int 0,.int 1,.int (-1),.int (100 - n1)])
 refine ⟨_,rfl,_,_,rfl,a,4,rfl,rfl,pp2.grow gt,by decide,by decide,fun n2 H3 l2 u2 g3 pp3=>?_⟩
 have nat:t ≠ a:=fun e=>by
  obtain ⟨p0,p1,z,_⟩:=pp2
  rw [← e,ht] at z; cases z
 have ht3:H3 t = some (.lst [V.int 0,.int 1,.int (-1),.int (100 - n1)]):=g3.keep _ _ (by simpa using nat) ze
 have G:Grow [a] H H3:=g1.trans (g2.trans (gt.wk.trans g3))
 obtain h | h | h | h:n2 = 0 \/ n2 = 1 \/ n2 = 2 \/ n2 = 3:=by omega
 ·subst h; exact ⟨t,_,0,_,rfl,rfl,SqL.of ht3,zO (j:=0) rfl,q _ _ (by decide) (by decide) G pp3⟩
 ·subst h; exact ⟨t,_,1,_,rfl,rfl,SqL.of ht3,zO (j:=1) rfl,q _ _ (by decide) (by decide) G pp3⟩
 ·subst h; exact ⟨t,_,2,_,rfl,rfl,SqL.of ht3,zO (j:=2) rfl,q _ _ (by decide) (by decide) G pp3⟩
 ·subst h; exact ⟨t,_,3,_,rfl,rfl,SqL.of ht3,zO (j:=3) rfl,q _ _ (by show -(10 ^ 29) <= 100 - n1; omega) (by show 100 - n1 <= 10 ^ 29; omega) G pp3⟩
theorem yT:FnScope ["_law_pot_here","_law_menu","_law_low","_law_high","_law_add"] ["_law_pot_here"] (zf (top 50)):=⟨rfl,rfl,rfl,by decide +kernel,rfl,by decide +kernel,by decide +kernel⟩
theorem jb (F:Fun K "_law_deed" "_law_deed" (top 50) f fd) (B:Blt mg) (qc0:zn P w K mg base n "_law_take" ["_law_pot_here","_law_many"] (vd K)) (qc1:zn P w K mg base n "_law_number" ["_law_pot_here"] (jW K))  (g_sorted:mg "sorted" = none)   :
  FnOk P w K mg base CX0 (n + 1) f fd ["_law_pot_here"] (ZR K):=by
 refine F.ok yT yJ (fun cdv A outer s H vs Q E hr h=>?_)
 obtain ⟨x,rfl,a,rfl,pp,q⟩:=h
 refine ⟨_,(zc (zG (i:=1) yT.nd rfl (Or.inl rfl) (zh qc0 hr rfl (za (pv 0) (za zd zb)))) (zc (z9 (zI jm (pv 1) zd (zP _)) (zi (zu (zN (za (yq ye (xr (za zd (za (zh qc1 hr rfl (za (pv 0) zb)) (za zd zb)))) (pv 1) (fun _ _=>rfl)) (za rH (za rH zb)))))) zw) (zc (xK (zq (qi (K:=K) rfl) rfl g_sorted ss (za (xr (za (zh qc1 hr rfl (za (pv 0) zb)) (za (zh qc1 hr rfl (za (pv 0) zb)) zb))) zb)) (Vt rfl (zo (zk (i:=2) yT.nd rfl (Or.inl rfl)) (zo (zk (i:=3) yT.nd rfl (Or.inl rfl)) yn)))) (zc (z9 (PW.pt (t7 (zI wJ (pv 1) zd (zP _)) (wF (zI wJ (pv 2) (pv 3) (zP _))))) (zi (zu (zN (za zd (za (pv 2) (za (pv 2) zb)))))) zw) (zc (zG (i:=4) yT.nd rfl (Or.inl rfl) (zp xC (zh qc1 hr rfl (za (pv 0) zb)) (yp vT rfl B.int WJ (za (xP Wz (pv 1) zd (zP _)) zb)))) (zi (zu (yq ye (xr (za (zN (za (pv 4) (za (pv 2) (za rH zb)))) (za (zN (za (pv 4) (za rH (za (pv 3) zb)))) (za (zN (za (pv 4) (za (pv 2) (za (pv 3) zb)))) zb)))) (zh qc0 hr rfl (za (pv 0) (za zd zb))) (fun _ _=>rfl))))))))),?_⟩
 refine ⟨_,rfl,_,_,rfl,a,8,rfl,rfl,pp,by decide,by decide,fun c0 H1 l0 u0 g1 pp1=>⟨_,rfl,_,_,rfl,rfl,_,rfl,?_⟩⟩
 by_cases c:c0 < 3
 ·refine yY (decide_eq_true c) ⟨_,rfl,_,rfl,a,rfl,pp1,fun n1 H2 _ _ g2 pp2=>⟨szl rfl,fun t ht=>?_⟩⟩
  have gt:=Grow.new (m:=[]) ht (.lst [V.int 1,.int n1,.int 0])
  have fin:∀ (v:Int) (t2:Addr),upd H2 t (.lst [V.int 1,.int n1,.int 0]) t2 = none -> Q (.ref t2) (upd (upd H2 t (.lst [V.int 1,.int n1,.int 0])) t2 (.tup [.int v,.non,.non])):=fun v t2 ht2=>q ⟨v,none,none⟩ _ _ (fun _ _ z=>nomatch z) (g1.trans (g2.trans (gt.wk.trans (Grow.new ht2 _)))) ((pp2.grow gt).grow (Grow.new ht2 _)) ⟨t2,rfl,SqT.of ze⟩
  obtain h | h | h:c0 = 0 \/ c0 = 1 \/ c0 = 2:=by omega
  ·subst h; exact ⟨_,rfl,t,_,0,_,rfl,rfl,SqL.of ze,zO (j:=0) rfl,szl rfl,fin 1⟩
  ·subst h; exact ⟨_,rfl,t,_,1,_,rfl,rfl,SqL.of ze,zO (j:=1) rfl,szl rfl,fin n1⟩
  ·subst h; exact ⟨_,rfl,t,_,2,_,rfl,rfl,SqL.of ze,zO (j:=2) rfl,szl rfl,fin 0⟩
 refine yD (decide_eq_false c) (vB ?_)
 refine ⟨_,rfl,_,rfl,a,rfl,pp1,fun n1 H2 _ _ g2 pp2=>⟨_,rfl,_,rfl,a,rfl,pp2,fun n2 H3 _ _ g3 pp3=>⟨szl rfl,fun t ht=>?_⟩⟩⟩
 have gt:=Grow.new (m:=[]) ht (.lst [V.int n1,.int n2])
 refine ⟨t,[n1,n2],rfl,SqL.of ze,by show (2:Nat) < 64; decide,fun p ms hp pm pw=>?_⟩
 obtain ⟨lo,hi,rfl⟩:∃ lo hi,ms = [lo,hi]:=by
  have:=pm.length_eq
  match ms,this with
  | [x,y],_=>exact ⟨x,y,rfl⟩
 have lh:lo <= hi:=by simpa using pw
 have gp:=Grow.new (m:=[]) hp (.lst ([lo,hi].map V.int))
 have G4:Grow [a] H _:=g1.trans (g2.trans (g3.trans ((gt.trans gp).wk (m:=[a]))))
 have pp4:=(pp3.grow gt).grow gp
 refine ⟨p,_,rfl,SqL.of ze,rfl,_,_,rfl,_,_,rfl,rfl,?_⟩
 refine c_nx ?_
 generalize upd (upd H3 t _) p _ = H4 at G4 pp4 ⊢
 have eqv:∀ H5 t5,Grow [a] H H5 -> Pot H5 a -> SqT K H5 t5 [.int 0,.int lo,.int lo] -> Q (.ref t5) H5:=fun H5 t5 g5 p5 h5=>q ⟨0,some lo,some lo⟩ _ _ (fun l u h1 h2=>.inr ⟨by cases h1; cases h2; rfl,rfl⟩) g5 p5 ⟨t5,rfl,h5⟩
 refine Zy (fun b H'=>H' = H4 /\ (b = false -> lo < hi)) (fun Kk hk=>⟨_,rfl,rfl,_,rfl,?_⟩) ?_
 ·by_cases c3:c0 = 3
  ·exact yY (decide_eq_true (congrArg V.int c3)) (hk _ _ ⟨rfl,nofun⟩)
  ·refine yD (decide_eq_false fun z=>c3 (V.int.inj z)) ⟨_,rfl,_,rfl,rfl,_,rfl,hk _ _ ⟨rfl,fun h=>?_⟩⟩
   have:¬ (V.int lo = V.int hi):=of_decide_eq_false h
   have:lo ≠ hi:=fun e=>this (congrArg V.int e)
   omega
 rintro b H5 ⟨rfl,hb⟩
 cases b with
 | true =>
  refine iteT ⟨_,rfl,_,rfl,szl rfl,fun t5 ht5=>eqv _ _ (G4.trans (Grow.new ht5 _)) (pp4.grow (Grow.new ht5 _)) (SqT.of ze)⟩
 | false =>
 have lt:=hb rfl
 refine iteF (vB ?_)
 refine Yg (fun v H'=>∃ ad:Int,v = .int ad /\ Grow [a] H H' /\ Pot H' a) (fun Kk hk=>⟨_,rfl,_,rfl,a,rfl,pp4,fun n3 H6 l3 u3 g6 pp6=>⟨_,rfl,_,_,rfl,rfl,.inr ⟨_,rfl,_,_,rfl,rfl,tw ?_,hk _ _ ⟨_,rfl,G4.trans g6,pp6⟩⟩⟩⟩) ?_
 ·split <;> exact ⟨by decide,by decide⟩
 rintro _ H6 ⟨ad,rfl,G6,pp6⟩
 refine ⟨_,rfl,_,rfl,szl rfl,fun t1 ht1=>⟨_,rfl,_,rfl,szl rfl,fun t2 ht2=>⟨_,rfl,_,rfl,_,rfl,szl rfl,fun t3 ht3=>⟨szl rfl,fun tl htl=>?_⟩⟩⟩⟩
 have f1:=Grow.new (m:=[]) ht1 (.tup [.int ad,.int lo,.non])
 have f2:=Grow.new (m:=[]) ht2 (.tup [.int ad,.non,.int hi])
 have f3:=Grow.new (m:=[]) ht3 (.tup [.int ad,.int lo,.int hi])
 have f4:=Grow.new (m:=[]) htl (.lst [.ref t1,.ref t2,.ref t3])
 have F:=f1.trans (f2.trans (f3.trans f4))
 have s1:upd H6 t1 (.tup [.int ad,.int lo,.non]) t1 = some (.tup [.int ad,.int lo,.non]):=ze
 have s2:upd (upd H6 t1 (.tup [.int ad,.int lo,.non])) t2 (.tup [.int ad,.non,.int hi]) t2 = some (.tup [.int ad,.non,.int hi]):=ze
 have s3:upd (upd (upd H6 t1 (.tup [.int ad,.int lo,.non])) t2 (.tup [.int ad,.non,.int hi])) t3 (.tup [.int ad,.int lo,.int hi]) t3 = some (.tup [.int ad,.int lo,.int hi]):=ze
 replace s1:=(f2.trans (f3.trans f4)).tup _ _ s1
 replace s2:=(f3.trans f4).tup _ _ s2
 replace s3:=f4.tup _ _ s3
 have s4:upd (upd (upd (upd H6 t1 (.tup [.int ad,.int lo,.non])) t2 (.tup [.int ad,.non,.int hi])) t3 (.tup [.int ad,.int lo,.int hi])) tl (.lst [.ref t1,.ref t2,.ref t3]) tl = some (.lst [.ref t1,.ref t2,.ref t3]):=ze
 have pp7:=pp6.grow F
 have G7:=G6.trans (F.wk (m:=[a]))
 generalize upd (upd (upd (upd H6 t1 _) t2 _) t3 _) tl _ = H7 at s1 s2 s3 s4 pp7 G7 ⊢
 refine ⟨_,rfl,_,_,rfl,a,3,rfl,rfl,pp7,by decide,by decide,fun n8 H8 l8 u8 g8 pp8=>?_⟩
 have nta:tl ≠ a:=fun e=>by
  obtain ⟨p0,p1,z,_⟩:=pp7
  rw [← e,s4] at z; cases z
 have s48:=g8.keep _ _ (by simpa using nta) s4
 have G8:=G7.trans g8
 obtain h | h | h:n8 = 0 \/ n8 = 1 \/ n8 = 2:=by omega
 ·subst h; exact ⟨tl,_,0,_,rfl,rfl,SqL.of s48,zO (j:=0) rfl,q ⟨ad,some lo,none⟩ _ _ (fun _ _ _ z=>nomatch z) G8 pp8 ⟨t1,rfl,SqT.of (g8.tup _ _ s1)⟩⟩
 ·subst h; exact ⟨tl,_,1,_,rfl,rfl,SqL.of s48,zO (j:=1) rfl,q ⟨ad,none,some hi⟩ _ _ (fun _ _ z=>nomatch z) G8 pp8 ⟨t2,rfl,SqT.of (g8.tup _ _ s2)⟩⟩
 ·subst h; exact ⟨tl,_,2,_,rfl,rfl,SqL.of s48,zO (j:=2) rfl,q ⟨ad,some lo,some hi⟩ _ _ (fun l u h1 h2=>.inl (by cases h1; cases h2; exact lt)) G8 pp8 ⟨t3,rfl,SqT.of (g8.tup _ _ s3)⟩⟩
theorem wB:FnScope ["_law_pot_here","_law_k","_law_many","_law_some","_law_box"] ["_law_pot_here","_law_k","_law_many","_law_some"] (zf (top 51)):=⟨rfl,rfl,rfl,by decide +kernel,rfl,by decide +kernel,by decide +kernel⟩
theorem j2 (F:Fun K "_law_ask" "_law_ask" (top 51) f fd) (B:Blt mg) (qc0:zn P w K mg base n "_law_deed" ["_law_pot_here"] (ZR K)) (qc1:zn P w K mg base n "_law_take" ["_law_pot_here","_law_many"] (vd K))     :
  FnOk P w K mg base CX0 (n + 1) f fd ["_law_pot_here","_law_k","_law_many","_law_some"] (Wi K):=by
 refine F.ok wB sx (fun cdv A outer s H vs Q E hr h=>?_)
 obtain ⟨x,y,z,u,rfl,p,l,k,many,sm,rfl,rfl,rfl,rfl,pp,k4,m1,m16,hl,npl,sm1,smL,smb,q⟩:=h
 refine ⟨_,(zc (zG (i:=4) wB.nd rfl (Or.inl rfl) (yq ye (pv 3) (zh qc1 hr rfl (za (pv 0) (za (zq zC rfl B.len wL (za (pv 3) zb)) zb))) (fun _ _=>rfl))) (zc (z9 (zI wJ (zh qc1 hr rfl (za (pv 0) (za zd zb))) zd (zP _)) (zi (zG (i:=4) wB.nd rfl (Or.inl rfl) (zh qc1 hr rfl (za (pv 0) (za (pv 2) zb))))) zw) (zi (zu (zN (za (zh qc1 hr rfl (za (pv 0) (za (zp yQ zd (pv 1)) zb))) (za (pv 4) (za (zh qc0 hr rfl (za (pv 0) zb)) zb)))))))),?_⟩
 have p16:=wx k4
 have el:(sm.map V.int).length = sm.length:=List.length_map ..
 refine ⟨_,rfl,_,rfl,_,rfl,l,_,rfl,.inl (SqL.of hl),_,_,rfl,p,_,rfl,rfl,pp,by omega,by omega,fun n1 H1 l1 u1 g1 pp1=>?_⟩
 have hl1:=g1.keep _ _ (by simpa using npl.symm) hl
 have hj:n1.toNat < sm.length:=by omega
 have hv:(sm.map V.int)[n1.toNat]? = some (V.int sm[n1.toNat]):=by rw [List.getElem?_map,List.getElem?_eq_getElem hj]; rfl
 have hat:=zO hv
 rw [Int.toNat_of_nonneg l1] at hat
 have hb0:=smb _ (List.getElem_mem hj)
 generalize sm[n1.toNat] = b0 at hat hb0
 refine ⟨l,_,n1,_,rfl,rfl,SqL.of hl1,hat,yX ?_⟩
 refine c_if (fun σ' H'=>∃ (b:Int),σ' = [some (.ref p),some (.int k),some (.int many),some (.ref l),some (.int b)] /\ 0 <= b /\ b < many /\ Grow [p] H H' /\ Pot H' p) ?_ ?_
 rotate_left
 ·intro hr2
  refine ⟨_,rfl,_,_,rfl,p,5,rfl,rfl,pp1,by decide,by decide,fun n2 H2 l2 u2 g2 pp2=>⟨rfl,_,rfl,?_⟩⟩
  by_cases c:n2 = 0
  ·refine yY (decide_eq_true (congrArg V.int c)) ⟨_,rfl,_,rfl,_,_,rfl,p,many,rfl,rfl,pp2,by omega,by omega,fun n3 H3 l3 u3 g3 pp3=>hr2 _ _ ⟨n3,rfl,l3,u3,g1.trans (g2.trans g3),pp3⟩⟩
  ·exact yD (decide_eq_false fun z=>c (V.int.inj z)) (hr2 _ _ ⟨b0,rfl,hb0.1,hb0.2,g1.trans g2,pp2⟩)
 rintro σ' H2 ⟨b,rfl,bl,bu,g2,pp2⟩
 refine ⟨_,rfl,_,rfl,_,_,rfl,rfl,wt k4,_,_,rfl,p,_,rfl,rfl,pp2,by rw [shl5]; exact Int.ofNat_lt.mpr (Nat.two_pow_pos k),by rw [shl5]; exact Int.lt_of_le_of_lt (Int.ofNat_le.mpr p16) (by decide),fun n3 H3 l3 u3 g3 pp3=>?_⟩
 rw [shl5] at u3
 refine ⟨_,rfl,_,rfl,_,rfl,p,rfl,pp3,fun d y H4 dok g4 pp4 hd=>⟨szl rfl,fun t ht=>?_⟩⟩
 obtain ⟨rd,rfl,hrd⟩:=hd
 have gt:=Grow.new (m:=[]) ht (.tup [.int n3,.int b,.ref rd])
 exact q ⟨n3,b,d⟩ _ _ ⟨l3,by show n3 <= 15; have:=Int.ofNat_le.mpr p16; omega,bl,bu,dok⟩ u3 (g2.trans (g3.trans (g4.trans gt.wk))) (pp4.grow gt) ⟨t,rd,rfl,SqT.of ze,gt.sqT hrd⟩
theorem yL:FnScope ["_law_script","_law_k","_law_seed","_law_cell","_law_number_here"] ["_law_script","_law_k"] (zf (top 47)):=⟨rfl,rfl,rfl,by decide +kernel,rfl,by decide +kernel,by decide +kernel⟩
theorem j3 (F:Fun K "_law_pot" "_law_pot" (top 47) f fd) (B:Blt mg)      :
  FnOk P w K mg base CX0 (n + 1) f fd ["_law_script","_law_k"] (VC K):=by
 refine F.ok yL yg (fun cdv A outer s H vs Q E hr h=>?_)
 obtain ⟨x,y,rfl,a,ns,k,rfl,rfl,hs,k0,k1,q⟩:=h
 refine ⟨_,(zc (zG (i:=2) yL.nd rfl (Or.inl rfl) (zp ya zd (zp xC zd (pv 1)))) (zc (yG PassesOwn.never rfl (vP (WF Ug (pv 0) Uc (Ud zd))) (zk (i:=3) yL.nd rfl (Or.inl rfl)) (zi (zG (i:=2) yL.nd rfl (Or.inl rfl) (zp rL (zp ya (zp xC (pv 2) zd) (pv 3)) zd)))) (zc (zG (i:=4) yL.nd rfl (Or.inl rfl) zd) (zc (z9 (zI jm (pv 1) (zq zC rfl B.len wL (za (pv 0) zb)) (zP _)) (zi (zG (i:=4) yL.nd rfl (Or.inl rfl) (yq ye (pv 0) (pv 1) (fun _ _=>rfl)))) zw) (zi (zu (xr (za (zq (vR rfl) rfl B.max Uk (za zd (za (zp zY (pv 4) (zp YT zd zd)) zb))) (za (zp ya (zp rL (zp ya (zp xC (pv 2) (pv 2)) (zp xC zd (pv 1))) zd) zd) zb))))))))),?_⟩
 have hl:(ns.map V.int).length = ns.length:=List.length_map ..
 refine ⟨_,rfl,_,_,rfl,rfl,Xm ⟨by decide,by decide⟩,_,_,rfl,rfl,yX ?_⟩
 refine ⟨_,rfl,_,rfl,a,_,rfl,hs.sq,fun t ht=>?_⟩
 have gt:=Grow.new (m:=[]) ht (.lst (cutV (ns.map V.int) none (some 40)))
 have ht1:=ze (H:=H) (a:=t) (o:=.lst (cutV (ns.map V.int) none (some 40)))
 have hs1:=gt.scr hs
 have hint:∀ v ∈ cutV (ns.map V.int) none (some 40),∃ i:Int,v = .int i:=fun v hv=>by
  obtain ⟨i,_,e⟩:=List.mem_map.mp (Wk hv)
  exact ⟨i,e.symm⟩
 generalize cutV (ns.map V.int) none (some 40) = cs at gt ht1 hs1 hint ⊢
 generalize upd H t (.lst cs) = H1 at gt ht1 hs1 ⊢
 refine ⟨t,rfl,⟨_,SqL.of ht1⟩,vH (xs:=cs) (fun j σ H'=>∃ (e3:Option V) (sd:Int),σ = [some (.ref a),some (.int k),some (.int sd),e3,none] /\ H' = H1 /\ ((-(2 ^ 50) < sd /\ sd < 2 ^ 50))) ⟨_,_,rfl,rfl,by omega,by omega⟩ (fun j σ H' _ ⟨_,_,_,e,_⟩=>e ▸ SqL.of ht1) ?_ ?_⟩
 ·rintro j x σ H2 hx ⟨e3,sd,rfl,rfl,_,_⟩
  obtain ⟨i,rfl⟩:=hint x (List.mem_of_getElem? hx)
  refine ⟨_,rfl,_,_,rfl,rfl,tw ⟨by decide,by decide⟩,_,rfl,_,_,rfl,rfl,_,_,rfl,rfl,(by show (0:Int) < 2147483647; decide),?_⟩
  have b0:0 <= (sd * 48271 + i) % 2147483647:=Int.emod_nonneg _ (by decide)
  have b1:(sd * 48271 + i) % 2147483647 < 2147483647:=Int.emod_lt_of_pos _ (by decide)
  exact ⟨_,_,rfl,rfl,by omega,by omega⟩
 rintro σ H2 ⟨e3,sd,rfl,rfl,s0,s1⟩
 refine c_nx (yX ?_)
 refine c_if (fun σ' H'=>∃ (n:Int),σ' = [some (.ref a),some (.int k),some (.int sd),e3,some (.int n)] /\ H' = H2) ?_ ?_
 ·rintro σ' H' ⟨n,rfl,rfl⟩
  refine ⟨_,rfl,_,_,rfl,rfl,⟨by decide,by decide,by decide⟩,_,_,rfl,rfl,_,_,rfl,_,rfl,_,rfl,_,_,rfl,rfl,tw ⟨by omega,by omega⟩,_,rfl,_,_,rfl,rfl,Xm ⟨by decide,by decide⟩,_,_,rfl,rfl,_,_,rfl,rfl,(by show (0:Int) < 2147483563; decide),_,_,rfl,rfl,szl rfl,fun p hp=>?_⟩
  refine q p _ (gt.free (by simp) hp) (gt.trans (Grow.new hp _)) ⟨_,_,ze,?_⟩
  split <;> omega
 intro hr2
 refine ⟨_,rfl,_,rfl,a,_,rfl,.inl hs1.sq,_,_,rfl,rfl,_,rfl,?_⟩
 by_cases c:k < ((ns.map V.int).length:Int)
 ·refine yY (decide_eq_true c) ?_
  have hj:k.toNat < ns.length:=by omega
  refine ⟨_,rfl,_,rfl,a,_,_,V.int ns[k.toNat],rfl,rfl,hs1.sq,?_,?_⟩
  ·have hv:(ns.map V.int)[k.toNat]? = some (V.int ns[k.toNat]):=by rw [List.getElem?_map,List.getElem?_eq_getElem hj]; rfl
   have:=zO hv
   rw [Int.toNat_of_nonneg k0] at this; exact this
  ·exact hr2 _ _ ⟨_,rfl,rfl⟩
 ·exact yD (decide_eq_false c) (hr2 _ _ ⟨_,rfl,rfl⟩)
theorem xn:FnScope ["k","thing","stage","number"] ["k","thing"] (zf (top 42)):=⟨rfl,rfl,rfl,by decide +kernel,rfl,by decide +kernel,by decide +kernel⟩
theorem uU (F:Fun K "may_be_lost" "may_be_lost" (top 42) f fd) (B:Blt mg) (qc0:zn P w K mg base n "is_line" ["k","thing"] (x8 K)) (qc1:zn P w K mg base n "is_within" ["thing","least","greatest"] (zR K)) (qc2:zn P w K mg base n "is_switch" ["k","stage","number"] (Wb K))     :
  FnOk P w K mg base CX0 (n + 1) f fd ["k","thing"] (ZK K):=by
 refine F.ok xn yg (fun cdv A outer s H vs Q E hr h=>?_)
 obtain ⟨x,y,rfl,k,q5,rfl,⟨r,rfl,hr5⟩,k4,ok,q⟩:=h
 refine ⟨_,(zc (z9 (PW.pt (t7 (yw (yo (zq xB rfl B.isinstance yf (za (pv 1) (za (ua rfl B.tuple xj) zb))))) (wF (zI Wx (zq zC rfl B.len wL (za (pv 1) zb)) zd (zP _))))) (zi (zu vN)) zw) (zc (xK (pv 1) (xJ rfl (zo (zk (i:=2) xn.nd rfl (Or.inl rfl)) (zo (zk (i:=3) xn.nd rfl (Or.inl rfl)) yn)))) (zi (zu (V1 (zh qc2 hr rfl (za (pv 0) (za (pv 2) (za (pv 3) zb)))) (wH (vO (zh qc1 hr rfl (za (pv 2) (za zd (za zd zb)))) (wH (zh qc0 hr rfl (za (pv 0) (za (pv 3) zb))))))))))),?_⟩
 refine ⟨_,rfl,_,_,_,true,rfl,.inl ⟨rfl,_,hr5⟩,rfl,_,rfl,iteF ⟨_,rfl,r,_,rfl,.inr hr5,rfl,_,rfl,iteF ?_⟩⟩
 refine ⟨_,rfl,r,_,rfl,hr5,rfl,_,_,rfl,_,_,rfl,rfl,?_⟩
 refine ⟨_,rfl,_,rfl,_,rfl,_,_,_,rfl,k,q5.1,q5.2,rfl,rfl,rfl,k4,_,rfl,?_⟩
 rcases ok with ok | ⟨o1,o2⟩
 ·rw [decide_eq_true ok]; exact iteT q
 ·rw [decide_eq_false (fun h=>by omega)]
  refine iteF ⟨_,rfl,_,_,_,rfl,_,_,_,rfl,rfl,rfl,_,rfl,yY (by rw [o1]; rfl) ?_⟩
  exact ⟨_,rfl,_,rfl,_,_,rfl,k,q5.2,rfl,rfl,k4,o2,q⟩
theorem jc:FnScope ["k","thing"] ["k","thing"] (zf (top 43)):=⟨rfl,rfl,rfl,by decide +kernel,rfl,by decide +kernel,by decide +kernel⟩
theorem jd (F:Fun K "need_lost" "need_lost" (top 43) f fd) (B:Blt mg) (qc0:zn P w K mg base n "may_be_lost" ["k","thing"] (ZK K))     :
  FnOk P w K mg base CX0 (n + 1) f fd ["k","thing"] (qL K):=by
 refine F.ok jc yg (fun cdv A outer s H vs Q E hr h=>?_)
 obtain ⟨x,y,rfl,k,gone,rfl,⟨r,ys,rfl,hr5,ha,hl⟩,k4,ok,q⟩:=h
 refine ⟨_,(zi (z9 (PW.pt (t7 (yw (yo (zq xB rfl B.isinstance yf (za (pv 1) (za (ua rfl B.tuple xj) zb))))) (wF (yw (yo (zq (wM rfl) rfl B.all WI (za (yZ (CSc.of (N':=["part","k"]) (sub:=[none,some 0]) (zf (top 43)) ["k","thing"] rfl rfl (by decide +kernel) rfl) rfl (rK (pv 1)) (fun _ _ _ _ _ _=>zk (i:=0) (show (["part","k"]:List Str).Nodup by decide +kernel) rfl (Or.inl rfl)) (fun _ _ _ _ _ _=>yv) (fun _ _ _ _ _ _=>(zh qc0 hr rfl (za (pv 1) (za (pv 0) zb))))) zb))))))) (zi yP) zw)),?_⟩
 refine ⟨_,rfl,_,_,_,true,rfl,.inl ⟨rfl,_,hr5⟩,rfl,_,rfl,iteF ?_⟩
 refine ⟨_,rfl,r,rfl,⟨_,hr5⟩,qe (fun _=>V.bl true) hr5 hl ?_ ?_⟩
 ·intro x H1 R hx g k'
  obtain ⟨i,hi⟩:=List.mem_iff_getElem?.mp hx
  obtain ⟨p5,hp5,hpr⟩:=ha.get hi
  obtain ⟨r2,rfl,hr2⟩:=hpr
  exact ⟨_,rfl,_,rfl,_,_,rfl,k,p5,rfl,⟨r2,rfl,g.sqT hr2⟩,k4,ok p5 (List.mem_of_getElem? hp5),k' _ (Grow.refl _ _)⟩
 ·intro H1 p g hp
  refine ⟨p,ys.map (fun _=>true),rfl,SqL.of (by rw [ze,List.map_map]; rfl),?_⟩
  rw [qf]
  exact ⟨_,rfl,iteF (q _ (g.trans (Grow.new hp _)))⟩
theorem uH:FnScope ["self","many"] ["self","many"] (zf (zj (top 45) 3)):=⟨rfl,rfl,rfl,by decide +kernel,rfl,by decide +kernel,by decide +kernel⟩
theorem uI (F:Fun K "done_ago" "Net.done_ago" (zj (top 45) 3) f fd) (B:Blt mg) {C:Addr} (T:NTxt K mg C)      :
  FnOk P w K mg base CX0 (n + 1) f fd ["self","many"] (sV C K):=by
 refine F.ok uH yg (fun cdv A outer s H vs Q E hr h=>?_)
 obtain ⟨x,y,rfl,A5,ns,many,rfl,rfl,hn,q⟩:=h
 refine ⟨_,(zi (zu (W5 (Room.u1F hr) (zy (pv 0) rfl) (zp zY (zy (pv 0) rfl) (pv 1)) (zN zb) ⟨rfl,rfl,rfl,rfl⟩))),?_⟩
 refine ⟨_,rfl,_,C,_,_,_,rfl,hn.ob.choose_spec,T.cl,T.n_done_in,tQ,_,rfl,.inl ⟨_,.inl hn.dd⟩,⟨_,rfl,_,C,_,_,_,rfl,hn.ob.choose_spec,T.cl,T.n_now,ZF,_,rfl,_,_,rfl,rfl,szl rfl,fun t ht=>?_⟩⟩
 have g:=Grow.new (m:=[]) ht (.tup [])
 have dd:=g.keep _ _ (by simp) hn.dd
 by_cases c:many < ns.now /\ ns.now - many <= ns.nd
 ·refine ⟨some (.ref (A5 (.dn (ns.now - many)))),.inl ⟨_,.inl ((ns.now:Int) - many),.inl dd,rfl,?_⟩,q _ _ g (.inl ⟨ns.now - many,by omega,c.2,rfl,if_pos c⟩)⟩
  rw [show ((ns.now:Int) - many) = ((ns.now - many:Nat):Int) by omega,Ve (by omega) c.2]
 ·exact ⟨none,.inl ⟨_,.inl ((ns.now:Int) - many),.inl dd,rfl,(qF (by omega)).symm⟩,q _ _ g (.inr ⟨t,rfl,SqT.of ze,if_neg c⟩)⟩
theorem yM:FnScope ["self","told","box","deed","numbers","met"] ["self"] (zf (zj (top 45) 9)):=⟨rfl,rfl,rfl,by decide +kernel,rfl,by decide +kernel,by decide +kernel⟩
theorem j4 (F:Fun K "tell" "Net.tell" (zj (top 45) 9) f fd) (B:Blt mg) {C:Addr} (T:NTxt K mg C) (mc_done_ago:zx P w K mg base C n "done_ago" ["self","many"] (sV C K))   (g_sorted:mg "sorted" = none)   :
  FnOk P w K mg base CX0 (n + 1) f fd ["self"] (sZ C K):=by
 refine F.ok yM yJ (fun cdv A outer s H vs Q E hr h=>?_)
 obtain ⟨x,rfl,A5,ns,ms,rfl,hn,nr,nt,hm,q⟩:=h
 refine ⟨_,(zc (zG (i:=1) yM.nd rfl (Or.inl rfl) (xr zb)) (zc (yG PassesOwn.never rfl (XZ (K:=K) rfl (z6 mc_done_ago T.cl hr (pv 0) (za (zy (pv 0) rfl) zb))) (xJ rfl (zo (zk (i:=2) yM.nd rfl (Or.inl rfl)) (zo (zk (i:=3) yM.nd rfl (Or.inl rfl)) (zo (zk (i:=4) yM.nd rfl (Or.inl rfl)) (zo (zk (i:=5) yM.nd rfl (Or.inl rfl)) yn))))) (zi (zK (vF PySem.F.plainAttrs_list PySem.F.slot_list_extend PySem.F.type_list_extend vY (pv 1) (za (yZ (CSc.of (N':=["number","self"]) (sub:=[none,some 0]) (zf (zj (top 45) 9)) ["self","told","box","deed","numbers","met"] rfl rfl (by decide +kernel) rfl) rfl (rK (pv 4)) (fun _ _ _ _ _ _=>zk (i:=0) (show (["number","self"]:List Str).Nodup by decide +kernel) rfl (Or.inl rfl)) (fun _ _ _ _ _ _=>yv) (fun _ _ _ _ _ _=>(zN (za (pv 0) (za (xU (Room.u1F hr) (Uw (K:=K) rfl (pv 1) rfl) (pv 0) (fun _ _=>rfl)) zb))))) zb))))) (zc (zK (vF PySem.F.plainAttrs_dict PySem.F.slot_dict_update PySem.F.type_dict_update (Yv (K:=K) rfl) (zy (pv 0) rfl) (za (yp (Yn hr) rfl B.dict To (za (pv 1) zb)) zb))) (zi (zu (yp yz rfl B.tuple xj (za (zq (Yr (K:=K) rfl) rfl g_sorted ss (za (pv 1) zb)) zb))))))),?_⟩
 refine ⟨szl rfl,fun lt hlt=>?_⟩
 have g0:=Grow.new (m:=[]) hlt (.lst [])
 have hlt0:=ze (H:=H) (a:=lt) (o:=.lst [])
 have hn0:=hn.grow0 g0
 have nq0:∀ a,okA ns a -> A5 a ≠ lt:=fun a ha z=>by
  obtain ⟨o,h1,_⟩:=hn.at_ a ha
  rw [z,hlt] at h1; cases h1
 have nql:∀ a,okA ns a -> A5 a ∉ [lt]:=fun a ha z=>nq0 a ha (List.mem_singleton.mp z)
 generalize upd H lt (.lst []) = H0 at g0 hlt0 hn0 ⊢
 have l40:lsum nlen (agoS ns ns.k) <= 40:=by have:=nt.l40; unfold xk at this; rw [ZH] at this; exact this
 refine yX (tV (fun σ H'=>∃ e2 e3 e4 e5 tv,σ = [some (.ref (A5 .p)),some (.ref lt),e2,e3,e4,e5] /\ Grow [lt] H0 H' /\ H' lt = some (.lst tv) /\ AllR (TpAt H') tv (xk ns) /\ NetAt K C H' A5 ns) ?_ ?_)
 ·intro D hD
  refine ⟨_,rfl,_,_,_,rfl,hn0.ob.choose_spec,uu,_,rfl,_,C,_,_,_,rfl,hn0.ob.choose_spec,T.cl,T.n_depth,zT,_,_,rfl,A5,ns,ns.k,rfl,rfl,hn0,fun z H1 g1 hz=>?_⟩
  have hn1:=hn0.grow0 g1
  have hlt1:=g1.keep _ _ (by simp) hlt0
  rcases hz with ⟨t,t1,t2,rfl,ews⟩ | ⟨a,rfl,sa,ews⟩
  rotate_left
  ·have et:xk ns = []:=by unfold xk; rw [ews]; rfl
   exact ⟨a,rfl,.inr ⟨⟨_,sa⟩,sf (xs:=[]) (fun j σ H'=>∃ e2 e3 e4 e5,σ = [some (.ref (A5 .p)),some (.ref lt),e2,e3,e4,e5] /\ H' = H1) ⟨_,_,_,_,rfl,rfl⟩ (fun j σ H' _ ⟨_,_,_,_,_,e⟩=>e ▸ sa) (fun j x σ H' hx=>by simp at hx) (fun σ H' ⟨e2,e3,e4,e5,e,eH⟩=>hD _ _ ⟨e2,e3,e4,e5,[],e,eH ▸ g1.wk,eH ▸ hlt1,by rw [et]; trivial,eH ▸ hn1⟩)⟩⟩
  obtain ⟨ys,hys,hw⟩:=hn1.dn (t:=t) t1 t2
  have kmem:A5 (.dn t) ∉ [lt]:=nql (.dn t) ⟨t1,t2⟩
  refine ⟨_,rfl,.inl ⟨⟨_,SqL.of hys⟩,vH (xs:=ys) (fun j σ H'=>∃ e2 e3 e4 e5 tv,σ = [some (.ref (A5 .p)),some (.ref lt),e2,e3,e4,e5] /\ Grow [lt] H1 H' /\ H' lt = some (.lst tv) /\ AllR (TpAt H') tv (((ns.done t).take j).flatMap (uQ ns)) /\ NetAt K C H' A5 ns) ⟨_,_,_,_,[],rfl,Grow.refl _ _,hlt1,trivial,hn1⟩ (fun j σ H' _ ⟨_,_,_,_,_,_,g,_⟩=>SqL.of (g.keep _ _ kmem hys)) ?_ ?_⟩⟩
  rotate_left
  ·rintro σ H' ⟨e2,e3,e4,e5,tv,rfl,g,htv,hta,hn'⟩
   rw [hw.len,List.take_length] at hta
   exact hD _ _ ⟨_,_,_,_,tv,rfl,(g1.wk (m:=[lt])).trans g,htv,by unfold xk; rw [ews]; exact hta,hn'⟩
  rintro j x σ H2 hx ⟨e2,e3,e4,e5,tv,rfl,g2,htv,hta,hn2⟩
  obtain ⟨w5,hw5,r,rd,rn,rm,mv,rfl,w1,w2,w3,w4,w6⟩:=hw.get hx
  have wm:=List.mem_of_getElem? hw5
  have fk:∀ n ∈ w5.nums,(getN ns.fnd n).isSome = true:=nt.fk w5 (by rw [ews]; exact wm)
  have esnoc:((ns.done t).take (j + 1)).flatMap (uQ ns) = ((ns.done t).take j).flatMap (uQ ns) ++ uQ ns w5:=by
   obtain ⟨hj,e⟩:=List.getElem?_eq_some_iff.mp hw5
   rw [List.take_succ_eq_append_getElem hj,e,List.flatMap_append]
   simp
  have tvl:tv.length + w5.nums.length <= 40:=by
   have h1:=hta.len
   rw [ZH] at h1
   rw [ews] at l40
   have e:ns.done t = (ns.done t).take j ++ w5 :: (ns.done t).drop (j + 1):=by
    obtain ⟨hj,e⟩:=List.getElem?_eq_some_iff.mp hw5
    rw [← e,← List.drop_eq_getElem_cons hj,List.take_append_drop]
   have:=congrArg (lsum nlen) e
   rw [we,zS] at this
   have e2:nlen w5 = w5.nums.length:=rfl
   omega
  rw [esnoc]
  have nl:(yt w5.nums).length = w5.nums.length:=List.length_map ..
  refine ⟨r,_,rfl,g2.sqT w1,rfl,_,_,rfl,_,_,rfl,_,_,rfl,_,_,rfl,rfl,?_⟩
  refine ⟨_,rfl,.inl ⟨rfl,_,SqL.of htv⟩,_,rfl,rn,rfl,⟨_,g2.sqT w3⟩,Xg (xs:=yt w5.nums) (fun i vs σ' H'=>(∃ e0,σ' = [e0,some (.ref (A5 .p))]) /\ Grow [] H2 H' /\ AllR (TpAt H') vs ((w5.nums.take i).map fun n=>(n,(getN ns.fnd n).getD 0))) ⟨⟨_,rfl⟩,Grow.refl _ _,trivial⟩ (fun i vs σ' H' _ ⟨_,g,_⟩=>(g2.trans (g.wk (m:=[lt]))).sqT w3) ?_ ?_⟩
  ·rintro i x vs σ' H3 hx ⟨⟨e0,rfl⟩,g3,hvs⟩
   rw [show (yt w5.nums)[i]? = (w5.nums[i]?).map fun n:Nat=>V.int n from List.getElem?_map ..] at hx
   obtain ⟨n5,hi,rfl⟩:=Option.map_eq_some_iff.mp hx
   have il:=(List.getElem?_eq_some_iff.mp hi).1
   obtain ⟨v5,hv5⟩:=Option.isSome_iff_exists.mp (fk n5 (List.mem_of_getElem? hi))
   have hn3:=hn2.grow0 g3
   have ev:valV (nKv ns.fnd) (.inl (n5:Int)) = some (.int v5):=by rw [ur,hv5]; rfl
   refine ⟨_,rfl,_,rfl,_,C,_,_,_,rfl,hn3.ob.choose_spec,T.cl,T.n_found,ZG,_,rfl,_,_,rfl,.inl ⟨_,.inl (n5:Int),.inl hn3.df,rfl,ev.symm⟩,szl rfl,fun t3 ht3=>?_⟩
   have g4:=Grow.new (m:=[]) ht3 (.tup [.int n5,.int v5])
   refine ⟨?_,⟨_,rfl⟩,g3.trans g4,?_⟩
   ·rw [hvs.len,List.length_map,List.length_take]; exact zr (by omega)
   ·obtain ⟨hj,e⟩:=List.getElem?_eq_some_iff.mp hi
    rw [List.take_succ_eq_append_getElem hj,e,List.map_append]
    exact (hvs.imp fun _ _ z=>z.grow g4).app (.one ⟨t3,rfl,by rw [ze]; show _ = some (HO.tup [.int n5,.int ((getN ns.fnd n5).getD 0)]); rw [hv5]; rfl⟩)
  rintro vs σ' H3 ⟨_,g3,hvs⟩ l3 hl3
  rw [nl,List.take_length] at hvs
  have g4:=Grow.new (m:=[]) hl3 (.lst vs)
  have htv4:=(g3.trans g4).keep _ _ (by simp) htv
  have vl:=hvs.len
  rw [List.length_map] at vl
  refine ⟨lt,l3,tv,vs,rfl,rfl,htv4,ze,Nat.le_of_lt (zr (by omega)),?_⟩
  have g34:=g3.trans g4
  have g5:=Grow.set (m:=[lt]) htv4 (by simp) (tv ++ vs)
  refine ⟨_,_,_,_,tv ++ vs,rfl,g2.trans ((g34.wk (m:=[lt])).trans g5),ze,?_,?_⟩
  ·exact (hta.imp fun _ _ z=>(z.grow g34).grow g5).app (hvs.imp fun _ _ z=>(z.grow g4).grow g5)
  ·exact (hn2.grow0 g34).grow g5 nql
 rintro σ H1 ⟨e2,e3,e4,e5,tv,rfl,g1,htv,hta,hn1⟩
 refine ⟨_,rfl,_,C,_,_,_,rfl,hn1.ob.choose_spec,T.cl,T.n_answers,vh,.inr (.inr (.inl ⟨rfl,.inl ⟨_,hn1.da⟩⟩)),_,rfl,lt,tv,_,rfl,htv,Vj hta,fun ld hld=>?_⟩
 rw [Vk]
 have g2:=Grow.new (m:=[]) hld (.dK (nKv (qE (xk ns))))
 have hn2:=hn1.grow0 g2
 have htv2:=g2.keep _ _ (by simp) htv
 have hta2:=hta.imp fun _ _ z=>z.grow g2
 have hld2:=ze (H:=H1) (a:=ld) (o:=.dK (nKv (qE (xk ns))))
 have nld:A5 .da ≠ ld:=fun z=>by
  have:=hn1.da
  rw [z,hld] at this; cases this
 generalize upd H1 ld _ = H2 at g2 hn2 htv2 hta2 hld2 ⊢
 refine ⟨A5 .da,ld,_,_,rfl,rfl,hn2.da,hld2,nld,?_,?_⟩
 ·have h1:=nt.al
  have h2:=nt.l40
  have h3:=X5 (tl:=xk ns)
  unfold nKv
  rw [List.length_map,List.length_map]
  exact Nat.le_of_lt (big5 (by omega))
 rw [vk]
 obtain ⟨hn3,g3⟩:=hn2.setS ((qE (xk ns)).foldl (fun f p=>putN f p.1 p.2) ns.ans)
 have htv3:=g3.keep _ _ (show lt ∉ [A5 .da] from fun z=>nq0 .da trivial (List.mem_singleton.mp z).symm) htv2
 have hta3:=hta2.imp fun _ _ z=>z.grow g3
 generalize upd H2 (A5 .da) _ = H3 at hn3 g3 htv3 hta3 ⊢
 refine ⟨_,rfl,lt,tv,(xk ns).map itF,1,rfl,SqL.of htv3,VS hta3,UN nt.nd,Nat.le_refl 1,?_,?_,fun p4 zs4 its hp4 pm pw hp=>?_⟩
 ·intro p hp
  obtain ⟨q,_,rfl⟩:=List.mem_map.mp hp
  rfl
 ·rw [List.length_map]; have:=nt.l40; omega
 have g4:=Grow.new (m:=[]) hp4 (.lst zs4)
 obtain ⟨pm',hF⟩:=UM pm
 refine ⟨p4,zs4,rfl,.inl ⟨SqL.of ze,fun r5 hr5=>?_⟩⟩
 have g5:=Grow.new (m:=[]) hr5 (.tup zs4)
 have g45:=g4.trans g5
 refine q _ (its.map itB) _ ?_ (hn3.grow0 g45) ⟨r5,zs4,rfl,SqT.of ze,(X4 hF hp).imp fun _ _ z=>g45.board z⟩ pm' (SW hF pw)
 have G:Grow (lt :: ms) H _:=(g0.wk (m:=lt :: ms)).trans ((g1.mono (m':=lt :: ms) (by simp)).trans ((g2.wk (m:=lt :: ms)).trans ((g3.mono (m':=lt :: ms) fun b hb=>by rw [List.mem_singleton.mp hb]; exact List.mem_cons_of_mem _ (hm .da trivial)).trans (g45.wk (m:=lt :: ms)))))
 exact G.less fun b hb=>by
  rcases List.mem_cons.mp hb with rfl | hb
  ·exact .inr hlt
  ·exact .inl hb
theorem t6:FnScope ["k","stage","number","mark","behind"] ["k","stage","number","mark"] (zf (top 34)):=⟨rfl,rfl,rfl,by decide +kernel,rfl,by decide +kernel,by decide +kernel⟩
theorem YI (F:Fun K "in_line" "in_line" (top 34) f fd) (B:Blt mg)      :
  FnOk P w K mg base CX0 (n + 1) f fd ["k","stage","number","mark"] (X1 K):=by
 refine F.ok t6 sx (fun cdv A outer s H vs Q E hr h=>?_)
 obtain ⟨x,y,z,u,rfl,k,s5,n5,m5,rfl,rfl,rfl,rfl,k4,s1,sk,hn5,hm5,q⟩:=h
 refine ⟨_,(zc (zG (i:=4) t6.nd rfl (Or.inl rfl) (zp zY (pv 0) (pv 1))) (zi (zu (zp V3 (zp V3 (zp yQ (zp YU (pv 2) (pv 4)) (zp ya (pv 4) zd)) (zp yQ (pv 3) (pv 4))) (zp rM (pv 2) (zp zY (zp yQ zd (pv 4)) zd)))))),?_⟩
 obtain ⟨n8,c1,c2,c3,c4,e⟩:=Yw k4 s1 sk hn5 hm5
 have b0:(0:Int) <= (k:Int) - s5:=by omega
 refine ⟨_,rfl,_,rfl,_,_,rfl,rfl,_,rfl,_,rfl,_,_,rfl,rfl,b0,_,rfl,_,_,rfl,rfl,_,_,rfl,rfl,c1,_,rfl,_,rfl,_,_,rfl,rfl,c2,_,_,rfl,rfl,_,rfl,_,rfl,_,_,rfl,rfl,c3,_,_,rfl,rfl,_,_,rfl,rfl,_,_,rfl,rfl,?_⟩
 show Q (.int (Builtin.bitOr (Builtin.bitOr ((n5:Int) / 2 ^ ((k:Int) - s5).toNat * 2 ^ ((k:Int) - s5 + 1).toNat) ((m5:Int) * 2 ^ ((k:Int) - s5).toNat)) (Builtin.bitAnd (n5:Int) (1 * 2 ^ ((k:Int) - s5).toNat - 1)))) H
 rw [e]
 exact q
theorem U0:FnScope ["add","low","high"] ["add","low","high"] (zf (top 16)):=⟨rfl,rfl,rfl,by decide +kernel,rfl,by decide +kernel,by decide +kernel⟩
theorem Xf (F:Fun K "tidy" "tidy" (top 16) f fd) (B:Blt mg)      :
  FnOk P w K mg base CX0 (n + 1) f fd ["add","low","high"] (Xh K):=by
 refine F.ok U0 yK (fun cdv A outer s H vs Q E hr h=>?_)
 obtain ⟨x,y,z,rfl,a,lo,hi,rfl,rfl,rfl,q⟩:=h
 refine ⟨_,(zc (z9 (PW.pt (wG (vt (jl (pv 1))) (xO (zI wJ (pv 1) (pv 2) (zP _))))) (zi (zu (zN (za zd (za (pv 1) (za (pv 2) zb)))))) zw) (zi (zu (zN (za (pv 0) (za (pv 1) (za (pv 2) zb))))))),?_⟩
 cases lo with
 | none =>
  refine ⟨_,rfl,_,rfl,iteF (iteF ⟨_,rfl,_,rfl,_,rfl,szl rfl,fun t ht=>?_⟩)⟩
  have:=q t ht
  rw [Tt] at this; exact this
 | some l =>
  cases hi with
  | none =>
   refine ⟨_,rfl,_,rfl,iteT ⟨_,rfl,_,rfl,rfl,_,rfl,iteF ⟨_,rfl,_,rfl,_,rfl,szl rfl,fun t ht=>?_⟩⟩⟩
   have:=q t ht
   rw [VE (by simp)] at this; exact this
  | some u =>
   refine ⟨_,rfl,_,rfl,iteT ⟨_,rfl,_,rfl,rfl,_,rfl,?_⟩⟩
   refine ite2 (fun c=>?_) (fun c=>?_)
   ·have c':l = u:=V.int.inj (of_decide_eq_true c)
    subst c'
    refine ⟨_,rfl,_,rfl,szl rfl,fun t ht=>?_⟩
    have:=q t ht
    rw [Tu] at this; exact this
   ·have c':l ≠ u:=fun z=>c (by rw [z]; simp)
    refine ⟨_,rfl,_,rfl,_,rfl,szl rfl,fun t ht=>?_⟩
    have:=q t ht
    rw [VE (fun z=>c' (Option.some.inj z))] at this; exact this
theorem wC:FnScope ["deed","value","add","low","high","result"] ["deed","value"] (zf (top 15)):=⟨rfl,rfl,rfl,by decide +kernel,rfl,by decide +kernel,by decide +kernel⟩
theorem U3 (F:Fun K "made" "made" (top 15) f fd) (B:Blt mg)      :
  FnOk P w K mg base CX0 (n + 1) f fd ["deed","value"] (jr K):=by
 refine F.ok wC yg (fun cdv A outer s H vs Q E hr h=>?_)
 obtain ⟨x,y,rfl,d,v,⟨a,rfl,hs⟩,rfl,q⟩:=h
 refine ⟨_,(zc (xK (pv 0) (xJ rfl (zo (zk (i:=2) wC.nd rfl (Or.inl rfl)) (zo (zk (i:=3) wC.nd rfl (Or.inl rfl)) (zo (zk (i:=4) wC.nd rfl (Or.inl rfl)) yn))))) (zc (zG (i:=5) wC.nd rfl (Or.inl rfl) (zp ya (pv 1) (pv 2))) (zc (z9 (PW.pt (wG (vt (jl (pv 3))) (xO (zI Wz (pv 3) (pv 5) (zP _))))) (zi (zG (i:=5) wC.nd rfl (Or.inl rfl) (pv 3))) zw) (zc (z9 (PW.pt (wG (vt (jl (pv 4))) (xO (zI jm (pv 4) (pv 5) (zP _))))) (zi (zG (i:=5) wC.nd rfl (Or.inl rfl) (pv 4))) zw) (zi (zu (pv 5))))))),?_⟩
 obtain ⟨ad,lo,hi⟩:=d
 refine ⟨_,rfl,a,_,rfl,hs,rfl,_,_,rfl,_,_,rfl,_,_,rfl,rfl,?_⟩
 refine ⟨_,rfl,_,rfl,_,_,rfl,rfl,?_⟩
 cases lo with
 | none =>
  refine ⟨_,rfl,_,rfl,iteF (iteF ?_)⟩
  cases hi with
  | none=>exact ⟨_,rfl,_,rfl,iteF (iteF ⟨_,rfl,q⟩)⟩
  | some u =>
   refine ⟨_,rfl,_,rfl,iteT ⟨_,rfl,_,rfl,_,_,rfl,rfl,_,rfl,?_⟩⟩
   have q':Q (.int (if u < v + ad then u else v + ad)) H:=q
   refine ite2 (fun c=>?_) (fun c=>?_)
   ·have c':u < v + ad:=of_decide_eq_true c
    rw [if_pos c'] at q'
    exact ⟨_,rfl,_,rfl,q'⟩
   ·have c':¬ u < v + ad:=fun z=>c (decide_eq_true z)
    rw [if_neg c'] at q'
    exact ⟨_,rfl,q'⟩
 | some l =>
  refine ⟨_,rfl,_,rfl,iteT ⟨_,rfl,_,rfl,_,_,rfl,rfl,_,rfl,?_⟩⟩
  have q0:Q (.int (Xa hi (if l > v + ad then l else v + ad))) H:=q
  clear q
  refine ite2 (fun c=>?_) (fun c=>?_)
  ·have c':l > v + ad:=of_decide_eq_true c
   rw [if_pos c'] at q0
   have q:=q0
   refine ⟨_,rfl,?_⟩
   cases hi with
   | none=>exact ⟨_,rfl,_,rfl,iteF (iteF ⟨_,rfl,q⟩)⟩
   | some u =>
    refine ⟨_,rfl,_,rfl,iteT ⟨_,rfl,_,rfl,_,_,rfl,rfl,_,rfl,?_⟩⟩
    have q':Q (.int (if u < l then u else l)) H:=q
    refine ite2 (fun c=>?_) (fun c=>?_)
    ·have c':u < l:=of_decide_eq_true c
     rw [if_pos c'] at q'
     exact ⟨_,rfl,_,rfl,q'⟩
    ·have c':¬ u < l:=fun z=>c (decide_eq_true z)
     rw [if_neg c'] at q'
     exact ⟨_,rfl,q'⟩
  ·have c':¬ l > v + ad:=fun z=>c (decide_eq_true z)
   rw [if_neg c'] at q0
   have q:=q0
   cases hi with
   | none=>exact ⟨_,rfl,_,rfl,iteF (iteF ⟨_,rfl,q⟩)⟩
   | some u =>
    refine ⟨_,rfl,_,rfl,iteT ⟨_,rfl,_,rfl,_,_,rfl,rfl,_,rfl,?_⟩⟩
    have q':Q (.int (if u < v + ad then u else v + ad)) H:=q
    refine ite2 (fun c=>?_) (fun c=>?_)
    ·have c':u < v + ad:=of_decide_eq_true c
     rw [if_pos c'] at q'
     exact ⟨_,rfl,_,rfl,q'⟩
    ·have c':¬ u < v + ad:=fun z=>c (decide_eq_true z)
     rw [if_neg c'] at q'
     exact ⟨_,rfl,q'⟩
theorem uJ:FnScope ["one","other","low","high"] ["one","other"] (zf (top 17)):=⟨rfl,rfl,rfl,by decide +kernel,rfl,by decide +kernel,by decide +kernel⟩
theorem Wl (F:Fun K "joined" "joined" (top 17) f fd) (B:Blt mg) (qc0:zn P w K mg base n "tidy" ["add","low","high"] (Xh K)) (qc1:zn P w K mg base n "made" ["deed","value"] (jr K))     :
  FnOk P w K mg base CX0 (n + 1) f fd ["one","other"] (qc K):=by
 refine F.ok uJ yg (fun cdv A outer s H vs Q E hr h=>?_)
 obtain ⟨x,y,rfl,d,e,⟨a,rfl,hsa⟩,⟨b,rfl,hsb⟩,q⟩:=h
 refine ⟨_,(zc (zG (i:=2) uJ.nd rfl (Or.inl rfl) (se (vt (u4 (yq y9 (pv 0) zd (fun _ _=>rfl)))) (yq y9 (pv 1) zd (fun _ _=>rfl)) (zh qc1 hr rfl (za (pv 1) (za (yq y9 (pv 0) zd (fun _ _=>rfl)) zb))))) (zc (zG (i:=3) uJ.nd rfl (Or.inl rfl) (se (vt (u4 (yq y9 (pv 0) zd (fun _ _=>rfl)))) (yq y9 (pv 1) zd (fun _ _=>rfl)) (zh qc1 hr rfl (za (pv 1) (za (yq y9 (pv 0) zd (fun _ _=>rfl)) zb))))) (zi (zu (zh qc0 hr rfl (za (zp ya (yq y9 (pv 0) zd (fun _ _=>rfl)) (yq y9 (pv 1) zd (fun _ _=>rfl))) (za (pv 2) (za (pv 3) zb)))))))),?_⟩
 obtain ⟨da,lo,hi⟩:=d
 obtain ⟨ea,elo,ehi⟩:=e
 refine ⟨_,rfl,a,_,_,_,rfl,rfl,hsa,rfl,_,rfl,?_⟩
 cases lo with
 | none =>
  refine iteT ⟨_,rfl,b,_,_,_,rfl,rfl,hsb,rfl,?_⟩
  refine ⟨_,rfl,a,_,_,_,rfl,rfl,hsa,rfl,_,rfl,?_⟩
  cases hi with
  | none =>
   refine iteT ⟨_,rfl,b,_,_,_,rfl,rfl,hsb,rfl,?_⟩
   exact ⟨_,rfl,a,_,_,_,rfl,rfl,hsa,rfl,_,rfl,b,_,_,_,rfl,rfl,hsb,rfl,_,_,rfl,rfl,_,rfl,_,rfl,_,_,_,rfl,_,elo,ehi,rfl,rfl,rfl,q⟩
  | some u =>
   refine iteF ⟨_,rfl,_,rfl,a,_,_,_,rfl,rfl,hsa,rfl,_,_,rfl,⟨ea,elo,ehi⟩,u,⟨b,rfl,hsb⟩,rfl,?_⟩
   exact ⟨_,rfl,a,_,_,_,rfl,rfl,hsa,rfl,_,rfl,b,_,_,_,rfl,rfl,hsb,rfl,_,_,rfl,rfl,_,rfl,_,rfl,_,_,_,rfl,_,elo,some ((Deed.mk ea elo ehi).mk' u),rfl,rfl,rfl,q⟩
 | some l =>
  refine iteF ⟨_,rfl,_,rfl,a,_,_,_,rfl,rfl,hsa,rfl,_,_,rfl,⟨ea,elo,ehi⟩,l,⟨b,rfl,hsb⟩,rfl,?_⟩
  refine ⟨_,rfl,a,_,_,_,rfl,rfl,hsa,rfl,_,rfl,?_⟩
  cases hi with
  | none =>
   refine iteT ⟨_,rfl,b,_,_,_,rfl,rfl,hsb,rfl,?_⟩
   exact ⟨_,rfl,a,_,_,_,rfl,rfl,hsa,rfl,_,rfl,b,_,_,_,rfl,rfl,hsb,rfl,_,_,rfl,rfl,_,rfl,_,rfl,_,_,_,rfl,_,(some ((Deed.mk ea elo ehi).mk' l)),ehi,rfl,rfl,rfl,q⟩
  | some u =>
   refine iteF ⟨_,rfl,_,rfl,a,_,_,_,rfl,rfl,hsa,rfl,_,_,rfl,⟨ea,elo,ehi⟩,u,⟨b,rfl,hsb⟩,rfl,?_⟩
   exact ⟨_,rfl,a,_,_,_,rfl,rfl,hsa,rfl,_,rfl,b,_,_,_,rfl,rfl,hsb,rfl,_,_,rfl,rfl,_,rfl,_,rfl,_,_,_,rfl,_,(some ((Deed.mk ea elo ehi).mk' l)),some ((Deed.mk ea elo ehi).mk' u),rfl,rfl,rfl,q⟩
theorem yU:FnScope ["switch","waiter","comer","box","deed","numbers","met"] ["switch","waiter","comer"] (zf (top 44)):=⟨rfl,rfl,rfl,by decide +kernel,rfl,by decide +kernel,by decide +kernel⟩
theorem je (F:Fun K "joined_at" "joined_at" (top 44) f fd) (B:Blt mg) (qc0:zn P w K mg base n "joined" ["one","other"] (qc K))     :
  FnOk P w K mg base CX0 (n + 1) f fd ["switch","waiter","comer"] (X2 K):=by
 refine F.ok yU yK (fun cdv A outer s H vs Q E hr h=>?_)
 obtain ⟨x,y,z,rfl,sw,w5,c5,hx,hy,hz,l1,l2,q⟩:=h
 refine ⟨_,(zc (xK (pv 1) (xJ rfl (zo (zk (i:=3) yU.nd rfl (Or.inl rfl)) (zo (zk (i:=4) yU.nd rfl (Or.inl rfl)) (zo (zk (i:=5) yU.nd rfl (Or.inl rfl)) (zo (zk (i:=6) yU.nd rfl (Or.inl rfl)) yn)))))) (zi (zu (zN (za (pv 3) (za (zh qc0 hr rfl (za (pv 4) (za (yq y9 (pv 2) zd (fun _ _=>rfl)) zb))) (za (zp (jw (K:=K) rfl) (pv 5) (yq y9 (pv 2) zd (fun _ _=>rfl))) (za (zp (jw (K:=K) rfl) (zp (jw (K:=K) rfl) (pv 6) (yq y9 (pv 2) zd (fun _ _=>rfl))) (zN (za (pv 0) zb))) zb)))))))),?_⟩
 obtain ⟨r,rd,rn,rm,ms,rfl,h1,h2,h3,h4,h5⟩:=hy
 obtain ⟨r',rd',rn',rm',ms',rfl,h1',h2',h3',h4',h5'⟩:=hz
 obtain ⟨rs,rfl,hs⟩:=hx
 refine ⟨_,rfl,r,_,rfl,h1,rfl,_,_,rfl,_,_,rfl,_,_,rfl,_,_,rfl,rfl,?_⟩
 refine ⟨_,rfl,_,rfl,_,rfl,r',_,1,_,rfl,rfl,h1',zO (j:=1) rfl,_,_,rfl,w5.deed,c5.deed,⟨rd,rfl,h2⟩,⟨rd',rfl,h2'⟩,fun t ht=>?_⟩
 have g1:=Grow.new (m:=[]) ht (.tup (Z2 w5.deed c5.deed).vs)
 have s1:SqT K (upd H t (.tup (Z2 w5.deed c5.deed).vs)) t (Z2 w5.deed c5.deed).vs:=SqT.of ze
 generalize upd H t _ = H1 at g1 s1 ⊢
 have ml:=h5.len
 have ml':=h5'.len
 have nl:(yt w5.nums).length = w5.nums.length:=List.length_map ..
 have nl':(yt c5.nums).length = c5.nums.length:=List.length_map ..
 refine ⟨_,rfl,_,rfl,r',_,2,_,rfl,rfl,g1.sqT h1',zO (j:=2) rfl,rn,rn',_,_,rfl,rfl,g1.sqT h3,g1.sqT h3',Nat.le_of_lt (zr (by omega)),fun p2 H2 g2 s2=>?_⟩
 refine ⟨_,rfl,_,rfl,r',_,3,_,rfl,rfl,(g1.trans g2).sqT h1',zO (j:=3) rfl,rm,rm',_,_,rfl,rfl,(g1.trans g2).sqT h4,(g1.trans g2).sqT h4',Nat.le_of_lt (zr (by omega)),fun p3 H3 g3 s3=>?_⟩
 refine ⟨_,rfl,szl rfl,fun p4 hp4=>?_⟩
 have g4:=Grow.new (m:=[]) hp4 (.tup [.ref rs])
 refine ⟨p3,p4,_,_,rfl,rfl,g4.sqT s3,SqT.of ze,Nat.le_of_lt (zr (by rw [List.length_append]; show _ + 1 <= 1000; omega)),fun p5 H5 g5 s5=>⟨szl rfl,fun p6 hp6=>?_⟩⟩
 have g6:=Grow.new (m:=[]) hp6 (.tup [.int w5.box,.ref t,.ref p2,.ref p5])
 have G26:=g3.trans (g4.trans (g5.trans g6))
 have G:=g1.trans (g2.trans G26)
 refine q _ _ G ⟨p6,t,p2,p5,_,rfl,SqT.of ze,(g2.trans G26).sqT s1,G26.sqT (by unfold yt; rw [show (wp sw w5 c5).nums = w5.nums ++ c5.nums from rfl,List.map_append]; exact s2),g6.sqT s5,?_⟩
 exact (((h5.imp fun _ _ z=>z.grow G).app (h5'.imp fun _ _ z=>z.grow G)).app (.one ⟨rs,rfl,G.tup _ _ hs⟩))
theorem vE:FnScope ["k","stage","line","behind"] ["k","stage","line"] (zf (top 33)):=⟨rfl,rfl,rfl,by decide +kernel,rfl,by decide +kernel,by decide +kernel⟩
theorem jf (F:Fun K "switch_at" "switch_at" (top 33) f fd) (B:Blt mg)      :
  FnOk P w K mg base CX0 (n + 1) f fd ["k","stage","line"] (vz K):=by
 refine F.ok vE yK (fun cdv A outer s H vs Q E hr h=>?_)
 obtain ⟨x,y,z,rfl,k,st,l,rfl,rfl,rfl,k4,hs,l0,l1,q⟩:=h
 refine ⟨_,(zc (zG (i:=3) vE.nd rfl (Or.inl rfl) (zp zY (pv 0) (pv 1))) (zi (zu (zp V3 (zp yQ (zp YU (pv 2) (zp ya (pv 3) zd)) (pv 3)) (zp rM (pv 2) (zp zY (zp yQ zd (pv 3)) zd)))))),?_⟩
 have e1:(0:Int) <= l / 2 ^ ((k:Int) - st + 1).toNat:=Int.ediv_nonneg l0 (Int.le_of_lt (Int.pow_pos (by decide)))
 have e2:l / 2 ^ ((k:Int) - st + 1).toNat <= l:=Int.ediv_le_self _ l0
 refine ⟨_,rfl,_,rfl,_,_,rfl,rfl,_,rfl,_,rfl,_,_,rfl,rfl,_,_,rfl,rfl,(by show (0:Int) <= (k:Int) - st + 1; omega),_,rfl,_,_,rfl,rfl,⟨by show (0:Int) <= (k:Int) - st; omega,by show (k:Int) - st <= 1000000; omega,by show (l / 2 ^ ((k:Int) - st + 1).toNat).natAbs < 2 ^ 64; omega⟩,?_⟩
 exact ⟨_,rfl,_,rfl,_,_,rfl,rfl,⟨by show (0:Int) <= (k:Int) - st; omega,by show (k:Int) - st <= 1000000; omega,by decide⟩,_,_,rfl,rfl,_,_,rfl,rfl,_,_,rfl,rfl,q⟩
theorem Wm:FnScope ["k","stage","line"] ["k","stage","line"] (zf (top 30)):=⟨rfl,rfl,rfl,by decide +kernel,rfl,by decide +kernel,by decide +kernel⟩
theorem Wn (F:Fun K "figure" "figure" (top 30) f fd) (B:Blt mg)      :
  FnOk P w K mg base CX0 (n + 1) f fd ["k","stage","line"] (uf K):=by
 refine F.ok Wm yK (fun cdv A outer s H vs Q E hr h=>?_)
 obtain ⟨x,y,z,rfl,k,st,l,rfl,rfl,rfl,hs,q⟩:=h
 refine ⟨_,(zi (zu (zp rM (zp YU (pv 2) (zp zY (pv 0) (pv 1))) zd))),?_⟩
 exact ⟨_,rfl,_,rfl,_,rfl,_,_,rfl,rfl,_,_,rfl,rfl,(by show (0:Int) <= (k:Int) - st; omega),_,_,rfl,rfl,q⟩
theorem uV:FnScope ["k","stage","line","wanted"] ["k","stage","line","wanted"] (zf (top 31)):=⟨rfl,rfl,rfl,by decide +kernel,rfl,by decide +kernel,by decide +kernel⟩
theorem uW (F:Fun K "with_figure" "with_figure" (top 31) f fd) (B:Blt mg) (qc0:zn P w K mg base n "figure" ["k","stage","line"] (uf K))     :
  FnOk P w K mg base CX0 (n + 1) f fd ["k","stage","line","wanted"] (wu K):=by
 refine F.ok uV sx (fun cdv A outer s H vs Q E hr h=>?_)
 obtain ⟨x,y,z,u,rfl,k,st,l,w,rfl,rfl,rfl,rfl,k4,hs,l0,l1,hw,q⟩:=h
 refine ⟨_,(zi (zu (zp Vv (pv 2) (zp yQ (zp Vv (zh qc0 hr rfl (za (pv 0) (za (pv 1) (za (pv 2) zb)))) (pv 3)) (zp zY (pv 0) (pv 1)))))),?_⟩
 have F:=figF k4 hs l0 l1
 refine ⟨_,rfl,_,rfl,_,rfl,_,rfl,_,_,_,rfl,k,st,l,rfl,rfl,rfl,hs,_,rfl,_,_,rfl,rfl,_,rfl,_,rfl,_,_,rfl,rfl,_,_,rfl,rfl,⟨by show (0:Int) <= (k:Int) - st; omega,by show (k:Int) - st <= 1000000; omega,F.2 w hw⟩,_,_,rfl,rfl,q⟩
theorem Wo:FnScope ["k","stage","line","side"] ["k","stage","line","side"] (zf (top 32)):=⟨rfl,rfl,rfl,by decide +kernel,rfl,by decide +kernel,by decide +kernel⟩
theorem Wp (F:Fun K "onward" "onward" (top 32) f fd) (B:Blt mg) (qc0:zn P w K mg base n "with_figure" ["k","stage","line","wanted"] (wu K)) (qc1:zn P w K mg base n "figure" ["k","stage","line"] (uf K))     :
  FnOk P w K mg base CX0 (n + 1) f fd ["k","stage","line","side"] (qg K):=by
 refine F.ok Wo sx (fun cdv A outer s H vs Q E hr h=>?_)
 obtain ⟨x,y,z,u,rfl,k,st,l,s,rfl,rfl,rfl,rfl,k4,hs,l0,l1,s0,s1,q⟩:=h
 refine ⟨_,(zi (zu (zh qc0 hr rfl (za (pv 0) (za (pv 1) (za (pv 2) (za (zh qc1 hr rfl (za (pv 0) (za (pv 1) (za (pv 3) zb)))) zb))))))),?_⟩
 have F:=figF k4 hs s0 s1
 exact ⟨_,rfl,_,rfl,_,rfl,_,rfl,_,rfl,_,rfl,_,_,_,rfl,k,st,s,rfl,rfl,rfl,hs,_,_,_,_,rfl,k,st,l,_,rfl,rfl,rfl,rfl,k4,hs,l0,l1,F.1,q⟩
theorem j5:FnScope ["k","box"] ["k","box"] (zf (top 36)):=⟨rfl,rfl,rfl,by decide +kernel,rfl,by decide +kernel,by decide +kernel⟩
theorem j6 (F:Fun K "side_for" "side_for" (top 36) f fd) (B:Blt mg)      :
  FnOk P w K mg base CX0 (n + 1) f fd ["k","box"] (qu K):=by
 refine F.ok j5 yg (fun cdv A outer s H vs Q E hr h=>?_)
 obtain ⟨x,y,rfl,k,b,rfl,rfl,k4,b16,q⟩:=h
 refine ⟨_,(zi (zu (zp rM (pv 1) (zp zY (zp yQ zd (pv 0)) zd)))),?_⟩
 refine ⟨_,rfl,_,rfl,_,_,rfl,rfl,wt k4,_,_,rfl,rfl,_,_,rfl,rfl,?_⟩
 have e:=Vb k4 b16
 show Q (.int (Builtin.bitAnd (b:Int) (1 * 2 ^ ((k:Int)).toNat - 1))) H
 rw [e]
 exact q
theorem yb:FnScope ["self","stage","line","coming","box","out","switch","alike"] ["self","stage","line"] (zf (zj (top 45) 8)):=⟨rfl,rfl,rfl,by decide +kernel,rfl,by decide +kernel,by decide +kernel⟩
theorem uX (F:Fun K "hand_on" "Net.hand_on" (zj (top 45) 8) f fd) (B:Blt mg) {C:Addr} (T:NTxt K mg C) (qc0:zn P w K mg base n "joined_at" ["switch","waiter","comer"] (X2 K)) (qc1:zn P w K mg base n "switch_at" ["k","stage","line"] (vz K)) (qc2:zn P w K mg base n "onward" ["k","stage","line","side"] (qg K)) (qc3:zn P w K mg base n "side_for" ["k","box"] (qu K))  (g_enumerate:mg "enumerate" = none)   :
  FnOk P w K mg base CX0 (n + 1) f fd ["self","stage","line"] (sX C K):=by
 refine F.ok yb yK (fun cdv A outer s H vs Q E hr h=>?_)
 obtain ⟨x,y,z,rfl,A5,ns,s5,l,ms,rfl,rfl,rfl,s1,sk,hl,hn,nr,hm,q⟩:=h
 refine ⟨_,(zc (zG (i:=3) yb.nd rfl (Or.inl rfl) (xU (Room.u1F hr) (zy (pv 0) rfl) (zN (za (zp zY (pv 1) zd) (za (pv 2) zb))) (fun _ _=>rfl))) (zc (z9 (yw (sg (pv 3) (fun _=>rfl))) (zi V2) zw) (zc (zG (i:=4) yb.nd rfl (Or.inr rfl) (yq y9 (yq ye (pv 3) zd (fun _ _=>rfl)) zd (fun _ _=>rfl))) (zc (zG (i:=5) yb.nd rfl (Or.inl rfl) (xU (Room.u1F hr) (zy (pv 0) rfl) (zN (za (pv 1) (za (zh qc2 hr rfl (za (zy (pv 0) rfl) (za (pv 1) (za (pv 2) (za (zh qc3 hr rfl (za (zy (pv 0) rfl) (za (pv 4) zb))) zb))))) zb))) (fun _ _=>rfl))) (zc (zG (i:=6) yb.nd rfl (Or.inl rfl) (zN (za (pv 1) (za (zh qc1 hr rfl (za (zy (pv 0) rfl) (za (pv 1) (za (pv 2) zb)))) zb)))) (zc (Zq (i:=7) yb.nd rfl rfl (CSc.of (N':=["place","waiter","box"]) (sub:=[none,none,some 4]) (zf (zj (top 45) 8)) ["self","stage","line","coming","box","out","switch","alike"] rfl rfl (by decide +kernel) rfl) rfl (WU false (K:=K) rfl rfl g_enumerate (za (pv 5) zb)) (fun _ _ _ _ _ _=>sC (K:=K) 2 rfl rfl (zo (zk (i:=0) (show (["place","waiter","box"]:List Str).Nodup by decide +kernel) rfl (Or.inl rfl) (Or.inr rfl)) (zo (zk (i:=1) (show (["place","waiter","box"]:List Str).Nodup by decide +kernel) rfl (Or.inl rfl) (Or.inr rfl)) yn)) rfl rfl) (fun _ _ _ _ _ _=>(WL (zI wJ (yq (Uo (K:=K) rfl) (pv 1) zd (fun _ _=>rfl)) (pv 2) (zP _)))) (fun _ _ _ _ _ _=>(pv 0))) (zi (z9 (PW.pt (wG (sg (pv 7) (fun _=>rfl)) (xO (zI jm (xU (Room.u1F hr) (zy (pv 0) rfl) (pv 6) (fun _ _=>rfl)) (zy (pv 0) rfl) (zP _))))) (zc (xK (zh qc0 hr rfl (za (pv 6) (za (yq ye (pv 5) (yq ye (pv 7) (Ww Zh zd) (fun _ _=>rfl)) (fun _ _=>rfl)) (za (vF PySem.F.plainAttrs_list PySem.F.slot_list_pop PySem.F.type_list_pop sr (pv 3) (za zd zb)) zb)))) (Zf (pv 5) (yq ye (pv 7) (Ww Zh zd) (fun _ _=>rfl)) vI)) (zi (Xu (Room.u1F hr) (zy (pv 0) rfl) (pv 6) zd Vu (fun _ _ _=>rfl)))) (zi (z9 (zI jm (zq zC rfl B.len wL (za (pv 5) zb)) (zy (pv 0) rfl) (zP _)) (zi (zK (vF PySem.F.plainAttrs_list PySem.F.slot_list_append PySem.F.type_list_append xR (pv 5) (za (vF PySem.F.plainAttrs_list PySem.F.slot_list_pop PySem.F.type_list_pop sr (pv 3) (za zd zb)) zb)))) zw)))))))))),?_⟩
 have k4:=nr.k4
 have p16:=wx k4
 have es:(s5:Int) - 1 = ((s5 - 1:Nat):Int):=by omega
 have sk1:s5 - 1 <= ns.k:=by omega
 refine ⟨_,rfl,_,C,_,_,_,rfl,hn.ob.choose_spec,T.cl,T.n_lines,wU,_,rfl,_,_,rfl,rfl,_,rfl,szl rfl,fun t1 ht1=>?_⟩
 have g1:=Grow.new (m:=[]) ht1 (.tup [.int ((s5:Int) - 1),.int l])
 have k1:upd H t1 (.tup [.int ((s5:Int) - 1),.int l]) t1 = some (.tup [.int ((s5 - 1:Nat):Int),.int l]):=by rw [ze,es]
 have hn1:=hn.grow0 g1
 generalize upd H t1 _ = H1 at g1 k1 hn1 ⊢
 refine ⟨_,_,rfl,(wS (A:=A5) sk1 hl) ▸ DGet.t hn1.dl (yV k1),?_⟩
 obtain ⟨ys,hys,hw⟩:=hn1.ln (l:=s5 - 1) (j:=l) sk1 hl
 refine yX ⟨_,rfl,_,.inl ⟨_,SqL.of hys,rfl⟩,?_⟩
 cases hlin:ns.lines (s5 - 1) l with
 | nil =>
  rw [hlin] at hw
  have e:ys = []:=List.eq_nil_of_length_eq_zero (by rw [hw.len]; rfl)
  subst e
  exact yY rfl (q _ (g1.mono (by simp)) (by unfold yE; rw [hlin]; exact hn1))
 | cons c r =>
 rw [hlin] at hw
 cases ys with
 | nil=>exact hw.elim
 | cons y0 yr =>
 obtain ⟨hc,hyr⟩:=hw
 have hc0:=hc
 obtain ⟨rc,rd,rn,rm,mv,rfl,c1,c2,c3,c4,c5⟩:=hc
 have wok:=nr.lw (s5 - 1) l sk1 hl c (by rw [hlin]; exact List.mem_cons_self ..)
 have cb:c.box < 16:=Nat.lt_of_lt_of_le wok.bx nr.b16
 have sd:c.box % 2 ^ ns.k < 2 ^ ns.k:=Nat.mod_lt _ (Nat.two_pow_pos _)
 refine yD rfl (vB ⟨_,rfl,_,_,0,_,rfl,rfl,SqL.of hys,zO (j:=0) rfl,rc,_,0,_,rfl,rfl,c1,zO (j:=0) rfl,?_⟩)
 have OF:=outF (b:=c.box) k4 s1 sk hl
 refine yX ⟨_,rfl,_,C,_,_,_,rfl,hn1.ob.choose_spec,T.cl,T.n_lines,wU,_,rfl,_,rfl,_,C,_,_,_,rfl,hn1.ob.choose_spec,T.cl,T.n_depth,zT,_,rfl,_,rfl,_,rfl,_,C,_,_,_,rfl,hn1.ob.choose_spec,T.cl,T.n_depth,zT,_,rfl,_,_,rfl,ns.k,c.box,rfl,rfl,k4,cb,_,_,_,_,rfl,ns.k,s5,(l:Int),((c.box % 2 ^ ns.k:Nat):Int),rfl,rfl,rfl,rfl,k4,sk,by omega,by omega,by omega,by omega,szl rfl,fun t2 ht2=>?_⟩
 have g2:=Grow.new (m:=[]) ht2 (.tup [.int s5,.int (wfI ns.k s5 l (figI ns.k s5 ((c.box % 2 ^ ns.k:Nat):Int)))])
 have k2:upd H1 t2 (.tup [.int s5,.int (wfI ns.k s5 l (figI ns.k s5 ((c.box % 2 ^ ns.k:Nat):Int)))]) t2 = some (.tup [.int s5,.int (outR ns.k s5 l c.box:Nat)]):=by rw [ze,OF.eq]; rfl
 have olt:outR ns.k s5 l c.box < 2 ^ ns.k:=OF.lt
 have hn2:=hn1.grow0 g2
 have hys2:=g2.keep _ _ (by simp) hys
 have hyr2:=hyr.imp fun _ _ z=>z.grow g2
 have hc2:=hc0.grow g2
 generalize upd H1 t2 _ = H2 at g2 k2 hn2 hys2 hyr2 hc2 ⊢
 refine ⟨_,_,rfl,(wS (A:=A5) sk olt) ▸ DGet.t hn2.dl (yV k2),?_⟩
 have F1:=oneF k4 s1 sk hl
 refine yX ⟨_,rfl,_,rfl,_,C,_,_,_,rfl,hn2.ob.choose_spec,T.cl,T.n_depth,zT,_,rfl,_,rfl,_,_,_,rfl,ns.k,s5,(l:Int),rfl,rfl,rfl,k4,sk,by omega,by omega,szl rfl,fun t3 ht3=>?_⟩
 have g3:=Grow.new (m:=[]) ht3 (.tup [.int s5,.int (swI ns.k s5 l)])
 have k3:upd H2 t3 (.tup [.int s5,.int (swI ns.k s5 l)]) t3 = some (.tup [.int s5,.int (nN ns.k s5 l:Nat)]):=by rw [ze,F1.sw,F1.num]
 have hn3:=hn2.grow0 g3
 have hys3:=g3.keep _ _ (by simp) hys2
 have hyr3:=hyr2.imp fun _ _ z=>z.grow g3
 have hc3:=hc2.grow g3
 generalize upd H2 t3 _ = H3 at g3 k3 hn3 hys3 hyr3 hc3 ⊢
 have G3:=g1.trans (g2.trans g3)
 obtain ⟨zs,hzs,hz⟩:=hn3.ln (l:=s5) (j:=outR ns.k s5 l c.box) sk olt
 have zl:=hz.len
 have l40:=qI nr sk olt
 refine yX ⟨_,rfl,_,zs,rfl,SqL.of hzs,Z9 (xs:=zs) (fun i vs σ H'=>(∃ e0 e1,σ = [e0,e1,some (.int c.box)]) /\ Grow [] H3 H' /\ vs = yt ((List.range i).filter fun j=>decide (((ns.lines s5 (outR ns.k s5 l c.box)).getD j default).box = c.box))) ⟨⟨_,_,rfl⟩,Grow.refl _ _,rfl⟩ (fun i vs σ H' ⟨_,g,_⟩=>SqL.of (g.keep _ _ (by simp) hzs)) ?_ ?_⟩
 ·rintro i x vs σ H' T5 hx ⟨⟨e0,e1,rfl⟩,g,rfl⟩ hT5
  obtain ⟨wi,hwi,ri,rdi,rni,rmi,mvi,rfl,w1,w2,w3,w4,w6⟩:=hz.get hx
  have gT:=Grow.new (m:=[]) hT5 (.tup [.int i,.ref ri])
  have ew:(ns.lines s5 (outR ns.k s5 l c.box)).getD i default = wi:=by rw [List.getD_eq_getElem?_getD,hwi]; rfl
  have il:=(List.getElem?_eq_some_iff.mp hwi).1
  have er:(List.range (i + 1)).filter (fun j=>decide (((ns.lines s5 (outR ns.k s5 l c.box)).getD j default).box = c.box)) = (List.range i).filter (fun j=>decide (((ns.lines s5 (outR ns.k s5 l c.box)).getD j default).box = c.box)) ++ (if wi.box = c.box then [i] else []):=by
   rw [List.range_succ,List.filter_append]
   congr 1
   rw [List.filter_cons,ew]
   by_cases z:wi.box = c.box
   ·rw [if_pos z,if_pos (decide_eq_true z)]; rfl
   ·rw [if_neg z,if_neg (by rw [decide_eq_false z]; decide)]; rfl
  refine ⟨T5,_,rfl,SqT.of ze,rfl,_,_,rfl,_,_,rfl,rfl,_,rfl,ri,_,0,_,rfl,rfl,gT.sqT (g.sqT w1),zO (j:=0) rfl,_,rfl,rfl,_,rfl,?_⟩
  by_cases z:wi.box = c.box
  ·refine yY (decide_eq_true (congrArg V.int (by omega))) ⟨_,rfl,?_,⟨_,_,rfl⟩,g.trans gT,?_⟩
   ·unfold yt; rw [List.length_map]; exact zr (Nat.le_trans (List.length_filter_le _ _) (by rw [List.length_range]; omega))
   ·rw [er,if_pos z]; unfold yt; rw [List.map_append]; rfl
  ·refine yD (decide_eq_false fun w=>z (by have:=V.int.inj w; omega)) ⟨⟨_,_,rfl⟩,g.trans gT,?_⟩
   rw [er,if_neg z,List.append_nil]
 rintro vs σ H4 ⟨_,g4,rfl⟩ la hla
 rw [zl]
 have gl:=Grow.new (m:=[]) hla (.lst (yt ((List.range (ns.lines s5 (outR ns.k s5 l c.box)).length).filter fun j=>decide (((ns.lines s5 (outR ns.k s5 l c.box)).getD j default).box = c.box))))
 have hla5:=ze (H:=H4) (a:=la) (o:=.lst (yt ((List.range (ns.lines s5 (outR ns.k s5 l c.box)).length).filter fun j=>decide (((ns.lines s5 (outR ns.k s5 l c.box)).getD j default).box = c.box))))
 have elast:qC (ns.lines s5 (outR ns.k s5 l c.box)) c.box = ((List.range (ns.lines s5 (outR ns.k s5 l c.box)).length).filter fun j=>decide (((ns.lines s5 (outR ns.k s5 l c.box)).getD j default).box = c.box)).getLast?:=rfl
 generalize ((List.range (ns.lines s5 (outR ns.k s5 l c.box)).length).filter fun j=>decide (((ns.lines s5 (outR ns.k s5 l c.box)).getD j default).box = c.box)) = ids at hla gl hla5 elast ⊢
 have g45:=g4.trans gl
 have hn5:=hn3.grow0 g45
 have hys5:=g45.keep _ _ (by simp) hys3
 have hyr5:=hyr3.imp fun _ _ z=>z.grow g45
 have hc5:=hc3.grow g45
 have hzs5:=g45.keep _ _ (by simp) hzs
 have hz5:=hz.imp fun _ _ z=>z.grow g45
 have k5:=g45.tup _ _ k3
 have G5:=G3.trans g45
 generalize upd H4 la _ = H5 at gl hla5 g45 hn5 hys5 hyr5 hc5 hzs5 hz5 k5 G5 ⊢
 clear hz hzs hc3 hyr3 hys3 hn3 hc2 hyr2 hys2 hn2 hc0 hyr hys hn1 hla g4 gl
 have neL:A5 (.ln s5 (outR ns.k s5 l c.box)) ≠ A5 (.ln (s5 - 1) l):=nd5 hn5 (a:=.ln s5 (outR ns.k s5 l c.box)) (b:=.ln (s5 - 1) l) ⟨sk,olt⟩ ⟨sk1,hl⟩ (fun z=>by injection z; omega)
 have m1:A5 (.ln (s5 - 1) l) ∈ ms:=hm (.ln (s5 - 1) l) ⟨sk1,hl⟩
 have m2:A5 (.ln s5 (outR ns.k s5 l c.box)) ∈ ms:=hm (.ln s5 (outR ns.k s5 l c.box)) ⟨sk,olt⟩
 have m3:A5 .dk ∈ ms:=hm .dk trivial
 refine yX (UK (fun b H'=>H' = H5 /\ b = (!ids.isEmpty && decide (ns.keep s5 (nN ns.k s5 l) < ns.kept))) (fun Kk hk=>?_) ?_)
 ·have ei:(!(yt ids).isEmpty) = !ids.isEmpty:=by cases ids <;> rfl
  refine ⟨_,rfl,_,.inl ⟨_,SqL.of hla5,rfl⟩,?_⟩
  rw [ei]
  cases hid:ids.isEmpty with
  | true=>exact yD rfl (hk _ _ ⟨rfl,by rw [hid]; rfl⟩)
  | false=>exact yY rfl ⟨_,rfl,_,C,_,_,_,rfl,hn5.ob.choose_spec,T.cl,T.n_keeping,wf,_,rfl,_,_,rfl,(wT (kp:=ns.keep) s1 sk F1.lt) ▸ DGet.t hn5.dk (yV k5),_,rfl,_,C,_,_,_,rfl,hn5.ob.choose_spec,T.cl,T.n_most_kept,qG,_,_,rfl,rfl,_,rfl,hk _ _ ⟨rfl,by rw [hid]; rfl⟩⟩
 rintro b H' ⟨rfl,rfl⟩
 obtain ⟨hn6,g6⟩:=hn5.setLn sk1 hl hyr5
 cases hb:(!ids.isEmpty && decide (ns.keep s5 (nN ns.k s5 l) < ns.kept)) with
 | true =>
  rw [Bool.and_eq_true,decide_eq_true_eq] at hb
  obtain ⟨is,i,rfl⟩:∃ is i,ids = is ++ [i]:=by
   have hne:ids ≠ []:=fun z=>by rw [z] at hb; exact absurd hb.1 (by decide)
   exact ⟨ids.dropLast,ids.getLast hne,(List.dropLast_concat_getLast hne).symm⟩
  rw [List.getLast?_concat] at elast
  obtain ⟨ilt,ibx⟩:=re elast
  obtain ⟨xi,hxi⟩:∃ x,zs[i]? = some x:=⟨_,List.getElem?_eq_getElem (by omega)⟩
  obtain ⟨wi,hwi,hWi⟩:=hz5.get hxi
  have ewi:(ns.lines s5 (outR ns.k s5 l c.box)).getD i default = wi:=by rw [List.getD_eq_getElem?_getD,hwi]; rfl
  have wiok:=nr.lw s5 _ sk olt wi (List.mem_of_getElem? hwi)
  have two:=UF (f:=ns.lines) (g:=nlen) sk1 hl sk olt (fun z=>by have:=z.1; omega)
  have t1':=sS (g:=nlen) (ws:=ns.lines s5 (outR ns.k s5 l c.box)) (w:=wi) (List.mem_of_getElem? hwi)
  have t2':nlen c <= lsum nlen (ns.lines (s5 - 1) l):=sS (by rw [hlin]; exact List.mem_cons_self ..)
  have tot:=nr.tot
  have a40:=nr.a40
  have n40:wi.nums.length + c.nums.length <= 40:=by
   have e1:nlen wi = wi.nums.length:=rfl
   have e2:nlen c = c.nums.length:=rfl
   omega
  have ln1:=wok.ln
  have ln2:=wiok.ln
  refine iteT ⟨_,rfl,_,rfl,_,rfl,_,rfl,la,_,-1,_,rfl,rfl,SqL.of hla5,Sd,_,_,i,_,rfl,rfl,SqL.of hzs5,zO hxi,_,rfl,.inl ⟨rfl,_,SqL.of hys5⟩,_,_,0,0,_,rfl,rfl,hys5,by decide,by decide,UL,rfl,?_⟩
  have hla6:=g6.keep _ _ (show la ∉ [A5 (.ln (s5 - 1) l)] from fun z=>by have e:=List.mem_singleton.mp z; rw [e,hys5] at hla5; have:=HO.lst.inj (Option.some.inj hla5); cases is <;> cases this) hla5
  have hzs6:=g6.keep _ _ (show A5 (.ln s5 (outR ns.k s5 l c.box)) ∉ [A5 (.ln (s5 - 1) l)] by simpa using neL) hzs5
  have k6:=g6.tup _ _ k5
  have hz6:=hz5.imp fun _ _ z=>z.grow g6
  have hc6:=hc5.grow g6
  have hWi6:=hWi.grow g6
  have eer:(V.ref rc :: yr).eraseIdx 0 = yr:=rfl
  rw [eer]
  generalize upd H' (A5 (.ln (s5 - 1) l)) (.lst yr) = H6 at hn6 g6 hla6 hzs6 k6 hz6 hc6 hWi6 ⊢
  refine ⟨_,_,_,rfl,(s5,nN ns.k s5 l),wi,c,⟨t3,rfl,k6⟩,hWi6,hc6,n40,by omega,fun r7 H7 g7 hr7=>?_⟩
  have hla7:=g7.keep _ _ (by simp) hla6
  have hzs7:=g7.keep _ _ (by simp) hzs6
  refine ⟨_,rfl,_,rfl,_,rfl,la,_,-1,_,rfl,rfl,SqL.of hla7,Sd,_,_,_,i,rfl,rfl,hzs7,s8 (by omega),?_⟩
  have hn7:=hn6.grow0 g7
  obtain ⟨hn8,g8⟩:=hn7.setLn (l:=s5) (j:=outR ns.k s5 l c.box) sk olt (AllR.set (n:=i) hr7 (hz6.imp fun _ _ z=>z.grow g7))
  have k8:=(g7.trans (Grow.refl _ _)).tup _ _ k6
  have k8':=g8.tup _ _ k8
  generalize upd H7 (A5 (.ln s5 (outR ns.k s5 l c.box))) _ = H8 at hn8 g8 k8' ⊢
  refine ⟨_,rfl,_,C,_,_,_,rfl,hn8.ob.choose_spec,T.cl,T.n_keeping,wf,_,rfl,_,_,rfl,(wT (kp:=ns.keep) s1 sk F1.lt) ▸ DGet.t hn8.dk (yV k8'),_,_,rfl,rfl,_,DPut.t hn8.dk (yV k8') (zr (Nat.le_of_lt (ZD k4))),?_⟩
  have ep:putK (zW ns.k ns.keep) (kI [(s5:Int),(nN ns.k s5 l:Int)]) (.int (ns.keep s5 (nN ns.k s5 l) + 1)) = zW ns.k (updL ns.keep s5 (nN ns.k s5 l) (ns.keep s5 (nN ns.k s5 l) + 1)):=ZC s1 sk F1.lt
  obtain ⟨hn9,g9⟩:=hn8.setK (updL ns.keep s5 (nN ns.k s5 l) (ns.keep s5 (nN ns.k s5 l) + 1))
  show Q V.non (upd H8 (A5 .dk) (.dT (putK (zW ns.k ns.keep) (kI [(s5:Int),(nN ns.k s5 l:Int)]) (.int (ns.keep s5 (nN ns.k s5 l) + 1)))))
  rw [ep]
  refine q _ ((G5.mono (by simp)).trans ((g6.mono (by simpa using m1)).trans ((g7.mono (by simp)).trans ((g8.mono (by simpa using m2)).trans (g9.mono (by simpa using m3)))))) ?_
  have eh:yE ns s5 l = { ns with lines:=updL (updL ns.lines (s5 - 1) l r) s5 (outR ns.k s5 l c.box) ((ns.lines s5 (outR ns.k s5 l c.box)).set i (wp (s5,nN ns.k s5 l) wi c)),keep:=updL ns.keep s5 (nN ns.k s5 l) (ns.keep s5 (nN ns.k s5 l) + 1) }:=by
   unfold yE
   rw [hlin]
   show (match qC (ns.lines s5 (outR ns.k s5 l c.box)) c.box with | none=>_ | some i=>_) = _
   rw [elast]
   show (if _ then _ else _) = _
   rw [if_pos hb.2,ewi]
  rw [eh]; exact hn9
 | false =>
  have eh:yE ns s5 l = addS ns s5 l c r:=by
   unfold yE
   rw [hlin]
   show (match qC (ns.lines s5 (outR ns.k s5 l c.box)) c.box with | none=>_ | some i=>_) = _
   rw [elast]
   cases ids with
   | nil=>rfl
   | cons a b =>
    have hb':decide (ns.keep s5 (nN ns.k s5 l) < ns.kept) = false:=hb
    rw [List.getLast?_cons]
    show (if _ then _ else _) = _
    rw [if_neg (of_decide_eq_false hb')]
  refine iteF ⟨_,rfl,_,zs,rfl,.inl (SqL.of hzs5),_,rfl,_,C,_,_,_,rfl,hn5.ob.choose_spec,T.cl,T.n_room,UG,_,_,rfl,rfl,_,rfl,?_⟩
  by_cases hroom:(ns.lines s5 (outR ns.k s5 l c.box)).length < ns.room
  rotate_left
  ·refine yD (decide_eq_false (by omega)) (q _ (G5.mono (by simp)) ?_)
   rw [eh]; unfold addS; rw [if_neg hroom]; exact hn5
  refine yY (decide_eq_true (by omega)) ⟨_,rfl,.inl ⟨rfl,_,SqL.of hzs5⟩,_,rfl,.inl ⟨rfl,_,SqL.of hys5⟩,_,_,0,0,_,rfl,rfl,hys5,by decide,by decide,UL,rfl,?_⟩
  have hzs6:=g6.keep _ _ (show A5 (.ln s5 (outR ns.k s5 l c.box)) ∉ [A5 (.ln (s5 - 1) l)] by simpa using neL) hzs5
  have hz6:=hz5.imp fun _ _ z=>z.grow g6
  have hc6:=hc5.grow g6
  have eer:(V.ref rc :: yr).eraseIdx 0 = yr:=rfl
  rw [eer]
  generalize upd H' (A5 (.ln (s5 - 1) l)) (.lst yr) = H6 at hn6 g6 hzs6 hz6 hc6 ⊢
  obtain ⟨hn8,g8⟩:=hn6.setLn (l:=s5) (j:=outR ns.k s5 l c.box) sk olt (hz6.app (.one hc6))
  refine ⟨_,_,_,rfl,rfl,hzs6,zr (by omega),q _ ((G5.mono (by simp)).trans ((g6.mono (by simpa using m1)).trans (g8.mono (by simpa using m2)))) ?_⟩
  rw [eh]; unfold addS; rw [if_pos hroom]; exact hn8
theorem xp:FnScope ["self","stage","gone","first","number"] ["self","stage","gone"] (zf (zj (top 45) 7)):=⟨rfl,rfl,rfl,by decide +kernel,rfl,by decide +kernel,by decide +kernel⟩
theorem uY (F:Fun K "pass_on" "Net.pass_on" (zj (top 45) 7) f fd) (B:Blt mg) {C:Addr} (T:NTxt K mg C) (mc_hand_on:zx P w K mg base C n "hand_on" ["self","stage","line"] (sX C K)) (qc0:zn P w K mg base n "in_line" ["k","stage","number","mark"] (X1 K))     :
  FnOk P w K mg base CX0 (n + 1) f fd ["self","stage","gone"] (sY C K):=by
 refine F.ok xp yK (fun cdv A outer s H vs Q E hr h=>?_)
 obtain ⟨x,y,z,rfl,A5,ns,s5,gone,ms,rfl,rfl,hg,s1,sk,hn,nr,hm,q⟩:=h
 refine ⟨_,(zc (zG (i:=3) xp.nd rfl (Or.inl rfl) (zp rM (zy (pv 0) rfl) zd)) (zi (yG PassesOwn.never rfl (zM rfl B.range (za (zp yQ zd (zp zY (zy (pv 0) rfl) zd)) zb)) (zk (i:=4) xp.nd rfl (Or.inl rfl)) (zi (z9 (zI (tS (K:=K) rfl hr) (zN (za (pv 1) (za (pv 4) zb))) (pv 2) (by with_unfolding_all rfl)) (zc (zK (z6 mc_hand_on T.cl hr (pv 0) (za (pv 1) (za (zh qc0 hr rfl (za (zy (pv 0) rfl) (za (pv 1) (za (pv 4) (za (pv 3) zb))))) zb)))) (zi (zK (z6 mc_hand_on T.cl hr (pv 0) (za (pv 1) (za (zh qc0 hr rfl (za (zy (pv 0) rfl) (za (pv 1) (za (pv 4) (za (zp zY zd (pv 3)) zb))))) zb)))))) zw))))),?_⟩
 have k4:=nr.k4
 have ea:Builtin.bitAnd (ns.now:Int) 1 = ((ns.now % 2:Nat):Int):=by rw [show (1:Int) = ((1:Nat):Int) from rfl,Uv,Nat.and_one_is_mod]
 have ek:(ns.k:Int) - 1 = ((ns.k - 1:Nat):Int):=by omega
 have ej:(1:Int) * 2 ^ ((ns.k:Int) - 1).toNat = ((2 ^ (ns.k - 1):Nat):Int):=by rw [ek]; exact sy
 have p8:2 ^ (ns.k - 1) <= 8:=Nat.le_trans (Nat.pow_le_pow_right (by decide) (show ns.k - 1 <= 3 by omega)) (by decide)
 refine ⟨_,rfl,_,C,_,_,_,rfl,hn.ob.choose_spec,T.cl,T.n_now,ZF,_,_,rfl,rfl,jG (congrArg V.int ea) ⟨_,rfl,_,C,_,_,_,rfl,hn.ob.choose_spec,T.cl,T.n_depth,zT,_,_,rfl,rfl,_,_,rfl,rfl,⟨by omega,by omega,by decide⟩,_,rfl,by rw [ej]; exact Int.le_trans (by decide) (Int.natCast_nonneg _),by rw [ej]; exact Int.lt_of_le_of_lt (Int.ofNat_le.mpr p8) (by decide),?_⟩⟩
 rw [ej,Int.toNat_natCast]
 refine yd (fun i σ H'=>∃ e4,σ = [some (.ref (A5 .p)),some (.int s5),some z,some (.int ((ns.now % 2:Nat):Int)),e4] /\ Grow ms H H' /\ NetAt K C H' A5 (passS gone ns s5 i)) ⟨_,rfl,Grow.refl _ _,hn⟩ ?_ ?_
 rotate_left
 ·rintro σ H' ⟨e4,rfl,g,hn'⟩
  exact q _ g hn'
 rintro i σ H1 hi ⟨e4,rfl,g1,hn1⟩
 have sm:=xv gone ns s5 i
 have nr1:=nr.passS (gone:=gone) s1 sk (i:=i) (by omega)
 have es:passS gone ns s5 (i + 1) = yH gone s5 (passS gone ns s5 i) i:=by unfold passS; rw [zF]
 rw [es]
 generalize passS gone ns s5 i = n1 at hn1 sm nr1 ⊢
 obtain ⟨rg,ys,rfl,hrg,hga,hgl⟩:=hg.grow g1
 refine ⟨_,rfl,_,rfl,szl rfl,fun t ht=>?_⟩
 have gt:=Grow.new (m:=[]) ht (.tup [.int s5,.int (0 + (i:Int))])
 have kt:upd H1 t (.tup [.int s5,.int (0 + (i:Int))]) t = some (.tup [.int s5,.int i]):=by rw [ze,Int.zero_add]
 have hn2:=hn1.grow0 gt
 have G2:Grow ms H (upd H1 t (.tup [.int s5,.int (0 + (i:Int))])):=g1.trans gt.wk
 refine ⟨_,rfl,t,rg,ys,(s5,i),gone,rfl,rfl,SqT.of kt,gt.sqT hrg,hga.imp fun _ _ ⟨r,e,z⟩=>⟨r,e,gt.sqT z⟩,_,rfl,?_⟩
 generalize upd H1 t _ = H2 at gt kt hn2 G2 ⊢
 by_cases c:(s5,i) ∈ gone
 ·refine yD (by rw [decide_eq_true c]; rfl) ⟨_,rfl,G2,?_⟩
  unfold yH
  rw [if_pos c]; exact hn2
 refine yY (by rw [decide_eq_false c]; rfl) ?_
 have ep:yH gone s5 n1 i = yE (yE n1 s5 (inlN n1.k s5 i (n1.now % 2))) s5 (inlN n1.k s5 i (1 - n1.now % 2)):=if_neg c
 have ik:i < 2 ^ (n1.k - 1):=by rw [sm.k]; exact hi
 have sk1:s5 <= n1.k:=by rw [sm.k]; exact sk
 have m2:n1.now % 2 < 2:=Nat.mod_lt _ (by decide)
 have en:ns.now % 2 = n1.now % 2:=by rw [sm.now]
 have hm1:∀ a,okA n1 a -> A5 a ∈ ms:=fun a ha=>hm a (by
  have ek:=sm.k
  have en:=sm.nd
  cases a <;> first | trivial | (unfold okA at ha ⊢; rw [ek] at ha; exact ha) | (unfold okA at ha ⊢; rw [en] at ha; exact ha))
 have l1:=xW nr1.k4 s1 sk1 ik m2
 have l2:=xW nr1.k4 s1 sk1 ik (show 1 - n1.now % 2 < 2 by omega)
 refine ⟨_,rfl,_,_,_,rfl,hn2.ob.choose_spec,tR,_,rfl,_,rfl,_,C,_,_,_,rfl,hn2.ob.choose_spec,T.cl,T.n_depth,zT,_,rfl,_,rfl,_,rfl,_,_,_,_,rfl,n1.k,s5,i,n1.now % 2,rfl,rfl,congrArg V.int (by omega),congrArg V.int (by omega),nr1.k4,s1,sk1,ik,m2,_,_,_,rfl,A5,n1,s5,_,ms,rfl,rfl,rfl,s1,sk1,l1,hn2,nr1,hm1,fun H3 g3 hn3=>?_⟩
 have sm3:=yA n1 s5 (inlN n1.k s5 i (n1.now % 2))
 have nr3:=nr1.hand s1 sk1 l1
 have hm3:∀ a,okA (yE n1 s5 (inlN n1.k s5 i (n1.now % 2))) a -> A5 a ∈ ms:=fun a ha=>hm1 a (by
  have ek:=sm3.k
  have en:=sm3.nd
  cases a <;> first | trivial | (unfold okA at ha ⊢; rw [ek] at ha; exact ha) | (unfold okA at ha ⊢; rw [en] at ha; exact ha))
 refine ⟨_,rfl,_,_,_,rfl,hn3.ob.choose_spec,tR,_,rfl,_,rfl,_,C,_,_,_,rfl,hn3.ob.choose_spec,T.cl,T.n_depth,zT,_,rfl,_,rfl,_,rfl,_,_,rfl,rfl,_,_,_,_,rfl,n1.k,s5,i,1 - n1.now % 2,congrArg V.int (by rw [sm3.k]),rfl,congrArg V.int (by omega),congrArg V.int (by omega),nr1.k4,s1,sk1,ik,by omega,_,_,_,rfl,A5,_,s5,_,ms,rfl,rfl,rfl,s1,by rw [sm3.k]; exact sk1,by rw [sm3.k]; exact l2,hn3,nr3,hm3,fun H4 g4 hn4=>⟨_,rfl,G2.trans (g3.trans g4),?_⟩⟩
 rw [ep]; exact hn4
theorem ww:FnScope ["self","box","numbers","number"] ["self","box","numbers"] (zf (zj (top 45) 6)):=⟨rfl,rfl,rfl,by decide +kernel,rfl,by decide +kernel,by decide +kernel⟩
theorem uZ (F:Fun K "do_asks" "Net.do_asks" (zj (top 45) 6) f fd) (B:Blt mg) {C:Addr} (T:NTxt K mg C) (qc0:zn P w K mg base n "made" ["deed","value"] (jr K))     :
  FnOk P w K mg base CX0 (n + 1) f fd ["self","box","numbers"] (vj C K):=by
 refine F.ok ww yK (fun cdv A outer s H vs Q E hr h=>?_)
 obtain ⟨x,y,z,rfl,A5,ns,b,nums,r,rfl,rfl,rfl,hr5,hn,hb,hnm,hl,hf,q⟩:=h
 refine ⟨_,(zi (yG PassesOwn.never rfl (rK (pv 2)) (zk (i:=3) ww.nd rfl (Or.inl rfl)) (zc (Xt (Room.u1F hr) (zy (pv 0) rfl) (pv 3) (yq ye (zy (pv 0) rfl) (pv 1) (fun _ _=>rfl)) rfl) (zc (xK (zh qc0 hr rfl (za (yq y9 (yq ye (zy (pv 0) rfl) (pv 3) (fun _ _=>rfl)) zd (fun _ _=>rfl)) (za (yq ye (zy (pv 0) rfl) (pv 1) (fun _ _=>rfl)) zb))) (Zf (zy (pv 0) rfl) (pv 1) vI)) (zi (zK (vF PySem.F.plainAttrs_list PySem.F.slot_list_append PySem.F.type_list_append xR (zy (pv 0) rfl) (za (pv 3) zb)))))))),?_⟩
 have nl:(yt nums).length = nums.length:=List.length_map ..
 refine ⟨_,rfl,r,rfl,⟨_,hr5⟩,sf (xs:=yt nums) (fun i σ H'=>∃ e3,σ = [some (.ref (A5 .p)),some (.int b),some (.ref r),e3] /\ Grow [A5 .lb,A5 .df,A5 .lg] H H' /\ NetAt K C H' A5 ((nums.take i).foldl (doN b) ns)) ⟨_,rfl,Grow.refl _ _,hn⟩ (fun i σ H' _ ⟨_,_,g,_⟩=>g.sqT hr5) ?_ ?_⟩
 rotate_left
 ·rintro σ H' ⟨e3,rfl,g,hn'⟩
  rw [nl,List.take_length] at hn'
  exact q _ g hn'
 rintro i x σ H1 hx ⟨e3,rfl,g,hn1⟩
 rw [show (yt nums)[i]? = (nums[i]?).map fun n:Nat=>V.int n from List.getElem?_map ..] at hx
 obtain ⟨n5,hi,rfl⟩:=Option.map_eq_some_iff.mp hx
 have il:=(List.getElem?_eq_some_iff.mp hi).1
 rw [xE hi]
 have lb:((nums.take i).foldl (doN b) ns).boxes.length = ns.boxes.length:=xu.1
 have la:((nums.take i).foldl (doN b) ns).asks = ns.asks:=xu.2.1
 have lg:((nums.take i).foldl (doN b) ns).log.length = ns.log.length + i:=by rw [xu.2.2.1,List.length_append,List.length_take]; omega
 have lf:((nums.take i).foldl (doN b) ns).fnd.length <= ns.fnd.length + i:=Nat.le_trans xu.2.2.2 (by rw [List.length_take]; omega)
 generalize (nums.take i).foldl (doN b) ns = n1 at hn1 lb la lg lf ⊢
 have n5a:=hnm n5 (List.mem_of_getElem? hi)
 have bl:b < n1.boxes.length:=by omega
 obtain ⟨v0,hv0⟩:∃ v,n1.boxes[b]? = some v:=⟨_,List.getElem?_eq_getElem bl⟩
 have ev:n1.boxes.getD b 0 = v0:=by rw [List.getD_eq_getElem?_getD,hv0]; rfl
 have hvx:(n1.boxes.map V.int)[b]? = some (.int v0):=by rw [List.getElem?_map,hv0]; rfl
 refine ⟨_,rfl,_,C,_,_,_,rfl,hn1.ob.choose_spec,T.cl,T.n_boxes,vL,_,rfl,A5 .lb,_,b,.int v0,rfl,rfl,SqL.of hn1.lb,zO hvx,?_⟩
 refine ⟨_,rfl,_,C,_,_,_,rfl,hn1.ob.choose_spec,T.cl,T.n_found,ZG,_,rfl,A5 .df,_,rfl,.inl ⟨_,.inl (n5:Int),hn1.df,rfl,?_,rfl⟩,?_⟩
 ·unfold nKv; rw [List.length_map]; exact zr (by omega)
 rw [jL]
 obtain ⟨hn2,g2⟩:=hn1.setF (putN n1.fnd n5 v0)
 generalize upd H1 (A5 .df) _ = H2 at hn2 g2 ⊢
 obtain ⟨xs,hxs,has⟩:=hn2.la
 have has':AllR (wN K H2) xs n1.asks:=has
 have xl:xs.length = n1.asks.length:=has'.len
 obtain ⟨xa,hxa⟩:∃ x,xs[n5]? = some x:=⟨_,List.getElem?_eq_getElem (by rw [xl,la]; exact n5a)⟩
 obtain ⟨ka,hka,ra,rd,rfl,sa,sd⟩:=has'.get hxa
 have eka:n1.asks.getD n5 default = ka:=by rw [List.getD_eq_getElem?_getD,hka]; rfl
 refine ⟨_,rfl,_,C,_,_,_,rfl,hn2.ob.choose_spec,T.cl,T.n_asks,ut,_,rfl,A5 .la,_,n5,_,rfl,rfl,SqL.of hxs,zO hxa,ra,_,2,_,rfl,rfl,sa,zO (j:=2) rfl,?_⟩
 refine ⟨_,rfl,_,C,_,_,_,rfl,hn2.ob.choose_spec,T.cl,T.n_boxes,vL,_,rfl,A5 .lb,_,b,.int v0,rfl,rfl,SqL.of hn2.lb,zO hvx,_,_,rfl,ka.deed,v0,⟨rd,rfl,sd⟩,rfl,?_⟩
 refine ⟨_,rfl,_,C,_,_,_,rfl,hn2.ob.choose_spec,T.cl,T.n_boxes,vL,_,rfl,A5 .lb,_,b,b,rfl,rfl,hn2.lb,?_,?_⟩
 ·exact s8 (by rw [List.length_map]; exact bl)
 have ex:(n1.boxes.map V.int).set b (.int (ka.deed.mk' v0)) = (n1.boxes.set b (ka.deed.mk' v0)).map V.int:=(List.map_set ..).symm
 show tSeq _ _ _ _ _
 rw [ex]
 obtain ⟨hn3,g3⟩:=hn2.setB (n1.boxes.set b (ka.deed.mk' v0))
 generalize upd H2 (A5 .lb) _ = H3 at hn3 g3 ⊢
 refine ⟨_,rfl,_,C,_,_,_,rfl,hn3.ob.choose_spec,T.cl,T.n_logged,qH,.inl ⟨rfl,_,SqL.of hn3.lg⟩,_,rfl,A5 .lg,_,_,rfl,rfl,hn3.lg,?_,?_⟩
 ·unfold yt; rw [List.length_map]; exact zr (by show n1.log.length <= 1000; omega)
 have el:yt n1.log ++ [.int (n5:Int)] = yt (n1.log ++ [n5]):=by unfold yt; rw [List.map_append]; rfl
 refine ⟨_,rfl,?_⟩
 have key:=hn3.setG (n1.log ++ [n5])
 refine ⟨g.trans ((g2.mono (by simp)).trans ((g3.mono (by simp)).trans ?_)),?_⟩
 ·show Grow _ _ (upd H3 (A5 .lg) (.lst (yt n1.log ++ [.int (n5:Int)])))
  rw [el]; exact key.2.mono (by simp)
 ·show NetAt K C (upd H3 (A5 .lg) (.lst (yt n1.log ++ [.int (n5:Int)]))) A5 _
  rw [el]
  have e:doN b n1 n5 = { n1 with boxes:=n1.boxes.set b (ka.deed.mk' v0),fnd:=putN n1.fnd n5 v0,log:=n1.log ++ [n5] }:=by unfold doN; rw [eka,ev]
  rw [e]; exact key.1
theorem yi:FnScope ["self","gone","taken","side","line","box","deed","numbers","met"] ["self","gone"] (zf (zj (top 45) 5)):=⟨rfl,rfl,rfl,by decide +kernel,rfl,by decide +kernel,by decide +kernel⟩
theorem j7 (F:Fun K "take" "Net.take" (zj (top 45) 5) f fd) (B:Blt mg) {C:Addr} (T:NTxt K mg C) (mc_do_asks:zx P w K mg base C n "do_asks" ["self","box","numbers"] (vj C K))      :
  FnOk P w K mg base CX0 (n + 1) f fd ["self","gone"] (sW C K):=by
 refine F.ok yi yg (fun cdv A outer s H vs Q E hr h=>?_)
 obtain ⟨x,y,rfl,A5,ns,gone,ms,rfl,hg,hn,nr,hnd,hm,q⟩:=h
 refine ⟨_,(zc (zG (i:=2) yi.nd rfl (Or.inl rfl) (xr zb)) (zc (yG PassesOwn.never rfl (zM rfl B.range (za (zp yQ zd (zy (pv 0) rfl)) zb)) (zk (i:=3) yi.nd rfl (Or.inl rfl)) (zc (zG (i:=4) yi.nd rfl (Or.inl rfl) (xU (Room.u1F hr) (zy (pv 0) rfl) (zN (za (zy (pv 0) rfl) (za (pv 3) zb))) (fun _ _=>rfl))) (zi (z9 (PW.pt (wG (sg (pv 4) (fun _=>rfl)) (xO (zI (tS (K:=K) rfl hr) (zN (za zd (za (pv 3) zb))) (pv 1) (by with_unfolding_all rfl))))) (zi (zK (vF PySem.F.plainAttrs_list PySem.F.slot_list_append PySem.F.type_list_append xR (pv 2) (za (vF PySem.F.plainAttrs_list PySem.F.slot_list_pop PySem.F.type_list_pop sr (pv 4) (za zd zb)) zb)))) zw)))) (zc (Xt (Room.u1F hr) (zy (pv 0) rfl) (zy (pv 0) rfl) (pv 2) rfl) (zi (yG PassesOwn.never rfl (vP (pv 2)) (xJ rfl (zo (zk (i:=5) yi.nd rfl (Or.inl rfl)) (zo (zk (i:=6) yi.nd rfl (Or.inl rfl)) (zo (zk (i:=7) yi.nd rfl (Or.inl rfl)) (zo (zk (i:=8) yi.nd rfl (Or.inl rfl)) yn))))) (zi (zK (z6 mc_do_asks T.cl hr (pv 0) (za (pv 5) (za (pv 7) zb)))))))))),?_⟩
 have k4:=nr.k4
 have p16:=wx k4
 have ej:(1:Int) * 2 ^ ((ns.k:Int)).toNat = ((2 ^ ns.k:Nat):Int):=sy
 refine ⟨szl rfl,fun lt hlt=>?_⟩
 have g0:=Grow.new (m:=[]) hlt (.lst [])
 have hlt0:=ze (H:=H) (a:=lt) (o:=.lst [])
 have hn0:=hn.grow0 g0
 have nq0:∀ a,okA ns a -> A5 a ≠ lt:=fun a ha z=>by
  obtain ⟨o,h1,_⟩:=hn.at_ a ha
  rw [z,hlt] at h1; cases h1
 have hg0:=hg.grow g0
 generalize upd H lt (.lst []) = H0 at g0 hlt0 hn0 hg0 ⊢
 refine yX ⟨_,rfl,_,C,_,_,_,rfl,hn0.ob.choose_spec,T.cl,T.n_depth,zT,_,_,rfl,rfl,wt k4,_,rfl,by rw [ej]; exact Int.le_trans (by decide) (Int.natCast_nonneg _),by rw [ej]; exact Int.lt_of_le_of_lt (Int.ofNat_le.mpr p16) (by decide),?_⟩
 rw [ej,Int.toNat_natCast]
 refine yd (fun i σ H'=>∃ e3 e4 tv,σ = [some (.ref (A5 .p)),some y,some (.ref lt),e3,e4,none,none,none,none] /\ Grow (lt :: ms) H0 H' /\ H' lt = some (.lst tv) /\ AllR (WtAt K H') tv (zA gone ns i).1 /\ NetAt K C H' A5 { ns with lines:=(zA gone ns i).2 }) ⟨_,_,[],rfl,Grow.refl _ _,hlt0,trivial,hn0⟩ ?_ ?_
 ·rintro i σ H1 hi ⟨e3,e4,tv,rfl,g1,htv,hta,hn1⟩
  have F:=jN (gone:=gone) (ns:=ns) (i:=i) (by omega)
  rw [y8]
  generalize zA gone ns i = st at hta hn1 F ⊢
  have tl:tv.length <= 40:=by
   have h1:=F.ws nlen
   have h2:=nr.tot
   have h3:=nr.a40
   have h4:=vK (g:=nlen) (ws:=st.1) fun w hw=>by
    obtain ⟨j,hj,hw⟩:=F.tk w hw
    have:=(nr.lw ns.k j (Nat.le_refl _) hj w hw).ne
    cases e:w.nums with
    | nil=>exact absurd e this
    | cons a r=>show 1 <= w.nums.length; rw [e]; exact Nat.succ_le_succ (Nat.zero_le _)
   have h5:=hta.len
   omega
  refine ⟨_,rfl,_,C,_,_,_,rfl,hn1.ob.choose_spec,T.cl,T.n_lines,wU,_,rfl,_,C,_,_,_,rfl,hn1.ob.choose_spec,T.cl,T.n_depth,zT,_,rfl,szl rfl,fun t ht=>?_⟩
  have gt:=Grow.new (m:=[]) ht (.tup [.int ns.k,.int (0 + (i:Int))])
  have kt:upd H1 t (.tup [.int ns.k,.int (0 + (i:Int))]) t = some (.tup [.int ns.k,.int i]):=by rw [ze,Int.zero_add]
  have hn2:=hn1.grow0 gt
  have htv2:=gt.keep _ _ (by simp) htv
  have hta2:=hta.imp fun _ _ z=>z.grow gt
  have G2:Grow (lt :: ms) H0 (upd H1 t (.tup [.int ns.k,.int (0 + (i:Int))])):=g1.trans gt.wk
  refine ⟨_,_,rfl,(wS (A:=A5) (Nat.le_refl ns.k) hi) ▸ DGet.t hn2.dl (yV kt),?_⟩
  generalize upd H1 t _ = H2 at gt kt hn2 htv2 hta2 G2 ⊢
  obtain ⟨ys,hys,hw⟩:=hn2.ln (l:=ns.k) (j:=i) (Nat.le_refl _) hi
  have hw:AllR (WtAt K H2) ys (st.2 ns.k i):=hw
  refine yX ⟨_,rfl,_,.inl ⟨_,SqL.of hys,rfl⟩,?_⟩
  cases hc:st.2 ns.k i with
  | nil =>
   rw [hc] at hw
   have e:ys = []:=List.eq_nil_of_length_eq_zero (by rw [hw.len]; rfl)
   subst e
   refine yD rfl ?_
   rw [xX hc]
   exact yD rfl ⟨_,_,tv,rfl,G2,htv2,hta2,hn2⟩
  | cons w r =>
  rw [hc] at hw
  cases ys with
  | nil=>exact hw.elim
  | cons y0 yr =>
  obtain ⟨hw0,hyr⟩:=hw
  obtain ⟨rg,gs,rfl,hrg,hga,hgl⟩:=hg0.grow G2
  refine yY rfl ⟨_,rfl,szl rfl,fun t2 ht2=>?_⟩
  have gt2:=Grow.new (m:=[]) ht2 (.tup [.int 0,.int (0 + (i:Int))])
  have kt2:upd H2 t2 (.tup [.int 0,.int (0 + (i:Int))]) t2 = some (.tup [.int ((0:Nat):Int),.int i]):=by rw [ze,Int.zero_add]; rfl
  have hn3:=hn2.grow0 gt2
  have htv3:=gt2.keep _ _ (by simp) htv2
  have hta3:=hta2.imp fun _ _ z=>z.grow gt2
  have hys3:=gt2.keep _ _ (by simp) hys
  have hw03:=hw0.grow gt2
  have hyr3:=hyr.imp fun _ _ z=>z.grow gt2
  have G3:=G2.trans (gt2.wk (m:=lt :: ms))
  refine ⟨_,rfl,t2,rg,gs,(0,i),gone,rfl,rfl,SqT.of kt2,gt2.sqT hrg,hga.imp fun _ _ ⟨r,e,z⟩=>⟨r,e,gt2.sqT z⟩,_,rfl,?_⟩
  generalize upd H2 t2 _ = H3 at gt2 kt2 hn3 htv3 hta3 hys3 hw03 hyr3 G3 ⊢
  by_cases cg:(0,i) ∈ gone
  ·refine yD (by rw [decide_eq_true cg]; rfl) ?_
   rw [xw cg]
   exact ⟨_,_,tv,rfl,G3,htv3,hta3,hn3⟩
  refine yY (by rw [decide_eq_false cg]; rfl) ⟨_,rfl,.inl ⟨rfl,_,SqL.of htv3⟩,_,rfl,.inl ⟨rfl,_,SqL.of hys3⟩,_,_,0,0,_,rfl,rfl,hys3,by decide,by decide,UL,rfl,?_⟩
  have hn3':NetAt K C H3 A5 { ns with lines:=st.2 }:=hn3
  obtain ⟨hn4,g4⟩:=hn3'.setLn (l:=ns.k) (j:=i) (Nat.le_refl _) hi hyr3
  have nlt:lt ∉ [A5 (.ln ns.k i)]:=fun z=>nq0 (.ln ns.k i) ⟨Nat.le_refl _,hi⟩ (List.mem_singleton.mp z).symm
  have htv4:=g4.keep _ _ nlt htv3
  have hta4:=hta3.imp fun _ _ z=>z.grow g4
  have hw04:=hw03.grow g4
  have eer:(y0 :: yr).eraseIdx 0 = yr:=rfl
  rw [eer]
  have G4:=G3.trans (g4.mono (m':=lt :: ms) fun b hb=>by rw [List.mem_singleton.mp hb]; exact List.mem_cons_of_mem _ (hm (.ln ns.k i) ⟨Nat.le_refl _,hi⟩))
  generalize upd H3 (A5 (.ln ns.k i)) (.lst yr) = H4 at hn4 g4 htv4 hta4 hw04 G4 ⊢
  have g5:=Grow.set (m:=[lt]) htv4 (by simp) (tv ++ [y0])
  refine ⟨lt,tv,y0,rfl,rfl,htv4,zr (by omega),?_⟩
  rw [wg hc cg]
  refine ⟨_,_,tv ++ [y0],rfl,G4.trans (g5.mono (by simp)),ze,(hta4.app (.one hw04)).imp fun _ _ z=>z.grow g5,?_⟩
  exact hn4.grow g5 fun a ha=>by
   have:A5 a ≠ lt:=nq0 a (by cases a <;> exact ha)
   simpa using this
 rintro σ H1 ⟨e3,e4,tv,rfl,g1,htv,hta,hn1⟩
 have F:=jN (gone:=gone) (ns:=ns) (i:=2 ^ ns.k) (Nat.le_refl _)
 obtain ⟨hn2,g2⟩:=hn1.setDone (ws:=(zA gone ns (2 ^ ns.k)).1) htv hta (fun a ha=>nq0 a (by cases a <;> exact ha))
 have enow:(ns.now:Int) = ((ns.nd + 1:Nat):Int):=by omega
 refine ⟨_,rfl,_,rfl,_,C,_,_,_,rfl,hn1.ob.choose_spec,T.cl,T.n_done_in,tQ,_,rfl,_,C,_,_,_,rfl,hn1.ob.choose_spec,T.cl,T.n_now,ZF,_,_,rfl,.inl ⟨_,.inl ((ns.nd + 1:Nat):Int),hn1.dd,congrArg V.int enow,?_,rfl⟩,?_⟩
 ·unfold xf; rw [List.length_map,List.length_range]
  have h1:=nr.nd
  have h2:=nr.nw
  exact big5 (show ns.nd <= 1000000 by omega)
 have egot:({ ({ ns with lines:=(zA gone ns (2 ^ ns.k)).2 }:NS) with nd:=ns.nd + 1,done:=updD ns.done (ns.nd + 1) (zA gone ns (2 ^ ns.k)).1 }:NS) = gotS gone ns:=by unfold gotS; rw [hnd]
 have hn2:NetAt K C _ (extA A5 ns.nd lt) (gotS gone ns):=egot ▸ hn2
 have htv2:=g2.keep _ _ (show lt ∉ [A5 .dd] from fun z=>nq0 .dd trivial (List.mem_singleton.mp z).symm) htv
 have hta2:=hta.imp fun _ _ z=>z.grow g2
 have G2:=g1.trans (g2.mono (m':=lt :: ms) fun b hb=>by rw [List.mem_singleton.mp hb]; exact List.mem_cons_of_mem _ (hm .dd trivial))
 refine c_nx ?_
 generalize upd H1 (A5 .dd) (.dK (putK (xf A5 ns.nd) (.inl ((ns.nd + 1:Nat):Int)) (.ref lt))) = H2 at hn2 g2 htv2 hta2 G2 ⊢
 have tlen:=hta2.len
 have ewp:(extA A5 ns.nd lt) .p = A5 .p:=rfl
 have wtk:∀ w ∈ (zA gone ns (2 ^ ns.k)).1,WtOk ns.k ns.boxes.length ns.asks.length w:=fun w hw=>by
  obtain ⟨j,hj,hw⟩:=F.tk w hw
  exact nr.lw ns.k j (Nat.le_refl _) hj w hw
 have tot:ns.log.length + lsum nlen (zA gone ns (2 ^ ns.k)).1 <= 40:=by
  have h1:=F.ws nlen
  have h2:=nr.tot
  have h3:=nr.a40
  omega
 refine ⟨_,rfl,lt,rfl,⟨_,SqL.of htv2⟩,vH (xs:=tv) (fun j σ H'=>∃ e3 e4 e5 e6 e7 e8,σ = [some (.ref (A5 .p)),some y,some (.ref lt),e3,e4,e5,e6,e7,e8] /\ Grow [A5 .lb,A5 .df,A5 .lg] H2 H' /\ NetAt K C H' (extA A5 ns.nd lt) (((zA gone ns (2 ^ ns.k)).1.take j).foldl doW (gotS gone ns))) ⟨_,_,_,_,_,_,rfl,Grow.refl _ _,hn2⟩ (fun j σ H' _ ⟨_,_,_,_,_,_,_,g,_⟩=>SqL.of (g.keep _ _ (by
  have h1:=nq0 .lb trivial
  have h2:=nq0 .df trivial
  have h3:=nq0 .lg trivial
  simp only [List.mem_cons,List.not_mem_nil,or_false,not_or]
  exact ⟨h1.symm,h2.symm,h3.symm⟩) htv2)) ?_ ?_⟩
 rotate_left
 ·rintro σ H' ⟨e3,e4,e5,e6,e7,e8,rfl,g,hn'⟩
  rw [tlen,List.take_length] at hn'
  refine q _ _ ?_ ⟨fun a ha=>xG ha,by rw [wV]; exact hlt⟩ hn'
  have G:Grow (lt :: ms) H H':=(g0.wk (m:=lt :: ms)).trans (G2.trans (g.mono fun b hb=>by
   simp only [List.mem_cons,List.not_mem_nil,or_false] at hb
   rcases hb with rfl | rfl | rfl
   ·exact List.mem_cons_of_mem _ (hm .lb trivial)
   ·exact List.mem_cons_of_mem _ (hm .df trivial)
   ·exact List.mem_cons_of_mem _ (hm .lg trivial)))
  exact G.less fun b hb=>by
   rcases List.mem_cons.mp hb with rfl | hb
   ·exact .inr hlt
   ·exact .inl hb
 rintro j x σ H3 hx ⟨e3,e4,e5,e6,e7,e8,rfl,g3,hn3⟩
 obtain ⟨w5,hw5,r,rd,rn,rm,mv,rfl,w1,w2,w3,w4,w6⟩:=hta2.get hx
 rw [xE hw5]
 have D:=doF (l:=(zA gone ns (2 ^ ns.k)).1.take j) (ns:=gotS gone ns)
 have wok:=wtk w5 (List.mem_of_getElem? hw5)
 have sumj:lsum nlen ((zA gone ns (2 ^ ns.k)).1.take j) + w5.nums.length <= lsum nlen (zA gone ns (2 ^ ns.k)).1:=by
  have e:(zA gone ns (2 ^ ns.k)).1 = (zA gone ns (2 ^ ns.k)).1.take j ++ w5 :: (zA gone ns (2 ^ ns.k)).1.drop (j + 1):=by
   obtain ⟨hj,e⟩:=List.getElem?_eq_some_iff.mp hw5
   rw [← e,← List.drop_eq_getElem_cons hj,List.take_append_drop]
  have:=congrArg (lsum nlen) e
  rw [we,zS] at this
  have e2:nlen w5 = w5.nums.length:=rfl
  omega
 have hl:=uw (l:=(zA gone ns (2 ^ ns.k)).1.take j)
 generalize ((zA gone ns (2 ^ ns.k)).1.take j).foldl doW (gotS gone ns) = n3 at hn3 D ⊢
 have fl:=nr.fl
 refine ⟨r,_,rfl,g3.sqT w1,rfl,_,_,rfl,_,_,rfl,_,_,rfl,_,_,rfl,rfl,_,rfl,_,_,_,rfl,hn3.ob.choose_spec,Ys,_,rfl,_,rfl,_,_,_,rfl,extA A5 ns.nd lt,n3,w5.box,w5.nums,rn,rfl,rfl,rfl,g3.sqT w3,hn3,?_,?_,?_,?_,fun H4 g4 hn4=>⟨_,_,_,_,_,_,rfl,g3.trans g4,hn4⟩⟩
 ·rw [D.bl]; exact wok.bx
 ·rw [D.asks]; exact wok.nm
 ·rw [D.log,List.length_append,hl]; show ns.log.length + _ + _ <= 40; omega
 ·have:=D.fl
  have e:(gotS gone ns).fnd = ns.fnd:=rfl
  rw [e,hl] at this
  omega
theorem z8:FnScope ["self","stage","box","deed","numbers","met","switch"] ["self"] (zf (zj (top 45) 4)):=⟨rfl,rfl,rfl,by decide +kernel,rfl,by decide +kernel,by decide +kernel⟩
theorem rB (F:Fun K "forget" "Net.forget" (zj (top 45) 4) f fd) (B:Blt mg) {C:Addr} (T:NTxt K mg C) (mc_done_ago:zx P w K mg base C n "done_ago" ["self","many"] (sV C K))      :
  FnOk P w K mg base CX0 (n + 1) f fd ["self"] (vi C K):=by
 refine F.ok z8 yJ (fun cdv A outer s H vs Q E hr h=>?_)
 obtain ⟨x,rfl,A5,ns,rfl,hn,nr,q⟩:=h
 refine ⟨_,(zi (yG PassesOwn.never rfl (vQ rfl B.range (za zd (za (zp ya (zy (pv 0) rfl) zd) zb))) (zk (i:=1) z8.nd rfl (Or.inl rfl)) (zi (yG PassesOwn.never rfl (XZ (K:=K) rfl (z6 mc_done_ago T.cl hr (pv 0) (za (zp ya (zp zY (zy (pv 0) rfl) (pv 1)) zd) zb))) (xJ rfl (zo (zk (i:=2) z8.nd rfl (Or.inl rfl)) (zo (zk (i:=3) z8.nd rfl (Or.inl rfl)) (zo (zk (i:=4) z8.nd rfl (Or.inl rfl)) (zo (zk (i:=5) z8.nd rfl (Or.inl rfl)) yn))))) (zi (yG PassesOwn.never rfl (rK (pv 5)) (zk (i:=6) z8.nd rfl (Or.inl rfl)) (zi (z9 (zI wJ (yq y9 (pv 6) zd (fun _ _=>rfl)) (pv 1) (zP _)) (zi (Xu (Room.u1F hr) (zy (pv 0) rfl) (pv 6) zd Te (fun _ _ _=>rfl))) zw)))))))),?_⟩
 have k4:=nr.k4
 refine ⟨_,rfl,_,C,_,_,_,rfl,hn.ob.choose_spec,T.cl,T.n_depth,zT,_,_,rfl,rfl,_,_,rfl,⟨by decide,by decide,by omega,by omega⟩,yd (fun i σ H'=>∃ e1 e2 e3 e4 e5 e6,σ = [some (.ref (A5 .p)),e1,e2,e3,e4,e5,e6] /\ Grow [A5 .dk] H H' /\ NetAt K C H' A5 { ns with keep:=(List.range i).foldl (fun kp i=>fgS ns kp (i + 1)) ns.keep }) ⟨_,_,_,_,_,_,rfl,Grow.refl _ _,hn⟩ ?_ ?_⟩
 rotate_left
 ·rintro σ H' ⟨e1,e2,e3,e4,e5,e6,rfl,g,hn'⟩
  have e:((ns.k:Int) + 1 - 1).toNat = ns.k:=by omega
  rw [e] at hn'
  exact q _ g hn'
 rintro i σ H1 hi ⟨e1,e2,e3,e4,e5,e6,rfl,g1,hn1⟩
 rw [zF]
 generalize (List.range i).foldl (fun kp i=>fgS ns kp (i + 1)) ns.keep = kp at hn1 ⊢
 have ik:i < ns.k:=by omega
 refine ⟨_,rfl,_,_,_,rfl,hn1.ob.choose_spec,uu,_,rfl,_,C,_,_,_,rfl,hn1.ob.choose_spec,T.cl,T.n_depth,zT,_,rfl,_,_,rfl,rfl,_,_,rfl,rfl,_,_,rfl,A5,_,ns.k - (i + 1) + 1,rfl,congrArg V.int (by show (ns.k:Int) - (1 + i) + 1 = _; omega),hn1,fun z H2 g2 hz=>?_⟩
 have hn2:=hn1.grow0 g2
 have g12:Grow [A5 .dk] H H2:=g1.trans (g2.mono (by simp))
 have eago:agoS ({ ns with keep:=kp }:NS) (ns.k - (i + 1) + 1) = agoS ns (ns.k - (i + 1) + 1):=rfl
 rw [eago] at hz
 have efg:fgS ns kp (i + 1) = (agoS ns (ns.k - (i + 1) + 1)).foldl (fgW (i + 1)) kp:=rfl
 rw [efg]
 rcases hz with ⟨t,t1,t2,rfl,ews⟩ | ⟨a,rfl,sa,ews⟩
 rotate_left
 ·rw [ews]
  exact ⟨a,rfl,.inr ⟨⟨_,sa⟩,sf (xs:=[]) (fun j σ H'=>∃ e1 e2 e3 e4 e5 e6,σ = [some (.ref (A5 .p)),e1,e2,e3,e4,e5,e6] /\ H' = H2) ⟨_,_,_,_,_,_,rfl,rfl⟩ (fun j σ H' _ ⟨_,_,_,_,_,_,_,e⟩=>e ▸ sa) (fun j x σ H' hx=>by simp at hx) (fun σ H' ⟨e1,e2,e3,e4,e5,e6,e,eH⟩=>⟨e1,e2,e3,e4,e5,e6,e,eH ▸ g12,eH ▸ hn2⟩)⟩⟩
 rw [ews]
 have t2':t <= ns.nd:=t2
 obtain ⟨ys,hys,hw⟩:=hn2.dn (t:=t) t1 t2'
 have hw':AllR (WtAt K H2) ys (ns.done t):=hw
 have nek:A5 (.dn t) ≠ A5 .dk:=nd5 hn2 (a:=.dn t) (b:=.dk) ⟨t1,t2'⟩ trivial (by simp)
 have kmem:A5 (.dn t) ∉ [A5 .dk]:=by simpa using nek
 refine ⟨_,rfl,.inl ⟨⟨_,SqL.of hys⟩,vH (xs:=ys) (fun j σ H'=>∃ e2 e3 e4 e5 e6,σ = [some (.ref (A5 .p)),some (.int (1 + (i:Int))),e2,e3,e4,e5,e6] /\ Grow [A5 .dk] H2 H' /\ NetAt K C H' A5 { ns with keep:=((ns.done t).take j).foldl (fgW (i + 1)) kp }) ⟨_,_,_,_,_,rfl,Grow.refl _ _,hn2⟩ (fun j σ H' _ ⟨_,_,_,_,_,_,g,_⟩=>SqL.of (g.keep _ _ kmem hys)) ?_ ?_⟩⟩
 rotate_left
 ·rintro σ H' ⟨e2,e3,e4,e5,e6,rfl,g,hn'⟩
  rw [hw'.len,List.take_length] at hn'
  exact ⟨_,_,_,_,_,_,rfl,g12.trans g,hn'⟩
 rintro j x σ H3 hx ⟨e2,e3,e4,e5,e6,rfl,g3,hn3⟩
 obtain ⟨w5,hw5,r,rd,rn,rm,mv,rfl,w1,w2,w3,w4,w6⟩:=hw'.get hx
 rw [xE hw5]
 generalize ((ns.done t).take j).foldl (fgW (i + 1)) kp = kp3 at hn3 ⊢
 have wok:=nr.dw t t1 t2' w5 (List.mem_of_getElem? hw5)
 refine ⟨r,_,rfl,g3.sqT w1,rfl,_,_,rfl,_,_,rfl,_,_,rfl,_,_,rfl,rfl,?_⟩
 have ml:=w6.len
 refine ⟨_,rfl,rm,rfl,⟨_,g3.sqT w4⟩,sf (xs:=mv) (fun p σ H'=>∃ e6,σ = [some (.ref (A5 .p)),some (.int (1 + (i:Int))),some (.int w5.box),some (.ref rd),some (.ref rn),some (.ref rm),e6] /\ Grow [A5 .dk] H2 H' /\ NetAt K C H' A5 { ns with keep:=(w5.met.take p).foldl (fgM (i + 1)) kp3 }) ⟨_,rfl,g3,hn3⟩ (fun p σ H' _ ⟨_,_,g,_⟩=>g.sqT w4) ?_ ?_⟩
 rotate_left
 ·rintro σ H' ⟨e6,rfl,g,hn'⟩
  rw [ml,List.take_length] at hn'
  exact ⟨_,_,_,_,_,rfl,g,hn'⟩
 rintro p x σ H4 hx ⟨e6,rfl,g4,hn4⟩
 obtain ⟨sw,hsw,rs,rfl,hs⟩:=w6.get hx
 rw [xE hsw]
 generalize (w5.met.take p).foldl (fgM (i + 1)) kp3 = kp4 at hn4 ⊢
 have hs4:=g4.tup _ _ hs
 obtain ⟨m1,m2,m3⟩:=wok.mt sw (List.mem_of_getElem? hsw)
 refine ⟨_,rfl,rs,_,0,_,rfl,rfl,Sc hs4,zO (j:=0) rfl,_,rfl,rfl,_,rfl,?_⟩
 by_cases c:sw.1 = i + 1
 rotate_left
 ·refine yD (decide_eq_false fun z=>c (by have:=V.int.inj z; omega)) ⟨_,rfl,g4,?_⟩
  rw [show fgM (i + 1) kp4 sw = kp4 from if_neg c]; exact hn4
 refine yY (decide_eq_true (congrArg V.int (by omega))) ⟨_,rfl,_,C,_,_,_,rfl,hn4.ob.choose_spec,T.cl,T.n_keeping,wf,_,rfl,_,_,rfl,(wT (kp:=kp4) m1 m2 m3) ▸ DGet.t hn4.dk (yV hs4),_,_,rfl,rfl,_,DPut.t hn4.dk (yV hs4) (zr (Nat.le_of_lt (ZD k4))),?_⟩
 have ep:putK (zW ns.k kp4) (kI [(sw.1:Int),(sw.2:Int)]) (.int (kp4 sw.1 sw.2 - 1)) = zW ns.k (updL kp4 sw.1 sw.2 (kp4 sw.1 sw.2 - 1)):=ZC m1 m2 m3
 obtain ⟨hn5,g5⟩:=hn4.setK (updL kp4 sw.1 sw.2 (kp4 sw.1 sw.2 - 1))
 refine ⟨_,rfl,g4.trans ?_,?_⟩
 ·show Grow _ _ (upd H4 (A5 .dk) (.dT (putK (zW ns.k kp4) (kI [(sw.1:Int),(sw.2:Int)]) (.int (kp4 sw.1 sw.2 - 1)))))
  rw [ep]; exact g5
 ·show NetAt K C (upd H4 (A5 .dk) (.dT (putK (zW ns.k kp4) (kI [(sw.1:Int),(sw.2:Int)]) (.int (kp4 sw.1 sw.2 - 1))))) A5 _
  rw [ep,show fgM (i + 1) kp4 sw = updL kp4 sw.1 sw.2 (kp4 sw.1 sw.2 - 1) from if_pos c]; exact hn5
theorem wD:FnScope ["self","lost","gone","stage"] ["self","lost"] (zf (zj (top 45) 2)):=⟨rfl,rfl,rfl,by decide +kernel,rfl,by decide +kernel,by decide +kernel⟩
theorem uK (F:FunD K "beat" "Net.beat" (zj (top 45) 2) f fd) (B:Blt mg) {C:Addr} (T:NTxt K mg C) (mc_tell:zx P w K mg base C n "tell" ["self"] (sZ C K)) (mc_pass_on:zx P w K mg base C n "pass_on" ["self","stage","gone"] (sY C K)) (mc_take:zx P w K mg base C n "take" ["self","gone"] (sW C K)) (mc_forget:zx P w K mg base C n "forget" ["self"] (vi C K)) (qc0:zn P w K mg base n "need_lost" ["k","thing"] (qL K))     :
  FnOk P w K mg base CX0 (n + 1) f fd ["self","lost"] (wW C K):=by
 refine F.ok wD yg (fun cdv A outer s H vs Q E hr h=>?_)
 obtain ⟨x,y,rfl,A5,ns,gone,ms,rfl,hg,hok,hn,nr,hnd,nw,nt,hm,q⟩:=h
 refine ⟨_,(zc (zG (i:=2) wD.nd rfl (Or.inl rfl) (se (vt (u4 (pv 1))) (zN zb) (pv 1))) (zc (zK (zh qc0 hr rfl (za (zy (pv 0) rfl) (za (pv 2) zb)))) (zc (Y1 (pv 0) zd Vu) (zc (zK (xT mc_forget T.cl hr (pv 0))) (zc (zK (z6 mc_take T.cl hr (pv 0) (za (pv 2) zb))) (zc (yG PassesOwn.never rfl (Xr rfl B.range (za (zy (pv 0) rfl) (za zd (za (Ww Zh zd) zb)))) (zk (i:=3) wD.nd rfl (Or.inl rfl)) (zi (zK (z6 mc_pass_on T.cl hr (pv 0) (za (pv 3) (za (pv 2) zb)))))) (zi (zu (xT mc_tell T.cl hr (pv 0)))))))))),?_⟩
 have k4:=nr.k4
 refine Yg (fun z H1=>Grow [] H H1 /\ xM K H1 z gone) (fun R hR=>?_) fun z H1 ⟨g1,hg1⟩=>?_
 ·rcases hg with ⟨rfl,rfl⟩ | hg
  ·refine ⟨_,rfl,_,rfl,iteT ⟨szl rfl,fun t ht=>hR _ _ ⟨Grow.new ht _,t,[],rfl,SqT.of ze,trivial,by decide⟩⟩⟩
  ·obtain ⟨r,ys,rfl,hg'⟩:=hg
   exact ⟨_,rfl,_,rfl,iteF ⟨_,rfl,hR _ _ ⟨Grow.refl _ _,r,ys,rfl,hg'⟩⟩⟩
 have hn1:=hn.grow0 g1
 refine ⟨_,rfl,_,C,_,_,_,rfl,hn1.ob.choose_spec,T.cl,T.n_depth,zT,_,rfl,_,_,rfl,ns.k,gone,rfl,hg1,k4,hok,fun H2 g2=>?_⟩
 have hn2:=hn1.grow0 g2
 have hg2:=hg1.grow g2
 obtain ⟨dx,ho⟩:=hn2.ob
 obtain ⟨hn3,g3⟩:=hn2.setNow ho (ns.now + 1)
 refine ⟨_,rfl,_,C,dx,_,_,rfl,ho,T.cl,T.n_now,ZF,_,_,rfl,rfl,dx,_,ho,by show (12:Nat) < 1000; decide,?_⟩
 have G3:Grow ms H _:=(g1.trans g2).wk.trans (g3.mono (m':=ms) fun b hb=>by rw [List.mem_singleton.mp hb]; exact hm .p trivial)
 have hg3:=hg2.grow g3
 have et:(fun i j:Int=>i + j) (ns.now:Int) 1 = ((ns.now + 1:Nat):Int):=rfl
 have hn3:NetAt K C _ A5 (zz ns):=hn3
 rw [et]
 generalize upd H2 (A5 .p) _ = H3 at hn3 g3 G3 hg3 ⊢
 have nr3:=nr.tick nw
 refine ⟨_,rfl,_,_,_,rfl,hn3.ob.choose_spec,XX,_,rfl,A5,zz ns,rfl,hn3,nr3,fun H4 g4 hn4=>?_⟩
 have nr4:=nr3.forget
 have G4:Grow ms H H4:=G3.trans (g4.mono (m':=ms) fun b hb=>by rw [List.mem_singleton.mp hb]; exact hm .dk trivial)
 have hg4:=hg3.grow g4
 have hnd4:(zm (zz ns)).nd + 1 = (zm (zz ns)).now:=by show ns.nd + 1 = ns.now + 1; omega
 refine ⟨_,rfl,_,_,_,rfl,hn4.ob.choose_spec,UH,_,rfl,_,_,rfl,A5,zm (zz ns),gone,ms,rfl,hg4,hn4,nr4,hnd4,fun a ha=>hm a (by cases a <;> exact ha),fun A' H5 g5 ex hn5=>?_⟩
 have nr5:=nr4.take (gone:=gone) hnd4
 have TD:=Wc gone (zm (zz ns))
 have eA:A' .p = A5 .p:=ex.1 .p trivial
 have G5:=G4.trans g5
 have hg5:=hg4.grow g5
 have ek5:(ym gone (zm (zz ns))).k = ns.k:=TD.k
 have nq5:∀ a,okA (ym gone (zm (zz ns))) a -> A' a ∈ A' (.dn (ns.nd + 1)) :: ms:=fun a ha=>by
  by_cases c:a = .dn (ns.nd + 1)
  ·rw [c]; exact List.mem_cons_self ..
  ·have ho:okA ns a:=by
    cases a with
    | ln l j=>exact ⟨by rw [← ek5]; exact ha.1,by rw [← ek5]; exact ha.2⟩
    | dn t =>
     have h2:t <= (ym gone (zm (zz ns))).nd:=ha.2
     rw [TD.nd] at h2
     have h2:t <= ns.nd + 1:=h2
     refine ⟨ha.1,?_⟩
     have:t ≠ ns.nd + 1:=fun e=>c (by rw [e])
     omega
    | _=>trivial
   rw [ex.1 a (by cases a <;> exact ho)]
   exact List.mem_cons_of_mem _ (hm a ho)
 have hdn:H (A' (.dn (ns.nd + 1))) = none:=by
  have z4:H4 (A' (.dn (ns.nd + 1))) = none:=ex.2
  have z3:H3 (A' (.dn (ns.nd + 1))) = none:=g4.free (fun z=>by rw [List.mem_singleton.mp z,hn4.dk] at z4; cases z4) z4
  have z2:H2 (A' (.dn (ns.nd + 1))) = none:=g3.free (fun z=>by
   obtain ⟨dx,ho⟩:=hn3.ob
   rw [List.mem_singleton.mp z,ho] at z3; cases z3) z3
  exact (g1.trans g2).free (by simp) z2
 have exA:Ext5 H A5 A' ns:=⟨fun a ha=>ex.1 a (by cases a <;> exact ha),hdn⟩
 rw [← eA]
 have egone:zX gone ns = passA gone (ym gone (zm (zz ns))) ns.k:=rfl
 have ebeat:beatS gone ns = XU (zX gone ns):=rfl
 rw [ebeat] at q
 rw [egone] at q nt
 clear egone ebeat TD
 generalize ym gone (zm (zz ns)) = n5 at *
 have e0:((n5.k:Int) - 0).toNat = n5.k:=by omega
 refine ⟨_,rfl,_,C,_,_,_,rfl,hn5.ob.choose_spec,T.cl,T.n_depth,zT,_,rfl,_,_,rfl,by omega,by omega,by omega,by omega,Yb (fun i σ H'=>∃ e3,σ = [some (.ref (A' .p)),some y,some z,e3] /\ Grow (A' (.dn (ns.nd + 1)) :: ms) H5 H' /\ NetAt K C H' A' (passA gone n5 i)) ⟨_,rfl,Grow.refl _ _,hn5⟩ ?_ ?_⟩
 ·rintro i σ H6 hi ⟨e3,rfl,g6,hn6⟩
  rw [e0] at hi
  have sm:=y7 gone n5 i
  have nr6:=nr5.passA (gone:=gone) (i:=i) (by omega)
  rw [vn]
  generalize passA gone n5 i = n6 at hn6 sm nr6 ⊢
  have ek6:=sm.k
  exact ⟨_,rfl,_,_,_,rfl,hn6.ob.choose_spec,Yt,_,rfl,_,rfl,_,_,_,rfl,A',n6,n6.k - i,gone,A' (.dn (ns.nd + 1)) :: ms,rfl,congrArg V.int (by omega),hg5.grow g6,by omega,by omega,hn6,nr6,fun a ha=>nq5 a (ZL sm ha),fun H7 g7 hn7=>⟨_,rfl,g6.trans g7,hn7⟩⟩
 rintro σ H6 ⟨e3,rfl,g6,hn6⟩
 rw [e0,ek5] at hn6
 have sm:=y7 gone n5 ns.k
 have nr6:=nr5.passA (gone:=gone) (i:=ns.k) (by omega)
 refine ⟨_,rfl,_,_,_,rfl,hn6.ob.choose_spec,UI,_,rfl,A',passA gone n5 ns.k,A' (.dn (ns.nd + 1)) :: ms,rfl,hn6,nr6,nt,fun a ha=>nq5 a (ZL sm ha),fun u l H7 g7 hn7 tel pm pw=>?_⟩
 have G7:Grow (A' (.dn (ns.nd + 1)) :: ms) H H7:=(G5.mono (m':=A' (.dn (ns.nd + 1)) :: ms) fun b hb=>List.mem_cons_of_mem _ hb).trans (g6.trans g7)
 exact q A' u l H7 (G7.less fun b hb=>by
  rcases List.mem_cons.mp hb with rfl | hb
  ·exact .inr hdn
  ·exact .inl hb) exA hn7 tel pm pw
theorem YJ:FnScope ["self"] ["self"] (zf (zj (top 45) 12)):=⟨rfl,rfl,rfl,by decide +kernel,rfl,by decide +kernel,by decide +kernel⟩
theorem YK (F:Fun K "log" "Net.log" (zj (top 45) 12) f fd) (B:Blt mg) {C:Addr} (T:NTxt K mg C)      :
  FnOk P w K mg base CX0 (n + 1) f fd ["self"] (jT C K):=by
 refine F.ok YJ yJ (fun cdv A outer s H vs Q E hr h=>?_)
 obtain ⟨x,rfl,A5,ns,rfl,hn,hl,q⟩:=h
 refine ⟨_,(zi (zu (yp yz rfl B.tuple xj (za (zy (pv 0) rfl) zb)))),?_⟩
 have e:yt ns.log = (ns.log.map Int.ofNat).map V.int:=by rw [List.map_map]; rfl
 exact ⟨_,rfl,_,C,_,_,_,rfl,hn.ob.choose_spec,T.cl,T.n_logged,qH,_,_,rfl,.inl ⟨SqL.of hn.lg,fun l hl=>q _ _ (Grow.new hl _) ⟨l,rfl,by rw [← e]; exact SqT.of ze⟩⟩⟩
theorem jg:FnScope ["k","thing"] ["k","thing"] (zf (top 29)):=⟨rfl,rfl,rfl,by decide +kernel,rfl,by decide +kernel,by decide +kernel⟩
theorem jh (F:Fun K "need_hand" "need_hand" (top 29) f fd) (B:Blt mg) (qc0:zn P w K mg base n "is_line" ["k","thing"] (x8 K))     :
  FnOk P w K mg base CX0 (n + 1) f fd ["k","thing"] (vy K):=by
 refine F.ok jg yg (fun cdv A outer s H vs Q E hr h=>?_)
 obtain ⟨x,y,rfl,k,l,rfl,rfl,k4,hl,q⟩:=h
 refine ⟨_,(zi (z9 (yw (yo (zh qc0 hr rfl (za (pv 0) (za (pv 1) zb))))) (zi yP) zw)),?_⟩
 exact ⟨_,rfl,_,rfl,_,_,rfl,k,l,rfl,rfl,k4,hl,_,rfl,iteF q⟩
theorem Wq:FnScope ["thing"] ["thing"] (zf (top 13)):=⟨rfl,rfl,rfl,by decide +kernel,rfl,by decide +kernel,by decide +kernel⟩
theorem Wr (F:Fun K "is_end" "is_end" (top 13) f fd) (B:Blt mg) (qc0:zn P w K mg base n "is_whole" ["thing"] (xb K))     :
  FnOk P w K mg base CX0 (n + 1) f fd ["thing"] (rZ K):=by
 refine F.ok Wq yJ (fun cdv A outer s H vs Q E hr h=>?_)
 obtain ⟨x,rfl,kn,q⟩:=h
 refine ⟨_,(zi (zu (V1 (Ta (u4 (pv 0))) (wH (zh qc0 hr rfl (za (pv 0) zb)))))),?_⟩
 refine ⟨x,rfl,_,rfl,?_⟩
 cases x with
 | non=>exact iteT q
 | _=>exact iteF ⟨_,rfl,_,rfl,kn,q⟩
theorem wl:FnScope ["thing","add","low","high"] ["thing"] (zf (top 14)):=⟨rfl,rfl,rfl,by decide +kernel,rfl,by decide +kernel,by decide +kernel⟩
theorem YL (F:Fun K "is_deed" "is_deed" (top 14) f fd) (B:Blt mg) (qc0:zn P w K mg base n "is_end" ["thing"] (rZ K)) (qc1:zn P w K mg base n "is_whole" ["thing"] (xb K))     :
  FnOk P w K mg base CX0 (n + 1) f fd ["thing"] (tq K):=by
 refine F.ok wl yJ (fun cdv A outer s H vs Q E hr h=>?_)
 obtain ⟨x,rfl,h⟩:=h
 refine ⟨_,(zc (z9 (PW.pt (t7 (yw (yo (zq xB rfl B.isinstance yf (za (pv 0) (za (ua rfl B.tuple xj) zb))))) (wF (zI Wx (zq zC rfl B.len wL (za (pv 0) zb)) zd (zP _))))) (zi (zu vN)) zw) (zc (xK (pv 0) (xJ rfl (zo (zk (i:=1) wl.nd rfl (Or.inl rfl)) (zo (zk (i:=2) wl.nd rfl (Or.inl rfl)) (zo (zk (i:=3) wl.nd rfl (Or.inl rfl)) yn))))) (zc (z9 (yw (PW.pt (wG (yo (zh qc1 hr rfl (za (pv 1) zb))) (wG (yo (zh qc0 hr rfl (za (pv 2) zb))) (xO (yo (zh qc0 hr rfl (za (pv 3) zb)))))))) (zi (zu vN)) zw) (zc (z9 (PW.pt (t7 (vt (u4 (pv 2))) (wF (vt (u4 (pv 3)))))) (zi (zu vN)) zw) (zi (zu (V1 (xP jm (pv 2) (pv 3) (zP _)) (wH (vO (xP wJ (pv 2) (pv 3) (zP _)) (wH (xP wJ (pv 1) zd (zP _)))))))))))),?_⟩
 rcases h with ⟨T,hT,ty,q⟩ | ⟨a,xs,rfl,hs,hk,q⟩
 ·have kt:PySem.W.kitOne K (.type T) (.type "tuple") = some false:=by
   cases x with
   | non=>cases (show T = "NoneType" from ty); rfl
   | bl y=>cases (show T = "bool" from ty); rfl
   | int i=>cases (show T = "int" from ty); rfl
   | str y=>cases (show T = "str" from ty); rfl
   | byt y=>exact ty.elim
   | flt y=>exact ty.elim
   | ty y=>exact ty.elim
   | ref a =>
    rcases ty with ⟨rfl,xs,hq⟩ | ⟨rfl,xs,hq⟩ | ⟨rfl,kvs,hq⟩
    ·exact absurd rfl hT
    ·rfl
    ·rfl
  exact ⟨_,rfl,_,_,_,false,rfl,ty,kt,_,rfl,iteT (iteT q)⟩
 ·refine ⟨_,rfl,_,_,_,true,rfl,.inl ⟨rfl,xs,hs⟩,rfl,_,rfl,iteF ⟨_,rfl,a,xs,rfl,.inr hs,rfl,_,rfl,?_⟩⟩
  by_cases hl:xs.length = 3
  ·obtain ⟨y1,y2,y3,rfl⟩:=len3 hl
   refine iteF ⟨_,rfl,a,_,rfl,hs,rfl,_,_,rfl,_,_,rfl,_,_,rfl,rfl,?_⟩
   refine ⟨_,rfl,_,rfl,hk y1 (by simp),_,rfl,?_⟩
   refine ite2 (fun c1=>?_) (fun c1=>?_)
   ·obtain ⟨i1,rfl⟩:=Xb c1
    refine ⟨_,rfl,_,rfl,hk y2 (by simp),_,rfl,?_⟩
    refine ite2 (fun c2=>?_) (fun c2=>?_)
    ·obtain ⟨o2,rfl⟩:=VB c2
     refine ⟨_,rfl,_,rfl,hk y3 (by simp),_,rfl,?_⟩
     by_cases c3:endV y3 = true
     ·obtain ⟨o3,rfl⟩:=VB c3
      rw [c3]
      refine iteF ?_
      cases o2 with
      | none=>exact ⟨_,rfl,_,rfl,iteT (iteT (by cases o3 <;> exact q))⟩
      | some l =>
       cases o3 with
       | none=>exact ⟨_,rfl,_,rfl,iteF ⟨_,rfl,_,rfl,iteT q⟩⟩
       | some u =>
        refine ⟨_,rfl,_,rfl,iteF ⟨_,rfl,_,rfl,iteF ?_⟩⟩
        refine ⟨_,rfl,_,rfl,_,_,rfl,rfl,_,rfl,?_⟩
        have q':Q (.bl (decide (l < u) || (decide (l = u) && decide (i1 = 0)))) H:=q
        refine ite2 (fun c=>?_) (fun c=>?_)
        ·rw [c] at q'; exact q'
        ·rw [Bool.eq_false_iff.mpr c] at q'
         refine ⟨_,rfl,_,rfl,rfl,_,rfl,?_⟩
         refine ite2 (fun d=>?_) (fun d=>?_)
         ·have d':l = u:=V.int.inj (of_decide_eq_true d)
          refine ⟨_,rfl,rfl,?_⟩
          rw [decide_eq_true d'] at q'
          have e:decide (V.int i1 = V.int 0) = decide (i1 = 0):=by simp
          rw [e]; exact q'
         ·have d':¬ l = u:=fun z=>d (by rw [z]; simp)
          rw [decide_eq_false d'] at q'
          exact q'
     ·have e:endV y3 = false:=Bool.eq_false_iff.mpr c3
      rw [e]
      refine iteT ?_
      have z:vc [V.int i1,ov o2,y3] = false:=by show (true && (endV (ov o2) && (endV y3 && _))) = false; rw [e]; simp
      rw [z] at q; exact q
    ·have e:endV y2 = false:=Bool.eq_false_iff.mpr c2
     refine iteT ?_
     have z:vc [V.int i1,y2,y3] = false:=by show (true && (endV y2 && (endV y3 && _))) = false; rw [e]; simp
     rw [z] at q; exact q
   ·have e:rY y1 = false:=Bool.eq_false_iff.mpr c1
    refine iteT ?_
    have z:vc [y1,y2,y3] = false:=by show (rY y1 && (endV y2 && (endV y3 && _))) = false; rw [e]; simp
    rw [z] at q; exact q
  ·have e:decide (V.int (xs.length:Int) = V.int 3) = false:=decide_eq_false fun z=>hl (by have:=V.int.inj z; omega)
   rw [e]
   refine iteT ?_
   rw [jq hl] at q; exact q
theorem wZ:FnScope ["board","thing","hand","box","deed"] ["board","thing"] (zf (top 23)):=⟨rfl,rfl,rfl,by decide +kernel,rfl,by decide +kernel,by decide +kernel⟩
theorem Ws (F:Fun K "is_ask" "is_ask" (top 23) f fd) (B:Blt mg) (qc0:zn P w K mg base n "is_deed" ["thing"] (tq K)) (qc1:zn P w K mg base n "is_within" ["thing","least","greatest"] (zR K))   {t_LAST_HAND:Tok} (g_LAST_HAND:mg "LAST_HAND" = some (.int 15 t_LAST_HAND))  :
  FnOk P w K mg base CX0 (n + 1) f fd ["board","thing"] (qM K):=by
 refine F.ok wZ yg (fun cdv A outer s H vs Q E hr h=>?_)
 obtain ⟨x,y,rfl,l,xs,k,rfl,hb,⟨r,rd,rfl,h1,h2⟩,⟨k1,k2,k3,k4,k5⟩,q⟩:=h
 refine ⟨_,(zc (z9 (PW.pt (t7 (yw (yo (zq xB rfl B.isinstance yf (za (pv 1) (za (ua rfl B.tuple xj) zb))))) (wF (zI Wx (zq zC rfl B.len wL (za (pv 1) zb)) zd (zP _))))) (zi (zu vN)) zw) (zc (xK (pv 1) (xJ rfl (zo (zk (i:=2) wZ.nd rfl (Or.inl rfl)) (zo (zk (i:=3) wZ.nd rfl (Or.inl rfl)) (zo (zk (i:=4) wZ.nd rfl (Or.inl rfl)) yn))))) (zi (zu (vO (zh qc1 hr rfl (za (pv 2) (za zd (za (va rfl g_LAST_HAND (show RelV (.int 15) (.int 15 t_LAST_HAND) from ⟨_,rfl⟩)) zb)))) (vO (zh qc1 hr rfl (za (pv 3) (za zd (za (zp zY (zq zC rfl B.len wL (za (pv 0) zb)) zd) zb)))) (wH (zh qc0 hr rfl (za (pv 4) zb))))))))),?_⟩
 refine ⟨_,rfl,_,_,_,true,rfl,.inl ⟨rfl,_,h1⟩,rfl,_,rfl,iteF ⟨_,rfl,r,_,rfl,.inr h1,rfl,_,rfl,iteF ?_⟩⟩
 refine ⟨_,rfl,r,_,rfl,h1,rfl,_,_,rfl,_,_,rfl,_,_,rfl,rfl,?_⟩
 refine ⟨_,rfl,_,_,_,rfl,_,_,_,rfl,rfl,rfl,_,rfl,yY (by rw [decide_eq_true k1,decide_eq_true k2]; rfl) ?_⟩
 refine ⟨_,rfl,_,rfl,l,_,rfl,.inl hb,_,_,rfl,rfl,_,_,_,rfl,_,_,_,rfl,rfl,rfl,_,rfl,yY (by rw [decide_eq_true k3,decide_eq_true (show k.box <= (xs.length:Int) - 1 by omega)]; rfl) ?_⟩
 refine ⟨_,rfl,_,rfl,.inr ⟨rd,_,rfl,h2,?_,?_⟩⟩
 ·intro v hv
  simp only [Deed.vs,List.mem_cons,List.mem_nil_iff,or_false] at hv
  rcases hv with rfl | rfl | rfl
  ·exact Zl
  ·exact Tq _
  ·exact Tq _
 ·rw [Z1 k5]; exact q
theorem xz:FnScope ["self","ask","hand","box","deed","number"] ["self","ask"] (zf (zj (top 45) 1)):=⟨rfl,rfl,rfl,by decide +kernel,rfl,by decide +kernel,by decide +kernel⟩
theorem YM (F:Fun K "put" "Net.put" (zj (top 45) 1) f fd) (B:Blt mg) {C:Addr} (T:NTxt K mg C) (qc0:zn P w K mg base n "need_hand" ["k","thing"] (vy K)) (qc1:zn P w K mg base n "is_ask" ["board","thing"] (qM K))   {t_MOST_ASKS:Tok} (g_MOST_ASKS:mg "MOST_ASKS" = some (.int 40 t_MOST_ASKS))  :
  FnOk P w K mg base CX0 (n + 1) f fd ["self","ask"] (jS C K):=by
 refine F.ok xz yg (fun cdv A outer s H vs Q E hr h=>?_)
 obtain ⟨x,y,rfl,A5,ns,a,ms,rfl,ha,hn,nr,ok,hh,a40,hm,q⟩:=h
 refine ⟨_,(zc (z9 (yw (yo (zh qc1 hr rfl (za (zy (pv 0) rfl) (za (pv 1) zb))))) (zi yP) zw) (zc (xK (pv 1) (xJ rfl (zo (zk (i:=2) xz.nd rfl (Or.inl rfl)) (zo (zk (i:=3) xz.nd rfl (Or.inl rfl)) (zo (zk (i:=4) xz.nd rfl (Or.inl rfl)) yn))))) (zc (zK (zh qc0 hr rfl (za (zy (pv 0) rfl) (za (pv 2) zb)))) (zc (zG (i:=5) xz.nd rfl (Or.inl rfl) (zq zC rfl B.len wL (za (zy (pv 0) rfl) zb))) (zc (z9 (zI wJ (pv 5) (va rfl g_MOST_ASKS (show RelV (.int 40) (.int 40 t_MOST_ASKS) from ⟨_,rfl⟩)) (zP _)) (zi yP) zw) (zc (zK (vF PySem.F.plainAttrs_list PySem.F.slot_list_append PySem.F.type_list_append xR (zy (pv 0) rfl) (za (pv 1) zb))) (zc (zK (vF PySem.F.plainAttrs_list PySem.F.slot_list_append PySem.F.type_list_append xR (xU (Room.u1F hr) (zy (pv 0) rfl) (zN (za zd (za (pv 2) zb))) (fun _ _=>rfl)) (za (zN (za (pv 3) (za (pv 4) (za (zN (za (pv 5) zb)) (za (zN zb) zb))))) zb))) (zi (zu (pv 5)))))))))),?_⟩
 have k4:=nr.k4
 obtain ⟨xs,hla,hxa⟩:=hn.la
 have e1:=hxa.len
 have bl:(ns.boxes.map V.int).length = ns.boxes.length:=List.length_map ..
 refine ⟨_,rfl,_,C,_,_,_,rfl,hn.ob.choose_spec,T.cl,T.n_boxes,vL,_,rfl,_,_,rfl,A5 .lb,_,a,rfl,SqL.of hn.lb,ha,by rw [bl]; exact ok,_,rfl,iteF ?_⟩
 obtain ⟨r,rd,rfl,h1,h2⟩:=ha
 obtain ⟨k1,k2,k3,k5,k6⟩:=ok
 have eh:a.hand = ((a.hand.toNat:Nat):Int):=(Int.toNat_of_nonneg k1).symm
 have eb:a.box = ((a.box.toNat:Nat):Int):=(Int.toNat_of_nonneg k3).symm
 have hh':a.hand.toNat < 2 ^ ns.k:=by omega
 refine ⟨_,rfl,r,_,rfl,h1,rfl,_,_,rfl,_,_,rfl,_,_,rfl,rfl,?_⟩
 refine ⟨_,rfl,_,C,_,_,_,rfl,hn.ob.choose_spec,T.cl,T.n_depth,zT,_,rfl,_,_,rfl,ns.k,a.hand.toNat,rfl,congrArg V.int eh,k4,hh',?_⟩
 have n40:¬ (V.int (ns.asks.length:Int) = V.int 40):=fun h=>by
  have h:(ns.asks.length:Int) = 40:=by injection h
  omega
 refine ⟨_,rfl,_,C,_,_,_,rfl,hn.ob.choose_spec,T.cl,T.n_asks,ut,_,_,rfl,.inl (SqL.of hla),jG (congrArg V.int (congrArg Int.ofNat e1)) ?_⟩
 refine ⟨_,rfl,rfl,_,rfl,yD (decide_eq_false n40) ?_⟩
 have hx2:=hxa.app (.one (show wN K H (.ref r) a from ⟨r,rd,rfl,h1,h2⟩))
 obtain ⟨hn1,g1⟩:=hn.setA hx2
 refine ⟨_,rfl,_,C,_,_,_,rfl,hn.ob.choose_spec,T.cl,T.n_asks,ut,.inl ⟨rfl,_,SqL.of hla⟩,_,rfl,A5 .la,xs,.ref r,rfl,rfl,hla,zr (by omega),?_⟩
 have G1:=g1.mono (m':=ms) fun b hb=>by rw [List.mem_singleton.mp hb]; exact hm .la trivial
 have h21:=g1.sqT h2
 generalize upd H (A5 .la) (.lst (xs ++ [.ref r])) = H1 at hn1 g1 G1 h21 ⊢
 refine ⟨_,rfl,_,C,_,_,_,rfl,hn1.ob.choose_spec,T.cl,T.n_lines,wU,_,rfl,szl rfl,fun t ht=>?_⟩
 have gt:=Grow.new (m:=[]) ht (.tup [.int 0,.int a.hand])
 have kt:upd H1 t (.tup [.int 0,.int a.hand]) t = some (.tup [.int ((0:Nat):Int),.int ((a.hand.toNat:Nat):Int)]):=by rw [ze,← eh]; rfl
 have hn2:=hn1.grow0 gt
 have G2:=G1.trans (gt.wk (m:=ms))
 have h22:=gt.sqT h21
 refine ⟨_,_,rfl,(wS (A:=A5) (Nat.zero_le ns.k) hh') ▸ DGet.t hn2.dl (yV kt),?_⟩
 generalize upd H1 t _ = H2 at gt kt hn2 G2 h22 ⊢
 obtain ⟨ys,hys,hw⟩:=hn2.ln (l:=0) (j:=a.hand.toNat) (Nat.zero_le _) hh'
 have hwl:AllR (WtAt K H2) ys (ns.lines 0 a.hand.toNat):=hw
 have ll:=(qI nr (l:=0) (Nat.zero_le _) hh').1
 have yl:=hwl.len
 refine ⟨.inl ⟨rfl,_,SqL.of hys⟩,_,rfl,_,rfl,_,rfl,szl rfl,fun t1 ht1=>⟨szl rfl,fun t2 ht2=>⟨szl rfl,fun t3 ht3=>?_⟩⟩⟩
 have f1:=Grow.new (m:=[]) ht1 (.tup [.int (ns.asks.length:Int)])
 have f2:=Grow.new (m:=[]) ht2 (.tup [])
 have s1:upd H2 t1 (.tup [.int (ns.asks.length:Int)]) t1 = some (.tup [.int (ns.asks.length:Int)]):=ze
 have s2:upd (upd H2 t1 (.tup [.int (ns.asks.length:Int)])) t2 (.tup []) t2 = some (.tup []):=ze
 have f3:=Grow.new (m:=[]) ht3 (.tup [.int a.box,.ref rd,.ref t1,.ref t2])
 have F3:=f1.trans (f2.trans f3)
 have w0:WtAt K (upd (upd (upd H2 t1 (.tup [.int (ns.asks.length:Int)])) t2 (.tup [])) t3 (.tup [.int a.box,.ref rd,.ref t1,.ref t2])) (.ref t3) ⟨a.box.toNat,a.deed,[ns.asks.length],[]⟩:=by
  refine ⟨t3,rd,t1,t2,[],rfl,?_,F3.sqT h22,SqT.of ((f2.trans f3).tup _ _ s1),SqT.of (f3.tup _ _ s2),trivial⟩
  show SqT K _ t3 [.int ((a.box.toNat:Nat):Int),.ref rd,.ref t1,.ref t2]
  rw [← eb]; exact SqT.of ze
 have hn3:=hn2.grow0 F3
 have G3:=G2.trans (F3.wk (m:=ms))
 have hys3:=F3.keep _ _ (by simp) hys
 have hw3:=hwl.imp fun _ _ z=>z.grow F3
 generalize upd (upd (upd H2 t1 _) t2 _) t3 _ = H3 at w0 hn3 G3 hys3 hw3 ⊢
 obtain ⟨hn4,g4⟩:=hn3.setLn (l:=0) (j:=a.hand.toNat) (Nat.zero_le _) hh' (hw3.app (.one w0))
 refine ⟨_,ys,_,rfl,rfl,hys3,zr (by omega),?_⟩
 exact ⟨_,rfl,q _ (G3.trans (g4.mono fun b hb=>by rw [List.mem_singleton.mp hb]; exact hm (.ln 0 a.hand.toNat) ⟨Nat.zero_le _,hh'⟩)) hn4⟩
theorem j8:FnScope ["thing"] ["thing"] (zf (top 21)):=⟨rfl,rfl,rfl,by decide +kernel,rfl,by decide +kernel,by decide +kernel⟩
theorem j9 (F:Fun K "is_board" "is_board" (top 21) f fd) (B:Blt mg) (qc0:zn P w K mg base n "is_whole" ["thing"] (xb K))   {t_MOST_BOXES:Tok} (g_MOST_BOXES:mg "MOST_BOXES" = some (.int 16 t_MOST_BOXES))  :
  FnOk P w K mg base CX0 (n + 1) f fd ["thing"] (ud K):=by
 refine F.ok j8 yJ (fun cdv A outer s H vs Q E hr h=>?_)
 obtain ⟨x,rfl,b,⟨r,rfl,hs⟩,b1,b2,q⟩:=h
 refine ⟨_,(zc (z9 (PW.pt (t7 (yw (yo (zq xB rfl B.isinstance yf (za (pv 0) (za (ua rfl B.tuple xj) zb))))) (wF (yw (WB Wy Wy zd (zq zC rfl B.len wL (za (pv 0) zb)) (va rfl g_MOST_BOXES (show RelV (.int 16) (.int 16 t_MOST_BOXES) from ⟨_,rfl⟩))))))) (zi (zu vN)) zw) (zi (zu (zq (wM rfl) rfl B.all WI (za (yZ (CSc.of (N':=["value"]) (sub:=[none]) (zf (top 21)) ["thing"] rfl rfl (by decide +kernel) rfl) rfl (rK (pv 0)) (fun _ _ _ _ _ _=>zk (i:=0) (show (["value"]:List Str).Nodup by decide +kernel) rfl (Or.inl rfl)) (fun _ _ _ _ _ _=>yv) (fun _ _ _ _ _ _=>(zh qc0 hr rfl (za (pv 0) zb)))) zb))))),?_⟩
 have hl:(b.map V.int).length = b.length:=List.length_map ..
 refine ⟨_,rfl,_,_,_,true,rfl,.inl ⟨rfl,_,hs⟩,rfl,_,rfl,iteF ?_⟩
 refine ⟨_,rfl,r,_,rfl,.inr hs,_,_,rfl,rfl,_,rfl,yY (decide_eq_true (by rw [hl]; omega)) ⟨_,_,rfl,rfl,_,rfl,yD (by rw [decide_eq_true (show ((b.map V.int).length:Int) <= 16 by rw [hl]; omega)]; rfl) ?_⟩⟩
 refine ⟨_,rfl,r,rfl,⟨_,hs⟩,qe (fun _=>V.bl true) hs (by rw [hl]; omega) ?_ ?_⟩
 ·intro x H1 R hx g k
  obtain ⟨i,_,rfl⟩:=List.mem_map.mp hx
  exact ⟨_,rfl,_,rfl,Zl,k _ (Grow.refl _ _)⟩
 ·intro H1 p g hp
  refine ⟨p,b.map (fun _=>true),rfl,SqL.of (by rw [ze,WQ]),?_⟩
  rw [qf]
  exact q _ (g.trans (Grow.new hp _))
theorem rC:FnScope ["thing"] ["thing"] (zf (top 22)):=⟨rfl,rfl,rfl,by decide +kernel,rfl,by decide +kernel,by decide +kernel⟩
theorem rD (F:Fun K "need_board" "need_board" (top 22) f fd) (B:Blt mg) (qc0:zn P w K mg base n "is_board" ["thing"] (ud K))     :
  FnOk P w K mg base CX0 (n + 1) f fd ["thing"] (wO K):=by
 refine F.ok rC yJ (fun cdv A outer s H vs Q E hr h=>?_)
 obtain ⟨x,rfl,b,hb,b1,b2,q⟩:=h
 refine ⟨_,(zi (z9 (yw (yo (zh qc0 hr rfl (za (pv 0) zb)))) (zi yP) zw)),?_⟩
 exact ⟨_,rfl,_,rfl,b,hb,b1,b2,fun H1 g1=>⟨_,rfl,iteF (q _ g1)⟩⟩
theorem rE:FnScope ["room","kept"] ["room","kept"] (zf (top 41)):=⟨rfl,rfl,rfl,by decide +kernel,rfl,by decide +kernel,by decide +kernel⟩
theorem rF (F:Fun K "need_sizes" "need_sizes" (top 41) f fd) (B:Blt mg) (qc0:zn P w K mg base n "is_within" ["thing","least","greatest"] (zR K))   {t_MOST_KEPT:Tok} (g_MOST_KEPT:mg "MOST_KEPT" = some (.int 6 t_MOST_KEPT)) {t_MOST_ROOM:Tok} (g_MOST_ROOM:mg "MOST_ROOM" = some (.int 6 t_MOST_ROOM))  :
  FnOk P w K mg base CX0 (n + 1) f fd ["room","kept"] (qK K):=by
 refine F.ok rE yg (fun cdv A outer s H vs Q E hr h=>?_)
 obtain ⟨x,y,rfl,room,kept,rfl,rfl,r1,r6,k6,q⟩:=h
 refine ⟨_,(zi (z9 (PW.pt (t7 (yw (yo (zh qc0 hr rfl (za (pv 0) (za zd (za (va rfl g_MOST_ROOM (show RelV (.int 6) (.int 6 t_MOST_ROOM) from ⟨_,rfl⟩)) zb)))))) (wF (yw (yo (zh qc0 hr rfl (za (pv 1) (za zd (za (va rfl g_MOST_KEPT (show RelV (.int 6) (.int 6 t_MOST_KEPT) from ⟨_,rfl⟩)) zb))))))))) (zi yP) zw)),?_⟩
 refine ⟨_,rfl,_,_,_,rfl,_,_,_,rfl,rfl,rfl,_,rfl,yD (by rw [decide_eq_true (show (1:Int) <= room by omega),decide_eq_true (show (room:Int) <= 6 by omega)]; rfl) ?_⟩
 exact ⟨_,rfl,_,_,_,rfl,_,_,_,rfl,rfl,rfl,_,rfl,yD (by rw [decide_eq_true (show (0:Int) <= kept by omega),decide_eq_true (show (kept:Int) <= 6 by omega)]; rfl) q⟩
theorem Za:FnScope ["thing"] ["thing"] (zf (top 26)):=⟨rfl,rfl,rfl,by decide +kernel,rfl,by decide +kernel,by decide +kernel⟩
theorem Zb (F:Fun K "need_net" "need_net" (top 26) f fd) (B:Blt mg) (qc0:zn P w K mg base n "is_within" ["thing","least","greatest"] (zR K))   {t_DEEPEST:Tok} (g_DEEPEST:mg "DEEPEST" = some (.int 4 t_DEEPEST))  :
  FnOk P w K mg base CX0 (n + 1) f fd ["thing"] (ue K):=by
 refine F.ok Za yJ (fun cdv A outer s H vs Q E hr h=>?_)
 obtain ⟨x,rfl,k,rfl,k4,q⟩:=h
 refine ⟨_,(zi (z9 (yw (yo (zh qc0 hr rfl (za (pv 0) (za zd (za (va rfl g_DEEPEST (show RelV (.int 4) (.int 4 t_DEEPEST) from ⟨_,rfl⟩)) zb)))))) (zi yP) zw)),?_⟩
 exact ⟨_,rfl,_,_,_,rfl,_,_,_,rfl,rfl,rfl,_,rfl,yD (by rw [decide_eq_true (show (0:Int) <= k by omega),decide_eq_true (show (k:Int) <= 4 by omega)]; rfl) q⟩
theorem uL:FnScope ["self","k","board","room","kept"] ["self","k","board","room","kept"] (zf (zj (top 45) 0)):=⟨rfl,rfl,rfl,by decide +kernel,rfl,by decide +kernel,by decide +kernel⟩
theorem uM (F:Fun K "__init__" "Net.__init__" (zj (top 45) 0) f fd) (B:Blt mg) {C:Addr} (T:NTxt K mg C) (qc0:zn P w K mg base n "need_board" ["thing"] (wO K)) (qc1:zn P w K mg base n "need_sizes" ["room","kept"] (qK K)) (qc2:zn P w K mg base n "need_net" ["thing"] (ue K))     :
  FnOk P w K mg base CX0 (n + 1) f fd ["self","k","board","room","kept"] (rh C K):=by
 refine F.ok uL Us (fun cdv A outer s H vs Q E hr h=>?_)
 obtain ⟨x,y,z,u,w,rfl,p,dx,k,room,kept,b,rfl,rfl,hb,rfl,rfl,k4,b1,b16,r1,r6,k6,hp,q⟩:=h
 refine ⟨_,(zc (zK (zh qc2 hr rfl (za (pv 1) zb))) (zc (zK (zh qc1 hr rfl (za (pv 3) (za (pv 4) zb)))) (zc (zK (zh qc0 hr rfl (za (pv 2) zb))) (zc (xL (pv 0) (pv 1) rfl) (zc (xL (pv 0) (pv 3) rfl) (zc (xL (pv 0) (pv 4) rfl) (zc (xL (pv 0) (yp rT rfl B.list VA (za (pv 2) zb)) rfl) (zc (xL (pv 0) (xr zb) rfl) (zc (xL (pv 0) zd rfl) (zc (xL (pv 0) (ZI (Room.u1F hr) (CSc.of (N':=["level","line","k"]) (sub:=[none,none,some 1]) (zf (zj (top 45) 0)) ["self","k","board","room","kept"] rfl rfl (by decide +kernel) rfl) rfl (zM rfl B.range (za (zp ya (pv 1) zd) zb)) (fun _ _ _ _ _ _=>zk (i:=0) (show (["level","line","k"]:List Str).Nodup by decide +kernel) rfl (Or.inl rfl)) (fun _ _ _ _ _ _=>(zM rfl B.range (za (zp yQ zd (pv 2)) zb))) (fun _ _ _ _ _ _=>zk (i:=1) (show (["level","line","k"]:List Str).Nodup by decide +kernel) rfl (Or.inl rfl)) (fun _ _ _ _ _ _=>yv) (fun _ _ _ _ _ _=>(zN (za (pv 0) (za (pv 1) zb)))) (fun _ _ _ _ _ _=>(xr zb))) rfl) (zc (xL (pv 0) (ZI (Room.u1F hr) (CSc.of (N':=["stage","number","k"]) (sub:=[none,none,some 1]) (zf (zj (top 45) 0)) ["self","k","board","room","kept"] rfl rfl (by decide +kernel) rfl) rfl (vQ rfl B.range (za zd (za (zp ya (pv 1) zd) zb))) (fun _ _ _ _ _ _=>zk (i:=0) (show (["stage","number","k"]:List Str).Nodup by decide +kernel) rfl (Or.inl rfl)) (fun _ _ _ _ _ _=>(zM rfl B.range (za (zp yQ zd (zp zY (pv 2) zd)) zb))) (fun _ _ _ _ _ _=>zk (i:=1) (show (["stage","number","k"]:List Str).Nodup by decide +kernel) rfl (Or.inl rfl)) (fun _ _ _ _ _ _=>yv) (fun _ _ _ _ _ _=>(zN (za (pv 0) (za (pv 1) zb)))) (fun _ _ _ _ _ _=>zd)) rfl) (zc (xL (pv 0) sJ rfl) (zc (xL (pv 0) (xr zb) rfl) (zc (xL (pv 0) sJ rfl) (zi (xL (pv 0) sJ rfl)))))))))))))))),?_⟩
 have p16:=wx k4
 refine ⟨_,rfl,_,rfl,k,rfl,k4,⟨_,rfl,_,rfl,_,_,rfl,room,kept,rfl,rfl,r1,r6,k6,⟨_,rfl,_,rfl,b,hb,b1,b16,fun H1 g1=>?_⟩⟩⟩
 have hns:∀ l j,(newS k b room kept).lines l j = []:=fun _ _=>rfl
 have P0:Part K C p H H1 (fun _=>p) (newS k b room kept) fun _=>False:=(Part.nil hp).grow0 g1
 have e0:=g1.keep _ _ (by simp) hp
 have hb1:=g1.board hb
 have e1:=e0
 refine ⟨_,rfl,_,rfl,p,C,dx,_,rfl,e0,T.cl,T.n_depth,(by show (0:Nat) < 1000; decide),?_⟩
 rw [X7]
 replace P0:=P0.setP (fs':=([("depth",V.int k)]:List (Str × V))) e0
 replace e0:upd H1 p (.ins C dx ([("depth",V.int k)]:List (Str × V))) p = some (.ins C dx [("depth",V.int k)]):=ze
 replace hb1:=(Grow.setI (m:=[p]) e1 (by simp) (.ins C dx ([("depth",V.int k)]:List (Str × V)))).board hb1
 clear e1
 generalize upd H1 p _ = H2 at P0 e0 hb1 ⊢
 have e1:=e0
 refine ⟨_,rfl,_,rfl,p,C,dx,_,rfl,e0,T.cl,T.n_room,(by show (1:Nat) < 1000; decide),?_⟩
 rw [Vm]
 replace P0:=P0.setP (fs':=([("depth",V.int k),("room",V.int room)]:List (Str × V))) e0
 replace e0:upd H2 p (.ins C dx ([("depth",V.int k),("room",V.int room)]:List (Str × V))) p = some (.ins C dx [("depth",V.int k),("room",V.int room)]):=ze
 replace hb1:=(Grow.setI (m:=[p]) e1 (by simp) (.ins C dx ([("depth",V.int k),("room",V.int room)]:List (Str × V)))).board hb1
 clear e1
 generalize upd H2 p _ = H3 at P0 e0 hb1 ⊢
 have e1:=e0
 refine ⟨_,rfl,_,rfl,p,C,dx,_,rfl,e0,T.cl,T.n_most_kept,(by show (2:Nat) < 1000; decide),?_⟩
 rw [rf]
 replace P0:=P0.setP (fs':=([("depth",V.int k),("room",V.int room),("most_kept",V.int kept)]:List (Str × V))) e0
 replace e0:upd H3 p (.ins C dx ([("depth",V.int k),("room",V.int room),("most_kept",V.int kept)]:List (Str × V))) p = some (.ins C dx [("depth",V.int k),("room",V.int room),("most_kept",V.int kept)]):=ze
 replace hb1:=(Grow.setI (m:=[p]) e1 (by simp) (.ins C dx ([("depth",V.int k),("room",V.int room),("most_kept",V.int kept)]:List (Str × V)))).board hb1
 clear e1
 generalize upd H3 p _ = H4 at P0 e0 hb1 ⊢
 obtain ⟨rb,rfl,hrb⟩:=hb1
 refine ⟨_,rfl,rb,_,rfl,.inr hrb,fun lb hlb=>?_⟩
 replace P0:=P0.add (c:=.lb) (o:=.lst (b.map V.int)) hlb (by simp) rfl (fun a ha o H z=>by cases a <;> first | exact z | exact absurd ha (by simp))
 replace e0:=(Grow.new (m:=[]) hlb (.lst (b.map V.int))).keep _ _ (by simp) e0
 generalize upd H4 lb _ = H5 at P0 e0 ⊢
 refine ⟨_,rfl,p,C,dx,_,rfl,e0,T.cl,T.n_boxes,(by show (3:Nat) < 1000; decide),?_⟩
 rw [X8]
 replace P0:=P0.setP (fs':=([("depth",V.int k),("room",V.int room),("most_kept",V.int kept),("boxes",V.ref lb)]:List (Str × V))) e0
 replace e0:upd H5 p (.ins C dx ([("depth",V.int k),("room",V.int room),("most_kept",V.int kept),("boxes",V.ref lb)]:List (Str × V))) p = some (.ins C dx [("depth",V.int k),("room",V.int room),("most_kept",V.int kept),("boxes",V.ref lb)]):=ze
 generalize upd H5 p _ = H6 at P0 e0 ⊢
 refine ⟨szl rfl,fun la hla=>?_⟩
 replace P0:=P0.add (c:=.la) (o:=.lst []) hla (by simp) ⟨[],rfl,trivial⟩ (fun a ha o H z=>by cases a <;> first | exact z | exact absurd ha (by simp))
 replace e0:=(Grow.new (m:=[]) hla (.lst [])).keep _ _ (by simp) e0
 generalize upd H6 la _ = H7 at P0 e0 ⊢
 refine ⟨_,rfl,p,C,dx,_,rfl,e0,T.cl,T.n_asks,(by show (4:Nat) < 1000; decide),?_⟩
 rw [Vn]
 replace P0:=P0.setP (fs':=([("depth",V.int k),("room",V.int room),("most_kept",V.int kept),("boxes",V.ref lb),("asks",V.ref la)]:List (Str × V))) e0
 replace e0:upd H7 p (.ins C dx ([("depth",V.int k),("room",V.int room),("most_kept",V.int kept),("boxes",V.ref lb),("asks",V.ref la)]:List (Str × V))) p = some (.ins C dx [("depth",V.int k),("room",V.int room),("most_kept",V.int kept),("boxes",V.ref lb),("asks",V.ref la)]):=ze
 generalize upd H7 p _ = H8 at P0 e0 ⊢
 refine ⟨_,rfl,p,C,dx,_,rfl,e0,T.cl,T.n_now,(by show (5:Nat) < 1000; decide),?_⟩
 rw [US]
 replace P0:=P0.setP (fs':=([("depth",V.int k),("room",V.int room),("most_kept",V.int kept),("boxes",V.ref lb),("asks",V.ref la),("now",V.int 0)]:List (Str × V))) e0
 replace e0:upd H8 p (.ins C dx ([("depth",V.int k),("room",V.int room),("most_kept",V.int kept),("boxes",V.ref lb),("asks",V.ref la),("now",V.int 0)]:List (Str × V))) p = some (.ins C dx [("depth",V.int k),("room",V.int room),("most_kept",V.int kept),("boxes",V.ref lb),("asks",V.ref la),("now",V.int 0)]):=ze
 generalize upd H8 p _ = H9 at P0 e0 ⊢
 have L0:LnP K C p dx [("depth",V.int k),("room",V.int room),("most_kept",V.int kept),("boxes",V.ref lb),("asks",V.ref la),("now",V.int 0)] H (newS k b room kept) (fun a=>(False \/ a = .lb) \/ a = .la) (updA (updA (fun _=>p) .lb lb) .la la) (2 ^ k) 0 0 (fun _ _=>.non) H9:=⟨⟨_,P0.sub fun a ha=>by
  cases a with
  | ln x y=>rcases xH.mp ha with ⟨h1,h2,_⟩ | ⟨_,h2⟩ <;> exact absurd h2 (Nat.not_lt_zero _)
  | _=>exact ha,fun q hq=>by rcases xH.mp hq with ⟨h1,h2,_⟩ | ⟨_,h2⟩ <;> exact absurd h2 (Nat.not_lt_zero _),fun a _ _=>rfl⟩,e0⟩
 have e1k:((k:Int) + 1).toNat = k + 1:=by omega
 refine ⟨_,rfl,_,_,rfl,rfl,_,rfl,by omega,by omega,?_⟩
 rw [e1k]
 refine uy (a:=0) (m:=2 ^ k) (e2:=[some (.int k)]) (LnP K C p dx [("depth",V.int k),("room",V.int room),("most_kept",V.int kept),("boxes",V.ref lb),("asks",V.ref la),("now",V.int 0)] H (newS k b room kept) (fun a=>(False \/ a = .lb) \/ a = .la) (updA (updA (fun _=>p) .lb lb) .la la) (2 ^ k)) rfl (by omega) p16 ⟨_,_,rfl⟩ _ L0 ?_ ?_ ?_ ?_
 ·intro i e1 F H' R hi hl r
  refine ⟨_,rfl,_,_,rfl,rfl,wt k4,_,rfl,by rw [shl5]; exact Int.le_trans (by decide) (Int.natCast_nonneg _),by rw [shl5]; exact Int.lt_of_le_of_lt (Int.ofNat_le.mpr p16) (by decide),?_⟩
  rw [shl5,Int.toNat_natCast]; exact r
 ·intro i j F H' KK hi hj hl kk
  refine ⟨_,rfl,_,rfl,szl rfl,fun t ht=>⟨szl rfl,fun l hl'=>?_⟩⟩
  have gt:=Grow.new (m:=[]) ht (.tup [.int ((0 + i:Nat):Int),.int (j:Int)])
  have gl:=Grow.new (m:=[]) hl' (.lst [])
  exact kk t (.ref l) _ (gl.tup _ _ ze) (fun c xs hc=>gl.tup _ _ (gt.tup _ _ hc)) ((hl.grow gt).step (fun l y z=>by rcases z with (z | z) | z <;> cases z) ⟨fun z=>(by rcases z with (z | z) | z <;> cases z),fun z=>(by rcases z with (z | z) | z <;> cases z)⟩ hns hl')
 ·exact fun i F H' hi hl=>hl.row
 clear P0 e0 L0
 intro F H10 lp dl hdl
 obtain ⟨⟨A1,P0,hF,hA⟩,e0⟩:=lp
 have eln:kvP5 F (prs5 0 (2 ^ k) (k + 1) 0) = xt A1 k:=by
  rw [Yz]; exact tW hF
 rw [eln]
 replace P0:=P0.add (c:=.dl) (o:=.dT (xt A1 k)) hdl (fun z=>by rcases z with (z | z) | z <;> cases z) rfl (fun a ha o H z=>by cases a <;> first | exact z | exact absurd ha (by simp [DL]))
 replace e0:=(Grow.new (m:=[]) hdl (.dT (xt A1 k))).keep _ _ (by simp) e0
 have A1b:A1 .lb = lb:=hA .lb (.inl (.inr rfl)) fun _ _=>by simp
 have A1a:A1 .la = la:=hA .la (.inr rfl) fun _ _=>by simp
 generalize upd H10 dl _ = H11 at P0 e0 ⊢
 refine ⟨_,rfl,p,C,dx,_,rfl,e0,T.cl,T.n_lines,(by show (6:Nat) < 1000; decide),?_⟩
 rw [X9]
 replace P0:=P0.setP (fs':=([("depth",V.int k),("room",V.int room),("most_kept",V.int kept),("boxes",V.ref lb),("asks",V.ref la),("now",V.int 0),("lines",V.ref dl)]:List (Str × V))) e0
 replace e0:upd H11 p (.ins C dx ([("depth",V.int k),("room",V.int room),("most_kept",V.int kept),("boxes",V.ref lb),("asks",V.ref la),("now",V.int 0),("lines",V.ref dl)]:List (Str × V))) p = some (.ins C dx [("depth",V.int k),("room",V.int room),("most_kept",V.int kept),("boxes",V.ref lb),("asks",V.ref la),("now",V.int 0),("lines",V.ref dl)]):=ze
 generalize upd H11 p _ = H12 at P0 e0 ⊢
 have e2k:((k:Int) + 1 - 1).toNat = k:=by omega
 have ek1:((2 ^ (k - 1):Nat)) <= 16:=Nat.le_trans (Nat.pow_le_pow_right (by decide) (by omega)) p16
 refine ⟨_,rfl,_,_,rfl,rfl,_,_,rfl,⟨by decide,by decide,by omega,by omega⟩,?_⟩
 rw [e2k]
 refine uy (a:=1) (m:=2 ^ (k - 1)) (e2:=[some (.int k)]) (fun i j F H'=>Grow [] H12 H' /\ ∀ q ∈ prs5 1 (2 ^ (k - 1)) i j,F q.1 q.2 = .int 0) rfl (by omega) ek1 ⟨_,_,rfl⟩ (fun _ _=>.int 0) ⟨Grow.refl _ _,fun _ _=>rfl⟩ ?_ ?_ ?_ ?_
 ·intro i e1 F H' R hi hl r
  have ek:(k:Int) - 1 = ((k - 1:Nat):Int):=by omega
  refine ⟨_,rfl,_,_,rfl,rfl,1,((k - 1:Nat):Int),rfl,congrArg V.int ek,wt (by omega),_,rfl,by rw [shl5]; exact Int.le_trans (by decide) (Int.natCast_nonneg _),by rw [shl5]; exact Int.lt_of_le_of_lt (Int.ofNat_le.mpr ek1) (by decide),?_⟩
  rw [shl5,Int.toNat_natCast]; exact r
 ·intro i j F H' KK hi hj hl kk
  refine ⟨_,rfl,_,rfl,szl rfl,fun t ht=>?_⟩
  have gt:=Grow.new (m:=[]) ht (.tup [.int ((1 + i:Nat):Int),.int (j:Int)])
  refine kk t (.int 0) _ ze (fun c xs hc=>gt.tup _ _ hc) ⟨hl.1.trans gt,fun q hq=>?_⟩
  by_cases c:q.1 = 1 + i /\ q.2 = j
  ·rw [c.1,c.2,zD]
  ·rw [zE c]
   rw [ZJ,List.mem_append] at hq
   rcases hq with hq | hq
   ·exact hl.2 q hq
   ·have:=List.mem_singleton.mp hq
    exact absurd ⟨congrArg Prod.fst this,congrArg Prod.snd this⟩ c
 ·exact fun i F H' hi hl=>⟨hl.1,by rw [← qJ]; exact hl.2⟩
 intro F H13 lp dk hdk
 have ekp:kvP5 F (prs5 1 (2 ^ (k - 1)) k 0) = zW k (fun _ _=>0):=by
  rw [YA]; exact tW lp.2
 rw [ekp]
 replace P0:=P0.grow0 lp.1
 replace e0:=lp.1.keep _ _ (by simp) e0
 replace P0:=P0.add (c:=.dk) (o:=.dT (zW k fun _ _=>0)) hdk (by simp [DL]) rfl (fun a ha o H z=>by cases a <;> first | exact z | exact absurd ha (by simp [DL]))
 replace e0:=(Grow.new (m:=[]) hdk (.dT (zW k fun _ _=>0))).keep _ _ (by simp) e0
 generalize upd H13 dk _ = H14 at P0 e0 ⊢
 refine ⟨_,rfl,p,C,dx,_,rfl,e0,T.cl,T.n_keeping,(by show (7:Nat) < 1000; decide),?_⟩
 rw [jP]
 replace P0:=P0.setP (fs':=([("depth",V.int k),("room",V.int room),("most_kept",V.int kept),("boxes",V.ref lb),("asks",V.ref la),("now",V.int 0),("lines",V.ref dl),("keeping",V.ref dk)]:List (Str × V))) e0
 replace e0:upd H14 p (.ins C dx ([("depth",V.int k),("room",V.int room),("most_kept",V.int kept),("boxes",V.ref lb),("asks",V.ref la),("now",V.int 0),("lines",V.ref dl),("keeping",V.ref dk)]:List (Str × V))) p = some (.ins C dx [("depth",V.int k),("room",V.int room),("most_kept",V.int kept),("boxes",V.ref lb),("asks",V.ref la),("now",V.int 0),("lines",V.ref dl),("keeping",V.ref dk)]):=ze
 generalize upd H14 p _ = H15 at P0 e0 ⊢
 refine fun dd hdd=>?_
 replace P0:=P0.add (c:=.dd) (o:=.dK []) hdd (by simp [DL]) rfl (fun a ha o H z=>by cases a <;> first | exact z | exact absurd ha (by simp [DL]))
 replace e0:=(Grow.new (m:=[]) hdd (.dK [])).keep _ _ (by simp) e0
 generalize upd H15 dd _ = H16 at P0 e0 ⊢
 refine ⟨_,rfl,p,C,dx,_,rfl,e0,T.cl,T.n_done_in,(by show (8:Nat) < 1000; decide),?_⟩
 rw [jQ]
 replace P0:=P0.setP (fs':=([("depth",V.int k),("room",V.int room),("most_kept",V.int kept),("boxes",V.ref lb),("asks",V.ref la),("now",V.int 0),("lines",V.ref dl),("keeping",V.ref dk),("done_in",V.ref dd)]:List (Str × V))) e0
 replace e0:upd H16 p (.ins C dx ([("depth",V.int k),("room",V.int room),("most_kept",V.int kept),("boxes",V.ref lb),("asks",V.ref la),("now",V.int 0),("lines",V.ref dl),("keeping",V.ref dk),("done_in",V.ref dd)]:List (Str × V))) p = some (.ins C dx [("depth",V.int k),("room",V.int room),("most_kept",V.int kept),("boxes",V.ref lb),("asks",V.ref la),("now",V.int 0),("lines",V.ref dl),("keeping",V.ref dk),("done_in",V.ref dd)]):=ze
 generalize upd H16 p _ = H17 at P0 e0 ⊢
 refine ⟨szl rfl,fun lg hlg=>?_⟩
 replace P0:=P0.add (c:=.lg) (o:=.lst []) hlg (by simp [DL]) rfl (fun a ha o H z=>by cases a <;> first | exact z | exact absurd ha (by simp [DL]))
 replace e0:=(Grow.new (m:=[]) hlg (.lst [])).keep _ _ (by simp) e0
 generalize upd H17 lg _ = H18 at P0 e0 ⊢
 refine ⟨_,rfl,p,C,dx,_,rfl,e0,T.cl,T.n_logged,(by show (9:Nat) < 1000; decide),?_⟩
 rw [Yy]
 replace P0:=P0.setP (fs':=([("depth",V.int k),("room",V.int room),("most_kept",V.int kept),("boxes",V.ref lb),("asks",V.ref la),("now",V.int 0),("lines",V.ref dl),("keeping",V.ref dk),("done_in",V.ref dd),("logged",V.ref lg)]:List (Str × V))) e0
 replace e0:upd H18 p (.ins C dx ([("depth",V.int k),("room",V.int room),("most_kept",V.int kept),("boxes",V.ref lb),("asks",V.ref la),("now",V.int 0),("lines",V.ref dl),("keeping",V.ref dk),("done_in",V.ref dd),("logged",V.ref lg)]:List (Str × V))) p = some (.ins C dx [("depth",V.int k),("room",V.int room),("most_kept",V.int kept),("boxes",V.ref lb),("asks",V.ref la),("now",V.int 0),("lines",V.ref dl),("keeping",V.ref dk),("done_in",V.ref dd),("logged",V.ref lg)]):=ze
 generalize upd H18 p _ = H19 at P0 e0 ⊢
 refine fun df hdf=>?_
 replace P0:=P0.add (c:=.df) (o:=.dK []) hdf (by simp [DL]) rfl (fun a ha o H z=>by cases a <;> first | exact z | exact absurd ha (by simp [DL]))
 replace e0:=(Grow.new (m:=[]) hdf (.dK [])).keep _ _ (by simp) e0
 generalize upd H19 df _ = H20 at P0 e0 ⊢
 refine ⟨_,rfl,p,C,dx,_,rfl,e0,T.cl,T.n_found,(by show (10:Nat) < 1000; decide),?_⟩
 rw [Wa]
 replace P0:=P0.setP (fs':=([("depth",V.int k),("room",V.int room),("most_kept",V.int kept),("boxes",V.ref lb),("asks",V.ref la),("now",V.int 0),("lines",V.ref dl),("keeping",V.ref dk),("done_in",V.ref dd),("logged",V.ref lg),("found",V.ref df)]:List (Str × V))) e0
 replace e0:upd H20 p (.ins C dx ([("depth",V.int k),("room",V.int room),("most_kept",V.int kept),("boxes",V.ref lb),("asks",V.ref la),("now",V.int 0),("lines",V.ref dl),("keeping",V.ref dk),("done_in",V.ref dd),("logged",V.ref lg),("found",V.ref df)]:List (Str × V))) p = some (.ins C dx [("depth",V.int k),("room",V.int room),("most_kept",V.int kept),("boxes",V.ref lb),("asks",V.ref la),("now",V.int 0),("lines",V.ref dl),("keeping",V.ref dk),("done_in",V.ref dd),("logged",V.ref lg),("found",V.ref df)]):=ze
 generalize upd H20 p _ = H21 at P0 e0 ⊢
 refine fun da hda=>?_
 replace P0:=P0.add (c:=.da) (o:=.dK []) hda (by simp [DL]) rfl (fun a ha o H z=>by cases a <;> first | exact z | exact absurd ha (by simp [DL]))
 replace e0:=(Grow.new (m:=[]) hda (.dK [])).keep _ _ (by simp) e0
 generalize upd H21 da _ = H22 at P0 e0 ⊢
 refine ⟨_,rfl,p,C,dx,_,rfl,e0,T.cl,T.n_answers,(by show (11:Nat) < 1000; decide),?_⟩
 rw [jR]
 replace P0:=P0.setP (fs':=([("depth",V.int k),("room",V.int room),("most_kept",V.int kept),("boxes",V.ref lb),("asks",V.ref la),("now",V.int 0),("lines",V.ref dl),("keeping",V.ref dk),("done_in",V.ref dd),("logged",V.ref lg),("found",V.ref df),("answers",V.ref da)]:List (Str × V))) e0
 replace e0:upd H22 p (.ins C dx ([("depth",V.int k),("room",V.int room),("most_kept",V.int kept),("boxes",V.ref lb),("asks",V.ref la),("now",V.int 0),("lines",V.ref dl),("keeping",V.ref dk),("done_in",V.ref dd),("logged",V.ref lg),("found",V.ref df),("answers",V.ref da)]:List (Str × V))) p = some (.ins C dx [("depth",V.int k),("room",V.int room),("most_kept",V.int kept),("boxes",V.ref lb),("asks",V.ref la),("now",V.int 0),("lines",V.ref dl),("keeping",V.ref dk),("done_in",V.ref dd),("logged",V.ref lg),("found",V.ref df),("answers",V.ref da)]):=ze
 generalize upd H22 p _ = H23 at P0 e0 ⊢
 have hd:∀ a,okA (newS k b room kept) a -> a ≠ .p -> (((((DL (2 ^ k) (k + 1) 0 (fun a=>(False \/ a = .lb) \/ a = .la) a \/ a = .dl) \/ a = .dk) \/ a = .dd) \/ a = .lg) \/ a = .df) \/ a = .da:=by
  intro a ha hn
  cases a with
  | p=>exact absurd rfl hn
  | ln l j =>
   have h1:l <= k:=ha.1
   have h2:j < 2 ^ k:=ha.2
   exact .inl (.inl (.inl (.inl (.inl (.inl (xH.mpr (.inl ⟨Nat.zero_le _,by show l < 0 + (k + 1); omega,h2⟩)))))))
  | dn t =>
   have h1:1 <= t:=ha.1
   have h2:t <= 0:=ha.2
   omega
  | _=>simp [DL]
 have N:=P0.net (dx:=dx) hd (by simp [DL]) (by
  rw [e0]
  show some (HO.ins C dx [("depth",V.int k),("room",V.int room),("most_kept",V.int kept),("boxes",V.ref lb),("asks",V.ref la),("now",V.int 0),("lines",V.ref dl),("keeping",V.ref dk),("done_in",V.ref dd),("logged",V.ref lg),("found",V.ref df),("answers",V.ref da)]) = some (HO.ins C dx [("depth",V.int k),("room",V.int room),("most_kept",V.int kept),("boxes",V.ref (A1 .lb)),("asks",V.ref (A1 .la)),("now",V.int 0),("lines",V.ref dl),("keeping",V.ref dk),("done_in",V.ref dd),("logged",V.ref lg),("found",V.ref df),("answers",V.ref da)])
  rw [A1b,A1a])
 exact q _ _ P0.g yB (fun a ha hn=>by rw [yC hn]; exact P0.fr a (hd a ha hn)) N
theorem yI:FnScope ["_law_script","_law_j","_law_pot_here","_law_k","_law_turns","_law_many","_law_some","_law_net","_law_asks","_law_turn","_law_ask_here","_law_left","_law_lost_here"] ["_law_script"] (zf (top 55)):=⟨rfl,rfl,rfl,by decide +kernel,rfl,by decide +kernel,by decide +kernel⟩
theorem Sn (F:Fun K "law" "law" (top 55) f fd) (B:Blt mg) {C:Addr} (T:NTxt K mg C) (mc_beat:zx P w K mg base C n "beat" ["self","lost"] (wW C K)) (mc_log:zx P w K mg base C n "log" ["self"] (jT C K)) (mc_put:zx P w K mg base C n "put" ["self","ask"] (jS C K)) (md_beat:wj P w K mg base C n "beat" ["self","lost"] [.none] (wW C K)) (mk_C:xD P w K mg base C n ["self","k","board","room","kept"] (rh C K)) (qc0:zn P w K mg base n "_law_over" ["_law_net","_law_k","_law_many"] (ZT C K)) (qc1:zn P w K mg base n "_law_lost" ["_law_pot_here","_law_k"] (ZS K)) (qc2:zn P w K mg base n "_law_take" ["_law_pot_here","_law_many"] (vd K)) (qc3:zn P w K mg base n "_law_ask" ["_law_pot_here","_law_k","_law_many","_law_some"] (Wi K)) (qc4:zn P w K mg base n "_law_number" ["_law_pot_here"] (jW K)) (qc5:zn P w K mg base n "_law_pot" ["_law_script","_law_k"] (VC K))  (g_sorted:mg "sorted" = none)   :
  FnOk P w K mg base CX0 (n + 1) f fd ["_law_script"] (Zm K):=by
 refine F.ok yI yJ (fun cdv A outer s H vs Q E hr h=>?_)
 obtain ⟨x,rfl,a,sc,rfl,hs,h63,q⟩:=h
 refine ⟨_,(zc (yG PassesOwn.never rfl (zM rfl B.range (za (zq (vR rfl) rfl B.max Uk (za zd (za (zq (vS rfl) rfl B.min Ul (za zd (za (zq zC rfl B.len wL (za (pv 0) zb)) zb))) zb))) zb)) (zk (i:=1) yI.nd rfl (Or.inl rfl)) (zc (zG (i:=2) yI.nd rfl (Or.inr rfl) (zh qc5 hr rfl (za (pv 0) (za (pv 1) zb)))) (zc (xK (zN (za (zh qc2 hr rfl (za (pv 2) (za zd zb))) (za (zp ya zd (zh qc2 hr rfl (za (pv 2) (za zd zb)))) (za (zp ya zd (zh qc2 hr rfl (za (pv 2) (za zd zb)))) zb)))) (xJ rfl (zo (zk (i:=3) yI.nd rfl (Or.inl rfl)) (zo (zk (i:=4) yI.nd rfl (Or.inl rfl)) (zo (zk (i:=5) yI.nd rfl (Or.inr rfl)) yn))))) (zc (Zq (i:=6) yI.nd rfl rfl (CSc.of (N':=["_law_turn","_law_pot_here","_law_many"]) (sub:=[none,some 2,some 5]) (zf (top 55)) ["_law_script","_law_j","_law_pot_here","_law_k","_law_turns","_law_many","_law_some","_law_net","_law_asks","_law_turn","_law_ask_here","_law_left","_law_lost_here"] rfl rfl (by decide +kernel) rfl) rfl (zM rfl B.range (za (zp ya zd (zh qc2 hr rfl (za (pv 2) (za zd zb)))) zb)) (fun _ _ _ _ _ _=>zk (i:=0) (show (["_law_turn","_law_pot_here","_law_many"]:List Str).Nodup by decide +kernel) rfl (Or.inl rfl)) (fun _ _ _ _ _ _=>yv) (fun _ _ _ _ _ _=>(zh qc2 hr rfl (za (pv 1) (za (pv 2) zb))))) (zc (zG (i:=7) yI.nd rfl (Or.inl rfl) (W0 mk_C hr rfl T.mgC (za (pv 3) (za (yp yz rfl B.tuple xj (za (yZ (CSc.of (N':=["_law_box","_law_pot_here"]) (sub:=[none,some 2]) (zf (top 55)) ["_law_script","_law_j","_law_pot_here","_law_k","_law_turns","_law_many","_law_some","_law_net","_law_asks","_law_turn","_law_ask_here","_law_left","_law_lost_here"] rfl rfl (by decide +kernel) rfl) rfl (zM rfl B.range (za (pv 5) zb)) (fun _ _ _ _ _ _=>zk (i:=0) (show (["_law_box","_law_pot_here"]:List Str).Nodup by decide +kernel) rfl (Or.inl rfl)) (fun _ _ _ _ _ _=>yv) (fun _ _ _ _ _ _=>(zh qc4 hr rfl (za (pv 1) zb)))) zb)) (za (zp ya zd (zh qc2 hr rfl (za (pv 2) (za zd zb)))) (za (zh qc2 hr rfl (za (pv 2) (za zd zb))) zb)))))) (zc (zG (i:=8) yI.nd rfl (Or.inl rfl) zd) (zc (yG PassesOwn.never rfl (zM rfl B.range (za (pv 4) zb)) (zk (i:=9) yI.nd rfl (Or.inl rfl)) (zc (yG PassesOwn.never rfl (zM rfl B.range (za (zq (vS rfl) rfl B.min Ul (za (zh qc2 hr rfl (za (pv 2) (za zd zb))) (za (zp zY zd (pv 8)) zb))) zb)) (zk (i:=10) yI.nd rfl (Or.inl rfl)) (zc (zK (z6 mc_put T.cl hr (pv 7) (za (zh qc3 hr rfl (za (pv 2) (za (pv 3) (za (pv 5) (za (pv 6) zb))))) zb))) (zi (zG (i:=8) yI.nd rfl (Or.inl rfl) (zp ya (pv 8) zd))))) (zi (zK (z6 mc_beat T.cl hr (pv 7) (za (zh qc1 hr rfl (za (pv 2) (za (pv 3) zb))) zb)))))) (zc (yG PassesOwn.never rfl (zM rfl B.range (za (zq (vS rfl) rfl B.min Ul (za (zh qc2 hr rfl (za (pv 2) (za zd zb))) (za (zp zY zd (pv 8)) zb))) zb)) (zk (i:=10) yI.nd rfl (Or.inl rfl)) (zc (zK (z6 mc_put T.cl hr (pv 7) (za (zh qc3 hr rfl (za (pv 2) (za (pv 3) (za (pv 5) (za (pv 6) zb))))) zb))) (zi (zG (i:=8) yI.nd rfl (Or.inl rfl) (zp ya (pv 8) zd))))) (zc (zG (i:=11) yI.nd rfl (Or.inl rfl) (zp xC (zp zY (pv 8) (zq zC rfl B.len wL (za (xT mc_log T.cl hr (pv 7)) zb))) (zp ya (pv 3) zd))) (zc (yG PassesOwn.never rfl (zM rfl B.range (za (pv 11) zb)) (zk (i:=9) yI.nd rfl (Or.inl rfl)) (zc (zG (i:=12) yI.nd rfl (Or.inl rfl) (zh qc1 hr rfl (za (pv 2) (za (pv 3) zb)))) (zc (z9 (PW.pt (wG (zI (YD (K:=K) rfl hr) (pv 12) (zN zb) (zP _)) (xO (zI wJ (zh qc2 hr rfl (za (pv 2) (za zd zb))) zd (zP _))))) (zi (zK (z6 mc_beat T.cl hr (pv 7) (za (pv 12) zb)))) zw) (zi (zK (Wj md_beat T.cl hr (pv 7))))))) (zc (z9 (zI (Tv hr) (zq (qk (K:=K) rfl) rfl g_sorted ss (za (xT mc_log T.cl hr (pv 7)) zb)) (qj rfl rfl B.list rfl B.range (za (pv 8) zb)) (zP _)) (zi (zu vN)) zw) (zc (yG PassesOwn.never rfl (zM rfl B.range (za (pv 3) zb)) (zk (i:=9) yI.nd rfl (Or.inl rfl)) (zi (zK (z6 mc_beat T.cl hr (pv 7) (za (zh qc1 hr rfl (za (pv 2) (za (pv 3) zb))) zb))))) (zi (z9 (yw (yo (zh qc0 hr rfl (za (pv 7) (za (pv 3) (za (pv 8) zb)))))) (zi (zu vN)) zw)))))))))))))) (zi (zu vN))),?_⟩
 have hl:(sc.map V.int).length = sc.length:=List.length_map ..
 refine ⟨_,rfl,a,_,rfl,.inl hs.sq,_,_,rfl,_,_,rfl,_,rfl,?_,?_,?_⟩
 ·split <;> split <;> omega
 ·rw [hl]; split <;> split <;> omega
 refine yd (fun i σ H'=>∃ (e1 e2 e3 e4 e5 e6 e7 e8 e9 e10 e11 e12:Option V),σ = [some (.ref a),e1,e2,e3,e4,e5,e6,e7,e8,e9,e10,e11,e12] /\ Scr K H' a sc) ⟨_,_,_,_,_,_,_,_,_,_,_,_,rfl,hs⟩ ?_ ?_
 rotate_left
 ·rintro σ H1 _
  exact q _
 rintro i σ H1 hi ⟨e1,e2,e3,e4,e5,e6,e7,e8,e9,e10,e11,e12,rfl,hs1⟩
 have i63:i < 1000:=by
  have hi':=hi
  revert hi'
  split <;> split <;> omega
 try dsimp only
 refine Yg (fun v H'=>∃ p,v = .ref p /\ Scr K H' a sc /\ Pot H' p) (fun Kk hk=>⟨_,rfl,_,rfl,_,_,rfl,a,sc,_,rfl,rfl,hs1,by omega,by omega,fun p H2 hp g2 pp=>hk _ _ ⟨p,rfl,g2.scr hs1,pp⟩⟩) ?_
 rintro _ H2 ⟨p,rfl,hs2,pp2⟩
 refine ⟨_,rfl,_,_,rfl,p,5,rfl,rfl,pp2,by decide,by decide,fun t5 H3 a50 a51 g3 pp3=>⟨_,rfl,_,_,rfl,p,8,rfl,rfl,pp3,by decide,by decide,fun t8 H4 a80 a81 g4 pp4=>⟨_,_,rfl,rfl,_,rfl,_,_,rfl,p,16,rfl,rfl,pp4,by decide,by decide,fun t16 H5 a160 a161 g5 pp5=>⟨_,_,rfl,rfl,szl rfl,fun tt htt=>⟨tt,_,rfl,SqT.of ze,rfl,_,_,rfl,_,_,rfl,_,_,rfl,rfl,?_⟩⟩⟩⟩⟩
 have gtt:=Grow.new (m:=[]) htt (.tup [.int t5,.int (1 + t8),.int (1 + t16)])
 have hs6:=gtt.scr (g5.scr (g4.scr (g3.scr hs2)))
 have pp6:=pp5.grow gtt
 refine c_nx ?_
 generalize upd H5 tt _ = H6 at hs6 pp6 ⊢
 clear gtt htt pp5 pp4 pp3 pp2 g3 g4 g5 hs2 hs1
 obtain ⟨k,rfl⟩:∃ k:Nat,t5 = k:=⟨t5.toNat,by omega⟩
 obtain ⟨tn,htn⟩:∃ tn:Nat,1 + t8 = tn:=⟨(1 + t8).toNat,by omega⟩
 obtain ⟨mn,hmn⟩:∃ mn:Nat,1 + t16 = mn:=⟨(1 + t16).toNat,by omega⟩
 try dsimp only
 rw [htn,hmn]
 have k4:k <= 4:=by omega
 have tn8:tn <= 8:=by omega
 have mn1:1 <= mn:=by omega
 have mn16:mn <= 16:=by omega
 have p16:=wx k4
 refine Yg (fun v H'=>∃ (l:Addr) (sm:List Int),v = .ref l /\ H' l = some (.lst (sm.map V.int)) /\ 1 <= sm.length /\ sm.length <= 1000 /\ (∀ b ∈ sm,0 <= b /\ b < mn) /\ p ≠ l /\ Pot H' p /\ Scr K H' a sc) (fun Kk hk=>⟨_,rfl,_,_,rfl,p,3,rfl,rfl,pp6,by decide,by decide,fun t3 H7 t30 t31 g7 pp7=>⟨_,_,rfl,rfl,_,rfl,by omega,by omega,vJ (fun j vs H'=>∃ sm:List Int,vs = sm.map V.int /\ sm.length = j /\ (∀ b ∈ sm,0 <= b /\ b < mn) /\ Pot H' p /\ Scr K H' a sc) ⟨[],rfl,rfl,by simp,pp7,g7.scr hs6⟩ ?_ ?_⟩⟩) ?_
 ·rintro j vs H8 hj ⟨sm,rfl,sl,sb,pp8,hs8⟩
  refine ⟨_,rfl,_,rfl,_,_,rfl,p,mn,rfl,rfl,pp8,by omega,by omega,fun b H9 b0 b1 g9 pp9=>⟨zr (by rw [List.length_map]; omega),sm ++ [b],by rw [List.map_append]; rfl,by rw [List.length_append,sl]; rfl,fun x hx=>?_,pp9,g9.scr hs8⟩⟩
  rcases List.mem_append.mp hx with hx | hx
  ·exact sb x hx
  ·rw [List.mem_singleton.mp hx]; exact ⟨b0,b1⟩
 ·rintro vs H8 ⟨sm,rfl,sl,sb,pp8,hs8⟩ l hl'
  have gl:=Grow.new (m:=[]) hl' (.lst (sm.map V.int))
  refine hk _ _ ⟨l,sm,rfl,ze,by omega,by omega,sb,fun e=>?_,pp8.grow gl,gl.scr hs8⟩
  obtain ⟨p0,p1,z,_⟩:=pp8
  rw [e,hl'] at z; cases z
 rintro _ H7 ⟨l,sm,rfl,hl7,sm1,smL,smb,npl,pp7,hs7⟩
 refine Yg (fun v H'=>∃ (A:Ad -> Addr) (nst:NS),v = .ref (A .p) /\ LI5 K C p l H' A nst k mn sm /\ nst.asks.length = 0 /\ nst.now = 0 /\ Scr K H' a sc) (fun Kk hk=>⟨_,rfl,_,rfl,_,rfl,by omega,by omega,vJ (fun j vs H'=>∃ b:List Int,vs = b.map V.int /\ b.length = j /\ Grow [p] H7 H' /\ Pot H' p) ⟨[],rfl,rfl,Grow.refl _ _,pp7⟩ ?_ ?_⟩) ?_
 ·rintro j vs H8 hj ⟨b,rfl,bl,g8,pp8⟩
  rw [Int.toNat_natCast] at hj
  exact ⟨_,rfl,_,rfl,p,rfl,pp8,fun n H9 _ _ g9 pp9=>⟨zr (by rw [List.length_map]; omega),b ++ [n],by rw [List.map_append]; rfl,by rw [List.length_append,bl]; rfl,g8.trans g9,pp9⟩⟩
 ·rintro vs H8 ⟨b,rfl,bl,g8,pp8⟩ lb hlb
  rw [Int.toNat_natCast] at bl
  have gb:=Grow.new (m:=[]) hlb (.lst (b.map V.int))
  refine ⟨_,_,rfl,.inl ⟨SqL.of ze,fun tb htb=>?_⟩⟩
  have gb2:=Grow.new (m:=[]) htb (.tup (b.map V.int))
  have hb9:=ze (H:=upd H8 lb (.lst (b.map V.int))) (a:=tb) (o:=.tup (b.map V.int))
  have g9:Grow [p] H7 _:=g8.trans ((gb.trans gb2).wk (m:=[p]))
  have pp9:=(pp8.grow gb).grow gb2
  generalize upd (upd H8 lb _) tb _ = H9 at hb9 g9 pp9 ⊢
  refine ⟨_,rfl,_,_,rfl,p,6,rfl,rfl,pp9,by decide,by decide,fun r6 H10 r60 r61 g10 pp10=>⟨_,_,rfl,rfl,_,rfl,_,_,rfl,p,7,rfl,rfl,pp10,by decide,by decide,fun q7 H11 q70 q71 g11 pp11=>?_⟩⟩
  intro xo dx hx hdx ndx
  have G11:Grow [p] H7 H11:=g9.trans (g10.trans g11)
  have hb11:=g11.tup _ _ (g10.tup _ _ hb9)
  have go1:=Grow.new (m:=[]) hdx (.own xo)
  have hx2:upd H11 dx (.own xo) xo = none:=by rw [zt ndx.symm]; exact hx
  have go2:=Grow.new (m:=[]) hx2 (.ins C dx [])
  have go:=go1.trans go2
  have hp0:upd (upd H11 dx (.own xo)) xo (.ins C dx []) xo = some (.ins C dx []):=ze
  have pp12:=pp11.grow go
  have hl12:=go.keep _ _ (by simp) (G11.keep _ _ (by simpa using npl.symm) hl7)
  have hs12:=go.scr (G11.scr hs7)
  have hb12:=go.tup _ _ hb11
  have nxp:xo ≠ p:=fun e=>by
   obtain ⟨p0,p1,z,_⟩:=pp11
   rw [← e,hx] at z; cases z
  have nxl:xo ≠ l:=fun e=>by
   have z:=G11.keep _ _ (by simpa using npl.symm) hl7
   rw [← e,hx] at z; cases z
  generalize upd (upd H11 dx _) xo _ = H12 at hp0 pp12 hl12 hs12 hb12 ⊢
  refine ⟨_,_,_,_,_,rfl,xo,dx,k,(1 + r6).toNat,q7.toNat,b,rfl,rfl,⟨tb,rfl,SqT.of hb12⟩,congrArg V.int (by omega),congrArg V.int (by omega),k4,by omega,by omega,by omega,by omega,by omega,hp0,fun A H13 g13 eA fr hn13=>⟨rfl,hk _ _ ⟨A,_,by rw [eA],⟨hn13,NW.new k4 (by omega) (by omega),?_,g13.keep _ _ (by simpa using nxl.symm) hl12,npl,fun c hc=>?_,rfl,bl⟩,rfl,rfl,g13.scr hs12⟩⟩⟩
  ·obtain ⟨p0,p1,z,z0⟩:=pp12
   exact ⟨p0,p1,g13.keep _ _ (by simpa using nxp.symm) z,z0⟩
  ·by_cases cp:c = .p
   ·rw [cp,eA]; exact ⟨nxp,nxl⟩
   ·have f:=fr c hc cp
    refine ⟨fun e=>?_,fun e=>?_⟩
    ·obtain ⟨p0,p1,z,_⟩:=pp12
     rw [e,z] at f; cases f
    ·rw [e,hl12] at f; cases f
 rintro _ H8 ⟨A8,n8,rfl,L8,as0,now0,hs8⟩
 generalize hqq:A8 .p = qq
 clear pp6 pp7 hs6 hs7 hl7
 refine yX ?_
 refine tV (fun σ' H'=>∃ (e9 e10 e11 e12:Option V) (A:Ad -> Addr) (nst:NS) (c:Int),σ' = [some (.ref a),some (.int (0 + (i:Int))),some (.ref p),some (.int k),some (.int tn),some (.int mn),some (.ref l),some (.ref qq),some (.int c),e9,e10,e11,e12] /\ A .p = qq /\ c = nst.asks.length /\ LI5 K C p l H' A nst k mn sm /\ Scr K H' a sc /\ nst.now <= 8) (fun D hD=>⟨_,rfl,_,rfl,by omega,by omega,yd (fun t σ' H'=>∃ (e9 e10 e11 e12:Option V) (A:Ad -> Addr) (nst:NS) (c:Int),σ' = [some (.ref a),some (.int (0 + (i:Int))),some (.ref p),some (.int k),some (.int tn),some (.int mn),some (.ref l),some (.ref qq),some (.int c),e9,e10,e11,e12] /\ A .p = qq /\ c = nst.asks.length /\ LI5 K C p l H' A nst k mn sm /\ Scr K H' a sc /\ nst.now <= t) ⟨_,_,_,_,A8,n8,0,rfl,hqq,by rw [as0]; rfl,L8,hs8,by omega⟩ ?_ fun σ H' ⟨f9,f10,f11,f12,A,nst,c,e,e2,e3,e4,e5,e6⟩=>hD _ _ ⟨f9,f10,f11,f12,A,nst,c,e,e2,e3,e4,e5,by rw [Int.toNat_natCast] at e6; omega⟩⟩) ?_
 ·rintro tu σ H9 htu ⟨f9,f10,f11,f12,A,nst,c,rfl,eq1,ec,L,hs9,nw9⟩
  rw [Int.toNat_natCast] at htu
  refine tV (fun σ' H'=>∃ (e9 e10 e11 e12:Option V) (A:Ad -> Addr) (nst:NS) (c:Int),σ' = [some (.ref a),some (.int (0 + (i:Int))),some (.ref p),some (.int k),some (.int tn),some (.int mn),some (.ref l),some (.ref qq),some (.int c),e9,e10,e11,e12] /\ A .p = qq /\ c = nst.asks.length /\ LI5 K C p l H' A nst k mn sm /\ Scr K H' a sc /\ nst.now <= tu) (fun D hD=>?_) ?_
  ·have hc40:nst.asks.length <= 40:=L.nw.nr.a40
   refine ⟨_,rfl,_,_,rfl,p,9,rfl,rfl,L.pot,by decide,by decide,fun t9 H10 t90 t91 g10 pp10=>⟨_,rfl,_,_,rfl,rfl,_,_,rfl,_,rfl,?_,?_,?_⟩⟩
   ·split <;> omega
   ·split <;> omega
   have L10:=L.potS g10 pp10
   have hs10:=g10.scr hs9
   have ht:∀ m:Nat,m < (if 40 - c < t9 then 40 - c else t9).toNat -> nst.asks.length + m < 40:=fun m hm=>by split at hm <;> omega
   generalize (if 40 - c < t9 then 40 - c else t9).toNat = cnt at ht
   refine yd (fun m σ' H'=>∃ (e9 e10 e11 e12:Option V) (A:Ad -> Addr) (ns':NS) (c:Int),σ' = [some (.ref a),some (.int (0 + (i:Int))),some (.ref p),some (.int k),some (.int tn),some (.int mn),some (.ref l),some (.ref qq),some (.int c),e9,e10,e11,e12] /\ A .p = qq /\ c = ns'.asks.length /\ LI5 K C p l H' A ns' k mn sm /\ Scr K H' a sc /\ ns'.asks.length = nst.asks.length + m /\ ns'.now = nst.now) ⟨_,_,_,_,A,nst,c,rfl,eq1,ec,L10,hs10,rfl,rfl⟩ ?_ (fun σ H' ⟨f9,f10,f11,f12,A,nst',c,e,e2,e3,e4,e5,e6,e7⟩=>hD _ _ ⟨f9,f10,f11,f12,A,nst',c,e,e2,e3,e4,e5,by omega⟩)
   rintro m σ H11 hm ⟨f9,f10,f11,f12,A,ns',c',rfl,eq2,ec2,L0,hs11,ea,en⟩
   subst eq2
   have a40:=ht m hm
   have L:=L0
   refine ⟨_,rfl,_,_,_,rfl,L.net.ob.choose_spec,VO,_,rfl,_,rfl,_,rfl,_,rfl,_,_,_,_,rfl,p,l,k,mn,sm,rfl,rfl,rfl,rfl,L.pot,k4,mn1,mn16,L.ls,L.pl,sm1,smL,smb,fun ak yk H7 aok ah g7 pp7 hask=>⟨_,_,rfl,A,ns',ak,msA A ns',rfl,hask,(L.potS g7 pp7).net,L.nw.nr,by rw [L.bl]; exact aok,by rw [L.ek]; exact ah,by omega,fun _ z=>vq z,fun H8 g8 hn8=>?_⟩⟩
   obtain ⟨k1,k2,k3,k5,k6⟩:=aok
   have L8:=(L.potS g7 pp7).putS g8 hn8 (show ak.hand.toNat < 2 ^ k by omega) (show ak.box.toNat < mn by omega) (by omega)
   have el8:(putS ns' ak).asks.length = ns'.asks.length + 1:=by show (ns'.asks ++ [ak]).length = _; rw [List.length_append]; rfl
   exact ⟨_,rfl,_,_,rfl,rfl,_,_,_,_,A,putS ns' ak,_,rfl,rfl,by rw [el8]; omega,L8,g8.scr (g7.scr hs11),by rw [el8,ea]; omega,en⟩
  rintro σ H11 ⟨f9',f10',f11',f12',A,ns',c',rfl,eq2,ec2,L0,hs11,nw11⟩
  subst eq2
  have L:=L0
  have now1:ns'.now < 10000:=by omega
  refine ⟨_,rfl,_,_,_,rfl,L.net.ob.choose_spec,sT,_,rfl,_,rfl,_,_,rfl,p,k,rfl,rfl,L.pot,k4,fun gone zg H12 gok g12 pp12 hg=>?_⟩
  have L12:=L.potS g12 pp12
  refine ⟨_,_,rfl,A,ns',gone,msA A ns',rfl,.inr hg,by rw [L.ek]; exact gok,L12.net,L12.nw.nr,L12.nw.nd,now1,(L12.nw.beat now1 gone).1,fun _ z=>vq z,fun A' u tl H13 g13 ex hn13 _ _ _=>?_⟩
  obtain ⟨s1,s2,s3,s4,s5⟩:=x6 (gone:=gone) L12.nw now1
  exact ⟨_,_,_,_,A',beatS gone ns',_,rfl,ex.1 .p trivial,by rw [s3]; exact ec2,L12.beatS now1 g13 ex hn13,g13.scr (g12.scr hs11),by rw [s4]; omega⟩
 clear hqq L8 hs8 now0 as0
 rintro σ H9 ⟨f9,f10,f11,f12,A,nst,c,rfl,eq1,ec,L,hs9,nw9⟩
 refine tV (fun σ' H'=>∃ (e9 e10 e11 e12:Option V) (A:Ad -> Addr) (nst:NS) (c:Int),σ' = [some (.ref a),some (.int (0 + (i:Int))),some (.ref p),some (.int k),some (.int tn),some (.int mn),some (.ref l),some (.ref qq),some (.int c),e9,e10,e11,e12] /\ A .p = qq /\ c = nst.asks.length /\ LI5 K C p l H' A nst k mn sm /\ Scr K H' a sc /\ nst.now <= 8) (fun D hD=>?_) ?_
 ·have hc40:nst.asks.length <= 40:=L.nw.nr.a40
  refine ⟨_,rfl,_,_,rfl,p,17,rfl,rfl,L.pot,by decide,by decide,fun t9 H10 t90 t91 g10 pp10=>⟨_,rfl,_,_,rfl,rfl,_,_,rfl,_,rfl,?_,?_,?_⟩⟩
  ·split <;> omega
  ·split <;> omega
  have L10:=L.potS g10 pp10
  have hs10:=g10.scr hs9
  have ht:∀ m:Nat,m < (if 40 - c < t9 then 40 - c else t9).toNat -> nst.asks.length + m < 40:=fun m hm=>by split at hm <;> omega
  generalize (if 40 - c < t9 then 40 - c else t9).toNat = cnt at ht
  refine yd (fun m σ' H'=>∃ (e9 e10 e11 e12:Option V) (A:Ad -> Addr) (ns':NS) (c:Int),σ' = [some (.ref a),some (.int (0 + (i:Int))),some (.ref p),some (.int k),some (.int tn),some (.int mn),some (.ref l),some (.ref qq),some (.int c),e9,e10,e11,e12] /\ A .p = qq /\ c = ns'.asks.length /\ LI5 K C p l H' A ns' k mn sm /\ Scr K H' a sc /\ ns'.asks.length = nst.asks.length + m /\ ns'.now = nst.now) ⟨_,_,_,_,A,nst,c,rfl,eq1,ec,L10,hs10,rfl,rfl⟩ ?_ (fun σ H' ⟨f9,f10,f11,f12,A,nst',c,e,e2,e3,e4,e5,e6,e7⟩=>hD _ _ ⟨f9,f10,f11,f12,A,nst',c,e,e2,e3,e4,e5,by omega⟩)
  rintro m σ H11 hm ⟨f9,f10,f11,f12,A,ns',c',rfl,eq2,ec2,L0,hs11,ea,en⟩
  subst eq2
  have a40:=ht m hm
  have L:=L0
  refine ⟨_,rfl,_,_,_,rfl,L.net.ob.choose_spec,VO,_,rfl,_,rfl,_,rfl,_,rfl,_,_,_,_,rfl,p,l,k,mn,sm,rfl,rfl,rfl,rfl,L.pot,k4,mn1,mn16,L.ls,L.pl,sm1,smL,smb,fun ak yk H7 aok ah g7 pp7 hask=>⟨_,_,rfl,A,ns',ak,msA A ns',rfl,hask,(L.potS g7 pp7).net,L.nw.nr,by rw [L.bl]; exact aok,by rw [L.ek]; exact ah,by omega,fun _ z=>vq z,fun H8 g8 hn8=>?_⟩⟩
  obtain ⟨k1,k2,k3,k5,k6⟩:=aok
  have L8:=(L.potS g7 pp7).putS g8 hn8 (show ak.hand.toNat < 2 ^ k by omega) (show ak.box.toNat < mn by omega) (by omega)
  have el8:(putS ns' ak).asks.length = ns'.asks.length + 1:=by show (ns'.asks ++ [ak]).length = _; rw [List.length_append]; rfl
  exact ⟨_,rfl,_,_,rfl,rfl,_,_,_,_,A,putS ns' ak,_,rfl,rfl,by rw [el8]; omega,L8,g8.scr (g7.scr hs11),by rw [el8,ea]; omega,en⟩
 rintro σ H10 ⟨f9,f10,f11,f12,A,nst,c,rfl,eq1,ec,L,hs10,nw10⟩
 subst eq1
 have a40:=L.nw.nr.a40
 have tot:=L.nw.nr.tot
 have e2l:((nst.log.map Int.ofNat).map V.int).length = nst.log.length:=by rw [List.length_map,List.length_map]
 obtain ⟨Lf,eLf⟩:∃ Lf:Nat,Lf = (nst.asks.length - nst.log.length) * (k + 1):=⟨_,rfl⟩
 have Lf200:Lf <= 200:=by rw [eLf]; exact Nat.le_trans (Nat.mul_le_mul (show nst.asks.length - nst.log.length <= 40 by omega) (show k + 1 <= 5 by omega)) (by decide)
 have eL:(c - (((nst.log.map Int.ofNat).map V.int).length:Int)) * ((k:Int) + 1) = (Lf:Int):=by
  rw [e2l,eLf,show c - (nst.log.length:Int) = ((nst.asks.length - nst.log.length:Nat):Int) by omega,show (k:Int) + 1 = ((k + 1:Nat):Int) from rfl,← Int.natCast_mul]
 refine ⟨_,rfl,_,rfl,_,_,_,rfl,L.net.ob.choose_spec,VP,_,rfl,A,nst,rfl,L.net,by omega,fun z H11 g11 hz=>?_⟩
 obtain ⟨rz,rfl,hrz⟩:=hz
 refine ⟨rz,_,rfl,.inr hrz,_,_,rfl,rfl,_,rfl,_,_,rfl,rfl,_,_,rfl,rfl,tw ⟨by omega,by omega⟩,jG (congrArg V.int eL) ?_⟩
 have L11:=L.grow0 g11
 have hs11:=g11.scr hs10
 have ph0:Phi5 nst Lf:=Wf L.nw.nr (by rw [L.ek,eLf]; exact Nat.le_refl _)
 generalize hqq:A .p = qq
 refine tV (fun σ' H'=>∃ (e9 e10 e11 e12:Option V) (A:Ad -> Addr) (nst:NS) (c:Int),σ' = [some (.ref a),some (.int (0 + (i:Int))),some (.ref p),some (.int k),some (.int tn),some (.int mn),some (.ref l),some (.ref qq),some (.int c),e9,e10,e11,e12] /\ A .p = qq /\ c = nst.asks.length /\ LI5 K C p l H' A nst k mn sm /\ Scr K H' a sc /\ nst.log.length = nst.asks.length /\ nst.now <= 1000) (fun D hD=>⟨_,rfl,_,rfl,by omega,by omega,yd (fun t σ' H'=>∃ (e9 e10 e11 e12:Option V) (A:Ad -> Addr) (nst:NS) (c:Int),σ' = [some (.ref a),some (.int (0 + (i:Int))),some (.ref p),some (.int k),some (.int tn),some (.int mn),some (.ref l),some (.ref qq),some (.int c),e9,e10,e11,e12] /\ A .p = qq /\ c = nst.asks.length /\ LI5 K C p l H' A nst k mn sm /\ Scr K H' a sc /\ Phi5 nst (Lf - t) /\ nst.now <= 8 + 2 * t) ⟨_,_,_,_,A,nst,c,rfl,hqq,ec,L11,hs11,ph0,by omega⟩ ?_ fun σ H' ⟨f9,f10,f11,f12,A,nst,c,e,e2,e3,e4,e5,e6,e7⟩=>hD _ _ ⟨f9,f10,f11,f12,A,nst,c,e,e2,e3,e4,e5,UW e4.nw.nr (by rw [Int.toNat_natCast,Nat.sub_self] at e6; exact e6),by rw [Int.toNat_natCast] at e7; omega⟩⟩) ?_
 ·rintro t σ H12 ht ⟨f9,f10,f11,f12,A,ns',c',rfl,eq2,ec2,L0,hs12,ph,nw12⟩
  rw [Int.toNat_natCast] at ht
  subst eq2
  refine Yg (fun v H'=>∃ gone,(∀ q ∈ gone,vC k q) /\ xM K H' v gone /\ LI5 K C p l H' A ns' k mn sm /\ Scr K H' a sc) (fun Kk hk=>⟨_,rfl,_,rfl,_,_,rfl,p,k,rfl,rfl,L0.pot,k4,fun gone zg H13 gok g13 pp13 hg=>hk _ _ ⟨gone,gok,hg,L0.potS g13 pp13,g13.scr hs12⟩⟩) ?_
  rintro zg H13 ⟨gone,gok,hg,L13,hs13⟩
  have now1:ns'.now < 10000:=by omega
  refine c_if (fun σ' H'=>∃ (e9 e10 e11 e12:Option V) (A':Ad -> Addr) (ns2:NS),σ' = [some (.ref a),some (.int (0 + (i:Int))),some (.ref p),some (.int k),some (.int tn),some (.int mn),some (.ref l),some (.ref (A .p)),some (.int c'),e9,e10,e11,e12] /\ A' .p = A .p /\ c' = ns2.asks.length /\ LI5 K C p l H' A' ns2 k mn sm /\ Scr K H' a sc /\ Phi5 ns2 (Lf - t) /\ ns2.now <= 8 + 2 * t + 1) ?_ ?_
  rotate_left
  ·intro hr2
   obtain ⟨rg,ys,rfl,hrg,hga,hgl⟩:=hg
   refine ⟨_,rfl,szl rfl,fun t1 ht1=>⟨rg,t1,ys,rfl,rfl,(Grow.new (m:=[]) ht1 _).sqT hrg,SqT.of ze,_,rfl,?_⟩⟩
   have g14:=Grow.new (m:=[]) ht1 (.tup [])
   have L14:=L13.grow0 g14
   have hs14:=g14.scr hs13
   have hg14:xM K _ (.ref rg) gone:=(show xM K H13 (.ref rg) gone from ⟨rg,ys,rfl,hrg,hga,hgl⟩).grow g14
   generalize upd H13 t1 (.tup []) = H14 at g14 L14 hs14 hg14 ⊢
   cases hE:ys.isEmpty with
   | true=>exact yD (by rfl) (iteF (hr2 _ _ ⟨_,_,_,_,A,ns',rfl,rfl,ec2,L14,hs14,ph,by omega⟩))
   | false =>
   refine yY (by rfl) ⟨_,rfl,_,_,rfl,p,2,rfl,rfl,L14.pot,by decide,by decide,fun n2 H15 n20 n21 g15 pp15=>⟨rfl,_,rfl,?_⟩⟩
   have L15:=L14.potS g15 pp15
   have hs15:=g15.scr hs14
   have hg15:=hg14.grow g15
   by_cases c1:n2 = 1
   rotate_left
   ·exact yD (decide_eq_false fun z=>c1 (V.int.inj z)) (hr2 _ _ ⟨_,_,_,_,A,ns',rfl,rfl,ec2,L15,hs15,ph,by omega⟩)
   refine yY (decide_eq_true (congrArg V.int c1)) ?_
   obtain ⟨s1,s2,s3,s4,s5⟩:=x6 (gone:=gone) L15.nw now1
   exact ⟨_,rfl,_,_,_,rfl,L15.net.ob.choose_spec,sT,_,rfl,_,_,rfl,A,ns',gone,msA A ns',rfl,.inr hg15,by rw [L15.ek]; exact gok,L15.net,L15.nw.nr,L15.nw.nd,now1,(L15.nw.beat now1 gone).1,fun _ z=>vq z,fun A' u tl H16 g16 ex hn16 _ _ _=>hr2 _ _ ⟨_,_,_,_,A',beatS gone ns',rfl,ex.1 .p trivial,by rw [s3]; exact ec2,L15.beatS now1 g16 ex hn16,g16.scr hs15,Vs L15.nw now1 ph,by rw [s4]; omega⟩⟩
  rintro σ' H14 ⟨g9',g10',g11',g12',A',ns2,rfl,eq3,ec3,L14,hs14,ph14,nw14⟩
  have now2:ns2.now < 10000:=by omega
  rw [← eq3]
  obtain ⟨s1,s2,s3,s4,s5⟩:=x6 (gone:=[]) L14.nw now2
  have eLt:Lf - t = (Lf - (t + 1)) + 1:=by omega
  rw [eLt] at ph14
  exact ⟨_,rfl,_,_,_,rfl,L14.net.ob.choose_spec,sT,_,_,rfl,A',ns2,[],msA A' ns2,rfl,.inl ⟨rfl,rfl⟩,by simp,L14.net,L14.nw.nr,L14.nw.nd,now2,(L14.nw.beat now2 []).1,fun _ z=>vq z,fun A3 u tl H15 g15 ex hn15 _ _ _=>⟨_,_,_,_,A3,beatS [] ns2,_,rfl,ex.1 .p trivial,by rw [s3]; exact ec3,L14.beatS now2 g15 ex hn15,g15.scr hs14,Wh L14.nw now2 ph14,by rw [s4]; omega⟩⟩
 clear hqq L11 hs11 ph0 L hs10 eL e2l hrz g11
 rintro σ H12 ⟨f9,f10,f11,f12,A,nst,c,rfl,eq1,ec,L,hs12,full,nw12⟩
 subst eq1
 have a40:=L.nw.nr.a40
 refine Zy (fun b H'=>b = false /\ Grow [] H12 H') (fun Kk hk=>⟨_,rfl,_,_,_,rfl,L.net.ob.choose_spec,VP,_,rfl,A,nst,rfl,L.net,by omega,fun z H13 g13 hz=>?_⟩) ?_
 ·obtain ⟨rz,rfl,hrz⟩:=hz
  refine ⟨rz,nst.log.map Int.ofNat,rfl,hrz,by rw [List.length_map]; omega,fun ps ms hps pm pw=>?_⟩
  have gp:=Grow.new (m:=[]) hps (.lst (ms.map V.int))
  refine ⟨_,rfl,nst.asks.length,by rw [ec],by omega,fun lr hlr=>?_⟩
  have gr:=Grow.new (m:=[]) hlr (.lst ((List.range nst.asks.length).map fun i:Nat=>V.int i))
  have hsl:=YF L.nw full pm pw
  have hx:((List.range nst.asks.length).map fun i:Nat=>V.int i) = ((List.range nst.asks.length).map Int.ofNat).map V.int:=by rw [List.map_map]; rfl
  have hall:(((List.range nst.asks.length).map fun i:Nat=>V.int i)).all wn = true:=List.all_eq_true.mpr fun v hv=>by
   obtain ⟨i,_,rfl⟩:=List.mem_map.mp hv; rfl
  refine ⟨ps,lr,_,_,rfl,rfl,SqL.of (gr.keep _ _ (by simp) ze),SqL.of ze,by rw [hsl]; exact hall,hall,_,rfl,hk _ _ ⟨?_,g13.trans (gp.trans gr)⟩⟩
  rw [hsl,hx]
  show (!eqVs _ _) = false
  rw [uc,decide_eq_true rfl]; rfl
 rintro b H13 ⟨rfl,g13⟩
 refine iteF (vB ?_)
 have L13:=L.grow0 g13
 have hs13:=g13.scr hs12
 have id0:Idle nst 0:=⟨L.nw,full,fun j hj=>absurd hj (Nat.not_lt_zero _)⟩
 generalize hqq:A .p = qq
 refine tV (fun σ' H'=>∃ (e9 e10 e11 e12:Option V) (A:Ad -> Addr) (nst:NS) (c:Int),σ' = [some (.ref a),some (.int (0 + (i:Int))),some (.ref p),some (.int k),some (.int tn),some (.int mn),some (.ref l),some (.ref qq),some (.int c),e9,e10,e11,e12] /\ A .p = qq /\ c = nst.asks.length /\ LI5 K C p l H' A nst k mn sm /\ Scr K H' a sc /\ Idle nst k) (fun D hD=>⟨_,rfl,_,rfl,by omega,by omega,yd (fun t σ' H'=>∃ (e9 e10 e11 e12:Option V) (A:Ad -> Addr) (nst:NS) (c:Int),σ' = [some (.ref a),some (.int (0 + (i:Int))),some (.ref p),some (.int k),some (.int tn),some (.int mn),some (.ref l),some (.ref qq),some (.int c),e9,e10,e11,e12] /\ A .p = qq /\ c = nst.asks.length /\ LI5 K C p l H' A nst k mn sm /\ Scr K H' a sc /\ Idle nst t /\ nst.now <= 1000 + t) ⟨_,_,_,_,A,nst,c,rfl,hqq,ec,L13,hs13,id0,by omega⟩ ?_ fun σ H' ⟨f9,f10,f11,f12,A,nst,c,e,e2,e3,e4,e5,e6,e7⟩=>hD _ _ ⟨f9,f10,f11,f12,A,nst,c,e,e2,e3,e4,e5,by rw [Int.toNat_natCast] at e6; exact e6⟩⟩) ?_
 ·rintro t σ H11 ht ⟨f9',f10',f11',f12',A,ns',c',rfl,eq2,ec2,L0,hs11,idl,nw11⟩
  rw [Int.toNat_natCast] at ht
  subst eq2
  have L:=L0
  have now1:ns'.now < 10000:=by omega
  refine ⟨_,rfl,_,_,_,rfl,L.net.ob.choose_spec,sT,_,rfl,_,rfl,_,_,rfl,p,k,rfl,rfl,L.pot,k4,fun gone zg H12 gok g12 pp12 hg=>?_⟩
  have L12:=L.potS g12 pp12
  refine ⟨_,_,rfl,A,ns',gone,msA A ns',rfl,.inr hg,by rw [L.ek]; exact gok,L12.net,L12.nw.nr,L12.nw.nd,now1,(L12.nw.beat now1 gone).1,fun _ z=>vq z,fun A' u tl H13 g13 ex hn13 _ _ _=>?_⟩
  obtain ⟨s1,s2,s3,s4,s5⟩:=x6 (gone:=gone) L12.nw now1
  exact ⟨_,_,_,_,A',beatS gone ns',_,rfl,ex.1 .p trivial,by rw [s3]; exact ec2,L12.beatS now1 g13 ex hn13,g13.scr (g12.scr hs11),idl.beat now1,by rw [s4]; omega⟩
 clear hqq L13 hs13 id0 L
 rintro σ H14 ⟨f9,f10,f11,f12,A,nst,c,rfl,eq1,ec,L,hs14,idl⟩
 subst eq1
 rw [← L.ek] at idl
 refine ⟨_,rfl,_,rfl,_,rfl,_,_,_,rfl,A,nst,rfl,by rw [L.ek],by rw [ec],L.net,idl,fun H15 g15=>⟨_,rfl,iteF ⟨_,_,_,_,_,_,_,_,_,_,_,_,rfl,g15.scr hs14⟩⟩⟩
end
theorem yN:∀ {us:List Value},us.length = 1 -> ∃ x0,us = [x0]
 | [x0],_=>⟨x0,rfl⟩
theorem yj:∀ {us:List Value},us.length = 2 -> ∃ x0,∃ x1,us = [x0,x1]
 | [x0,x1],_=>⟨x0,x1,rfl⟩
theorem yO:∀ {us:List Value},us.length = 3 -> ∃ x0,∃ x1,∃ x2,us = [x0,x1,x2]
 | [x0,x1,x2],_=>⟨x0,x1,x2,rfl⟩
theorem rG:∀ {us:List Value},us.length = 4 -> ∃ x0,∃ x1,∃ x2,∃ x3,us = [x0,x1,x2,x3]
 | [x0,x1,x2,x3],_=>⟨x0,x1,x2,x3,rfl⟩
theorem U4:∀ {us:List Value},us.length = 5 -> ∃ x0,∃ x1,∃ x2,∃ x3,∃ x4,us = [x0,x1,x2,x3,x4]
 | [x0,x1,x2,x3,x4],_=>⟨x0,x1,x2,x3,x4,rfl⟩
def FA (K:FG7) (x:Str) (t:Stmt) (f:Addr) (d:FuncData):Prop:=PySem.W.nsIn K mainGlobals x = some (some (.ref f)) /\ Fun K x x t f d
theorem FA.cl {P:Program} {w:World} {K:FG7} {h base:Heap} {mg:Str -> Option Value} {x:Str} {t:Stmt} {f:Addr} {d:FuncData} {k:Nat} {ps:List Str} {sp:Sp} (a:FA K x t f d) (X:K.In h) (G:h.Ns mainGlobals mg) (F:FnOk P w K mg base CX0 k f d ps sp) (b:xA K d ps []):zn P w K mg base k x ps sp:=⟨_,_,F,b,a.2.kp,PySem.W.mg_of X G a.1⟩
theorem all_mk {l:PySem.W.OpenLaw} {w:World} {K:FG7} {h:Heap} {mg:Str -> Option Value} {fa f1 f2 f3 f4 f5 f6 f7 f8 f9 f10 f11 f12 f13 f14 f15 f16 f17 f18 f19 f20 f21 f22 f23 f24 f25 f26 f27 f28 f29 f30 f31 f32 f33 f34 f35 f36 f37 f38 f39 f40 f41 f42 f43 f44 f45 f46 f47 f48:Addr} (X:K.In h) (G:h.Ns mainGlobals mg) (hfa:mg "law" = some (.ref fa))
    {od5 an5 od7 an7 od8 an8 od9 an9 od19 an19 od20 an20 od31 an31 od32 an32 od33 an33 od34 an34 od35 an35 od36 an36 od37 an37 od42 an42 od47 an47:Option Addr} {sl5 sl7 sl8 sl9 sl19 sl20 sl31 sl32 sl33 sl34 sl35 sl36 sl37 sl42 sl47:Array (Option Value)} {oc5 kV5 dc5 pm5 cd5 ct5 oc7 kV7 dc7 pm7 cd7 ct7 oc8 kV8 dc8 pm8 cd8 ct8 oc9 kV9 dc9 pm9 cd9 ct9 oc19 kV19 dc19 pm19 cd19 ct19 oc20 kV20 dc20 pm20 cd20 ct20 oc31 kV31 dc31 pm31 cd31 ct31 oc32 kV32 dc32 pm32 cd32 ct32 oc33 kV33 dc33 pm33 cd33 ct33 oc34 kV34 dc34 pm34 cd34 ct34 oc35 kV35 dc35 pm35 cd35 ct35 oc36 kV36 dc36 pm36 cd36 ct36 oc37 kV37 dc37 pm37 cd37 ct37 oc42 kV42 dc42 pm42 cd42 ct42 oc47 kV47 dc47 pm47 cd47 ct47:Value}
    {T36:Addr} {tc36:Value} {td36:Option Addr} {tn36:Nat} {ts36:Array (Option Value)}
    {d1 d2 d3 d4 d6 d10 d11 d12 d13 d14 d15 d16 d17 d18 d21 d22 d23 d24 d25 d26 d27 d28 d29 d30 d38 d39 d40 d41 d43 d44 d45 d46 d48:FuncData}
    {C:Addr} (aC:PySem.W.nsIn K mainGlobals "Net" = some (some (.ref C))) (pg:PySem.W.plainGet K C Str.empty = true) (hd:PySem.W.hasDictIn K C = true) (po:PySem.W.plainOver K C = true) (sa:PySem.W.findIn K (.ref C) "__setattr__" = some (some (.builtin "object.__setattr__"))) (mkc:PySem.W.makesIn K C = true) (kc:PySem.W.keepIn K (.ref C) = true)
    (na_depth:PySem.W.findIn K (.ref C) "depth" = some none) (na_room:PySem.W.findIn K (.ref C) "room" = some none) (na_most_kept:PySem.W.findIn K (.ref C) "most_kept" = some none) (na_boxes:PySem.W.findIn K (.ref C) "boxes" = some none) (na_asks:PySem.W.findIn K (.ref C) "asks" = some none) (na_now:PySem.W.findIn K (.ref C) "now" = some none) (na_lines:PySem.W.findIn K (.ref C) "lines" = some none) (na_keeping:PySem.W.findIn K (.ref C) "keeping" = some none) (na_done_in:PySem.W.findIn K (.ref C) "done_in" = some none) (na_logged:PySem.W.findIn K (.ref C) "logged" = some none) (na_found:PySem.W.findIn K (.ref C) "found" = some none) (na_answers:PySem.W.findIn K (.ref C) "answers" = some none)
 (h1:FA K "_law_spots" ((top 53)) f1 d1)
 (h2:FA K "is_whole" ((top 10)) f2 d2)
 (h3:FA K "is_within" ((top 11)) f3 d3)
 (h4:FA K "is_switch" ((top 28)) f4 d4)
    (a5:PySem.W.findIn K (.ref C) "joinings" = some (some (.ref f5))) (i5:PySem.W.isFn K (.ref f5) = true) (l5:K.lookup f5 = some ⟨oc5,od5,.func (PySem.W.fnOf "joinings" "Net.joinings" (zL (zj (top 45) 16)) (zJ (zj (top 45) 16)) (zf (zj (top 45) 16)) .none kV5 dc5 pm5 an5 cd5 ct5),sl5⟩) (c5:PySem.W.codeIn K cd5 "Net.joinings" = true) (k5:PySem.W.keepIn K (.ref f5) = true)
 (h6:FA K "is_line" ((top 27)) f6 d6)
    (a7:PySem.W.findIn K (.ref C) "waiting" = some (some (.ref f7))) (i7:PySem.W.isFn K (.ref f7) = true) (l7:K.lookup f7 = some ⟨oc7,od7,.func (PySem.W.fnOf "waiting" "Net.waiting" (zL (zj (top 45) 15)) (zJ (zj (top 45) 15)) (zf (zj (top 45) 15)) .none kV7 dc7 pm7 an7 cd7 ct7),sl7⟩) (c7:PySem.W.codeIn K cd7 "Net.waiting" = true) (k7:PySem.W.keepIn K (.ref f7) = true)
    (a8:PySem.W.findIn K (.ref C) "answer" = some (some (.ref f8))) (i8:PySem.W.isFn K (.ref f8) = true) (l8:K.lookup f8 = some ⟨oc8,od8,.func (PySem.W.fnOf "answer" "Net.answer" (zL (zj (top 45) 14)) (zJ (zj (top 45) 14)) (zf (zj (top 45) 14)) .none kV8 dc8 pm8 an8 cd8 ct8),sl8⟩) (c8:PySem.W.codeIn K cd8 "Net.answer" = true) (k8:PySem.W.keepIn K (.ref f8) = true)
    (a9:PySem.W.findIn K (.ref C) "todo" = some (some (.ref f9))) (i9:PySem.W.isFn K (.ref f9) = true) (l9:K.lookup f9 = some ⟨oc9,od9,.func (PySem.W.fnOf "todo" "Net.todo" (zL (zj (top 45) 13)) (zJ (zj (top 45) 13)) (zf (zj (top 45) 13)) .none kV9 dc9 pm9 an9 cd9 ct9),sl9⟩) (c9:PySem.W.codeIn K cd9 "Net.todo" = true) (k9:PySem.W.keepIn K (.ref f9) = true)
 (h10:FA K "_law_over" ((top 54)) f10 d10)
 (h11:FA K "_law_take" ((top 48)) f11 d11)
 (h12:FA K "_law_lost" ((top 52)) f12 d12)
 (h13:FA K "_law_number" ((top 49)) f13 d13)
 (h14:FA K "_law_deed" ((top 50)) f14 d14)
 (h15:FA K "_law_ask" ((top 51)) f15 d15)
 (h16:FA K "_law_pot" ((top 47)) f16 d16)
 (h17:FA K "may_be_lost" ((top 42)) f17 d17)
 (h18:FA K "need_lost" ((top 43)) f18 d18)
    (a19:PySem.W.findIn K (.ref C) "done_ago" = some (some (.ref f19))) (i19:PySem.W.isFn K (.ref f19) = true) (l19:K.lookup f19 = some ⟨oc19,od19,.func (PySem.W.fnOf "done_ago" "Net.done_ago" (zL (zj (top 45) 3)) (zJ (zj (top 45) 3)) (zf (zj (top 45) 3)) .none kV19 dc19 pm19 an19 cd19 ct19),sl19⟩) (c19:PySem.W.codeIn K cd19 "Net.done_ago" = true) (k19:PySem.W.keepIn K (.ref f19) = true)
    (a20:PySem.W.findIn K (.ref C) "tell" = some (some (.ref f20))) (i20:PySem.W.isFn K (.ref f20) = true) (l20:K.lookup f20 = some ⟨oc20,od20,.func (PySem.W.fnOf "tell" "Net.tell" (zL (zj (top 45) 9)) (zJ (zj (top 45) 9)) (zf (zj (top 45) 9)) .none kV20 dc20 pm20 an20 cd20 ct20),sl20⟩) (c20:PySem.W.codeIn K cd20 "Net.tell" = true) (k20:PySem.W.keepIn K (.ref f20) = true)
 (h21:FA K "in_line" ((top 34)) f21 d21)
 (h22:FA K "tidy" ((top 16)) f22 d22)
 (h23:FA K "made" ((top 15)) f23 d23)
 (h24:FA K "joined" ((top 17)) f24 d24)
 (h25:FA K "joined_at" ((top 44)) f25 d25)
 (h26:FA K "switch_at" ((top 33)) f26 d26)
 (h27:FA K "figure" ((top 30)) f27 d27)
 (h28:FA K "with_figure" ((top 31)) f28 d28)
 (h29:FA K "onward" ((top 32)) f29 d29)
 (h30:FA K "side_for" ((top 36)) f30 d30)
    (a31:PySem.W.findIn K (.ref C) "hand_on" = some (some (.ref f31))) (i31:PySem.W.isFn K (.ref f31) = true) (l31:K.lookup f31 = some ⟨oc31,od31,.func (PySem.W.fnOf "hand_on" "Net.hand_on" (zL (zj (top 45) 8)) (zJ (zj (top 45) 8)) (zf (zj (top 45) 8)) .none kV31 dc31 pm31 an31 cd31 ct31),sl31⟩) (c31:PySem.W.codeIn K cd31 "Net.hand_on" = true) (k31:PySem.W.keepIn K (.ref f31) = true)
    (a32:PySem.W.findIn K (.ref C) "pass_on" = some (some (.ref f32))) (i32:PySem.W.isFn K (.ref f32) = true) (l32:K.lookup f32 = some ⟨oc32,od32,.func (PySem.W.fnOf "pass_on" "Net.pass_on" (zL (zj (top 45) 7)) (zJ (zj (top 45) 7)) (zf (zj (top 45) 7)) .none kV32 dc32 pm32 an32 cd32 ct32),sl32⟩) (c32:PySem.W.codeIn K cd32 "Net.pass_on" = true) (k32:PySem.W.keepIn K (.ref f32) = true)
    (a33:PySem.W.findIn K (.ref C) "do_asks" = some (some (.ref f33))) (i33:PySem.W.isFn K (.ref f33) = true) (l33:K.lookup f33 = some ⟨oc33,od33,.func (PySem.W.fnOf "do_asks" "Net.do_asks" (zL (zj (top 45) 6)) (zJ (zj (top 45) 6)) (zf (zj (top 45) 6)) .none kV33 dc33 pm33 an33 cd33 ct33),sl33⟩) (c33:PySem.W.codeIn K cd33 "Net.do_asks" = true) (k33:PySem.W.keepIn K (.ref f33) = true)
    (a34:PySem.W.findIn K (.ref C) "take" = some (some (.ref f34))) (i34:PySem.W.isFn K (.ref f34) = true) (l34:K.lookup f34 = some ⟨oc34,od34,.func (PySem.W.fnOf "take" "Net.take" (zL (zj (top 45) 5)) (zJ (zj (top 45) 5)) (zf (zj (top 45) 5)) .none kV34 dc34 pm34 an34 cd34 ct34),sl34⟩) (c34:PySem.W.codeIn K cd34 "Net.take" = true) (k34:PySem.W.keepIn K (.ref f34) = true)
    (a35:PySem.W.findIn K (.ref C) "forget" = some (some (.ref f35))) (i35:PySem.W.isFn K (.ref f35) = true) (l35:K.lookup f35 = some ⟨oc35,od35,.func (PySem.W.fnOf "forget" "Net.forget" (zL (zj (top 45) 4)) (zJ (zj (top 45) 4)) (zf (zj (top 45) 4)) .none kV35 dc35 pm35 an35 cd35 ct35),sl35⟩) (c35:PySem.W.codeIn K cd35 "Net.forget" = true) (k35:PySem.W.keepIn K (.ref f35) = true)
    (a36:PySem.W.findIn K (.ref C) "beat" = some (some (.ref f36))) (i36:PySem.W.isFn K (.ref f36) = true) (l36:K.lookup f36 = some ⟨oc36,od36,.func (PySem.W.fnOf "beat" "Net.beat" (zL (zj (top 45) 2)) (zJ (zj (top 45) 2)) (zf (zj (top 45) 2)) (.ref T36) kV36 dc36 pm36 an36 cd36 ct36),sl36⟩) (c36:PySem.W.codeIn K cd36 "Net.beat" = true) (k36:PySem.W.keepIn K (.ref f36) = true)
    (t36:K.lookup T36 = some ⟨tc36,td36,.seq #[.none] tn36,ts36⟩)
    (a37:PySem.W.findIn K (.ref C) "log" = some (some (.ref f37))) (i37:PySem.W.isFn K (.ref f37) = true) (l37:K.lookup f37 = some ⟨oc37,od37,.func (PySem.W.fnOf "log" "Net.log" (zL (zj (top 45) 12)) (zJ (zj (top 45) 12)) (zf (zj (top 45) 12)) .none kV37 dc37 pm37 an37 cd37 ct37),sl37⟩) (c37:PySem.W.codeIn K cd37 "Net.log" = true) (k37:PySem.W.keepIn K (.ref f37) = true)
 (h38:FA K "need_hand" ((top 29)) f38 d38)
 (h39:FA K "is_end" ((top 13)) f39 d39)
 (h40:FA K "is_deed" ((top 14)) f40 d40)
 (h41:FA K "is_ask" ((top 23)) f41 d41)
    (a42:PySem.W.findIn K (.ref C) "put" = some (some (.ref f42))) (i42:PySem.W.isFn K (.ref f42) = true) (l42:K.lookup f42 = some ⟨oc42,od42,.func (PySem.W.fnOf "put" "Net.put" (zL (zj (top 45) 1)) (zJ (zj (top 45) 1)) (zf (zj (top 45) 1)) .none kV42 dc42 pm42 an42 cd42 ct42),sl42⟩) (c42:PySem.W.codeIn K cd42 "Net.put" = true) (k42:PySem.W.keepIn K (.ref f42) = true)
 (h43:FA K "is_board" ((top 21)) f43 d43)
 (h44:FA K "need_board" ((top 22)) f44 d44)
 (h45:FA K "need_sizes" ((top 41)) f45 d45)
 (h46:FA K "need_net" ((top 26)) f46 d46)
    (a47:PySem.W.findIn K (.ref C) "__init__" = some (some (.ref f47))) (i47:PySem.W.isFn K (.ref f47) = true) (l47:K.lookup f47 = some ⟨oc47,od47,.func (PySem.W.fnOf "__init__" "Net.__init__" (zL (zj (top 45) 0)) (zJ (zj (top 45) 0)) (zf (zj (top 45) 0)) .none kV47 dc47 pm47 an47 cd47 ct47),sl47⟩) (c47:PySem.W.codeIn K cd47 "Net.__init__" = true) (k47:PySem.W.keepIn K (.ref f47) = true)
 (h48:FA K "law" ((top 55)) f48 d48)
    {t_DEEPEST:Tok} (ga_DEEPEST:PySem.W.nsIn K mainGlobals "DEEPEST" = some (some (.int 4 t_DEEPEST)))
    {t_LAST_HAND:Tok} (ga_LAST_HAND:PySem.W.nsIn K mainGlobals "LAST_HAND" = some (some (.int 15 t_LAST_HAND)))
    {t_MOST_ASKS:Tok} (ga_MOST_ASKS:PySem.W.nsIn K mainGlobals "MOST_ASKS" = some (some (.int 40 t_MOST_ASKS)))
    {t_MOST_BOXES:Tok} (ga_MOST_BOXES:PySem.W.nsIn K mainGlobals "MOST_BOXES" = some (some (.int 16 t_MOST_BOXES)))
    {t_MOST_KEPT:Tok} (ga_MOST_KEPT:PySem.W.nsIn K mainGlobals "MOST_KEPT" = some (some (.int 6 t_MOST_KEPT)))
    {t_MOST_ROOM:Tok} (ga_MOST_ROOM:PySem.W.nsIn K mainGlobals "MOST_ROOM" = some (some (.int 6 t_MOST_ROOM)))
    (ga_enumerate:PySem.W.nsIn K mainGlobals "enumerate" = some none)
    (ga_sorted:PySem.W.nsIn K mainGlobals "sorted" = some none)
    (z_abs:PySem.W.nsIn K mainGlobals "abs" = some none)
    (z_len:PySem.W.nsIn K mainGlobals "len" = some none)
    (z_max:PySem.W.nsIn K mainGlobals "max" = some none)
    (z_min:PySem.W.nsIn K mainGlobals "min" = some none)
    (z_divmod:PySem.W.nsIn K mainGlobals "divmod" = some none)
    (z_repr:PySem.W.nsIn K mainGlobals "repr" = some none)
    (z_isinstance:PySem.W.nsIn K mainGlobals "isinstance" = some none)
    (z_all:PySem.W.nsIn K mainGlobals "all" = some none)
    (z_range:PySem.W.nsIn K mainGlobals "range" = some none)
    (z_int:PySem.W.nsIn K mainGlobals "int" = some none)
    (z_bool:PySem.W.nsIn K mainGlobals "bool" = some none)
    (z_str:PySem.W.nsIn K mainGlobals "str" = some none)
    (z_tuple:PySem.W.nsIn K mainGlobals "tuple" = some none)
    (z_list:PySem.W.nsIn K mainGlobals "list" = some none)
    (z_dict:PySem.W.nsIn K mainGlobals "dict" = some none)
    :
    ∃ fd:FuncData,(∀ (s:Shared) (v:Value),BindsTo s fd ⟨[v],[]⟩ [("_law_script",v)]) /\ ∀ base:Heap,K.In base -> base.Ns mainGlobals mg -> FnOk l.prog w K mg base CX0 7 fa fd ["_law_script"] (Zm K):=by
  have e:=hfa.symm.trans (PySem.W.mg_of X G h48.1)
  cases e
  have F5:=fun_mk (st:=(zj (top 45) 16)) l5 c5 k5
  have F7:=fun_mk (st:=(zj (top 45) 15)) l7 c7 k7
  have F8:=fun_mk (st:=(zj (top 45) 14)) l8 c8 k8
  have F9:=fun_mk (st:=(zj (top 45) 13)) l9 c9 k9
  have F19:=fun_mk (st:=(zj (top 45) 3)) l19 c19 k19
  have F20:=fun_mk (st:=(zj (top 45) 9)) l20 c20 k20
  have F31:=fun_mk (st:=(zj (top 45) 8)) l31 c31 k31
  have F32:=fun_mk (st:=(zj (top 45) 7)) l32 c32 k32
  have F33:=fun_mk (st:=(zj (top 45) 6)) l33 c33 k33
  have F34:=fun_mk (st:=(zj (top 45) 5)) l34 c34 k34
  have F35:=fun_mk (st:=(zj (top 45) 4)) l35 c35 k35
  have F36:=UZ (st:=(zj (top 45) 2)) l36 c36 k36
  have F37:=fun_mk (st:=(zj (top 45) 12)) l37 c37 k37
  have F42:=fun_mk (st:=(zj (top 45) 1)) l42 c42 k42
  have F47:=fun_mk (st:=(zj (top 45) 0)) l47 c47 k47
  have b5:=F5.binds (ps:=["self","stage","number"]) fun _ _ _ _ _ _ us hl=>by obtain ⟨_,_,_,rfl⟩:=yO hl; rfl
  have b7:=F7.binds (ps:=["self","level","line"]) fun _ _ _ _ _ _ us hl=>by obtain ⟨_,_,_,rfl⟩:=yO hl; rfl
  have b8:=F8.binds (ps:=["self","number"]) fun _ _ _ _ _ _ us hl=>by obtain ⟨_,_,rfl⟩:=yj hl; rfl
  have b9:=F9.binds (ps:=["self"]) fun _ _ _ _ _ _ us hl=>by obtain ⟨_,rfl⟩:=yN hl; rfl
  have b19:=F19.binds (ps:=["self","many"]) fun _ _ _ _ _ _ us hl=>by obtain ⟨_,_,rfl⟩:=yj hl; rfl
  have b20:=F20.binds (ps:=["self"]) fun _ _ _ _ _ _ us hl=>by obtain ⟨_,rfl⟩:=yN hl; rfl
  have b31:=F31.binds (ps:=["self","stage","line"]) fun _ _ _ _ _ _ us hl=>by obtain ⟨_,_,_,rfl⟩:=yO hl; rfl
  have b32:=F32.binds (ps:=["self","stage","gone"]) fun _ _ _ _ _ _ us hl=>by obtain ⟨_,_,_,rfl⟩:=yO hl; rfl
  have b33:=F33.binds (ps:=["self","box","numbers"]) fun _ _ _ _ _ _ us hl=>by obtain ⟨_,_,_,rfl⟩:=yO hl; rfl
  have b34:=F34.binds (ps:=["self","gone"]) fun _ _ _ _ _ _ us hl=>by obtain ⟨_,_,rfl⟩:=yj hl; rfl
  have b35:=F35.binds (ps:=["self"]) fun _ _ _ _ _ _ us hl=>by obtain ⟨_,rfl⟩:=yN hl; rfl
  have b36:xA K _ ["self","lost"] []:=tZ (fd:=PySem.W.fnOf "beat" "Net.beat" (zL (zj (top 45) 2)) (zJ (zj (top 45) 2)) (zf (zj (top 45) 2)) (.ref T36) kV36 dc36 pm36 an36 cd36 ct36) rfl t36 rfl fun us hl=>by rw [List.append_nil] at hl ⊢; obtain ⟨_,_,rfl⟩:=yj hl; exact ⟨_,rfl,rfl⟩
  have e36:xA K _ ["self","lost"] [.none]:=tZ (fd:=PySem.W.fnOf "beat" "Net.beat" (zL (zj (top 45) 2)) (zJ (zj (top 45) 2)) (zf (zj (top 45) 2)) (.ref T36) kV36 dc36 pm36 an36 cd36 ct36) rfl t36 rfl fun us hl=>by obtain ⟨_,rfl⟩:=yN (us:=us) (by rw [List.length_append] at hl; exact Nat.succ.inj hl); exact ⟨_,rfl,rfl⟩
  have b37:=F37.binds (ps:=["self"]) fun _ _ _ _ _ _ us hl=>by obtain ⟨_,rfl⟩:=yN hl; rfl
  have b42:=F42.binds (ps:=["self","ask"]) fun _ _ _ _ _ _ us hl=>by obtain ⟨_,_,rfl⟩:=yj hl; rfl
  have b47:=F47.binds (ps:=["self","k","board","room","kept"]) fun _ _ _ _ _ _ us hl=>by obtain ⟨_,_,_,_,_,rfl⟩:=U4 hl; rfl
  have T:NTxt K mg C:=⟨⟨pg,hd,po,sa⟩,na_depth,na_room,na_most_kept,na_boxes,na_asks,na_now,na_lines,na_keeping,na_done_in,na_logged,na_found,na_answers,PySem.W.mg_of X G aC⟩
  have B:Blt mg:=⟨PySem.W.mg_none_of X G z_abs,PySem.W.mg_none_of X G z_len,PySem.W.mg_none_of X G z_max,PySem.W.mg_none_of X G z_min,PySem.W.mg_none_of X G z_divmod,PySem.W.mg_none_of X G z_repr,PySem.W.mg_none_of X G z_isinstance,PySem.W.mg_none_of X G z_all,PySem.W.mg_none_of X G z_range,PySem.W.mg_none_of X G z_int,PySem.W.mg_none_of X G z_bool,PySem.W.mg_none_of X G z_str,PySem.W.mg_none_of X G z_tuple,PySem.W.mg_none_of X G z_list,PySem.W.mg_none_of X G z_dict⟩
  obtain ⟨oc,od,kV,dc,pm,an,cd,ct,sl,rfl,lk,hc⟩:=h48.2.ex
  refine ⟨PySem.W.fnOf "law" "law" (zL (top 55)) (zJ (top 55)) (zf (top 55)) .none kV dc pm an cd ct,fun s v=>.of_eq rfl,fun base _ _=>?_⟩
  have C1:zn l.prog w K mg base 1 _ _ _:=h1.cl X G (rp h1.2 B       ) (h1.2.binds fun _ _ _ _ _ _ us hl=>by obtain ⟨_,_,_,rfl⟩:=yO hl; rfl)
  have C2:zn l.prog w K mg base 1 _ _ _:=h2.cl X G (jZ h2.2 B       ) (h2.2.binds fun _ _ _ _ _ _ us hl=>by obtain ⟨_,rfl⟩:=yN hl; rfl)
  have C3:zn l.prog w K mg base 2 _ _ _:=h3.cl X G (qU h3.2 B    (C2.mono (by decide))   ) (h3.2.binds fun _ _ _ _ _ _ us hl=>by obtain ⟨_,_,_,rfl⟩:=yO hl; rfl)
  have C4:zn l.prog w K mg base 3 _ _ _:=h4.cl X G (qW h4.2 B    (C3.mono (by decide))   ) (h4.2.binds fun _ _ _ _ _ _ us hl=>by obtain ⟨_,_,_,rfl⟩:=yO hl; rfl)
  have C5:zx l.prog w K mg base C 4 "joinings" ["self","stage","number"] (xY C K):=⟨_,_,uG (P:=l.prog) (w:=w) (base:=base) (n:=3) F5 B T      (C4.mono (by decide))   ,b5,⟨a5,i5,k5⟩⟩
  have C6:zn l.prog w K mg base 3 _ _ _:=h6.cl X G (YH h6.2 B    (C3.mono (by decide))   ) (h6.2.binds fun _ _ _ _ _ _ us hl=>by obtain ⟨_,_,rfl⟩:=yj hl; rfl)
  have C7:zx l.prog w K mg base C 4 "waiting" ["self","level","line"] (wz C K):=⟨_,_,uS (P:=l.prog) (w:=w) (base:=base) (n:=3) F7 B T      (C6.mono (by decide)) (C3.mono (by decide))   ,b7,⟨a7,i7,k7⟩⟩
  have C8:zx l.prog w K mg base C 3 "answer" ["self","number"] (vm C K):=⟨_,_,rA (P:=l.prog) (w:=w) (base:=base) (n:=2) F8 B T      (C3.mono (by decide))   ,b8,⟨a8,i8,k8⟩⟩
  have C9:zx l.prog w K mg base C 1 "todo" ["self"] (rj C K):=⟨_,_,j1 (P:=l.prog) (w:=w) (base:=base) (n:=0) F9 B T         ,b9,⟨a9,i9,k9⟩⟩
  have C10:zn l.prog w K mg base 5 _ _ _:=h10.cl X G (qY h10.2 B T    (C5.mono (by decide)) (C7.mono (by decide)) (C8.mono (by decide)) (C9.mono (by decide))  (C1.mono (by decide))   ) (h10.2.binds fun _ _ _ _ _ _ us hl=>by obtain ⟨_,_,_,rfl⟩:=yO hl; rfl)
  have C11:zn l.prog w K mg base 1 _ _ _:=h11.cl X G (qZ h11.2 B       ) (h11.2.binds fun _ _ _ _ _ _ us hl=>by obtain ⟨_,_,rfl⟩:=yj hl; rfl)
  have C12:zn l.prog w K mg base 2 _ _ _:=h12.cl X G (ja h12.2 B    (C11.mono (by decide))   ) (h12.2.binds fun _ _ _ _ _ _ us hl=>by obtain ⟨_,_,rfl⟩:=yj hl; rfl)
  have C13:zn l.prog w K mg base 2 _ _ _:=h13.cl X G (uT h13.2 B    (C11.mono (by decide))   ) (h13.2.binds fun _ _ _ _ _ _ us hl=>by obtain ⟨_,rfl⟩:=yN hl; rfl)
  have C14:zn l.prog w K mg base 3 _ _ _:=h14.cl X G (jb h14.2 B    (C11.mono (by decide)) (C13.mono (by decide)) (PySem.W.mg_none_of X G ga_sorted)  ) (h14.2.binds fun _ _ _ _ _ _ us hl=>by obtain ⟨_,rfl⟩:=yN hl; rfl)
  have C15:zn l.prog w K mg base 4 _ _ _:=h15.cl X G (j2 h15.2 B    (C14.mono (by decide)) (C11.mono (by decide))   ) (h15.2.binds fun _ _ _ _ _ _ us hl=>by obtain ⟨_,_,_,_,rfl⟩:=rG hl; rfl)
  have C16:zn l.prog w K mg base 1 _ _ _:=h16.cl X G (j3 h16.2 B       ) (h16.2.binds fun _ _ _ _ _ _ us hl=>by obtain ⟨_,_,rfl⟩:=yj hl; rfl)
  have C17:zn l.prog w K mg base 4 _ _ _:=h17.cl X G (uU h17.2 B    (C6.mono (by decide)) (C3.mono (by decide)) (C4.mono (by decide))   ) (h17.2.binds fun _ _ _ _ _ _ us hl=>by obtain ⟨_,_,rfl⟩:=yj hl; rfl)
  have C18:zn l.prog w K mg base 5 _ _ _:=h18.cl X G (jd h18.2 B    (C17.mono (by decide))   ) (h18.2.binds fun _ _ _ _ _ _ us hl=>by obtain ⟨_,_,rfl⟩:=yj hl; rfl)
  have C19:zx l.prog w K mg base C 1 "done_ago" ["self","many"] (sV C K):=⟨_,_,uI (P:=l.prog) (w:=w) (base:=base) (n:=0) F19 B T         ,b19,⟨a19,i19,k19⟩⟩
  have C20:zx l.prog w K mg base C 2 "tell" ["self"] (sZ C K):=⟨_,_,j4 (P:=l.prog) (w:=w) (base:=base) (n:=1) F20 B T    (C19.mono (by decide))   (PySem.W.mg_none_of X G ga_sorted)  ,b20,⟨a20,i20,k20⟩⟩
  have C21:zn l.prog w K mg base 1 _ _ _:=h21.cl X G (YI h21.2 B       ) (h21.2.binds fun _ _ _ _ _ _ us hl=>by obtain ⟨_,_,_,_,rfl⟩:=rG hl; rfl)
  have C22:zn l.prog w K mg base 1 _ _ _:=h22.cl X G (Xf h22.2 B       ) (h22.2.binds fun _ _ _ _ _ _ us hl=>by obtain ⟨_,_,_,rfl⟩:=yO hl; rfl)
  have C23:zn l.prog w K mg base 1 _ _ _:=h23.cl X G (U3 h23.2 B       ) (h23.2.binds fun _ _ _ _ _ _ us hl=>by obtain ⟨_,_,rfl⟩:=yj hl; rfl)
  have C24:zn l.prog w K mg base 2 _ _ _:=h24.cl X G (Wl h24.2 B    (C22.mono (by decide)) (C23.mono (by decide))   ) (h24.2.binds fun _ _ _ _ _ _ us hl=>by obtain ⟨_,_,rfl⟩:=yj hl; rfl)
  have C25:zn l.prog w K mg base 3 _ _ _:=h25.cl X G (je h25.2 B    (C24.mono (by decide))   ) (h25.2.binds fun _ _ _ _ _ _ us hl=>by obtain ⟨_,_,_,rfl⟩:=yO hl; rfl)
  have C26:zn l.prog w K mg base 1 _ _ _:=h26.cl X G (jf h26.2 B       ) (h26.2.binds fun _ _ _ _ _ _ us hl=>by obtain ⟨_,_,_,rfl⟩:=yO hl; rfl)
  have C27:zn l.prog w K mg base 1 _ _ _:=h27.cl X G (Wn h27.2 B       ) (h27.2.binds fun _ _ _ _ _ _ us hl=>by obtain ⟨_,_,_,rfl⟩:=yO hl; rfl)
  have C28:zn l.prog w K mg base 2 _ _ _:=h28.cl X G (uW h28.2 B    (C27.mono (by decide))   ) (h28.2.binds fun _ _ _ _ _ _ us hl=>by obtain ⟨_,_,_,_,rfl⟩:=rG hl; rfl)
  have C29:zn l.prog w K mg base 3 _ _ _:=h29.cl X G (Wp h29.2 B    (C28.mono (by decide)) (C27.mono (by decide))   ) (h29.2.binds fun _ _ _ _ _ _ us hl=>by obtain ⟨_,_,_,_,rfl⟩:=rG hl; rfl)
  have C30:zn l.prog w K mg base 1 _ _ _:=h30.cl X G (j6 h30.2 B       ) (h30.2.binds fun _ _ _ _ _ _ us hl=>by obtain ⟨_,_,rfl⟩:=yj hl; rfl)
  have C31:zx l.prog w K mg base C 4 "hand_on" ["self","stage","line"] (sX C K):=⟨_,_,uX (P:=l.prog) (w:=w) (base:=base) (n:=3) F31 B T      (C25.mono (by decide)) (C26.mono (by decide)) (C29.mono (by decide)) (C30.mono (by decide)) (PySem.W.mg_none_of X G ga_enumerate)  ,b31,⟨a31,i31,k31⟩⟩
  have C32:zx l.prog w K mg base C 5 "pass_on" ["self","stage","gone"] (sY C K):=⟨_,_,uY (P:=l.prog) (w:=w) (base:=base) (n:=4) F32 B T    (C31.mono (by decide))  (C21.mono (by decide))   ,b32,⟨a32,i32,k32⟩⟩
  have C33:zx l.prog w K mg base C 2 "do_asks" ["self","box","numbers"] (vj C K):=⟨_,_,uZ (P:=l.prog) (w:=w) (base:=base) (n:=1) F33 B T      (C23.mono (by decide))   ,b33,⟨a33,i33,k33⟩⟩
  have C34:zx l.prog w K mg base C 3 "take" ["self","gone"] (sW C K):=⟨_,_,j7 (P:=l.prog) (w:=w) (base:=base) (n:=2) F34 B T    (C33.mono (by decide))     ,b34,⟨a34,i34,k34⟩⟩
  have C35:zx l.prog w K mg base C 2 "forget" ["self"] (vi C K):=⟨_,_,rB (P:=l.prog) (w:=w) (base:=base) (n:=1) F35 B T    (C19.mono (by decide))     ,b35,⟨a35,i35,k35⟩⟩
  have C36:zx l.prog w K mg base C 6 "beat" ["self","lost"] (wW C K):=⟨_,_,uK (P:=l.prog) (w:=w) (base:=base) (n:=5) F36 B T    (C20.mono (by decide)) (C32.mono (by decide)) (C34.mono (by decide)) (C35.mono (by decide))  (C18.mono (by decide))   ,b36,⟨a36,i36,k36⟩⟩
  have D36:wj l.prog w K mg base C 6 "beat" ["self","lost"] [.none] (wW C K):=⟨_,_,uK (P:=l.prog) (w:=w) (base:=base) (n:=5) F36 B T    (C20.mono (by decide)) (C32.mono (by decide)) (C34.mono (by decide)) (C35.mono (by decide))  (C18.mono (by decide))   ,e36,⟨a36,i36,k36⟩⟩
  have C37:zx l.prog w K mg base C 1 "log" ["self"] (jT C K):=⟨_,_,YK (P:=l.prog) (w:=w) (base:=base) (n:=0) F37 B T         ,b37,⟨a37,i37,k37⟩⟩
  have C38:zn l.prog w K mg base 4 _ _ _:=h38.cl X G (jh h38.2 B    (C6.mono (by decide))   ) (h38.2.binds fun _ _ _ _ _ _ us hl=>by obtain ⟨_,_,rfl⟩:=yj hl; rfl)
  have C39:zn l.prog w K mg base 2 _ _ _:=h39.cl X G (Wr h39.2 B    (C2.mono (by decide))   ) (h39.2.binds fun _ _ _ _ _ _ us hl=>by obtain ⟨_,rfl⟩:=yN hl; rfl)
  have C40:zn l.prog w K mg base 3 _ _ _:=h40.cl X G (YL h40.2 B    (C39.mono (by decide)) (C2.mono (by decide))   ) (h40.2.binds fun _ _ _ _ _ _ us hl=>by obtain ⟨_,rfl⟩:=yN hl; rfl)
  have C41:zn l.prog w K mg base 4 _ _ _:=h41.cl X G (Ws h41.2 B    (C40.mono (by decide)) (C3.mono (by decide))  (PySem.W.mg_of X G ga_LAST_HAND) ) (h41.2.binds fun _ _ _ _ _ _ us hl=>by obtain ⟨_,_,rfl⟩:=yj hl; rfl)
  have C42:zx l.prog w K mg base C 5 "put" ["self","ask"] (jS C K):=⟨_,_,YM (P:=l.prog) (w:=w) (base:=base) (n:=4) F42 B T      (C38.mono (by decide)) (C41.mono (by decide))  (PySem.W.mg_of X G ga_MOST_ASKS) ,b42,⟨a42,i42,k42⟩⟩
  have C43:zn l.prog w K mg base 2 _ _ _:=h43.cl X G (j9 h43.2 B    (C2.mono (by decide))  (PySem.W.mg_of X G ga_MOST_BOXES) ) (h43.2.binds fun _ _ _ _ _ _ us hl=>by obtain ⟨_,rfl⟩:=yN hl; rfl)
  have C44:zn l.prog w K mg base 3 _ _ _:=h44.cl X G (rD h44.2 B    (C43.mono (by decide))   ) (h44.2.binds fun _ _ _ _ _ _ us hl=>by obtain ⟨_,rfl⟩:=yN hl; rfl)
  have C45:zn l.prog w K mg base 3 _ _ _:=h45.cl X G (rF h45.2 B    (C3.mono (by decide))  (PySem.W.mg_of X G ga_MOST_KEPT) (PySem.W.mg_of X G ga_MOST_ROOM) ) (h45.2.binds fun _ _ _ _ _ _ us hl=>by obtain ⟨_,_,rfl⟩:=yj hl; rfl)
  have C46:zn l.prog w K mg base 3 _ _ _:=h46.cl X G (Zb h46.2 B    (C3.mono (by decide))  (PySem.W.mg_of X G ga_DEEPEST) ) (h46.2.binds fun _ _ _ _ _ _ us hl=>by obtain ⟨_,rfl⟩:=yN hl; rfl)
  have C47:zx l.prog w K mg base C 4 "__init__" ["self","k","board","room","kept"] (rh C K):=⟨_,_,uM (P:=l.prog) (w:=w) (base:=base) (n:=3) F47 B T      (C44.mono (by decide)) (C45.mono (by decide)) (C46.mono (by decide))   ,b47,⟨a47,i47,k47⟩⟩
  exact Sn (P:=l.prog) (w:=w) (base:=base) (n:=6) h48.2 B T    (C36.mono (by decide)) (C37.mono (by decide)) (C42.mono (by decide)) (D36.mono (by decide)) (xD.mono (j:=5) (C47.make ⟨mkc,a47,i47,kc⟩) (by decide)) (C10.mono (by decide)) (C12.mono (by decide)) (C11.mono (by decide)) (C15.mono (by decide)) (C13.mono (by decide)) (C16.mono (by decide)) (PySem.W.mg_none_of X G ga_sorted)
theorem walk {l:PySem.W.OpenLaw} {q:Program} {loose:List Str} {XP:(Str -> Option Value) -> Heap -> Prop} {YP:World -> Heap -> Prop} {d:DefRec} {K:Params -> FG7} (hn:l.most = some 63) (hdf:d.params.defaults = [])
  (hY:∀ (w:World) (h:Heap),YP w h -> (K w.params).In h)
  (F:∀ (w:World) (mg:Str -> Option Value) (fa:Addr) (h:Heap),(K w.params).In h -> h.Ns mainGlobals mg -> mg d.name = some (.ref fa) →
   ∃ fd:FuncData,(∀ (s:Shared) (u:Value),BindsTo s fd ⟨[u],[]⟩ [("_law_script",u)]) /\ ∀ base:Heap,(K w.params).In base -> base.Ns mainGlobals mg -> FnOk l.prog w (K w.params) mg base CX0 7 fa fd ["_law_script"] (Zm (K w.params))) :
  PySem.W.WalkO q loose XP YP l.row.toRowW d [] (fun f vs=>PySem.call f vs) :=
 L2.walk_of (n:=63) (k:=7) (x:="_law_script") (CX:=fun _=>CX0) (sp:=fun w=>Zm (K w.params)) hn (by decide) hdf ⟨rfl,by decide,by decide,rfl⟩ hY F (fun _ _ a ns hl hO hS=>⟨_,rfl,a,ns,rfl,Scr.of hO hS,hl,fun _=>rfl⟩) fun _ _ _ _ _ z=>z
theorem walkX {q:Program} {loose:List Str} {XP:(Str -> Option Value) -> Heap -> Prop} {K:Params -> FG7} {as:List Addr} {n t:Nat} {r:PySem.W.RowW} {d:DefRec} {kwd:List (Str × Expr)} {run:Value -> List Value -> Sem Value}
  (e:∀ P,as = (K P).map (·.1)) (W:PySem.W.WalkO q loose XP (PySem.W.InK K) r d kwd run):PySem.W.WalkX q loose XP (PySem.W.X.obsZ as) (PySem.W.X.valZ K n t) r d kwd run :=
 fun w s₀ s₁ mg mb G Y a o pm cd doc dV kV h2 h3 h4 h5 h6 h7 args vals as' L hpre hlay hrd hwl hlo =>
  W w s₀ s₁ mg mb G (PySem.W.InK.keeps w s₀.heap s₁.heap (PySem.W.X.z_facts e Y).2.1 L.keeps) a o pm cd doc dV kV h2 h3 h4 h5 h6 h7 args vals as' hpre hlay hrd hwl hlo
end My
open PySem PySem.W PyProof.Rows
def PySem.W.Fast.tw16192625573589949458:Unit:=()
def PySem.W.Fast.tw4174808558259273099:Unit:=()
def PySem.W.Fast.tw9683923354454803685:Unit:=()
def PySem.W.Fast.tw3077859254725028912:Unit:=()
def PySem.W.Fast.tw4915019534851395149:Unit:=()
def PySem.W.Fast.tw1094654548628254909:Unit:=()
def PySem.W.Fast.tw17501210664974123980:Unit:=()
def PySem.W.Fast.tw641201490406604293:Unit:=()
def PySem.W.Fast.tw3447934830354609869:Unit:=()
def PySem.W.Fast.tw8715460103529948762:Unit:=()
def PySem.W.Fast.tw8126686583526673384:Unit:=()
def PySem.W.Fast.tw17959669928655244804:Unit:=()
def PySem.W.Fast.tw17902571345749297971:Unit:=()
def PySem.W.Fast.tw825802803436473992:Unit:=()
def PySem.W.Fast.tw17565133369538183208:Unit:=()
def PySem.W.Fast.tw16571815193485453998:Unit:=()
def PySem.W.Fast.tw13027744304019390612:Unit:=()
def PySem.W.Fast.tw16890804068342719527:Unit:=()
def PySem.W.Fast.tw3480880712009972606:Unit:=()
def PySem.W.Fast.tw8082575803261342455:Unit:=()
def PySem.W.Fast.tw10129023852981439873:Unit:=()
def PySem.W.Fast.tw3605058013769933294:Unit:=()
def PySem.W.Fast.tw5006050770486800879:Unit:=()
def PySem.W.Fast.tw1131786306441586213:Unit:=()
def PySem.W.Fast.tw5843789240525135936:Unit:=()
def PySem.W.Fast.tw10976025293149137607:Unit:=()
def PySem.W.Fast.tw219151162908426942:Unit:=()
def PySem.W.Fast.tw6643856077322600296:Unit:=()
def PySem.W.Fast.tw12387929640740292715:Unit:=()
def PySem.W.Fast.tw8216517089370353200:Unit:=()
def PySem.W.Fast.tw6066756930657038089:Unit:=()
def PySem.W.Fast.tw3083321523713224259:Unit:=()
def PySem.W.Fast.tw4332382681450662979:Unit:=()
def PySem.W.Fast.tw14544074074647478062:Unit:=()
def PySem.W.Fast.tw3955857301209894034:Unit:=()
def PySem.W.Fast.tw4203225660311111675:Unit:=()
def PySem.W.Fast.tw8344864565181066083:Unit:=()
def PySem.W.Fast.tw18153984260918736687:Unit:=()
def PySem.W.Fast.tw3745977642235274343:Unit:=()
def PySem.W.Fast.tw10882145687657830514:Unit:=()
def PySem.W.Fast.tw5844028709307682348:Unit:=()
def PySem.W.Fast.tw12614498322457455216:Unit:=()
def PySem.W.Fast.tw14602611023980660392:Unit:=()
def PySem.W.Fast.tw720364246240982339:Unit:=()
def PySem.W.Fast.tw18312817597246105644:Unit:=()
def PySem.W.Fast.tw17802180499808643657:Unit:=()
def PySem.W.Fast.tw15738411629880419113:Unit:=()
def PySem.W.Fast.tw18352495902879460302:Unit:=()
def PySem.W.Fast.tw3688521724663611764:Unit:=()
def PySem.W.Fast.tw9179614268029397964:Unit:=()
def PySem.W.Fast.tw11094412712605778327:Unit:=()
def PySem.W.Fast.tw3079743983454100572:Unit:=()
def PySem.W.Fast.tw10814762648513728067:Unit:=()
def PySem.W.Fast.tw16442813276228104276:Unit:=()
def PySem.W.Fast.tw17623857749866478858:Unit:=()
def PySem.W.Fast.tw10520333109378525089:Unit:=()
def PySem.W.Fast.tw11635088330760440790:Unit:=()
def PySem.W.Fast.tw1533412484258354732:Unit:=()
def PySem.W.Fast.tw2281790422594692370:Unit:=()
def PySem.W.Fast.tw10129594140927185663:Unit:=()
def PySem.W.Fast.tw17355544349387884137:Unit:=()
def PySem.W.Fast.tw11843546697394670611:Unit:=()
def PySem.W.Fast.tw2000432052306122106:Unit:=()
def PySem.W.Fast.tw12265345643596943005:Unit:=()
def PySem.W.Fast.tw5063364199518155382:Unit:=()
def PySem.W.Fast.tw14617190935291406055:Unit:=()
def PySem.W.Fast.tw10615987257672517441:Unit:=()
def PySem.W.Fast.tw13006099622540499000:Unit:=()
def PySem.W.Fast.tw2351257370573396546:Unit:=()
def PySem.W.Fast.tw7305690186586616585:Unit:=()
def PySem.W.Fast.tw10739757635958903478:Unit:=()
def PySem.W.Fast.tw9968478287754574043:Unit:=()
def PySem.W.Fast.tw5831893027548548897:Unit:=()
def PySem.W.Fast.tw49754590694107741:Unit:=()
def PySem.W.Fast.tw3009098419536123342:Unit:=()
def PySem.W.Fast.tw15321364887306436405:Unit:=()
def PySem.W.Fast.tw7057177565273011146:Unit:=()
def PySem.W.Fast.tw3881135556058943646:Unit:=()
def PySem.W.Fast.tw5093057684731993613:Unit:=()
def PySem.W.Fast.tw3118830444365458772:Unit:=()
def PySem.W.Fast.tw16674587341131945020:Unit:=()
def PySem.W.Fast.tw4965852527111515408:Unit:=()
def PySem.W.Fast.tw4830022838751919326:Unit:=()
def PySem.W.Fast.tw9120085495980504008:Unit:=()
def PySem.W.Fast.tw9297092361617315609:Unit:=()
def PySem.W.Fast.tw9491429280957697868:Unit:=()
def PySem.W.Fast.tw13925011393943612396:Unit:=()
def PySem.W.Fast.tw4529553313631364001:Unit:=()
def PySem.W.Fast.tw3071933081099552480:Unit:=()
def PySem.W.Fast.tw1807073449043402782:Unit:=()
def PySem.W.Fast.tw11538468259312864914:Unit:=()
def PySem.W.Fast.tw4501041506842683327:Unit:=()
def PySem.W.Fast.tw3227759851693780305:Unit:=()
def PySem.W.Fast.tw8285220326773390303:Unit:=()
def PySem.W.Fast.tw14870203172351627115:Unit:=()
def PySem.W.Fast.tw8766868429399337266:Unit:=()
def PySem.W.Fast.tw7396300204887476526:Unit:=()
def PySem.W.Fast.tw7036407195464665389:Unit:=()
def PySem.W.Fast.tw15320509654843322848:Unit:=()
def PySem.W.Fast.tw13080905834530686931:Unit:=()
def PySem.W.Fast.tw11628360675542953604:Unit:=()
def PySem.W.Fast.tw14860561487829673860:Unit:=()
def PySem.W.Fast.tw12862017148878517228:Unit:=()
def PySem.W.Fast.tw8428573473064013649:Unit:=()
def PySem.W.Fast.tw4390500292585905185:Unit:=()
def PySem.W.Fast.tw966539333770129880:Unit:=()
def PySem.W.Fast.tw10416658772585508195:Unit:=()
def PySem.W.Fast.tw2891879202439343103:Unit:=()
def PySem.W.Fast.tw14703819157708117920:Unit:=()
def PySem.W.Fast.tw12764092825592588162:Unit:=()
def PySem.W.Fast.tw12667218083535843601:Unit:=()
def PySem.W.Fast.tw10775537583069484308:Unit:=()
def PySem.W.Fast.tw4344706329935479208:Unit:=()
def PySem.W.Fast.tw16047496730051553770:Unit:=()
def PySem.W.Fast.tw16095071129072505147:Unit:=()
def PySem.W.Fast.tw18098991137185384871:Unit:=()
def PySem.W.Fast.tw3043514015189129759:Unit:=()
def PySem.W.Fast.tw16421616136792422648:Unit:=()
def PySem.W.Fast.tw173992872219154461:Unit:=()
def PySem.W.Fast.tw3763408110373707504:Unit:=()
def PySem.W.Fast.tw10696829584273673052:Unit:=()
def PySem.W.Fast.tw10219933675072124485:Unit:=()
def PySem.W.Fast.tw3331911530548834647:Unit:=()
def PySem.W.Fast.tw6252138259547020468:Unit:=()
def PySem.W.Fast.tw9885875621694052724:Unit:=()
def PySem.W.Fast.tw5442107079032227279:Unit:=()
def PySem.W.Fast.tw13913724957999401345:Unit:=()
def PySem.W.Fast.tw7304276814427749834:Unit:=()
def PySem.W.Fast.tw13973234948690871245:Unit:=()
def PySem.W.Fast.tw18066027617215378859:Unit:=()
def PySem.W.Fast.tw3730117481742618848:Unit:=()
def PySem.W.Fast.tw14892565186455893355:Unit:=()
def PySem.W.Fast.tw13035687767056968485:Unit:=()
def PySem.W.Fast.tw6321882333204136972:Unit:=()
def PySem.W.Fast.tw8695811514418519929:Unit:=()
def PySem.W.Fast.tw15319622799910990933:Unit:=()
def PySem.W.Fast.tw11365246104032971737:Unit:=()
def PySem.W.Fast.tw3358208332650099892:Unit:=()
def PySem.W.Fast.tw1942950061555788595:Unit:=()
def PySem.W.Fast.tw6886770586494127696:Unit:=()
def PySem.W.Fast.tw4612207071898487605:Unit:=()
def PySem.W.Fast.tw6495443603600258772:Unit:=()
def PySem.W.Fast.tw8080158872307997210:Unit:=()
def PySem.W.Fast.tw9939213018848503771:Unit:=()
def PySem.W.Fast.tw2486419558578753288:Unit:=()
def PySem.W.Fast.tw1889297285667873941:Unit:=()
def PySem.W.Fast.tw5981516149256266191:Unit:=()
def PySem.W.Fast.tw4915927979142837365:Unit:=()
def PySem.W.Fast.tw12953823801083951077:Unit:=()
def PySem.W.Fast.tw8032583952422594085:Unit:=()
def PySem.W.Fast.tw125456170823156579:Unit:=()
def PySem.W.Fast.tw9540315294703064067:Unit:=()
def PySem.W.Fast.tw11764881051318583945:Unit:=()
def PySem.W.Fast.tw7068924854190741307:Unit:=()
def PySem.W.Fast.tw16512061205028771349:Unit:=()
def PySem.W.Fast.tw6504585057675917175:Unit:=()
def PySem.W.Fast.tw3456476897842533410:Unit:=()
def PySem.W.Fast.tw16513831361961970360:Unit:=()
def PySem.W.Fast.tw8715357810295712616:Unit:=()
def PySem.W.Fast.tw1774340804098843427:Unit:=()
def PySem.W.Fast.tw7019110712884869879:Unit:=()
def PySem.W.Fast.tw5036660728433123153:Unit:=()
def PySem.W.Fast.tw18309682515152076697:Unit:=()
def PySem.W.Fast.tw416038433487604856:Unit:=()
def PySem.W.Fast.tw8563539525703015428:Unit:=()
def PySem.W.Fast.tw18156742719977705915:Unit:=()
def PySem.W.Fast.tw2876573666780917061:Unit:=()
def PySem.W.Fast.tw10868847647175412195:Unit:=()
def PySem.W.Fast.tw8814556094830187229:Unit:=()
def PySem.W.Fast.tw1827001020419489385:Unit:=()
def PySem.W.Fast.tw3948015649930229184:Unit:=()
def PySem.W.Fast.tw11089407279376604544:Unit:=()
def PySem.W.Fast.tw7979738549915038835:Unit:=()
def PySem.W.Fast.tw6530261709418357842:Unit:=()
def PySem.W.Fast.tw303249119901378804:Unit:=()
def PySem.W.Fast.tw15718694288697320793:Unit:=()
def PySem.W.Fast.tw14213309670476601959:Unit:=()
def PySem.W.Fast.tw7994999699523972616:Unit:=()
def PySem.W.Fast.tw5267580848184954034:Unit:=()
def PySem.W.Fast.tw10986092708772151945:Unit:=()
def PySem.W.Fast.tw8680345292588631797:Unit:=()
def PySem.W.Fast.tw16849114986836736845:Unit:=()
def PySem.W.Fast.tw11156224877746891435:Unit:=()
def PySem.W.Fast.tw7985250675694850388:Unit:=()
def PySem.W.Fast.tw8081191007030656174:Unit:=()
def PySem.W.Fast.tw6215266147285728164:Unit:=()
def PySem.W.Fast.tw8372490323366090023:Unit:=()
def PySem.W.Fast.tw8108317129460146372:Unit:=()
def PySem.W.Fast.tw5640497729861620322:Unit:=()
def PySem.W.Fast.tw6270251398582767412:Unit:=()
def PySem.W.Fast.tw9459634227467372363:Unit:=()
def PySem.W.Fast.tw9945846256042028155:Unit:=()
def PySem.W.Fast.tw14943360892217666443:Unit:=()
def PySem.W.Fast.tw9348206841027376719:Unit:=()
def PySem.W.Fast.tw11818763667819570032:Unit:=()
def PySem.W.Fast.tw8530306069509789852:Unit:=()
def PySem.W.Fast.tw15437387879392642740:Unit:=()
def PySem.W.Fast.tw1936818752036889217:Unit:=()
def PySem.W.Fast.tw17562139131272731802:Unit:=()
def PySem.W.Fast.tw1832069693179523492:Unit:=()
def PySem.W.Fast.tw3646265587757472383:Unit:=()
def PySem.W.Fast.tw10682406877775617474:Unit:=()
def PySem.W.Fast.tw5015613914292478001:Unit:=()
def PySem.W.Fast.tw167705918256472069:Unit:=()
def PySem.W.Fast.tw6319590130864218053:Unit:=()
def PySem.W.Fast.tw18275296448638394835:Unit:=()
def PySem.W.Fast.tw9561397787165666580:Unit:=()
def PySem.W.Fast.tw3784070261967907090:Unit:=()
def PySem.W.Fast.tw7673714931659560690:Unit:=()
def PySem.W.Fast.tw12450639733266786029:Unit:=()
def PySem.W.Fast.tw13887802933048977705:Unit:=()
def PySem.W.Fast.tw11947146769058207886:Unit:=()
def PySem.W.Fast.tw15843486307475570334:Unit:=()
def PySem.W.Fast.tw10723417345569843753:Unit:=()
def PySem.W.Fast.tw15949660390082912111:Unit:=()
def PySem.W.Fast.tw5057111002188611791:Unit:=()
def PySem.W.Fast.tw12605956902553422813:Unit:=()
def PySem.W.Fast.tw7573651015790017726:Unit:=()
def PySem.W.Fast.tw8960829912334234261:Unit:=()
def PySem.W.Fast.tw10064642290916044525:Unit:=()
def PySem.W.Fast.tw12492434281919216323:Unit:=()
def PySem.W.Fast.tw570766992815161326:Unit:=()
def PySem.W.Fast.tw14950445279984432483:Unit:=()
def PySem.W.Fast.tw14038528003985855421:Unit:=()
def PySem.W.Fast.tw10724997266319344276:Unit:=()
def PySem.W.Fast.tw11599080196950505210:Unit:=()
def PySem.W.Fast.tw6139238661021993845:Unit:=()
def PySem.W.Fast.tw1828843181237572216:Unit:=()
def PySem.W.Fast.tw14857380780106419161:Unit:=()
def PySem.W.Fast.tw12343320218078240587:Unit:=()
def PySem.W.Fast.tw3150537831268004296:Unit:=()
def PySem.W.Fast.tw11256955770008252314:Unit:=()
set_option maxRecDepth 100000 in
theorem PySem.Challenge.cw_joinedasks_k53_whole_beats_enough_holds : PySem.Challenge.rw_joinedasks_k53_whole_beats_enough.Holds := by
 w_on; o_law; z_head; (case hw=>w_witness2)
 refine My.walkX (fun _=>by kernel_rfl) (My.walk (l:=PySem.Challenge.rw_joinedasks_k53_whole_beats_enough) rfl rfl (fun w h Y=>Y) ?F)
 case F =>
  intro w mg fa h KX G hmg
  refine' My.all_mk KX G hmg ?aC ?pg ?hd ?po ?sa ?mkc ?kc ?na_depth ?na_room ?na_most_kept ?na_boxes ?na_asks ?na_now ?na_lines ?na_keeping ?na_done_in ?na_logged ?na_found ?na_answers       ?h1 ?h2 ?h3 ?h4 ?a5 ?i5 ?l5 ?c5 ?k5 ?h6 ?a7 ?i7 ?l7 ?c7 ?k7 ?a8 ?i8 ?l8 ?c8 ?k8 ?a9 ?i9 ?l9 ?c9 ?k9 ?h10 ?h11 ?h12 ?h13 ?h14 ?h15 ?h16 ?h17 ?h18 ?a19 ?i19 ?l19 ?c19 ?k19 ?a20 ?i20 ?l20 ?c20 ?k20 ?h21 ?h22 ?h23 ?h24 ?h25 ?h26 ?h27 ?h28 ?h29 ?h30 ?a31 ?i31 ?l31 ?c31 ?k31 ?a32 ?i32 ?l32 ?c32 ?k32 ?a33 ?i33 ?l33 ?c33 ?k33 ?a34 ?i34 ?l34 ?c34 ?k34 ?a35 ?i35 ?l35 ?c35 ?k35 ?a36 ?i36 ?l36 ?c36 ?k36 ?t36 ?a37 ?i37 ?l37 ?c37 ?k37 ?h38 ?h39 ?h40 ?h41 ?a42 ?i42 ?l42 ?c42 ?k42 ?h43 ?h44 ?h45 ?h46 ?a47 ?i47 ?l47 ?c47 ?k47 ?h48 ?ga_DEEPEST ?ga_LAST_HAND ?ga_MOST_ASKS ?ga_MOST_BOXES ?ga_MOST_KEPT ?ga_MOST_ROOM ?ga_enumerate ?ga_sorted ?z_abs ?z_len ?z_max ?z_min ?z_divmod ?z_repr ?z_isinstance ?z_all ?z_range ?z_int ?z_bool ?z_str ?z_tuple ?z_list ?z_dict
  (case aC=>k_is); (case pg=>k_is); (case hd=>k_is); (case po=>k_is); (case sa=>k_is); (case mkc=>k_is); (case kc=>k_is); (case na_depth=>k_is); (case na_room=>k_is); (case na_most_kept=>k_is); (case na_boxes=>k_is); (case na_asks=>k_is); (case na_now=>k_is); (case na_lines=>k_is); (case na_keeping=>k_is); (case na_done_in=>k_is); (case na_logged=>k_is); (case na_found=>k_is); (case na_answers=>k_is)
  (case h1=>exact ⟨by k_is,L2.fun_mk (by k_is) (by k_is) (by k_is)⟩)
  (case h2=>exact ⟨by k_is,L2.fun_mk (by k_is) (by k_is) (by k_is)⟩)
  (case h3=>exact ⟨by k_is,L2.fun_mk (by k_is) (by k_is) (by k_is)⟩)
  (case h4=>exact ⟨by k_is,L2.fun_mk (by k_is) (by k_is) (by k_is)⟩)
  (case a5=>k_is); (case i5=>k_is); (case l5=>k_is); (case c5=>k_is); (case k5=>k_is)
  (case h6=>exact ⟨by k_is,L2.fun_mk (by k_is) (by k_is) (by k_is)⟩)
  (case a7=>k_is); (case i7=>k_is); (case l7=>k_is); (case c7=>k_is); (case k7=>k_is)
  (case a8=>k_is); (case i8=>k_is); (case l8=>k_is); (case c8=>k_is); (case k8=>k_is)
  (case a9=>k_is); (case i9=>k_is); (case l9=>k_is); (case c9=>k_is); (case k9=>k_is)
  (case h10=>exact ⟨by k_is,L2.fun_mk (by k_is) (by k_is) (by k_is)⟩)
  (case h11=>exact ⟨by k_is,L2.fun_mk (by k_is) (by k_is) (by k_is)⟩)
  (case h12=>exact ⟨by k_is,L2.fun_mk (by k_is) (by k_is) (by k_is)⟩)
  (case h13=>exact ⟨by k_is,L2.fun_mk (by k_is) (by k_is) (by k_is)⟩)
  (case h14=>exact ⟨by k_is,L2.fun_mk (by k_is) (by k_is) (by k_is)⟩)
  (case h15=>exact ⟨by k_is,L2.fun_mk (by k_is) (by k_is) (by k_is)⟩)
  (case h16=>exact ⟨by k_is,L2.fun_mk (by k_is) (by k_is) (by k_is)⟩)
  (case h17=>exact ⟨by k_is,L2.fun_mk (by k_is) (by k_is) (by k_is)⟩)
  (case h18=>exact ⟨by k_is,L2.fun_mk (by k_is) (by k_is) (by k_is)⟩)
  (case a19=>k_is); (case i19=>k_is); (case l19=>k_is); (case c19=>k_is); (case k19=>k_is)
  (case a20=>k_is); (case i20=>k_is); (case l20=>k_is); (case c20=>k_is); (case k20=>k_is)
  (case h21=>exact ⟨by k_is,L2.fun_mk (by k_is) (by k_is) (by k_is)⟩)
  (case h22=>exact ⟨by k_is,L2.fun_mk (by k_is) (by k_is) (by k_is)⟩)
  (case h23=>exact ⟨by k_is,L2.fun_mk (by k_is) (by k_is) (by k_is)⟩)
  (case h24=>exact ⟨by k_is,L2.fun_mk (by k_is) (by k_is) (by k_is)⟩)
  (case h25=>exact ⟨by k_is,L2.fun_mk (by k_is) (by k_is) (by k_is)⟩)
  (case h26=>exact ⟨by k_is,L2.fun_mk (by k_is) (by k_is) (by k_is)⟩)
  (case h27=>exact ⟨by k_is,L2.fun_mk (by k_is) (by k_is) (by k_is)⟩)
  (case h28=>exact ⟨by k_is,L2.fun_mk (by k_is) (by k_is) (by k_is)⟩)
  (case h29=>exact ⟨by k_is,L2.fun_mk (by k_is) (by k_is) (by k_is)⟩)
  (case h30=>exact ⟨by k_is,L2.fun_mk (by k_is) (by k_is) (by k_is)⟩)
  (case a31=>k_is); (case i31=>k_is); (case l31=>k_is); (case c31=>k_is); (case k31=>k_is)
  (case a32=>k_is); (case i32=>k_is); (case l32=>k_is); (case c32=>k_is); (case k32=>k_is)
  (case a33=>k_is); (case i33=>k_is); (case l33=>k_is); (case c33=>k_is); (case k33=>k_is)
  (case a34=>k_is); (case i34=>k_is); (case l34=>k_is); (case c34=>k_is); (case k34=>k_is)
  (case a35=>k_is); (case i35=>k_is); (case l35=>k_is); (case c35=>k_is); (case k35=>k_is)
  (case a36=>k_is); (case i36=>k_is); (case l36=>k_is); (case c36=>k_is); (case k36=>k_is)
  (case t36=>k_is)
  (case a37=>k_is); (case i37=>k_is); (case l37=>k_is); (case c37=>k_is); (case k37=>k_is)
  (case h38=>exact ⟨by k_is,L2.fun_mk (by k_is) (by k_is) (by k_is)⟩)
  (case h39=>exact ⟨by k_is,L2.fun_mk (by k_is) (by k_is) (by k_is)⟩)
  (case h40=>exact ⟨by k_is,L2.fun_mk (by k_is) (by k_is) (by k_is)⟩)
  (case h41=>exact ⟨by k_is,L2.fun_mk (by k_is) (by k_is) (by k_is)⟩)
  (case a42=>k_is); (case i42=>k_is); (case l42=>k_is); (case c42=>k_is); (case k42=>k_is)
  (case h43=>exact ⟨by k_is,L2.fun_mk (by k_is) (by k_is) (by k_is)⟩)
  (case h44=>exact ⟨by k_is,L2.fun_mk (by k_is) (by k_is) (by k_is)⟩)
  (case h45=>exact ⟨by k_is,L2.fun_mk (by k_is) (by k_is) (by k_is)⟩)
  (case h46=>exact ⟨by k_is,L2.fun_mk (by k_is) (by k_is) (by k_is)⟩)
  (case a47=>k_is); (case i47=>k_is); (case l47=>k_is); (case c47=>k_is); (case k47=>k_is)
  (case h48=>exact ⟨by k_is,L2.fun_mk (by k_is) (by k_is) (by k_is)⟩)
  (case ga_DEEPEST=>k_is)
  (case ga_LAST_HAND=>k_is)
  (case ga_MOST_ASKS=>k_is)
  (case ga_MOST_BOXES=>k_is)
  (case ga_MOST_KEPT=>k_is)
  (case ga_MOST_ROOM=>k_is)
  (case ga_enumerate=>k_is)
  (case ga_sorted=>k_is)
  (case z_abs=>k_is); (case z_len=>k_is); (case z_max=>k_is); (case z_min=>k_is); (case z_divmod=>k_is); (case z_repr=>k_is); (case z_isinstance=>k_is); (case z_all=>k_is); (case z_range=>k_is); (case z_int=>k_is); (case z_bool=>k_is); (case z_str=>k_is); (case z_tuple=>k_is); (case z_list=>k_is); (case z_dict=>k_is)
