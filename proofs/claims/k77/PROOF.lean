import PyProof.Rows.All
import Wide.All
import OpenK.AllK
import Wide.FinOn
import Lean
import PyProof.EqAt
import PyProof.EqKinds
import PyProof.TupleCall
import PyProof.NeKinds
import PyProof.Rows.All
import Wide.All
import OpenK.AllK
import Wide.FinOn
import PyProof.EqAt
import PyProof.EqKinds
import PyProof.TupleCall
import PyProof.NeKinds
import PyProof.ReprRoads
import PyProof.ReprLen
import PyProof.Rows.RegStrFacts
import PyProof.Draws
import PyProof.EnumStmt
import PyProof.ZipIter
import PyProof.ListNew
import PyProof.TupleOfGen
import PyProof.ListRange
import PyProof.Rows.Range3
import PyProof.SumWalkG
import PyProof.AutoSeq1
import PyProof.Cells
import PyProof.AutoListH
import PyProof.DictTable
import PyProof.TupleKey
import PyProof.DictRoadsH
import PyProof.DictKinds
import PyProof.ExcBaseAll.ValueError
import PyProof.ExcAttrAll.ValueError
import PyProof.RulesAs
import PyProof.NsDelKeeps
import KE.KDictList
import PyProof.DictCompW
import PyProof.DictItems
import PyProof.DictWalks
import PyProof.Rows.SetFrom
import PyProof.SetRoads
import PyProof.IsiH_list
import PyProof.AttrMiss
import KE.KDictOf
import KE.KSortTup
import PySem.Challenge.RW_joinedasks_k77_whole_serial_not_together
set_option Elab.async false
set_option linter.all false
set_option maxRecDepth 100000
set_option maxHeartbeats 0
abbrev FG7:=PySem.W.Frag
abbrev VS7:=PySem.Value -> PySem.Shared -> Prop
namespace L2
open PySem PySem.Spec PyProof.Rows
abbrev Key:=Sum Int Str
def rT:Key -> Value -> Bool
 | .inl k,v=>Value.isInt k v
 | .inr x,v=>Value.isStrOf x v
def keyH (w:World):Key -> Int
 | .inl k=>hashInt k
 | .inr x=>hashStr w x
theorem zT:∀ {k:Key} {v:Value},rT k v = true -> (∃ i t,k = Sum.inl i /\ v = Value.int i t) \/ (∃ x t,k = Sum.inr x /\ v = Value.str x t)
 | .inl i,v,h=>by
  obtain ⟨t,e⟩:=Value.isInt_shape (k:=i) (v:=v) h
  exact .inl ⟨i,t,rfl,e⟩
 | .inr x,v,h=>by
  obtain ⟨t,e⟩:=Value.isStrOf_shape (x:=x) (v:=v) h
  exact .inr ⟨x,t,rfl,e⟩
theorem ZX (i:Int) (t:Tok):rT (.inl i) (.int i t) = true:=by simp [rT,Value.isInt]
theorem ZY (x:Str) (t:Tok):rT (.inr x) (.str x t) = true:=by simp [rT,Value.isStrOf]
theorem UB (a b:Int):decide ((Sum.inl a:Key) = Sum.inl b) = (a == b):=by
 by_cases e:a = b
 ·subst e; simp
 ·have h:¬ (Sum.inl a:Key) = Sum.inl b:=fun q=>e (Sum.inl.inj q)
  rw [decide_eq_false h]
  exact (beq_eq_false_iff_ne.mpr e).symm
theorem UC (a b:Str):decide ((Sum.inr a:Key) = Sum.inr b) = decide (a = b):=by
 by_cases e:a = b
 ·subst e; simp
 ·have h:¬ (Sum.inr a:Key) = Sum.inr b:=fun q=>e (Sum.inr.inj q)
  rw [decide_eq_false h,decide_eq_false e]
theorem UD (a:Int) (b:Str):decide ((Sum.inl a:Key) = Sum.inr b) = false:=decide_eq_false (fun q=>nomatch q)
theorem UE (a:Str) (b:Int):decide ((Sum.inr a:Key) = Sum.inl b) = false:=decide_eq_false (fun q=>nomatch q)
def z7 (prog:Program) (w:World):PySem.KeyKind prog w Key where
 is:=rT
 hash:=keyH w
 inj:=fun v a b ha hb=>by
  rcases zT ha with ⟨i,t,rfl,rfl⟩ | ⟨x,t,rfl,rfl⟩
  ·rcases zT hb with ⟨j,u,rfl,e⟩ | ⟨y,u,rfl,e⟩
   ·injection e with e1 _; rw [e1]
   ·exact nomatch e
  ·rcases zT hb with ⟨j,u,rfl,e⟩ | ⟨y,u,rfl,e⟩
   ·exact nomatch e
   ·injection e with e1 _; rw [e1]
 byValue:=fun k v h=>by
  rcases zT h with ⟨i,t,rfl,rfl⟩ | ⟨x,t,rfl,rfl⟩ <;> rfl
 pyHash:=fun hv h=>by
  rcases zT hv with ⟨i,t,rfl,rfl⟩ | ⟨x,t,rfl,rfl⟩
  ·exact wpAny_pyHash_int h
  ·exact wpAny_pyHash_str h
 eqBool:=fun hu hv h=>by
  rcases zT hu with ⟨i,t,rfl,rfl⟩ | ⟨x,t,rfl,rfl⟩
  ·rcases zT hv with ⟨j,u,rfl,rfl⟩ | ⟨y,u,rfl,rfl⟩
   ·rw [UB] at h; exact wpAny_eqBool_int h
   ·rw [UD] at h; exact SeqAt.EqAt.int_str i t y u _ _ _ _ h
  ·rcases zT hv with ⟨j,u,rfl,rfl⟩ | ⟨y,u,rfl,rfl⟩
   ·rw [UE] at h; exact SeqAt.EqAt.str_int x t j u _ _ _ _ h
   ·rw [UC] at h; exact wpAny_eqBool_str h
 «strs»:=fun k x t v h=>by
  rcases zT h with ⟨i,u,rfl,e⟩ | ⟨y,u,rfl,e⟩
  ·exact nomatch e
  ·injection e with e1 _
   subst e1
   cases v <;> rfl
theorem rU (prog:Program) (w:World) (i:Int) (t:Tok):(z7 prog w).is (.inl i) (.int i t) = true:=ZX i t
theorem rV (prog:Program) (w:World) (x:Str) (t:Tok):(z7 prog w).is (.inr x) (.str x t) = true:=ZY x t
end L2
namespace L2
open PySem PySem.Spec PyProof.Rows
inductive V where
 | non | bl (b:Bool) | int (i:Int) | str (x:Str) | byt (b:Array UInt8) | flt (b:UInt64) | ref (a:Addr) | ty (n:String)
 deriving DecidableEq
def RelV:V -> Value -> Prop
 | .non,u=>u = Value.none
 | .bl b,u=>u = Value.bool b
 | .int i,u=>∃ t,u = Value.int i t
 | .str x,u=>∃ t,u = Value.str x t
 | .byt b,u=>∃ t,u = Value.bytes b t
 | .flt b,u=>∃ t,u = Value.float b t
 | .ref a,u=>u = Value.ref a
 | .ty n,u=>u = Value.type n
abbrev Vals:List V -> List Value -> Prop:=Paired RelV
theorem Vals.length {xs:List V} {us:List Value} (r:Vals xs us):xs.length = us.length:=Paired.length r
theorem Vals.get:∀ {xs:List V} {us:List Value} {i:Nat} {x:V},Vals xs us -> xs[i]? = some x -> ∃ u,us[i]? = some u /\ RelV x u
 | _,_,_,_,.nil,e=>by simp at e
 | _,_,0,_,.cons r _,e=>by simp at e; subst e; exact ⟨_,rfl,r⟩
 | _,_,i + 1,x,.cons _ t,e=>by
  obtain ⟨u,h1,h2⟩:=Vals.get (i:=i) (x:=x) t (by simpa using e)
  exact ⟨u,by simpa using h1,h2⟩
theorem Vals.set {x:V} {u:Value} (r:RelV x u):∀ {xs:List V} {us:List Value} (i:Nat),Vals xs us -> Vals (xs.set i x) (us.set i u)
 | _,_,_,.nil=>.nil
 | _,_,0,.cons _ t=>.cons r t
 | _,_,i + 1,.cons q t=>.cons q (Vals.set r i t)
theorem Vals.append:∀ {xs ys:List V} {us ws:List Value},Vals xs us -> Vals ys ws -> Vals (xs ++ ys) (us ++ ws)
 | _,_,_,_,.nil,s=>s
 | _,_,_,_,.cons r t,s=>.cons r (Vals.append t s)
theorem Vals.take:∀ {xs:List V} {us:List Value} (n:Nat),Vals xs us -> Vals (xs.take n) (us.take n)
 | _,_,0,_=>.nil
 | _,_,_ + 1,.nil=>.nil
 | _,_,n + 1,.cons r t=>.cons r (Vals.take n t)
theorem Vals.drop:∀ {xs:List V} {us:List Value} (n:Nat),Vals xs us -> Vals (xs.drop n) (us.drop n)
 | _,_,0,r=>r
 | _,_,_ + 1,.nil=>.nil
 | _,_,n + 1,.cons _ t=>Vals.drop n t
def RelO:Option V -> Option Value -> Prop
 | some v,some u=>RelV v u
 | none,none=>True
 | _,_=>False
def KV {κ:Type}:List (κ × V) -> List (κ × Value) -> Prop:=Paired fun (p:κ × V) (q:κ × Value)=>p.1 = q.1 /\ RelV p.2 q.2
def kV:Key -> V
 | .inl i=>.int i
 | .inr x=>.str x
inductive HO where
 /-- a list -/
 | lst (xs:List V)
 /-- a tuple (never changes) -/
 | tup (xs:List V)
 /-- a dict whose keys are ints and texts; one whose keys are tuples of ints and texts (the empty one is both) -/
 | dK (kvs:List (Key × V)) | dT (kvs:List (List Key × V))
 /-- a set of ints: its members,its size -/
 | set (S:Int -> Bool) (n:Nat)
 /-- an instance of the class at C,its dict at dx,its attributes -/
 | ins (C dx:Addr) (fs:List (Str × V))
 /-- the dict of the instance at x -/
 | own (x:Addr)
 /-- the dict of an exception -/
 | xd (fs:List (Str × V))
 /-- a bound method,f of x -/
 | met (f x:Addr)
 /-- a range object lo,lo + 1,.. below hi -/
 | rng (lo hi:Int)
 /-- a thing that is known to the object (the script; a dict while a loop walks it): read,never written while it is so -/
 | frz (o:Obj) (u:HO)
 /-- a code object's table -/
 | tbl (ps:Array Value)
 /-- any other thing,by what is true of its one object (a def of one's own: SetO a S n:=HO.ext fun h=>..) -/
 | ext (φ:Heap -> Prop)
abbrev Hp:=Addr -> Option HO
def upd (H:Hp) (a:Addr) (o:HO):Hp:=fun b=>if b = a then some o else H b
theorem zb {H:Hp} {a:Addr} {o:HO}:upd H a o a = some o:=by unfold upd; rw [if_pos rfl]
theorem zv {H:Hp} {a b:Addr} {o:HO} (h:b ≠ a):upd H a o b = H b:=by unfold upd; rw [if_neg h]
theorem Sa {H:Hp} {a b:Addr} {o u:HO} (h:H a = some o) (h':H b = some u) (d:o ≠ u):a ≠ b:=by
 intro e; subst e; rw [h] at h'; exact d (Option.some.inj h')
theorem zz {H:Hp} {a b:Addr} {o:HO} (h:H a = some o) (h':H b = none):a ≠ b:=by
 intro e; subst e; rw [h] at h'; cases h'
section
variable (P:Program) (w:World)
def zP (H:Hp) (h:Heap) (a:Addr):HO -> Prop
 | .lst xs=>xs.length <= sizeLine /\ ∃ (its:List Value) (n:Nat),Vals xs its /\ h.get? a = some { cls:=.type "list",data:=.seq its.toArray n }
 | .tup xs=>xs.length <= sizeLine /\ ∃ its:List Value,Vals xs its /\ IsTup h a its.toArray
 | .dK kvs=>kvs.length <= sizeLine /\ (a == sysModules) = false /\ ∃ vs,KV kvs vs /\ h.DictOf (z7 P w) a vs
 | .dT kvs=>kvs.length <= sizeLine /\ (a == sysModules) = false /\ ∃ xs:List (List Key × Addr × Value),
   Paired (fun (p:List Key × V) (q:List Key × Addr × Value)=>p.1 = q.1 /\ H q.2.1 = some (.tup (p.1.map kV)) /\ RelV p.2 q.2.2) kvs xs ∧
   ∃ o es ep,h.get? a = some o /\ o.ExactDict /\ o.data = .dict es ep /\ es.toList = xs.map (entryOfKey (tupleKind (z7 P w))) /\ (xs.map (·.1)).Nodup
 | .set S n=>h.SetOf (intKind P w) a S n
 | .ins C dx fs=>H dx = some (.own a) /\ fs.length <= 1000 /\ dx ≠ a /\ h.get? a = some (PySem.W.instObj C dx) ∧
   ∃ mA,h.Ns1 dx mA /\ (∀ f,RelO (fs.lookup f) (mA f)) /\ PySem.Within mA (fs.map (·.1))
 | .own _=>∃ o,h.get? a = some o
 | .xd fs=>∃ mA,h.Ns1 a mA /\ ∀ f,RelO (fs.lookup f) (mA f)
 | .rng lo hi=>∃ t u v,h.get? a = some { cls:=.type "range",data:=.fields #[.int lo t,.int hi u,.int 1 v] }
 | .frz o u=>h.get? a = some o /\ zP H h a u
 | .tbl ps=>h.get? a = some { cls:=.none,data:=.fields ps }
 | .met f x=>h.get? a = some (PySem.W.methodObj (.ref f) (.ref x))
 | .ext φ=>φ h /\ (∃ o,h.get? a = some o) /\ ∀ h1 h2:Heap,φ h1 -> (∀ o,h1.get? a = some o -> h2.get? a = some o) -> φ h2
def HOk (H:Hp) (h:Heap):Prop:=∀ a o,H a = some o -> zP P w H h a o
end
section
variable {P:Program} {w:World} {H H':Hp} {h h':Heap} {a:Addr} {o:HO}
theorem zP.lt (x:zP P w H h a o):a < h.objs.size:=by
 cases o with
 | lst xs=>obtain ⟨_,_,_,_,e⟩:=x; exact Heap.lt_size e
 | tup xs=>obtain ⟨_,_,_,p⟩:=x; exact p.lt
 | dK kvs=>obtain ⟨_,_,_,_,o,_,_,e,_⟩:=x; exact Heap.lt_size e
 | dT kvs=>obtain ⟨_,_,_,_,o,_,_,e,_⟩:=x; exact Heap.lt_size e
 | set S n=>obtain ⟨o,_,_,_,e,_⟩:=x; exact Heap.lt_size e
 | ins C dx fs=>obtain ⟨_,_,_,e,_⟩:=x; exact Heap.lt_size e
 | own y=>obtain ⟨_,e⟩:=x; exact Heap.lt_size e
 | xd fs=>obtain ⟨_,⟨_,_,_,e,_⟩,_⟩:=x; exact Heap.lt_size e
 | rng lo hi=>obtain ⟨_,_,_,e⟩:=x; exact Heap.lt_size e
 | frz ob u=>obtain ⟨e,_⟩:=x; exact Heap.lt_size e
 | tbl ps=>exact Heap.lt_size (show h.get? a = some _ from x)
 | met f y=>exact Heap.lt_size (show h.get? a = some _ from x)
 | ext φ=>obtain ⟨_,⟨_,e⟩,_⟩:=x; exact Heap.lt_size e
theorem Paired.mapP {α β:Type} {F G:α -> β -> Prop}:∀ {l₁:List α} {l₂:List β},Paired F l₁ l₂ -> (∀ a b,F a b -> G a b) -> Paired G l₁ l₂
 | _,_,.nil,_=>.nil
 | _,_,.cons r t,f=>.cons (f _ _ r) (Paired.mapP t f)
theorem zP.stay (x:zP P w H h a o) (k:∀ b u,(b = a \/ H b = some (.own a)) -> h.get? b = some u -> h'.get? b = some u)
  (ho:∀ b,H b = some (.own a) -> H' b = some (.own a)) (ht:∀ b xs,H b = some (.tup xs) -> H' b = some (.tup xs)):zP P w H' h' a o:=by
 induction o with
 | lst xs=>obtain ⟨z,its,n,r,e⟩:=x; exact ⟨z,its,n,r,k _ _ (.inl rfl) e⟩
 | tup xs=>obtain ⟨z,its,r,ob,e,c⟩:=x; exact ⟨z,its,r,ob,k _ _ (.inl rfl) e,c⟩
 | dK kvs=>obtain ⟨z,y,vs,r,ob,es,ep,e,c⟩:=x; exact ⟨z,y,vs,r,ob,es,ep,k _ _ (.inl rfl) e,c⟩
 | dT kvs =>
  obtain ⟨z,y,xs,r,ob,es,ep,e,c⟩:=x
  exact ⟨z,y,xs,Paired.mapP r fun p q z=>⟨z.1,ht _ _ z.2.1,z.2.2⟩,ob,es,ep,k _ _ (.inl rfl) e,c⟩
 | set S n=>obtain ⟨ob,es,ep,t,e,c⟩:=x; exact ⟨ob,es,ep,t,k _ _ (.inl rfl) e,c⟩
 | ins C dx fs =>
  obtain ⟨d,z,ne,e,mA,⟨od,es,ep,e2,c⟩,r⟩:=x
  exact ⟨ho _ d,z,ne,k _ _ (.inl rfl) e,mA,⟨od,es,ep,k _ _ (.inr d) e2,c⟩,r⟩
 | own y=>obtain ⟨ob,e⟩:=x; exact ⟨ob,k _ _ (.inl rfl) e⟩
 | xd fs=>obtain ⟨mA,⟨od,es,ep,e,c⟩,r⟩:=x; exact ⟨mA,⟨od,es,ep,k _ _ (.inl rfl) e,c⟩,r⟩
 | rng lo hi=>obtain ⟨t,u,v,e⟩:=x; exact ⟨t,u,v,k _ _ (.inl rfl) e⟩
 | frz ob u ih=>obtain ⟨e,q⟩:=x; exact ⟨k _ _ (.inl rfl) e,ih q⟩
 | tbl ps =>
  have e:h.get? a = some { cls:=.none,data:=.fields ps }:=x
  show h'.get? a = some { cls:=.none,data:=.fields ps }
  exact k a _ (.inl rfl) e
 | met f y =>
  have e:h.get? a = some (PySem.W.methodObj (.ref f) (.ref y)):=x
  show h'.get? a = some (PySem.W.methodObj (.ref f) (.ref y))
  exact k a _ (.inl rfl) e
 | ext φ=>obtain ⟨p,⟨o,e⟩,st⟩:=x; exact ⟨st _ _ p fun o q=>k _ _ (.inl rfl) q,⟨o,k _ _ (.inl rfl) e⟩,st⟩
theorem HOk.lt (x:HOk P w H h) (e:H a = some o):a < h.objs.size:=(x a o e).lt
theorem HOk.fresh (x:HOk P w H h) (e:h.objs.size <= a):H a = none:=by
 cases q:H a with
 | none=>rfl
 | some u=>exact absurd (Nat.lt_of_lt_of_le (x.lt q) e) (Nat.lt_irrefl _)
theorem HOk.kept (x:HOk P w H h) (k:∀ b u,h.get? b = some u -> h'.get? b = some u):HOk P w H h':=fun a o e =>
 (x a o e).stay (fun b u _ q=>k b u q) (fun _ q=>q) fun _ _ q=>q
theorem HOk.laid (x:HOk P w H h) (k:∀ b u,h.get? b = some u -> h'.get? b = some u) (hp:h.objs.size <= a) (new:zP P w (upd H a o) h' a o):HOk P w (upd H a o) h':=fun b u e=>by
 have hn:=x.fresh hp
 by_cases hb:b = a
 ·subst hb; rw [zb] at e; cases e; exact new
 ·rw [zv hb] at e
  exact (x b u e).stay (fun c v _ q=>k c v q) (fun c q=>by rw [zv (zz q hn)]; exact q) fun c xs q=>by rw [zv (zz q hn)]; exact q
end
def Rd (H:Hp) (a:Addr) (u:HO):Prop:=H a = some u \/ ∃ o,H a = some (.frz o u)
theorem Rd.of {H:Hp} {a:Addr} {u:HO} (h:H a = some u):Rd H a u:=.inl h
theorem Rd.ok {P:Program} {w:World} {H:Hp} {h:Heap} {a:Addr} {u:HO} (r:Rd H a u) (x:HOk P w H h):zP P w H h a u:=by
 rcases r with r | ⟨o,r⟩
 ·exact x a u r
 ·obtain ⟨_,q⟩:=x a _ r
  exact q
def Mut:Option HO -> Prop
 | some (.lst _)=>True
 | some (.dK _)=>True
 | some (.dT _)=>True
 | some (.set _ _)=>True
 | some (.ins _ _ _)=>True
 | some (.ext _)=>True
 | _=>False
section
variable {P:Program} {w:World} {H:Hp} {h h':Heap} {x e:Addr} {o':HO}
theorem HOk.write (ok:HOk P w H h) (mu:Mut (H x)) (he:e = x \/ H e = some (.own x)) (k:∀ b u,b ≠ e -> h.get? b = some u -> h'.get? b = some u) (heo:∃ u,h'.get? e = some u)
  (new:zP P w (upd H x o') h' x o'):HOk P w (upd H x o') h':=fun b u q=>by
 have nown:∀ c y,H c = some (.own y) -> c ≠ x:=fun c y r z=>by subst z; rw [r] at mu; exact mu
 have ntup:∀ c xs,H c = some (.tup xs) -> c ≠ x:=fun c xs r z=>by subst z; rw [r] at mu; exact mu
 by_cases hb:b = x
 ·subst hb; rw [zb] at q; cases q; exact new
 ·rw [zv hb] at q
  by_cases hbe:b = e
  ·have q':H b = some (.own x):=by
    rcases he with z | z
    ·exact absurd (hbe.trans z) hb
    ·rw [hbe]; exact z
   rw [q] at q'; cases q'
   obtain ⟨v,hv⟩:=heo
   exact ⟨v,by rw [hbe]; exact hv⟩
  ·refine (ok b u q).stay (fun c v hc r=>k c v ?_ r) (fun c r=>by rw [zv (nown c b r)]; exact r) fun c xs r=>by rw [zv (ntup c xs r)]; exact r
   rcases hc with rfl | hc
   ·exact hbe
   ·rintro rfl
    rcases he with z | z
    ·exact nown c b hc z
    ·rw [hc] at z; cases z; exact hb rfl
end
structure Un (fs ex:List Addr) (H H':Hp) (h h':Heap):Prop where
 keep:∀ b o,h.get? b = some o -> H b = none -> b ∉ fs -> b ∉ ex -> h'.get? b = some o
 slot:∀ b o,h.get? b = some o -> H b = none -> b ∈ fs -> b ∉ ex -> ∃ sl,h'.get? b = some { o with slots:=sl }
 free:∀ b o,h.get? b = some o -> H b = none -> b ∉ ex -> H' b = none
 there:∀ b o,h.get? b = some o -> b ∉ ex -> ∃ o',h'.get? b = some o'
 tups:∀ b xs,H b = some (.tup xs) -> H' b = some (.tup xs)
 frzs:∀ b o u,H b = some (.frz o u) -> H' b = some (.frz o u)
 tbls:∀ b ps,H b = some (.tbl ps) -> ∃ more,H' b = some (.tbl (ps ++ more))
section
variable {fs fs' ex ex':List Addr} {H H1 H2:Hp} {h h1 h2 h':Heap} {a x e:Addr} {o:HO}
theorem Un.any (u:Un fs ex H H1 h h1) {b:Addr} {ob:Obj} (q:h.get? b = some ob) (n:H b = none) (hx:b ∉ ex):∃ sl,h1.get? b = some { ob with slots:=sl }:=by
 by_cases hb:b ∈ fs
 ·exact u.slot b ob q n hb hx
 ·exact ⟨ob.slots,u.keep b ob q n hb hx⟩
theorem Un.trans (a:Un fs ex H H1 h h1) (b:Un fs ex H1 H2 h1 h2):Un fs ex H H2 h h2 where
 keep:=fun c ob q n hc hx=>b.keep c ob (a.keep c ob q n hc hx) (a.free c ob q n hx) hc hx
 slot:=fun c ob q n hc hx=>by
  obtain ⟨sl,e1⟩:=a.slot c ob q n hc hx
  obtain ⟨sl',e2⟩:=b.slot c _ e1 (a.free c ob q n hx) hc hx
  exact ⟨sl',e2⟩
 free:=fun c ob q n hx=>by
  obtain ⟨o',e1⟩:=a.there c ob q hx
  exact b.free c o' e1 (a.free c ob q n hx) hx
 there:=fun c ob q hx=>by
  obtain ⟨o',e1⟩:=a.there c ob q hx
  exact b.there c o' e1 hx
 tups:=fun c xs q=>b.tups c xs (a.tups c xs q)
 frzs:=fun c ob xs q=>b.frzs c ob xs (a.frzs c ob xs q)
 tbls:=fun c ps q=>by
  obtain ⟨m1,e1⟩:=a.tbls c ps q
  obtain ⟨m2,e2⟩:=b.tbls c _ e1
  exact ⟨m1 ++ m2,by rw [e2,Array.append_assoc]⟩
theorem Un.kept (k:∀ b u,h.get? b = some u -> h'.get? b = some u):Un fs ex H H h h' :=
 ⟨fun b ob q _ _ _=>k b ob q,fun b ob q _ _ _=>⟨ob.slots,k b ob q⟩,fun _ _ _ n _=>n,fun b ob q _=>⟨ob,k b ob q⟩,fun _ _ q=>q,fun _ _ _ q=>q,fun _ ps q=>⟨#[],by rw [q]; simp⟩⟩
theorem Un.refl:Un fs ex H H h h:=Un.kept fun _ _ q=>q
theorem Un.laid (k:∀ b u,h.get? b = some u -> h'.get? b = some u) (hp:h.objs.size <= a) (hn:H a = none):Un fs ex H (upd H a o) h h' where
 keep:=fun b u q _ _ _=>k b u q
 slot:=fun b u q _ _ _=>⟨u.slots,k b u q⟩
 free:=fun b u q n _=>by rw [zv (Nat.ne_of_lt (Nat.lt_of_lt_of_le (Heap.lt_size q) hp))]; exact n
 there:=fun b u q _=>⟨u,k b u q⟩
 tups:=fun b xs q=>by rw [zv (zz q hn)]; exact q
 frzs:=fun b u xs q=>by rw [zv (zz q hn)]; exact q
 tbls:=fun b ps q=>⟨#[],by rw [zv (zz q hn),q]; simp⟩
theorem Un.write (mu:Mut (H x)) (he:e = x \/ H e = some (.own x)) (k:∀ b u,b ≠ e -> h.get? b = some u -> h'.get? b = some u) (heo:∃ u,h'.get? e = some u):Un fs ex H (upd H x o) h h':=by
 have hx:∀ b,H b = none -> b ≠ x:=fun b n z=>by subst z; rw [n] at mu; exact mu
 have hb:∀ b,H b = none -> b ≠ e:=fun b n z=>by
  subst z
  rcases he with r | r
  ·exact hx b n r
  ·rw [n] at r; cases r
 have hm:∀ b u,H b = some u -> ¬ Mut (some u) -> b ≠ x:=fun b u q nm z=>by subst z; rw [q] at mu; exact nm mu
 refine ⟨fun b u q n _ _=>k b u (hb b n) q,fun b u q n _ _=>⟨u.slots,k b u (hb b n) q⟩,fun b u q n _=>by rw [zv (hx b n)]; exact n,fun b u q _=>?_,
  fun b xs q=>by rw [zv (hm b _ q fun z=>z)]; exact q,fun b u xs q=>by rw [zv (hm b _ q fun z=>z)]; exact q,fun b ps q=>⟨#[],by rw [zv (hm b _ q fun z=>z),q]; simp⟩⟩
 by_cases hbe:b = e
 ·subst hbe; exact heo
 ·exact ⟨u,k b u hbe q⟩
theorem Un.mono (u:Un fs ex H H1 h h1) (hs:∀ b ∈ fs,b ∈ fs') (hx:∀ b ∈ ex,b ∈ ex'):Un fs' ex' H H1 h h1 :=
 ⟨fun b ob q n hb he=>u.keep b ob q n (fun z=>hb (hs b z)) fun z=>he (hx b z),fun _ _ q n _ he=>u.any q n fun z=>he (hx _ z),fun b ob q n he=>u.free b ob q n fun z=>he (hx b z),fun b ob q he=>u.there b ob q fun z=>he (hx b z),u.tups,u.frzs,u.tbls⟩
end
def trk (h:Heap) (H:Hp):List Addr:=(List.range h.objs.size).filter fun a=>(H a).isSome
def hidT (h:Heap) (H:Hp):Heap:=PySem.W.hideAll h (trk h H)
theorem ZZ (h:Heap) (H:Hp):(hidT h H).objs.size = h.objs.size:=PySem.W.hideAll_size _ _
theorem X7 {h:Heap} {H:Hp} {b:Addr} {o:Obj} (e:h.get? b = some o) (n:H b = none):(hidT h H).get? b = some o :=
 PySem.W.hideAll_get _ e fun hm=>by
  have q:(H b).isSome = true:=(List.mem_filter.mp hm).2
  rw [n] at q; simp at q
theorem VD {h:Heap} {H:Hp} {b:Addr} {o:Obj} (e:(hidT h H).get? b = some o):h.get? b = some o /\ H b = none:=by
 have e':h.get? b = some o:=PySem.W.of_hideAll (trk h H) e
 refine ⟨e',?_⟩
 cases q:H b with
 | none=>rfl
 | some x =>
  have hm:b ∈ trk h H:=List.mem_filter.mpr ⟨List.mem_range.mpr (Heap.lt_size e'),by simp [q]⟩
  have z:(hidT h H).get? b = none:=PySem.W.hideAll_none (trk h H) hm
  rw [z] at e; cases e
def VE (g h:Heap) (L:Addr):List (Addr × Obj):=(List.range h.objs.size).filterMap fun a=>if a = L \/ (g.get? a).isSome = true then none else (h.get? a).map fun o=>(a,o)
def rest (g h:Heap) (L d:Addr):List (Addr × Obj):=(VE g h L).filter fun p=>decide (p.1 ≠ d)
end L2
namespace L2
open PySem PySem.Spec PyProof.Rows
structure Mod (K:FG7) (mg:Str -> Option Value) (base:Heap):Prop where
 kin:K.In base
 glob:base.Ns mainGlobals mg
 blt:∃ mb,base.Ns builtinsNs mb /\ ∀ x:Str,x ≠ "__name__" -> mb x = bootBuiltins x
 nolimit:base.NoLimit
structure Cx where
 prog:Program
 w:World
 K:FG7
 mg:Str -> Option Value
 base:Heap
 A:Around
 N:List Str
 s₀:Shared
 H₀:Hp
 env:Env
 outer:List Env
 stack:List Env
 ex:List Addr
 fn:Str -> Bool
 calm:Bool
 pn:List (Addr × Obj)
 xe:VS7
def frs (l:List Env):List Addr:=l.filterMap (·.frame)
abbrev Cx.fs (X:Cx):List Addr:=frs X.outer
def Vis (sc:Scope) (x:Str):Prop:=sc.names.lookup x = some .local \/ sc.names.lookup x = some .cell \/ sc.names.lookup x = some .free
def Loc (sc:Scope) (x:Str):Prop:=sc.names.lookup x = some .local \/ sc.names.lookup x = some .cell
def Look (env:Env) (h:Heap) (m:Str -> Option Value) (x:Str) (u:Value):Prop :=
 (env.kindOf x = some .local /\ m x = some u) \/ ((env.kindOf x = some .cell \/ env.kindOf x = some .free) /\ ∃ c,env.cells.lookup x = some c /\ h.IsCell c (some u))
structure Cx.Ok (X:Cx):Prop where
 mod:Mod X.K X.mg X.base
 kind:X.env.scope.kind = .function
 glob:X.env.globals = mainGlobals
 blt:X.env.builtins = builtinsNs
 above:X.s₀.heap.objs.size <= X.env.locals
 inj:∀ x y c,X.env.cells.lookup x = some c -> X.env.cells.lookup y = some c -> x = y
 has:∀ x,(X.env.kindOf x = some .cell \/ X.env.kindOf x = some .free) -> ∃ c,X.env.cells.lookup x = some c
 cab:∀ x c,X.fn x = true -> X.env.cells.lookup x = some c -> X.s₀.heap.objs.size <= c
 hd:X.calm = true -> X.A.handled = none
 frames:X.A.frames = some X.stack
 stk:X.stack = X.outer \/ (X.stack = X.env :: X.outer /\ X.env.frame = some X.env.locals)
 exf:∀ b ∈ X.ex,b ≠ X.env.locals /\ ∀ x c,X.env.cells.lookup x = some c -> c ≠ b
 bs:∀ b o,X.base.get? b = some o -> X.s₀.heap.get? b = some o /\ X.H₀ b = none
 bsz:X.base.objs.size <= X.s₀.heap.objs.size
 noex:∀ b o,X.base.get? b = some o -> b ∉ X.ex
 exfs:∀ b ∈ X.ex,b ∉ X.fs
 funs:X.s₀.heap.FunFrames X.base X.outer
 frf:∀ b ∈ X.fs,X.H₀ b = none
structure Inv (X:Cx) (pins:List (Addr × Obj)) (σ:List (Option V)) (H:Hp) (s:Shared):Prop where
 ok:X.Ok
 os:s.os = X.s₀.os
 bare:AllBare s.gens
 base:Un X.fs X.ex X.H₀ H X.s₀.heap s.heap
 loc:∃ m,s.heap.Ns X.env.locals m /\ ∀ (i:Nat) (x:Str) (v:V),X.N[i]? = some x -> σ[i]? = some (some v) -> Vis X.env.scope x -> ∃ u,RelV v u /\ Look X.env s.heap m x u
 cell:∀ x c,X.env.cells.lookup x = some c -> ∃ v,s.heap.IsCell c v
 free:H X.env.locals = none
 freeC:∀ x c,X.env.cells.lookup x = some c -> H c = none
 pin:∀ p ∈ X.pn ++ pins,s.heap.get? p.1 = some p.2 /\ H p.1 = none /\ p.1 ≠ X.env.locals /\ p.1 ∉ X.fs /\ ∀ v,p.2.data ≠ .cell v
 hok:HOk X.prog X.w H s.heap
 len:σ.length = X.N.length
section
variable {X:Cx} {pins:List (Addr × Obj)} {σ:List (Option V)} {H H':Hp} {s:Shared} {h':Heap}
theorem Cx.Ok.nofr (ok:X.Ok) {b:Addr} {o:Obj} (e:X.base.get? b = some o):b ∉ X.fs:=fun hb=>by
 have:=(ok.funs.mem hb).1
 rw [e] at this; cases this
theorem Inv.bs (I:Inv X pins σ H s):∀ b o,X.base.get? b = some o -> s.heap.get? b = some o /\ H b = none:=fun b o e =>
 ⟨I.base.keep b o (I.ok.bs b o e).1 (I.ok.bs b o e).2 (I.ok.nofr e) (I.ok.noex b o e),I.base.free b o (I.ok.bs b o e).1 (I.ok.bs b o e).2 (I.ok.noex b o e)⟩
theorem Inv.bk (I:Inv X pins σ H s):∀ b o,X.base.get? b = some o -> s.heap.get? b = some o:=fun b o e=>(I.bs b o e).1
theorem Inv.mod (I:Inv X pins σ H s):Mod X.K X.mg X.base:=I.ok.mod
theorem Inv.kIn (I:Inv X pins σ H s):X.K.In s.heap:=I.ok.mod.kin.keeps I.bk
theorem Inv.nolimit (I:Inv X pins σ H s):s.heap.NoLimit:=I.ok.mod.nolimit.keeps I.bk
theorem Inv.fr (I:Inv X pins σ H s):∃ m,Fr X.base X.env.locals s.heap m :=
 let ⟨m,hn,_⟩:=I.loc
 ⟨m,hn,I.bk,Nat.le_trans I.ok.bsz I.ok.above⟩
theorem Inv.lt (I:Inv X pins σ H s):X.env.locals < s.heap.objs.size:=let ⟨_,hn,_⟩:=I.loc; hn.lt
theorem Inv.sz (I:Inv X pins σ H s):X.s₀.heap.objs.size <= s.heap.objs.size:=Nat.le_trans I.ok.above (Nat.le_of_lt I.lt)
theorem Inv.nofs (I:Inv X pins σ H s) {a:Addr} (h:s.heap.objs.size <= a):a ∉ X.fs:=fun hb=>by
 obtain ⟨_,o,ho,_⟩:=I.ok.funs.mem hb
 exact absurd (Nat.lt_of_lt_of_le (Heap.lt_size ho) (Nat.le_trans I.sz h)) (Nat.lt_irrefl _)
theorem Inv.cne (I:Inv X pins σ H s):∀ x c,X.env.cells.lookup x = some c -> c ≠ X.env.locals:=fun x c e z=>by
 obtain ⟨v,o,ho,hd⟩:=I.cell x c e
 obtain ⟨m,⟨o',es,ep,ho',hd',_⟩,_⟩:=I.loc
 rw [z,ho'] at ho; cases ho; rw [hd'] at hd; cases hd
theorem Inv.funs (I:Inv X pins σ H s):s.heap.FunFrames X.base X.outer:=by
 have all:∀ (l:List Env),(∀ b ∈ frs l,b ∈ X.fs) -> X.s₀.heap.FunFrames X.base l -> s.heap.FunFrames X.base l:=by
  intro l
  induction l with
  | nil=>intro _ _; trivial
  | cons env r ih =>
   intro hs hl
   obtain ⟨hk,⟨L,o,hf,hn,ho,hd⟩,hr⟩:=hl
   have hL:L ∈ X.fs:=hs L (by unfold frs; rw [List.filterMap_cons,hf]; exact List.mem_cons_self)
   obtain ⟨sl,e⟩:=I.base.slot L o ho (I.ok.frf L hL) hL fun z=>I.ok.exfs L z hL
   exact ⟨hk,⟨L,_,hf,hn,e,hd⟩,ih (fun b hb=>hs b (by unfold frs; rw [List.filterMap_cons,hf]; exact List.mem_cons_of_mem _ hb)) hr⟩
 exact all X.outer (fun _ hb=>hb) I.ok.funs
theorem Inv.stack (I:Inv X pins σ H s):s.heap.FunFrames X.base X.stack:=by
 rcases I.ok.stk with e | ⟨e,hf⟩
 ·rw [e]; exact I.funs
 ·rw [e]
  obtain ⟨m,hn,_⟩:=I.loc
  refine .cons (by rw [I.ok.kind]; decide) hf hn ?_ I.funs
  exact Heap.get?_none_of_le (Nat.le_trans I.ok.bsz I.ok.above)
theorem Inv.stkSub (I:Inv X pins σ H s):∀ b ∈ frs X.stack,b ∈ X.env.locals :: X.fs:=fun b hb=>by
 rcases I.ok.stk with e | ⟨e,hf⟩
 ·rw [e] at hb; exact List.mem_cons_of_mem _ hb
 ·rw [e] at hb
  unfold frs at hb
  rw [List.filterMap_cons,hf] at hb
  exact hb
theorem Inv.stkFree (I:Inv X pins σ H s):∀ b ∈ frs X.stack,H b = none:=fun b hb=>by
 rcases List.mem_cons.mp (I.stkSub b hb) with e | hb
 ·rw [e]; exact I.free
 ·obtain ⟨_,o,ho,_⟩:=I.ok.funs.mem hb
  exact I.base.free b o ho (I.ok.frf b hb) fun z=>I.ok.exfs b z hb
theorem Inv.step {g':Array GenState} {t':Nat} {d':Drawn} {ch:List Addr} (I:Inv X pins σ H s)
  (hch:∀ b ∈ ch,(b ∈ X.ex \/ X.s₀.heap.objs.size <= b) /\ b ≠ X.env.locals /\ (∀ x c,X.env.cells.lookup x = some c -> c ≠ b) /\ ∀ p ∈ X.pn ++ pins,p.1 ≠ b)
  (keep:∀ b o,b ≠ X.env.locals -> b ∉ X.fs -> b ∉ ch -> s.heap.get? b = some o -> H b = none -> h'.get? b = some o)
  (slot:∀ b o,b ≠ X.env.locals -> b ∈ X.fs -> b ∉ ch -> s.heap.get? b = some o -> H b = none -> ∃ sl,h'.get? b = some { o with slots:=sl }) (free:∀ b o,b ∉ ch -> s.heap.get? b = some o -> H b = none -> H' b = none)
  (there:∀ b o,b ∉ ch -> s.heap.get? b = some o -> ∃ o',h'.get? b = some o')
  (tups:∀ b xs,H b = some (.tup xs) -> H' b = some (.tup xs)) (frzs:∀ b o u,H b = some (.frz o u) -> H' b = some (.frz o u)) (tbls:∀ b ps,H b = some (.tbl ps) -> ∃ more,H' b = some (.tbl (ps ++ more)))
  (ns:∀ m,s.heap.Ns X.env.locals m -> h'.Ns X.env.locals m) (hok:HOk X.prog X.w H' h') (hg:AllBare g') :
  Inv X pins σ H' { s with heap:=h',gens:=g',drawn:=d',toks:=t' }:=by
 have neL:∀ b o,X.s₀.heap.get? b = some o -> b ≠ X.env.locals:=fun b o e=>Nat.ne_of_lt (Nat.lt_of_lt_of_le (Heap.lt_size e) I.ok.above)
 have neC:∀ b o,X.s₀.heap.get? b = some o -> b ∉ X.ex -> b ∉ ch:=fun b o e hx hb=>by
  rcases (hch b hb).1 with z | z
  ·exact hx z
  ·exact absurd (Nat.lt_of_lt_of_le (Heap.lt_size e) z) (Nat.lt_irrefl _)
 have cellK:∀ x c,X.env.cells.lookup x = some c -> ∀ v,s.heap.IsCell c v -> h'.IsCell c v:=fun x c e v ⟨o,ho,hd⟩=>by
  have nch:c ∉ ch:=fun z=>(hch c z).2.2.1 x c e rfl
  by_cases hc:c ∈ X.fs
  ·obtain ⟨sl,q⟩:=slot c o (I.cne x c e) hc nch ho (I.freeC x c e)
   exact ⟨_,q,hd⟩
  ·exact ⟨o,keep c o (I.cne x c e) hc nch ho (I.freeC x c e),hd⟩
 refine ⟨I.ok,I.os,hg,⟨fun b o e n hb hx=>?_,fun b o e n hb hx=>?_,fun b o e n hx=>?_,fun b o e hx=>?_,fun b xs e=>tups b xs (I.base.tups b xs e),fun b o xs e=>frzs b o xs (I.base.frzs b o xs e),fun b ps e=>?_⟩,?_,fun x c e=>?_,?_,fun x c e=>?_,fun p hp=>?_,hok,I.len⟩
 ·exact keep b o (neL b o e) hb (neC b o e hx) (I.base.keep b o e n hb hx) (I.base.free b o e n hx)
 ·obtain ⟨sl,e1⟩:=I.base.slot b o e n hb hx
  obtain ⟨sl',e2⟩:=slot b _ (neL b o e) hb (neC b o e hx) e1 (I.base.free b o e n hx)
  exact ⟨sl',e2⟩
 ·obtain ⟨o',e1⟩:=I.base.there b o e hx
  exact free b o' (neC b o e hx) e1 (I.base.free b o e n hx)
 ·obtain ⟨o',e1⟩:=I.base.there b o e hx
  exact there b o' (neC b o e hx) e1
 ·obtain ⟨m1,e1⟩:=I.base.tbls b ps e
  obtain ⟨m2,e2⟩:=tbls b _ e1
  exact ⟨m1 ++ m2,by rw [e2,Array.append_assoc]⟩
 ·obtain ⟨m,hn,hl⟩:=I.loc
  refine ⟨m,ns m hn,fun i x v e1 e2 e3=>?_⟩
  obtain ⟨u,r,l⟩:=hl i x v e1 e2 e3
  refine ⟨u,r,?_⟩
  rcases l with l | ⟨k,c,e,z⟩
  ·exact .inl l
  ·exact .inr ⟨k,c,e,cellK x c e _ z⟩
 ·obtain ⟨v,z⟩:=I.cell x c e
  exact ⟨v,cellK x c e v z⟩
 ·obtain ⟨m,⟨o,_,_,ho,_⟩,_⟩:=I.loc
  exact free _ o (fun z=>(hch _ z).2.1 rfl) ho I.free
 ·obtain ⟨v,o,ho,hd⟩:=I.cell x c e
  exact free c o (fun z=>(hch c z).2.2.1 x c e rfl) ho (I.freeC x c e)
 ·obtain ⟨e,n,ne,nf,d⟩:=I.pin p hp
  have nch:p.1 ∉ ch:=fun z=>(hch p.1 z).2.2.2 p hp rfl
  exact ⟨keep p.1 p.2 ne nf nch e n,free p.1 p.2 nch e n,ne,nf,d⟩
theorem Inv.un {t':Nat} (I:Inv X pins σ H s) (u:Un X.fs [] H H' s.heap h') (hok:HOk X.prog X.w H' h'):Inv X pins σ H' { s with heap:=h',toks:=t' }:=by
 obtain ⟨m,⟨o,es,ep,ho,r⟩,_⟩:=id I.loc
 obtain ⟨sl,hL⟩:=u.any ho I.free (by simp)
 exact I.step (g':=s.gens) (d':=s.drawn) (ch:=[]) (fun _ z=>nomatch z) (fun b o _ hb _ e n=>u.keep b o e n hb (by simp)) (fun b o _ hb _ e n=>u.slot b o e n hb (by simp)) (fun b o _ e n=>u.free b o e n (by simp)) (fun b o _ e=>u.there b o e (by simp)) u.tups u.frzs u.tbls (fun m' hm=>by
  obtain ⟨o',es',ep',ho',r'⟩:=hm
  rw [ho] at ho'; cases ho'
  exact ⟨_,es',ep',hL,r'⟩) hok I.bare
theorem Inv.call {g':Array GenState} {t':Nat} {d':Drawn} {ch:List Addr} (I:Inv X pins σ H s) (u:Un (frs X.stack) ch H H' s.heap h') (hok:HOk X.prog X.w H' h') (hg:AllBare g')
  (hch:∀ b ∈ ch,(b ∈ X.ex \/ X.s₀.heap.objs.size <= b) /\ b ≠ X.env.locals /\ (∀ x c,X.env.cells.lookup x = some c -> c ≠ b) /\ ∀ p ∈ X.pn ++ pins,p.1 ≠ b) :
  Inv X pins σ H' { s with heap:=h',gens:=g',drawn:=d',toks:=t' }:=by
 obtain ⟨m,⟨o,es,ep,ho,r⟩,_⟩:=id I.loc
 obtain ⟨sl,hL⟩:=u.any ho I.free fun z=>(hch _ z).2.1 rfl
 exact I.step (ch:=ch) hch (fun b o hL hb hc e n=>u.keep b o e n (fun z=>(List.mem_cons.mp (I.stkSub b z)).elim hL hb) hc) (fun b o _ _ hc e n=>u.any e n hc) (fun b o hc e n=>u.free b o e n hc) (fun b o hc e=>u.there b o e hc) u.tups u.frzs u.tbls (fun m' hm=>by
  obtain ⟨o',es',ep',ho',r'⟩:=hm
  rw [ho] at ho'; cases ho'
  exact ⟨_,es',ep',hL,r'⟩) hok hg
theorem Inv.turned {t':Nat} {it:Addr} (I:Inv X pins σ H s) (k:∀ b o,b ≠ it -> s.heap.get? b = some o -> h'.get? b = some o) (hn:H it = none) (hL:it ≠ X.env.locals)
  (h1:it ∈ X.ex \/ X.s₀.heap.objs.size <= it) (h2:∀ x c,X.env.cells.lookup x = some c -> c ≠ it) (h3:∀ p ∈ X.pn ++ pins,p.1 ≠ it):Inv X pins σ H { s with heap:=h',toks:=t' }:=by
 have nit:∀ b u,H b = some u -> b ≠ it:=fun b u e z=>by rw [z,hn] at e; cases e
 refine I.step (g':=s.gens) (d':=s.drawn) (ch:=[it]) (fun b hb=>?_) (fun b o _ _ hc e _=>k b o (fun z=>hc (by simp [z])) e) (fun b o _ _ hc e _=>⟨o.slots,k b o (fun z=>hc (by simp [z])) e⟩) (fun _ _ _ _ n=>n)
  (fun b o hc e=>⟨o,k b o (fun z=>hc (by simp [z])) e⟩) (fun _ _ e=>e) (fun _ _ _ e=>e) (fun b ps e=>⟨#[],by rw [e]; simp⟩) (fun m hm=>?_) (fun b u e=>?_) I.bare
 ·have e:b = it:=by simpa using hb
  subst e
  exact ⟨h1,hL,h2,h3⟩
 ·obtain ⟨o,es,ep,ho,r⟩:=hm
  exact ⟨o,es,ep,k _ o (Ne.symm hL) ho,r⟩
 ·refine (I.hok b u e).stay (fun c v hc q=>k c v ?_ q) (fun _ q=>q) fun _ _ q=>q
  rcases hc with z | z
  ·rw [z]; exact nit b u e
  ·exact nit c _ z
theorem Inv.tok (I:Inv X pins σ H s) (t:Nat):Inv X pins σ H { s with toks:=t }:=I.un (h':=s.heap) (t':=t) Un.refl I.hok
theorem Inv.kept {t':Nat} (I:Inv X pins σ H s) (k:∀ b u,s.heap.get? b = some u -> h'.get? b = some u):Inv X pins σ H { s with heap:=h',toks:=t' }:=I.un (Un.kept k) (I.hok.kept k)
theorem Inv.laid {a:Addr} {o:HO} {t':Nat} (I:Inv X pins σ H s) (k:∀ b u,s.heap.get? b = some u -> h'.get? b = some u) (hp:s.heap.objs.size <= a) (new:zP X.prog X.w (upd H a o) h' a o) :
  Inv X pins σ (upd H a o) { s with heap:=h',toks:=t' }:=I.un (Un.laid k hp (I.hok.fresh hp)) (I.hok.laid k hp new)
theorem Inv.write {x e:Addr} {o:HO} {t':Nat} (I:Inv X pins σ H s) (mu:Mut (H x)) (he:e = x \/ H e = some (.own x)) (k:∀ b u,b ≠ e -> s.heap.get? b = some u -> h'.get? b = some u) (heo:∃ u,h'.get? e = some u)
  (new:zP X.prog X.w (upd H x o) h' x o):Inv X pins σ (upd H x o) { s with heap:=h',toks:=t' }:=I.un (Un.write mu he k heo) (I.hok.write mu he k heo new)
theorem Inv.pins_of {pins':List (Addr × Obj)} (I:Inv X pins σ H s) (h:∀ p ∈ pins',s.heap.get? p.1 = some p.2 /\ H p.1 = none /\ p.1 ≠ X.env.locals /\ p.1 ∉ X.fs /\ ∀ v,p.2.data ≠ .cell v):Inv X pins' σ H s :=
 ⟨I.ok,I.os,I.bare,I.base,I.loc,I.cell,I.free,I.freeC,fun p hp=>(List.mem_append.mp hp).elim (fun z=>I.pin p (List.mem_append_left _ z)) (h p),I.hok,I.len⟩
theorem qW {N:List Str} (hN:N.Nodup) {i j:Nat} {x:Str} (a:N[i]? = some x) (b:N[j]? = some x):i = j:=by
 obtain ⟨h1,e1⟩:=List.getElem?_eq_some_iff.mp a
 obtain ⟨h2,e2⟩:=List.getElem?_eq_some_iff.mp b
 exact (List.getElem_inj hN).mp (e1.trans e2.symm)
theorem Z0 {M:Model} {A:Around} {E:VS7} {i:Nat} {x:Str} {v:V} {u:Value} {Q:Unit -> Shared -> Prop} (I:Inv X pins σ H s) (hN:X.N.Nodup) (hi:X.N[i]? = some x) (hx:Loc X.env.scope x) (r:RelV v u)
  (h:∀ s',Inv X pins (σ.set i (some v)) H s' -> (∃ a,Heap.SameBut a s.heap s'.heap /\ (a = X.env.locals \/ X.env.cells.lookup x = some a)) -> Q () s') (hf:X.fn x = true \/ X.env.scope.names.lookup x = some .local :=by first | exact .inl rfl | exact .inr rfl | assumption):wpAny M A (storeName X.env x u) Q E s:=by
 obtain ⟨m,hn,hl⟩:=id I.loc
 have hcls:(X.env.scope.kind == .class || (X.env.scope.kind == .module && X.env.locals != X.env.globals)) = false:=by rw [I.ok.kind]; rfl
 have hiσ:i < σ.length:=by rw [I.len]; exact (List.getElem?_eq_some_iff.mp hi).1
 have cne:=I.cne
 have tracked:∀ {a:Addr} {h':Heap},(∃ o,s.heap.get? a = some o /\ H a = none) -> Heap.SameBut a s.heap h' -> HOk X.prog X.w H h':=fun {a h'} ha hs b ob e=>by
  obtain ⟨_,_,hfree⟩:=ha
  refine (I.hok b ob e).stay (fun c w' hc q=>(hs.2 c ?_).trans q) (fun _ q=>q) fun _ _ q=>q
  rintro rfl
  rcases hc with rfl | hc
  ·rw [hfree] at e; cases e
  ·rw [hfree] at hc; cases hc
 rcases hx with hk | hk
 ·refine wpAny_storeName_local hk hn (fun h' hn' hs=>?_) hcls
  obtain ⟨oL,_,_,hoL,_⟩:=id hn
  refine h _ ⟨I.ok,I.os,I.bare,⟨fun b o e n hb hx=>?_,fun b o e n hb hx=>?_,I.base.free,fun b o e hx=>?_,I.base.tups,I.base.frzs,I.base.tbls⟩,⟨_,hn',fun j y v' e1 e2 e3=>?_⟩,fun y c e=>?_,I.free,I.freeC,fun p hp=>?_,tracked ⟨oL,hoL,I.free⟩ hs,by simpa using I.len⟩ ⟨_,hs,.inl rfl⟩
  ·exact (hs.2 b (Nat.ne_of_lt (Nat.lt_of_lt_of_le (Heap.lt_size e) I.ok.above))).trans (I.base.keep b o e n hb hx)
  ·obtain ⟨sl,e1⟩:=I.base.slot b o e n hb hx
   exact ⟨sl,(hs.2 b (Nat.ne_of_lt (Nat.lt_of_lt_of_le (Heap.lt_size e) I.ok.above))).trans e1⟩
  ·obtain ⟨o',e1⟩:=I.base.there b o e hx
   exact ⟨o',(hs.2 b (Nat.ne_of_lt (Nat.lt_of_lt_of_le (Heap.lt_size e) I.ok.above))).trans e1⟩
  ·by_cases hj:j = i
   ·subst hj
    rw [hi] at e1; cases e1
    rw [List.getElem?_set_self hiσ] at e2
    cases e2
    exact ⟨u,r,.inl ⟨hk,by simp⟩⟩
   ·rw [List.getElem?_set_ne (Ne.symm hj)] at e2
    obtain ⟨u',r',q⟩:=hl j y v' e1 e2 e3
    refine ⟨u',r',?_⟩
    rcases q with ⟨k,e⟩ | ⟨k,c,e,z⟩
    ·refine .inl ⟨k,?_⟩
     have:y ≠ x:=fun e=>hj (qW hN e1 (e ▸ hi))
     simp [this,e]
    ·exact .inr ⟨k,c,e,z.sameBut hs (cne y c e)⟩
  ·obtain ⟨w',z⟩:=I.cell y c e
   exact ⟨w',z.sameBut hs (cne y c e)⟩
  ·obtain ⟨e,n,ne,nf,d⟩:=I.pin p hp
   exact ⟨(hs.2 p.1 ne).trans e,n,ne,nf,d⟩
 ·have hfn:X.fn x = true:=by
   rcases hf with z | z
   ·exact z
   ·rw [z] at hk; cases hk
  obtain ⟨c,hc⟩:=I.ok.has x (.inl hk)
  obtain ⟨w',z⟩:=I.cell x c hc
  refine wpAny_storeName_cell I.ok.kind hk hc z (fun h' hc' hs=>?_)
  obtain ⟨oc,hoc,hocd⟩:=id z
  refine h { s with heap:=h' } ⟨I.ok,I.os,I.bare,⟨fun b o e n hb hx=>?_,fun b o e n hb hx=>?_,I.base.free,fun b o e hx=>?_,I.base.tups,I.base.frzs,I.base.tbls⟩,⟨m,hn.sameBut hs (Ne.symm (cne x c hc)),fun j y v' e1 e2 e3=>?_⟩,fun y c' e=>?_,I.free,I.freeC,fun p hp=>?_,tracked ⟨oc,hoc,I.freeC x c hc⟩ hs,by simpa using I.len⟩ ⟨c,hs,.inr hc⟩
  ·exact (hs.2 b (Nat.ne_of_lt (Nat.lt_of_lt_of_le (Heap.lt_size e) (I.ok.cab x c hfn hc)))).trans (I.base.keep b o e n hb hx)
  ·obtain ⟨sl,e1⟩:=I.base.slot b o e n hb hx
   exact ⟨sl,(hs.2 b (Nat.ne_of_lt (Nat.lt_of_lt_of_le (Heap.lt_size e) (I.ok.cab x c hfn hc)))).trans e1⟩
  ·obtain ⟨o',e1⟩:=I.base.there b o e hx
   exact ⟨o',(hs.2 b (Nat.ne_of_lt (Nat.lt_of_lt_of_le (Heap.lt_size e) (I.ok.cab x c hfn hc)))).trans e1⟩
  ·by_cases hj:j = i
   ·subst hj
    rw [hi] at e1; cases e1
    rw [List.getElem?_set_self hiσ] at e2
    cases e2
    exact ⟨u,r,.inr ⟨.inl hk,c,hc,hc'⟩⟩
   ·rw [List.getElem?_set_ne (Ne.symm hj)] at e2
    obtain ⟨u',r',q⟩:=hl j y v' e1 e2 e3
    refine ⟨u',r',?_⟩
    rcases q with q | ⟨k,c',e,z'⟩
    ·exact .inl q
    ·refine .inr ⟨k,c',e,z'.sameBut hs ?_⟩
     rintro rfl
     exact hj (qW hN e1 (I.ok.inj _ _ _ e hc ▸ hi))
  ·by_cases hcc:c' = c
   ·subst hcc; exact ⟨_,hc'⟩
   ·obtain ⟨w2,z2⟩:=I.cell y c' e
    exact ⟨w2,z2.sameBut hs hcc⟩
  ·obtain ⟨e,n,ne,nf,d⟩:=I.pin p hp
   refine ⟨(hs.2 p.1 ?_).trans e,n,ne,nf,d⟩
   intro q
   rw [q,hoc] at e
   have q':oc = p.2:=Option.some.inj e
   exact d w' (by rw [← q']; exact hocd)
theorem vj {M:Model} {A:Around} {E:VS7} {i:Nat} {x:Str} {v:V} {u:Value} {Q:Unit -> Shared -> Prop} (I:Inv X pins σ H s) (hN:X.N.Nodup) (hi:X.N[i]? = some x) (hx:Loc X.env.scope x) (r:RelV v u)
  (h:∀ s',Inv X pins (σ.set i (some v)) H s' -> Q () s') (hf:X.fn x = true \/ X.env.scope.names.lookup x = some .local :=by first | exact .inl rfl | exact .inr rfl | assumption):wpAny M A (storeName X.env x u) Q E s :=
 Z0 I hN hi hx r (fun s' I' _=>h s' I') hf
theorem Inv.call' {s':Shared} {ch:List Addr} (I:Inv X pins σ H s) (ho:s'.os = s.os) (u:Un (frs X.stack) ch H H' s.heap s'.heap) (hok:HOk X.prog X.w H' s'.heap) (hg:AllBare s'.gens)
  (hch:∀ b ∈ ch,(b ∈ X.ex \/ X.s₀.heap.objs.size <= b) /\ b ≠ X.env.locals /\ (∀ x c,X.env.cells.lookup x = some c -> c ≠ b) /\ ∀ p ∈ X.pn ++ pins,p.1 ≠ b):Inv X pins σ H' s':=by
 obtain ⟨h',g',d',t',o'⟩:=s'
 have e:o' = s.os:=ho
 subst e
 exact I.call (g':=g') (t':=t') (d':=d') u hok hg hch
end
abbrev XK:=Value -> Option Addr -> Hp -> Prop
abbrev St:=List (Option V)
abbrev VK:=V -> Hp -> Prop
abbrev TE:=St -> Hp -> VK -> Prop
abbrev TT:=St -> Hp -> (Bool -> Hp -> Prop) -> Prop
abbrev TA:=St -> Hp -> (List V -> Hp -> Prop) -> Prop
structure Ends where
 nx:St -> Hp -> Prop
 rt:VK
 bk:St -> Hp -> Prop:=fun _ _=>False
 ct:St -> Hp -> Prop:=fun _ _=>False
abbrev TS:=Ends -> St -> Hp -> Prop
def EP (X:Cx) (pins:List (Addr × Obj)) (σ:St) (Q:VK) (u:Value) (s':Shared):Prop:=∃ v H',Inv X pins σ H' s' /\ RelV v u /\ Q v H'
def TP (X:Cx) (pins:List (Addr × Obj)) (σ:St) (Q:Bool -> Hp -> Prop) (b:Bool) (s':Shared):Prop:=∃ H',Inv X pins σ H' s' /\ Q b H'
def AP (X:Cx) (pins:List (Addr × Obj)) (σ:St) (Q:List V -> Hp -> Prop) (us:List Value) (s':Shared):Prop:=∃ vs H',Inv X pins σ H' s' /\ Vals vs us /\ Q vs H'
def SP (X:Cx) (pins:List (Addr × Obj)) (D:Ends) (f:Flow) (s':Shared):Prop :=
 match f with
 | .next=>∃ σ' H',Inv X pins σ' H' s' /\ D.nx σ' H'
 | .brk=>∃ σ' H',Inv X pins σ' H' s' /\ D.bk σ' H'
 | .cont=>∃ σ' H',Inv X pins σ' H' s' /\ D.ct σ' H'
 | .ret u=>∃ v σ' H',Inv X pins σ' H' s' /\ RelV v u /\ D.rt v H'
def PE (X:Cx) (e:Expr) (t:TE):Prop :=
 ∀ (pins:List (Addr × Obj)) (s:Shared) (σ:St) (H:Hp) (Q:VK),Inv X pins σ H s -> t σ H Q -> wpAny (model X.prog X.w) X.A (eval e X.env) (EP X pins σ Q) X.xe s
def PT (X:Cx) (e:Expr) (t:TT):Prop :=
 ∀ (pins:List (Addr × Obj)) (s:Shared) (σ:St) (H:Hp) (Q:Bool -> Hp -> Prop),Inv X pins σ H s -> t σ H Q -> wpAny (model X.prog X.w) X.A (isTrue e X.env (eval e X.env)) (TP X pins σ Q) X.xe s
def PW (X:Cx) (e:Expr) (t:TT):Prop :=
 ∀ (whole:Sem Value) (pins:List (Addr × Obj)) (s:Shared) (σ:St) (H:Hp) (Q:Bool -> Hp -> Prop),Inv X pins σ H s -> t σ H Q -> wpAny (model X.prog X.w) X.A (isTrue e X.env whole) (TP X pins σ Q) X.xe s
theorem PW.pt {X:Cx} {e:Expr} {t:TT} (h:PW X e t):PT X e t:=h _
def PA (X:Cx) (es:List Expr) (t:TA):Prop :=
 ∀ (pos:Pos) (pins:List (Addr × Obj)) (s:Shared) (σ:St) (H:Hp) (Q:List V -> Hp -> Prop),Inv X pins σ H s -> t σ H Q -> wpAny (model X.prog X.w) X.A (spliced (backTo pos (starEach es X.env))) (AP X pins σ Q) X.xe s
def PS (X:Cx) (st:Stmt) (t:TS):Prop :=
 ∀ (pins:List (Addr × Obj)) (s:Shared) (σ:St) (H:Hp) (D:Ends),Inv X pins σ H s -> t D σ H -> wpAny (model X.prog X.w) X.A (exec st X.env) (SP X pins D) X.xe s
def PSs (X:Cx) (st:List Stmt) (t:TS):Prop :=
 ∀ (pins:List (Addr × Obj)) (s:Shared) (σ:St) (H:Hp) (D:Ends),Inv X pins σ H s -> t D σ H -> wpAny (model X.prog X.w) X.A (execs st X.env) (SP X pins D) X.xe s
theorem thn {α:Type} {t:Sem α} {Q Q':α -> Shared -> Prop} {M:Model} {A:Around} {E:VS7} {s:Shared} (h:wpAny M A t Q E s) (hQ:∀ a s,Q a s -> Q' a s):wpAny M A t Q' E s:=wpAny_mono h hQ fun _ _ x=>x
end L2
namespace L2
open PySem PySem.Spec PyProof.Rows
section
variable {X:Cx}
def tVar (i:Nat):TE:=fun σ H Q=>∃ v,σ[i]? = some (some v) /\ Q v H
def tC (v:V):TE:=fun _ H Q=>Q v H
theorem UF {i:Nat} {x:Str} {pos:Pos} (hN:X.N[i]? = some x) (hv:Vis X.env.scope x) (hd:(x == ("__debug__":Str)) = false:=by decide) (hcd:(x == ("__classdict__":Str)) = false:=by decide):PE X (.Name x pos) (tVar i):=by
 intro pins s σ H Q I h
 obtain ⟨v,e,h⟩:=h
 obtain ⟨m,hn,hl⟩:=I.loc
 obtain ⟨u,r,l⟩:=hl i x v hN e hv
 have fin:EP X pins σ Q u s:=⟨v,H,I,r,h⟩
 rcases l with ⟨hk,hm⟩ | ⟨hk,c,hc,hcell⟩
 ·exact wpAny_Name (wpAny_loadName_local I.ok.kind hk hn hm fin) hd
 ·rcases hk with hk | hk
  ·exact wpAny_Name (wpAny_loadName_cell I.ok.kind hk hc hcell fin) hd
  ·exact wpAny_Name (wpAny_loadName_free I.ok.kind hk hc hcell fin hcd) hd
theorem zf {i j pos}:PE X (.Constant (.int i) j pos) (tC (.int i)):=fun _ _ _ H _ I h=>wpAny_Constant_int ⟨.int i,H,I.tok _,⟨_,rfl⟩,h⟩
theorem yc {b j pos}:PE X (.Constant (.bool b) j pos) (tC (.bl b)):=fun _ _ _ H _ I h=>Constant_bool ⟨.bl b,H,I,rfl,h⟩
theorem Z1 {j pos}:PE X (.Constant .none j pos) (tC .non):=fun _ _ _ H _ I h=>Constant_none ⟨.non,H,I,rfl,h⟩
def Gl (X:Cx) (x:Str):Prop:=X.env.kindOf x = some .globalImplicit
theorem rW {E:VS7} {pins:List (Addr × Obj)} {s:Shared} {σ:St} {H:Hp} {x:Str} {u:Value} {pos:Pos} {Q:VS7} (I:Inv X pins σ H s) (hg:Gl X x) (hm:X.mg x = some u) (h:Q u s)
  (hd:(x == ("__debug__":Str)) = false:=by decide):wpAny (model X.prog X.w) X.A (eval (.Name x pos) X.env) Q E s :=
 Calls.Name_function_global I.ok.kind hg (Calls.loadGlobal_global (by rw [I.ok.glob]; exact I.mod.glob.keeps I.bk) hm h) hd
theorem xO {E:VS7} {pins:List (Addr × Obj)} {s:Shared} {σ:St} {H:Hp} {x:Str} {u:Value} {pos:Pos} {Q:VS7} (I:Inv X pins σ H s) (hg:Gl X x) (hm:X.mg x = none) (hv:bootBuiltins x = some u) (h:Q u s)
  (hn:x ≠ "__name__":=by decide) (hd:(x == ("__debug__":Str)) = false:=by decide):wpAny (model X.prog X.w) X.A (eval (.Name x pos) X.env) Q E s:=by
 obtain ⟨mb,h1,h2⟩:=I.mod.blt
 exact Calls.Name_function_global I.ok.kind hg (Calls.loadGlobal_builtin (by rw [I.ok.glob]; exact I.mod.glob.keeps I.bk) hm (by rw [I.ok.blt]; exact h1.keeps I.bk) ((h2 x hn).trans hv) h) hd
theorem vz {x:Str} {v:V} {u:Value} {pos:Pos} (hg:Gl X x) (hm:X.mg x = some u) (r:RelV v u) (hd:(x == ("__debug__":Str)) = false:=by decide):PE X (.Name x pos) (tC v) :=
 fun _ _ _ H _ I h=>rW I hg hm ⟨v,H,I,r,h⟩ hd
theorem VF {x:Str} {v:V} {u:Value} {pos:Pos} (hg:Gl X x) (hm:X.mg x = none) (hv:bootBuiltins x = some u) (r:RelV v u) (hn:x ≠ "__name__":=by decide) (hd:(x == ("__debug__":Str)) = false:=by decide):PE X (.Name x pos) (tC v) :=
 fun _ _ _ H _ I h=>xO I hg hm hv ⟨v,H,I,r,h⟩ hn hd
variable {a b:Expr} {ta tb:TE} {pos:Pos}
def PC (X:Cx) (op:CmpOp) (a b:Expr) (t:TE):Prop :=
 ∀ (pins:List (Addr × Obj)) (s:Shared) (σ:St) (H:Hp) (Q:VK),Inv X pins σ H s -> t σ H Q →
  wpAny (model X.prog X.w) X.A (eval a X.env) (fun v s₁=>wpAny (model X.prog X.w) X.A (eval b X.env) (fun u s₂=>wpAny (model X.prog X.w) X.A (compareOp op v u) (EP X pins σ Q) X.xe s₂) X.xe s₁) X.xe s
theorem qX (b:Expr) {op:CmpOp} (h:op ≠ .In) (h2:op ≠ .NotIn):behindInMarks op b = false:=by
 have e1:(op == CmpOp.In) = false:=by cases op <;> first | rfl | exact absurd rfl h
 have e2:(op == CmpOp.NotIn) = false:=by cases op <;> first | rfl | exact absurd rfl h2
 cases b <;> simp [behindInMarks,e1,e2]
def tIsN (ta:TE):TE:=fun σ H Q=>ta σ H fun x H1=>Q (.bl (decide (x = .non))) H1
def Sb (ta:TE):TE:=fun σ H Q=>ta σ H fun x H1=>Q (.bl (!decide (x = .non))) H1
theorem RelV.none_iff {x:V} {v:Value} (r:RelV x v):(v == Value.none) = decide (x = .non):=by
 cases x with
 | non=>cases r; rfl
 | bl _=>cases r; rfl
 | int _=>obtain ⟨t,rfl⟩:=r; rfl
 | str _=>obtain ⟨t,rfl⟩:=r; rfl
 | byt _=>obtain ⟨t,rfl⟩:=r; rfl
 | flt _=>obtain ⟨t,rfl⟩:=r; rfl
 | ref _=>cases r; rfl
 | ty _=>cases r; rfl
theorem Z2 {j pos'} (ha:PE X a ta):PC X .Is a (.Constant .none j pos') (tIsN ta):=by
 intro pins s σ H Q I h
 refine thn (ha pins s σ H _ I h) fun v s1 ⟨x,H1,I1,r1,q1⟩=>?_
 exact Constant_none (is_none_gen ⟨.bl _,H1,I1,by rw [r1.none_iff]; rfl,q1⟩)
theorem vA {j pos'} (ha:PE X a ta):PC X .IsNot a (.Constant .none j pos') (Sb ta):=by
 intro pins s σ H Q I h
 refine thn (ha pins s σ H _ I h) fun v s1 ⟨x,H1,I1,r1,q1⟩=>?_
 exact Constant_none (isnot_none_gen ⟨.bl _,H1,I1,by rw [r1.none_iff]; rfl,q1⟩)
def tB (t:TE):TT:=fun σ H Q=>t σ H fun x H1=>∃ c,x = .bl c /\ Q c H1
theorem UG {op:CmpOp} {t:TE} (h:PC X op a b t) (h1:behindInMarks op b = false:=by first | exact qX _ (by decide) (by decide) | rfl):PE X (.Compare a [op] [b] pos) t:=fun pins s σ H Q I hw=>wpAny_Compare1 (h pins s σ H Q I hw) h1
theorem wP {op:CmpOp} {t:TE} (h:PC X op a b t) (h1:behindInMarks op b = false:=by first | exact qX _ (by decide) (by decide) | rfl):PT X (.Compare a [op] [b] pos) (tB t):=by
 intro pins s σ H Q I hw
 refine wpAny_isTrue_Compare1 (thn (h pins s σ H _ I hw) fun v s1 h1=>thn h1 fun u s2 h2=>thn h2 fun c s3 ⟨x,H1,I1,r1,q1⟩=>?_) h1
 obtain ⟨d,rfl,q⟩:=q1
 cases r1
 exact wpAny_truthy_bool ⟨H1,I1,q⟩
theorem zN {e:Expr} {t:TE} (h:PE X e t) (he:∀ whole,isTrue e X.env whole = (do let v ← whole; standAt e.pos; holding [v] (truthy v)):=by intro _; rfl):PT X e (tB t):=by
 intro pins s σ H Q I hw
 refine isTrue_plain (thn (h pins s σ H _ I hw) fun v s1 ⟨x,H1,I1,r1,q1⟩=>?_) (he _)
 obtain ⟨d,rfl,q⟩:=q1
 cases r1
 exact wpAny_truthy_bool ⟨H1,I1,q⟩
variable {tA tB':TT} {rest:List Expr}
def tAnd (t u:TT):TT:=fun σ H Q=>t σ H fun c H1=>if c = true then u σ H1 Q else Q false H1
def tOr (t u:TT):TT:=fun σ H Q=>t σ H fun c H1=>if c = true then Q true H1 else u σ H1 Q
def tNot (t:TT):TT:=fun σ H Q=>t σ H fun c H1=>Q (!c) H1
theorem xR (ha:PT X a tA):PW X (.BoolOp .And [a] pos) tA:=by
 intro wh pins s σ H Q I h
 refine isTrue_and (thn (ha pins s σ H Q I h) fun c s1 e=>?_)
 cases c with
 | true=>exact isTrue_and_nil e
 | false=>exact e
theorem y4 (ha:PT X a tA):PW X (.BoolOp .Or [a] pos) tA:=by
 intro wh pins s σ H Q I h
 refine isTrue_or (thn (ha pins s σ H Q I h) fun c s1 e=>?_)
 cases c with
 | false=>exact isTrue_or_nil e
 | true=>exact e
theorem wQ (ha:PT X a tA) (hb:PW X (.BoolOp .And (b :: rest) pos) tB'):PW X (.BoolOp .And (a :: b :: rest) pos) (tAnd tA tB'):=by
 intro wh pins s σ H Q I h
 refine isTrue_and (thn (ha pins s σ H _ I h) fun c s1 ⟨H1,I1,q1⟩=>?_)
 cases c with
 | true=>exact hb wh pins s1 σ H1 Q I1 q1
 | false=>exact ⟨H1,I1,q1⟩
theorem xS (ha:PT X a tA) (hb:PW X (.BoolOp .Or (b :: rest) pos) tB'):PW X (.BoolOp .Or (a :: b :: rest) pos) (tOr tA tB'):=by
 intro wh pins s σ H Q I h
 refine isTrue_or (thn (ha pins s σ H _ I h) fun c s1 ⟨H1,I1,q1⟩=>?_)
 cases c with
 | true=>exact ⟨H1,I1,q1⟩
 | false=>exact hb wh pins s1 σ H1 Q I1 q1
theorem z5 (ha:PT X a tA):PT X (.UnaryOp .Not a pos) (tNot tA):=by
 intro pins s σ H Q I h
 exact isTrue_not (ha pins s σ H (fun c H1=>Q (!c) H1) I h)
def Sc (ta tb:TE):TE:=fun σ H Q=>ta σ H fun x H1=>∃ c,x = .bl c /\ if c = true then tb σ H1 Q else Q (.bl false) H1
def tOrV (ta tb:TE):TE:=fun σ H Q=>ta σ H fun x H1=>∃ c,x = .bl c /\ if c = true then Q (.bl true) H1 else tb σ H1 Q
def Sd (ta:TE):TE:=fun σ H Q=>ta σ H fun x H1=>∃ c,x = .bl c /\ Q (.bl (!c)) H1
theorem xq {op} {t:TE} (h:PE X a t):PE X (.BoolOp op [a] pos) t:=fun pins s σ H Q I hw=>BoolOp_one (h pins s σ H Q I hw)
theorem xk (ha:PE X a ta) (hb:PE X (.BoolOp .And (b :: rest) pos) tb):PE X (.BoolOp .And (a :: b :: rest) pos) (Sc ta tb):=by
 intro pins s σ H Q I h
 refine BoolOp_and (thn (ha pins s σ H _ I h) fun v s1 ⟨x,H1,I1,r1,q1⟩=>?_)
 obtain ⟨c,rfl,q1⟩:=q1
 cases r1
 refine wpAny_truthy_bool ?_
 cases c with
 | true=>exact hb pins s1 σ H1 Q I1 q1
 | false=>exact ⟨.bl false,H1,I1,rfl,q1⟩
theorem UH (ha:PE X a ta) (hb:PE X (.BoolOp .Or (b :: rest) pos) tb):PE X (.BoolOp .Or (a :: b :: rest) pos) (tOrV ta tb):=by
 intro pins s σ H Q I h
 refine BoolOp_or (thn (ha pins s σ H _ I h) fun v s1 ⟨x,H1,I1,r1,q1⟩=>?_)
 obtain ⟨c,rfl,q1⟩:=q1
 cases r1
 refine wpAny_truthy_bool ?_
 cases c with
 | false=>exact hb pins s1 σ H1 Q I1 q1
 | true=>exact ⟨.bl true,H1,I1,rfl,q1⟩
theorem qY (ha:PE X a ta):PE X (.UnaryOp .Not a pos) (Sd ta):=by
 intro pins s σ H Q I h
 refine UnaryOp_ (thn (ha pins s σ H _ I h) fun v s1 ⟨x,H1,I1,r1,q1⟩=>?_)
 obtain ⟨c,rfl,q1⟩:=q1
 cases r1
 exact not_of (wpAny_truthy_bool ⟨.bl (!c),H1,I1,rfl,q1⟩)
def tIf (t:TT) (ta tb:TE):TE:=fun σ H Q=>t σ H fun c H1=>if c = true then ta σ H1 Q else tb σ H1 Q
theorem X8 {c:Expr} (hc:PT X c tA) (ha:PE X a ta) (hb:PE X b tb):PE X (.IfExp c a b pos) (tIf tA ta tb):=by
 intro pins s σ H Q I h
 refine wpAny_IfExp (thn (hc pins s σ H _ I h) fun d s1 ⟨H1,I1,q1⟩=>?_)
 cases d with
 | true=>exact ha pins s1 σ H1 Q I1 q1
 | false=>exact hb pins s1 σ H1 Q I1 q1
end
end L2
namespace L2
open PySem PySem.Spec PyProof.Rows
def SqL (K:FG7) (H:Hp) (a:Addr) (xs:List V):Prop :=
 Rd H a (.lst xs) ∨
  ∃ (o:Obj) (its:Array Value) (n:Nat),K.lookup a = some o /\ o.cls = .type "list" /\ o.dict = none /\ o.data = .seq its n /\ its.size <= sizeLine /\ Vals xs its.toList
def SqT (K:FG7) (H:Hp) (a:Addr) (xs:List V):Prop :=
 Rd H a (.tup xs) ∨
  ∃ (o:Obj) (its:Array Value) (n:Nat),K.lookup a = some o /\ o.cls = .type "tuple" /\ o.data = .seq its n /\ its.size <= sizeLine /\ Vals xs its.toList
def absV:Value -> Option V
 | .none=>some .non
 | .bool b=>some (.bl b)
 | .int i _=>some (.int i)
 | .str x _=>some (.str x)
 | .bytes b _=>some (.byt b)
 | .float b _=>some (.flt b)
 | .ref a=>some (.ref a)
 | .type n=>some (.ty n)
 | _=>none
theorem RelV.abs {x:V} {u:Value} (r:RelV x u):absV u = some x:=by
 cases x with
 | non=>cases r; rfl
 | bl _=>cases r; rfl
 | int _=>obtain ⟨t,rfl⟩:=r; rfl
 | str _=>obtain ⟨t,rfl⟩:=r; rfl
 | byt _=>obtain ⟨t,rfl⟩:=r; rfl
 | flt _=>obtain ⟨t,rfl⟩:=r; rfl
 | ref _=>cases r; rfl
 | ty _=>cases r; rfl
theorem RelV.inj {x y:V} {u:Value} (r:RelV x u) (q:RelV y u):x = y:=Option.some.inj (r.abs.symm.trans q.abs)
theorem Vals.inj:∀ {xs ys:List V} {us:List Value},Vals xs us -> Vals ys us -> xs = ys
 | _,_,_,.nil,.nil=>rfl
 | _,_,_,.cons r t,.cons r' t'=>by rw [r.inj r',Vals.inj t t']
section
variable {X:Cx} {pins:List (Addr × Obj)} {σ:St} {H:Hp} {s:Shared} {a:Addr} {xs ys:List V}
theorem SqL.of {K:FG7} (h:H a = some (.lst xs)):SqL K H a xs:=.inl (.inl h)
theorem SqT.of {K:FG7} (h:H a = some (.tup xs)):SqT K H a xs:=.inl (.inl h)
theorem Inv.list (I:Inv X pins σ H s) (h:SqL X.K H a xs):∃ its:List Value,Vals xs its /\ PlainL s.heap a its.toArray /\ xs.length <= sizeLine:=by
 rcases h with h | ⟨o,its,n,hk,hc,hd,hs,hz,r⟩
 ·obtain ⟨z,its,n,r,e⟩:=h.ok I.hok
  exact ⟨its,r,⟨_,n,e,rfl,rfl,rfl⟩,z⟩
 ·refine ⟨its.toList,r,⟨o,n,I.kIn a o hk,hc,hd,by simpa using hs⟩,?_⟩
  have e:=r.length
  simp only [Array.length_toList] at e
  omega
theorem Inv.tuple (I:Inv X pins σ H s) (h:SqT X.K H a xs):∃ its:List Value,Vals xs its /\ IsTup s.heap a its.toArray /\ xs.length <= sizeLine:=by
 rcases h with h | ⟨o,its,n,hk,hc,hs,hz,r⟩
 ·obtain ⟨z,its,r,p⟩:=h.ok I.hok
  exact ⟨its,r,p,z⟩
 ·refine ⟨its.toList,r,⟨o,I.kIn a o hk,hc,n,by simpa using hs⟩,?_⟩
  have e:=r.length
  simp only [Array.length_toList] at e
  omega
theorem Inv.list_inj (I:Inv X pins σ H s) (h:SqL X.K H a xs) (h':SqL X.K H a ys):xs = ys:=by
 obtain ⟨its,r,⟨o,n,e,_,_,d⟩,_⟩:=I.list h
 obtain ⟨its',r',⟨o',n',e',_,_,d'⟩,_⟩:=I.list h'
 rw [e] at e'; cases e'
 rw [d] at d'
 injection d' with d1 _
 have:its = its':=by simpa using congrArg Array.toList d1
 subst this
 exact r.inj r'
theorem Inv.tuple_inj (I:Inv X pins σ H s) (h:SqT X.K H a xs) (h':SqT X.K H a ys):xs = ys:=by
 obtain ⟨its,r,⟨o,e,_,n,d⟩,_⟩:=I.tuple h
 obtain ⟨its',r',⟨o',e',_,n',d'⟩,_⟩:=I.tuple h'
 rw [e] at e'; cases e'
 rw [d] at d'
 injection d' with d1 _
 have:its = its':=by simpa using congrArg Array.toList d1
 subst this
 exact r.inj r'
end
abbrev Cx.wish (X:Cx) (E:VS7):Cx:={ X with xe:=E }
abbrev Cx.nox (X:Cx):Cx:=X.wish fun _ _=>False
theorem Cx.Ok.wish {X:Cx} (ok:X.Ok) (E:VS7):(X.wish E).Ok :=
 ⟨ok.mod,ok.kind,ok.glob,ok.blt,ok.above,ok.inj,ok.has,ok.cab,ok.hd,ok.frames,ok.stk,ok.exf,ok.bs,ok.bsz,ok.noex,ok.exfs,ok.funs,ok.frf⟩
theorem Cx.Ok.unwish {X:Cx} {E:VS7} (ok:(X.wish E).Ok):X.Ok :=
 ⟨ok.mod,ok.kind,ok.glob,ok.blt,ok.above,ok.inj,ok.has,ok.cab,ok.hd,ok.frames,ok.stk,ok.exf,ok.bs,ok.bsz,ok.noex,ok.exfs,ok.funs,ok.frf⟩
section
variable {X:Cx} {pins:List (Addr × Obj)} {σ:St} {H:Hp} {s:Shared} {E:VS7}
theorem Inv.wish (I:Inv X pins σ H s) (E:VS7):Inv (X.wish E) pins σ H s:=⟨I.ok.wish E,I.os,I.bare,I.base,I.loc,I.cell,I.free,I.freeC,I.pin,I.hok,I.len⟩
theorem Inv.unwish (I:Inv (X.wish E) pins σ H s):Inv X pins σ H s:=⟨I.ok.unwish,I.os,I.bare,I.base,I.loc,I.cell,I.free,I.freeC,I.pin,I.hok,I.len⟩
theorem SP.unwish {D:Ends} {f:Flow} {s':Shared} (h:SP (X.wish E) pins D f s'):SP X pins D f s':=by
 cases f with
 | next=>obtain ⟨σ',H',I,q⟩:=h; exact ⟨σ',H',I.unwish,q⟩
 | brk=>obtain ⟨σ',H',I,q⟩:=h; exact ⟨σ',H',I.unwish,q⟩
 | cont=>obtain ⟨σ',H',I,q⟩:=h; exact ⟨σ',H',I.unwish,q⟩
 | ret u=>obtain ⟨v,σ',H',I,r,q⟩:=h; exact ⟨v,σ',H',I.unwish,r,q⟩
theorem PE.nox {e:Expr} {t:TE} (h:PE X.nox e t):PE X e t:=fun pins s σ H Q I hw =>
 wpAny_mono (h pins s σ H Q (I.wish _) hw) (fun _ _ ⟨v,H',I',r,q⟩=>⟨v,H',I'.unwish,r,q⟩) fun _ _ z=>False.elim z
theorem PT.nox {e:Expr} {t:TT} (h:PT X.nox e t):PT X e t:=fun pins s σ H Q I hw =>
 wpAny_mono (h pins s σ H Q (I.wish _) hw) (fun _ _ ⟨H',I',q⟩=>⟨H',I'.unwish,q⟩) fun _ _ z=>False.elim z
theorem PSs.nox {st:List Stmt} {t:TS} (h:PSs X.nox st t):PSs X st t:=fun pins s σ H D I hw =>
 wpAny_mono (h pins s σ H D (I.wish _) hw) (fun _ _ q=>q.unwish) fun _ _ z=>False.elim z
end
section
variable {X:Cx} {st:Stmt} {rest:List Stmt} {t u:TS} {e:Expr} {te:TE} {pos:Pos}
def UI:TS:=fun D σ H=>D.nx σ H
def tSeq (t u:TS):TS:=fun D σ H=>t { D with nx:=u D } σ H
theorem zu:PSs X [] UI:=fun _ _ σ H _ I h=>wpAny_execs_nil ⟨σ,H,I,h⟩
theorem ze (h1:PS X st t) (h2:PSs X rest u):PSs X (st :: rest) (tSeq t u):=by
 intro pins s σ H D I h
 refine wpAny_execs_cons (thn (h1 pins s σ H { D with nx:=u D } I h) fun f s1 q=>?_)
 cases f with
 | next =>
  obtain ⟨σ',H',I',q⟩:=q
  exact h2 pins s1 σ' H' D I' q
 | ret v=>exact q
 | brk=>exact q
 | cont=>exact q
theorem zg (h1:PS X st t):PSs X [st] t:=by
 intro pins s σ H D I h
 refine wpAny_execs_cons (thn (h1 pins s σ H D I h) fun f s1 q=>?_)
 cases f with
 | next=>exact wpAny_execs_nil q
 | ret v=>exact q
 | brk=>exact q
 | cont=>exact q
theorem Inv.quiet {pins:List (Addr × Obj)} {σ:St} {H:Hp} {s:Shared} (I:Inv X pins σ H s):interactive X.env = false:=by simp [interactive,I.ok.kind]
def Se (te:TE):TS:=fun D σ H=>te σ H fun _ H1=>D.nx σ H1
theorem wz (he:PE X e te) (hs:swapsWith e none pos.line X.env = pure false:=by rfl):PS X (.Expr e pos) (Se te):=by
 intro pins s σ H D I h
 exact wpAny_Expr_any (thn (he pins s σ H _ I h) fun v s1 ⟨x,H1,I1,r1,q1⟩=>⟨σ,H1,I1,q1⟩) I.quiet hs
def tRet (te:TE):TS:=fun D σ H=>te σ H D.rt
theorem zq (he:PE X e te):PS X (.Return (some e) pos) (tRet te):=by
 intro pins s σ H D I h
 exact wpAny_Return_some (thn (he pins s σ H _ I h) fun v s1 ⟨x,H1,I1,r1,q1⟩=>⟨x,σ,H1,I1,r1,q1⟩)
def tIfS (c:TT) (t u:TS):TS:=fun D σ H=>c σ H fun b H1=>if b = true then t D σ H1 else u D σ H1
theorem zW {c:Expr} {a b:List Stmt} {tc:TT} (hc:PT X c tc) (ha:PSs X a t) (hb:PSs X b u):PS X (.If c a b pos) (tIfS tc t u):=by
 intro pins s σ H D I h
 refine wpAny_If (thn (hc pins s σ H _ I h) fun d s1 ⟨H1,I1,q1⟩=>?_)
 cases d with
 | true=>exact ha pins s1 σ H1 D I1 q1
 | false=>exact hb pins s1 σ H1 D I1 q1
def UJ:TS:=fun _ _ _=>False
theorem vk:PS X st UJ:=fun _ _ _ _ _ _ h=>h.elim
end
abbrev TG:=V -> St -> Hp -> (St -> Hp -> Prop) -> Prop
abbrev TGs:=List V -> St -> Hp -> (St -> Hp -> Prop) -> Prop
def PG (X:Cx) (target:Expr) (t:TG):Prop :=
 ∀ (pins:List (Addr × Obj)) (s:Shared) (σ:St) (H:Hp) (v:V) (u:Value) (Q:St -> Hp -> Prop),Inv X pins σ H s -> RelV v u -> t v σ H Q →
  wpAny (model X.prog X.w) X.A (assign target X.env u) (fun _ s'=>∃ σ' H',Inv X pins σ' H' s' /\ Q σ' H') X.xe s
def PGs (X:Cx) (ts:List Expr) (t:TGs):Prop :=
 ∀ (pins:List (Addr × Obj)) (s:Shared) (σ:St) (H:Hp) (vs:List V) (us:List Value) (Q:St -> Hp -> Prop),Inv X pins σ H s -> Vals vs us -> t vs σ H Q →
  wpAny (model X.prog X.w) X.A (assignInOrder ((assignEach ts X.env).map (·.2)) us) (fun _ s'=>∃ σ' H',Inv X pins σ' H' s' /\ Q σ' H') X.xe s
abbrev TSet:=V -> V -> V -> Hp -> (Hp -> Prop) -> Prop
def PSet (X:Cx) (t:TSet):Prop :=
 ∀ (pins:List (Addr × Obj)) (s:Shared) (σ:St) (H:Hp) (o i v:V) (ov iv u:Value) (Q:Hp -> Prop),Inv X pins σ H s -> RelV o ov -> RelV i iv -> RelV v u -> t o i v H Q →
  wpAny (model X.prog X.w) X.A (setItem ov iv u) (fun _ s'=>∃ H',Inv X pins σ H' s' /\ Q H') X.xe s
section
variable {X:Cx} {pos:Pos}
def x9 (i:Nat):TG:=fun v σ H Q=>Q (σ.set i (some v)) H
theorem zh {i:Nat} {x:Str} (hN:X.N.Nodup) (hi:X.N[i]? = some x) (hx:Loc X.env.scope x) (hf:X.fn x = true \/ X.env.scope.names.lookup x = some .local :=by first | exact .inl rfl | exact .inr rfl | assumption):PG X (.Name x pos) (x9 i):=by
 intro pins s σ H v u Q I r h
 exact wpAny_assign_Name (vj I hN hi hx r (fun s' I'=>⟨_,H,I',h⟩) hf)
def gNil:TGs:=fun vs σ H Q=>vs = [] /\ Q σ H
def Sf (t:TG) (u:TGs):TGs:=fun vs σ H Q=>∃ v r,vs = v :: r /\ t v σ H fun σ' H'=>u r σ' H' Q
theorem zU:PGs X [] gNil:=by
 intro pins s σ H vs us Q I r h
 obtain ⟨e,h⟩:=h
 subst e
 cases r
 exact assignInOrder_nil ⟨σ,H,I,h⟩
theorem zm {e:Expr} {es:List Expr} {t:TG} {u:TGs} (h1:PG X e t) (h2:PGs X es u)
  (hs:(assignEach (e :: es) X.env).map (·.2) = assign e X.env :: (assignEach es X.env).map (·.2):=by rfl):PGs X (e :: es) (Sf t u):=by
 intro pins s σ H vs us Q I r h
 obtain ⟨v,vr,e1,h⟩:=h
 subst e1
 cases r with
 | cons r rr =>
  rw [hs]
  refine assignInOrder_cons (thn (h1 pins s σ H _ _ _ I r h) fun _ s1 ⟨σ1,H1,I1,q1⟩=>?_)
  exact h2 pins s1 σ1 H1 _ _ Q I1 rr q1
def gTup (K:FG7) (n:Nat) (t:TGs):TG:=fun v σ H Q=>∃ a xs,v = .ref a /\ SqT K H a xs /\ xs.length = n /\ t xs σ H Q
theorem yo {es:List Expr} {k:Nat} {t:TGs} {n:Nat} (hc:X.calm = true) (h:PGs X es t)
  (hn:(assignEach es X.env).length = n:=by rfl) (hst:(assignEach es X.env).findIdx? (·.1) = none:=by rfl):PG X (.Tuple es k pos) (gTup X.K n t):=by
 intro pins s σ H v u Q I r hw
 obtain ⟨a,xs,e1,hq,hl,hw⟩:=hw
 subst e1
 cases r
 obtain ⟨its,rv,ht,hz⟩:=I.tuple hq
 refine assign_Tuple_tuple (I.ok.hd hc) ht (by simp [hn,← hl,rv.length]) hst fun h' hx=>?_
 have I1:Inv X pins σ H { s with heap:=h' }:=I.kept (t':=s.toks) fun b o e=>hx b o (Nat.ne_of_lt (Heap.lt_size e)) e
 exact h pins _ σ H xs _ Q I1 (by simpa using rv) hw
def gSub (to ti:TE) (t:TSet):TG:=fun v σ H Q=>to σ H fun o H1=>ti σ H1 fun i H2=>t o i v H2 fun H3=>Q σ H3
theorem Z3 {o i:Expr} {to ti:TE} {t:TSet} (ho:PE X o to) (hi:PE X i ti) (hs:PSet X t)
  (ha:∀ v,assign (.Subscript o i pos) X.env v = (do
   let ov ← holding [v] (eval o X.env)
   let iv ← holding [v,ov] (eval i X.env)
   standAt pos
   holding [v,ov,iv] (setItem ov iv v)
   release [v,ov,iv] []):=by intro _; rfl):PG X (.Subscript o i pos) (gSub to ti t):=by
 intro pins s σ H v u Q I r h
 rw [ha]
 refine wpAny_bind (wpAny_holding (thn (ho pins s σ H _ I h) fun ov s1 ⟨x,H1,I1,r1,q1⟩=>?_))
 refine wpAny_bind (wpAny_holding (thn (hi pins s1 σ H1 _ I1 q1) fun iv s2 ⟨y,H2,I2,r2,q2⟩=>?_))
 refine wpAny_bind (wpAny_standAt (wpAny_bind (wpAny_holding (thn (hs pins s2 σ H2 x y v ov iv u _ I2 r1 r2 r q2) fun _ s3 ⟨H3,I3,q3⟩=>?_))))
 exact wpAny_release ⟨σ,H3,I3,q3⟩
def tAsg (te:TE) (g:TG):TS:=fun D σ H=>te σ H fun x H1=>g x σ H1 D.nx
theorem yU {tg e:Expr} {te:TE} {g:TG} (he:PE X e te) (hg:PG X tg g) (hs:swapsWithSole [tg] e pos.line X.env = pure false:=by rfl) (hw:swappedStores [tg] e X.env = pure none:=by rfl)
  (h1:(assignEach [tg] X.env).map (·.2) = [assign tg X.env]:=by rfl):PS X (.Assign [tg] e pos) (tAsg te g):=by
 intro pins s σ H D I h
 refine wpAny_Assign_stores (thn (he pins s σ H _ I h) fun v s1 ⟨x,H1,I1,r1,q1⟩=>?_) hs hw
 rw [h1]
 exact thn (hg pins s1 σ H1 x v _ I1 r1 q1) fun _ s2 q=>q
theorem zI {i:Nat} {x:Str} {e:Expr} {te:TE} {pos':Pos} (hN:X.N.Nodup) (hi:X.N[i]? = some x) (hx:Loc X.env.scope x) (he:PE X e te) (hs:swapsWith e (some (.Name x pos')) pos.line X.env = pure false:=by rfl) (hf:X.fn x = true \/ X.env.scope.names.lookup x = some .local :=by first | exact .inl rfl | exact .inr rfl | assumption) :
  PS X (.Assign [.Name x pos'] e pos) (tAsg te (x9 i)):=by
 intro pins s σ H D I h
 refine wpAny_Assign_Name (thn (he pins s σ H _ I h) fun v s1 ⟨y,H1,I1,r1,q1⟩=>?_) hs
 exact vj I1 hN hi hx r1 (fun s2 I2=>⟨_,H1,I2,q1⟩) hf
def tPar (i j:Nat) (ta:TA):TS:=fun D σ H=>ta σ H fun vs H1=>∃ v w,vs = [v,w] /\ D.nx ((σ.set i (some v)).set j (some w)) H1
theorem UK {i j:Nat} {x y:Str} {a b:Expr} {ta:TA} {px py pt:Pos} {kt k2 pt2} (hc:X.calm = true) (hN:X.N.Nodup) (hi:X.N[i]? = some x) (hj:X.N[j]? = some y) (hij:i ≠ j)
  (hx:X.env.scope.names.lookup x = some .local) (hy:X.env.scope.names.lookup y = some .local) (ha:PA X [a,b] ta)
  (hw:swappedStores [.Tuple [.Name x px,.Name y py] kt pt] (.Tuple [a,b] k2 pt2) X.env = pure (some [x,y]))
  (hs:swapsWithSole [.Tuple [.Name x px,.Name y py] kt pt] (.Tuple [a,b] k2 pt2) pos.line X.env = pure false:=by rfl) :
  PS X (.Assign [.Tuple [.Name x px,.Name y py] kt pt] (.Tuple [a,b] k2 pt2) pos) (tPar i j ta):=by
 intro pins s σ H D I h
 rw [exec_Assign_arm]
 refine wpAny_bind (wpAny_standAt ?_)
 rw [hs]
 refine wpAny_bind (wpAny_pure ?_)
 rw [if_neg (by decide)]
 refine wpAny_bind (Tuple_ (thn (ha _ pins s σ H _ I h) fun us s1 ⟨vs,H1,I1,r1,q1⟩=>?_))
 obtain ⟨v,w,e1,q1⟩:=q1
 subst e1
 obtain ⟨u1,u2,rfl,rv,rw'⟩:∃ u1 u2,us = [u1,u2] /\ RelV v u1 /\ RelV w u2:=by
  cases r1 with
  | cons p q =>
   cases q with
   | cons p' q' =>
    cases q'
    exact ⟨_,_,rfl,p,p'⟩
 refine wpAny_newObj_type ?_ (by show 2 <= sizeLine; decide)
 have I2:Inv X pins σ H1 { s1 with heap:=s1.heap.push { cls:=.type "tuple",data:=.seq [u1,u2].toArray } }:=I1.kept (t':=s1.toks) fun b o e=>Heap.get?_push_of_some _ e
 rw [hw]
 refine wpAny_bind (wpAny_pure ?_)
 show wpAny (model X.prog X.w) X.A (do rule "assign.swapped-stores"; let items ← unpackItems (.ref s1.heap.objs.size) 2 none; assignInOrder [fun v=>bindName X.env y v,fun v=>bindName X.env x v] items.reverse; pure Flow.next) _ _ _
 refine wpAny_bind (wpAny_rule (wpAny_bind (unpackItems_tuple (items:=#[u1,u2]) (I.ok.hd hc) (IsTup.new s1.heap _) fun h' hx'=>?_)))
 have I3:=I2.kept (h':=h') (t':=s1.toks) fun b o e=>hx' b o (Nat.ne_of_lt (Heap.lt_size e)) e
 show wpAny _ _ (assignInOrder [fun v=>bindName X.env y v,fun v=>bindName X.env x v] [u2,u1] >>= fun _=>pure Flow.next) _ _ _
 refine wpAny_bind (assignInOrder_cons (wpAny_bindName (vj I3 hN hj (.inl hy) rw' (fun s2 I4=>?_) (.inr hy))))
 refine assignInOrder_cons (wpAny_bindName (vj I4 hN hi (.inl hx) rv (fun s3 I5=>assignInOrder_nil (wpAny_pure ?_)) (.inr hx)))
 rw [List.set_comm _ _ (Ne.symm hij)] at I5
 exact ⟨_,H1,I5,q1⟩
end
structure It where
 go:Nat -> Hp -> Prop
 yld:Nat -> Hp -> V -> Hp -> Prop
 stop:Nat -> Hp -> Prop
def FpOk (X:Cx) (pins:List (Addr × Obj)) (H:Hp) (b:Addr):Prop :=
 H b = none /\ b ≠ X.env.locals /\ b ∉ X.fs /\ (b ∈ X.ex \/ X.s₀.heap.objs.size <= b) /\ (∀ x c,X.env.cells.lookup x = some c -> c ≠ b) /\ ∀ p ∈ X.pn ++ pins,p.1 ≠ b
theorem Inv.fpOk {X:Cx} {pins:List (Addr × Obj)} {σ:St} {H H':Hp} {s:Shared} {b:Addr} (I:Inv X pins σ H s) (hb:s.heap.objs.size <= b) (hn:H' b = none):FpOk X pins H' b:=by
 refine ⟨hn,Nat.ne_of_gt (Nat.lt_of_lt_of_le I.lt hb),I.nofs hb,.inr (Nat.le_trans I.sz hb),fun x c e z=>?_,fun p hp z=>?_⟩
 ·obtain ⟨v,q⟩:=I.cell x c e
  exact absurd (Nat.lt_of_lt_of_le q.lt (by rw [z]; exact hb)) (Nat.lt_irrefl _)
 ·exact absurd (Nat.lt_of_lt_of_le (Heap.lt_size (I.pin p hp).1) (by rw [z]; exact hb)) (Nat.lt_irrefl _)
structure Turn (P:Program) (w:World) (K:FG7) (tg:Expr) (J:It) (fp:List Addr) (it:Addr) (tn:Nat -> Heap -> Prop):Prop where
 mem:it ∈ fp
 obj:∀ i h,tn i h -> ∀ b ∈ fp,∃ o,h.get? b = some o /\ ∀ v,o.data ≠ .cell v
 keep:∀ i h h',tn i h -> (∀ b ∈ fp,∀ o,h.get? b = some o -> h'.get? b = some o) -> tn i h'
 item:∀ (X:Cx),X.prog = P -> X.w = w -> X.K = K -> X.calm = true -> ∀ (i:Nat) (pins:List (Addr × Obj)) (s:Shared) (σ:St) (H:Hp) (E:VS7),Inv X pins σ H s -> (∀ b ∈ fp,FpOk X pins H b) -> tn i s.heap -> J.go i H →
  wpAny (model P w) X.A (pyNext (.ref it)) (fun r s1=>∃ u,r = some u ∧
   wpAny (model P w) X.A (letOwnedTupleGo tg (.ref it) u) (fun _ s2=>∃ x H',Inv X pins σ H' s2 /\ RelV x u /\ J.yld i H x H' /\ tn (i + 1) s2.heap /\ ∀ b ∈ fp,H' b = none) E s1) E s
 done:∀ (X:Cx),X.prog = P -> X.w = w -> X.K = K -> X.calm = true -> ∀ (i:Nat) (pins:List (Addr × Obj)) (s:Shared) (σ:St) (H:Hp) (E:VS7),Inv X pins σ H s -> (∀ b ∈ fp,FpOk X pins H b) -> tn i s.heap -> J.stop i H →
  wpAny (model P w) X.A (pyNext (.ref it)) (fun r s1=>r = none /\ Inv X pins σ H s1) E s
 self:∀ (A:Around) (i:Nat) (s:Shared) (Q:VS7) (E:VS7),tn i s.heap -> Q (.ref it) s -> wpAny (model P w) A (pyIter (.ref it)) Q E s
abbrev TI:=St -> Hp -> (It -> Hp -> Prop) -> Prop
def PIE (X:Cx) (pins:List (Addr × Obj)) (σ:St) (tg:Expr) (R:It -> Hp -> Prop) (itv:Value) (s2:Shared):Prop :=
 ∃ (it:Addr) (fp:List Addr) (tn:Nat -> Heap -> Prop) (J:It) (H':Hp),itv = .ref it /\ Inv X pins σ H' s2 /\ Turn X.prog X.w X.K tg J fp it tn /\ tn 0 s2.heap /\ (∀ b ∈ fp,FpOk X pins H' b) /\ R J H'
def PI (X:Cx) (tg iter:Expr) (wi:TI):Prop :=
 ∀ (pins:List (Addr × Obj)) (s:Shared) (σ:St) (H:Hp) (R:It -> Hp -> Prop),Inv X pins σ H s -> wi σ H R →
  wpAny (model X.prog X.w) X.A (eval iter X.env) (fun v s1=>wpAny (model X.prog X.w) X.A (pyIter v) (PIE X pins σ tg R) X.xe s1) X.xe s
theorem X9 {M:Model} {A:Around} {E:VS7} {s:Shared} {tg:Expr} {it:Addr} {u:Value} {o:Obj} {n:String} {vs:Array Value} {Q:Unit -> Shared -> Prop} (ho:s.heap.get? it = some o) (hc:o.cls = .type n) (hd:o.data = .fields vs)
    (hn:["enumerate","zip","dict_itemiterator","dict_reverseitemiterator","odict_iterator","itertools.zip_longest","itertools.pairwise"].contains n = false) (hQ:Q () s):wpAny M A (letOwnedTupleGo tg (.ref it) u) Q E s:=by
  unfold letOwnedTupleGo
  cases tg <;> first
    | exact wpAny_pure hQ
    | (cases u <;> first
        | exact wpAny_pure hQ
        | (refine wpAny_bind (wpAny_load ho ?_)
           rw [hc,hd]
           show wpAny M A (if (["enumerate","zip","dict_itemiterator","dict_reverseitemiterator","odict_iterator","itertools.zip_longest","itertools.pairwise"].contains n && vs[0]? == some (rawInt _)) = true then _ else _) Q E s
           rw [if_neg (by intro h; rw [hn,Bool.false_and] at h; cases h)]
           exact wpAny_pure hQ))
def Itl (K:FG7) (a:Addr):It :=
 ⟨fun i H=>∃ xs x,SqL K H a xs /\ xs[i]? = some x,fun i H x H'=>H' = H /\ ∀ xs,SqL K H a xs -> xs[i]? = some x,fun i H=>∃ xs,SqL K H a xs /\ xs.length <= i⟩
def Itt (K:FG7) (a:Addr):It :=
 ⟨fun i H=>∃ xs x,SqT K H a xs /\ xs[i]? = some x,fun i H x H'=>H' = H /\ ∀ xs,SqT K H a xs -> xs[i]? = some x,fun i H=>∃ xs,SqT K H a xs /\ xs.length <= i⟩
def Itr (lo:Int) (n:Nat):It:=⟨fun i _=>i < n,fun i H x H'=>H' = H /\ x = .int (lo + i),fun i _=>n <= i⟩
theorem Z4 {P:Program} {w:World} {K:FG7} {tg:Expr} (a it:Addr):Turn P w K tg (Itl K a) [it] it (fun i h=>h.IsListIter it a i) where
 mem:=by simp
 obj:=fun i h st b hb=>by
  have e:b = it:=by simpa using hb
  subst e
  obtain ⟨o,e,c,d⟩:=st
  exact ⟨o,e,fun v z=>by rw [d] at z; cases z⟩
 keep:=fun i h h' st k=>st.at fun o e=>k it (by simp) o e
 item:=by
  intro X hP hw hK hc i pins s σ H E I hf st hg
  subst hP hw hK
  obtain ⟨xs,x,hq,hx⟩:=hg
  obtain ⟨its,rv,p,hz⟩:=I.list hq
  obtain ⟨u,hu,ru⟩:=rv.get hx
  obtain ⟨f0,f1,f2,f3,f4,f5⟩:=hf it (by simp)
  refine wpAny_pyNext_list_item st p.isList (x:=u) (by simpa using hu) fun h' st' sb=>?_
  have I1:Inv X pins σ H { s with heap:=h' }:=I.turned (t':=s.toks) (fun b o hb e=>(sb.2 b hb).trans e) f0 f1 f3 f4 f5
  obtain ⟨o,e,c,d⟩:=id st'
  exact ⟨u,rfl,X9 (s:={ s with heap:=h' }) e c d (by decide) ⟨x,H,I1,ru,⟨rfl,fun ys hy=>by rw [I.list_inj hy hq]; exact hx⟩,st',fun b hb=>(hf b hb).1⟩⟩
 done:=by
  intro X hP hw hK hc i pins s σ H E I hf st hg
  subst hP hw hK
  obtain ⟨xs,hq,hx⟩:=hg
  obtain ⟨its,rv,p,hz⟩:=I.list hq
  obtain ⟨f0,f1,f2,f3,f4,f5⟩:=hf it (by simp)
  have hl:=rv.length
  exact wpAny_pyNext_list_end (I.ok.hd hc) st p.isList (by simp; omega) fun h' eb=>⟨rfl,I.turned (t':=s.toks) (fun b o hb e=>eb b o hb e) f0 f1 f3 f4 f5⟩
 self:=fun _ _ _ _ _ st h=>wpAny_pyIter_listiter st h
theorem jV {P:Program} {w:World} {K:FG7} {tg:Expr} (a it:Addr):Turn P w K tg (Itt K a) [it] it (fun i h=>h.IsTupleIter it a i) where
 mem:=by simp
 obj:=fun i h st b hb=>by
  have e:b = it:=by simpa using hb
  subst e
  obtain ⟨o,e,c,d⟩:=st
  exact ⟨o,e,fun v z=>by rw [d] at z; cases z⟩
 keep:=fun i h h' st k=>st.at fun o e=>k it (by simp) o e
 item:=by
  intro X hP hw hK hc i pins s σ H E I hf st hg
  subst hP hw hK
  obtain ⟨xs,x,hq,hx⟩:=hg
  obtain ⟨its,rv,p,hz⟩:=I.tuple hq
  obtain ⟨u,hu,ru⟩:=rv.get hx
  obtain ⟨f0,f1,f2,f3,f4,f5⟩:=hf it (by simp)
  refine wpAny_pyNext_tuple_item st (show s.heap.IsTuple a its.toArray from p) (x:=u) (by simpa using hu) fun h' st' sb=>?_
  have I1:Inv X pins σ H { s with heap:=h' }:=I.turned (t':=s.toks) (fun b o hb e=>(sb.2 b hb).trans e) f0 f1 f3 f4 f5
  obtain ⟨o,e,c,d⟩:=id st'
  exact ⟨u,rfl,X9 (s:={ s with heap:=h' }) e c d (by decide) ⟨x,H,I1,ru,⟨rfl,fun ys hy=>by rw [I.tuple_inj hy hq]; exact hx⟩,st',fun b hb=>(hf b hb).1⟩⟩
 done:=by
  intro X hP hw hK hc i pins s σ H E I hf st hg
  subst hP hw hK
  obtain ⟨xs,hq,hx⟩:=hg
  obtain ⟨its,rv,p,hz⟩:=I.tuple hq
  obtain ⟨f0,f1,f2,f3,f4,f5⟩:=hf it (by simp)
  have hl:=rv.length
  exact wpAny_pyNext_tuple_end (I.ok.hd hc) st (show s.heap.IsTuple a its.toArray from p) (by simp; omega) fun h' eb=>⟨rfl,I.turned (t':=s.toks) (fun b o hb e=>eb b o hb e) f0 f1 f3 f4 f5⟩
 self:=fun _ _ _ _ _ st h=>wpAny_pyIter_tupleiter st h
theorem jW {P:Program} {w:World} {K:FG7} {tg:Expr} (it:Addr) (lo:Int) (n:Nat):Turn P w K tg (Itr lo n) [it] it (fun i h=>IsRangeIter h it (lo + (i:Nat) * 1) ((n:Int) - (i:Nat)) 1) where
 mem:=by simp
 obj:=fun i h st b hb=>by
  have e:b = it:=by simpa using hb
  subst e
  exact ⟨_,st,fun v z=>by
   have z':Data.fields _ = Data.cell v:=z
   cases z'⟩
 keep:=fun i h h' st k=>k it (by simp) _ st
 item:=by
  intro X hP hw hK hc i pins s σ H E I hf st hg
  subst hP hw hK
  obtain ⟨f0,f1,f2,f3,f4,f5⟩:=hf it (by simp)
  have W:=Walks.range (prog:=X.prog) (w:=X.w) (I.ok.hd hc) it lo 1 n
  refine W.item i s _ _ hg st fun v h' tk hv st' kk=>?_
  obtain ⟨t,rfl⟩:=hv
  have I1:Inv X pins σ H { s with heap:=h',toks:=tk }:=I.turned (fun b o hb e=>kk b o (by simpa using hb) e) f0 f1 f3 f4 f5
  refine ⟨_,rfl,X9 (s:={ s with heap:=h',toks:=tk }) (n:="range_iterator") st' rfl rfl (by decide) ⟨.int (lo + i),H,I1,⟨t,?_⟩,⟨rfl,rfl⟩,st',fun b hb=>(hf b hb).1⟩⟩
  rw [Int.mul_one]
 done:=by
  intro X hP hw hK hc i pins s σ H E I hf st hg
  subst hP hw hK
  obtain ⟨f0,f1,f2,f3,f4,f5⟩:=hf it (by simp)
  exact wpAny_pyNext_range_end (I.ok.hd hc) st (by have:n <= i:=hg; omega) fun h' eb=>⟨rfl,I.turned (t':=s.toks) (fun b o hb e=>eb b o hb e) f0 f1 f3 f4 f5⟩
 self:=fun _ _ _ _ _ st h=>wpAny_pyIter_rangeiter st h
end L2
namespace L2
open PySem PySem.Spec PyProof.Rows
section
variable {X:Cx} {tg:Expr}
def Sg (K:FG7) (tl:TE):TI:=fun σ H R=>tl σ H fun x H1=>∃ a,x = .ref a /\ (∃ xs,SqL K H1 a xs) /\ R (Itl K a) H1
def iTup (K:FG7) (tl:TE):TI:=fun σ H R=>tl σ H fun x H1=>∃ a,x = .ref a /\ (∃ xs,SqT K H1 a xs) /\ R (Itt K a) H1
theorem vB {l:Expr} {tl:TE} (hl:PE X l tl):PI X tg l (Sg X.K tl):=by
 intro pins s σ H R I h
 refine thn (hl pins s σ H _ I h) fun v s1 ⟨x,H1,I1,r1,q1⟩=>?_
 obtain ⟨a,e,⟨xs,hq⟩,q⟩:=q1
 subst e
 cases r1
 obtain ⟨its,rv,p,hz⟩:=I1.list hq
 refine wpAny_pyIter_list p.isList ?_
 refine ⟨s1.heap.objs.size,[s1.heap.objs.size],_,_,H1,rfl,I1.kept (t':=s1.toks) fun b o e=>Heap.get?_push_of_some _ e,Z4 a _,⟨_,Heap.get?_push_size _ rfl,rfl,rfl⟩,fun b hb=>?_,q⟩
 have e:b = s1.heap.objs.size:=by simpa using hb
 subst e
 exact I1.fpOk (Nat.le_refl _) (I1.hok.fresh (Nat.le_refl _))
theorem yL {l:Expr} {tl:TE} (hl:PE X l tl):PI X tg l (iTup X.K tl):=by
 intro pins s σ H R I h
 refine thn (hl pins s σ H _ I h) fun v s1 ⟨x,H1,I1,r1,q1⟩=>?_
 obtain ⟨a,e,⟨xs,hq⟩,q⟩:=q1
 subst e
 cases r1
 obtain ⟨its,rv,p,hz⟩:=I1.tuple hq
 refine wpAny_pyIter_tuple (show s1.heap.IsTuple a its.toArray from p) ?_
 refine ⟨s1.heap.objs.size,[s1.heap.objs.size],_,_,H1,rfl,I1.kept (t':=s1.toks) fun b o e=>Heap.get?_push_of_some _ e,jV a _,⟨_,Heap.get?_push_size _ rfl,rfl,rfl⟩,fun b hb=>?_,q⟩
 have e:b = s1.heap.objs.size:=by simpa using hb
 subst e
 exact I1.fpOk (Nat.le_refl _) (I1.hok.fresh (Nat.le_refl _))
theorem Wa {pins:List (Addr × Obj)} {σ:St} {H:Hp} {s:Shared} {R:It -> Hp -> Prop} {E:VS7} {lo hi:Int} {t u v:Tok} {tk:Nat} (I:Inv X pins σ H s) (h1:-(2 ^ 62) <= lo) (h2:lo < 2 ^ 62) (h3:-(2 ^ 62) <= hi) (h4:hi < 2 ^ 62)
  (q:R (Itr lo (hi - lo).toNat) H):wpAny (model X.prog X.w) X.A (pyIter (.ref s.heap.objs.size)) (PIE X pins σ tg R) E { s with heap:=s.heap.push { cls:=.type "range",data:=.fields #[.int lo t,.int hi u,.int 1 v] },toks:=tk }:=by
 refine wpAny_pyIter_range (IsRange.new ..) (small_one h1 h2 h3 h4) ?_
 have I1:Inv X pins σ H { s with heap:=s.heap.push { cls:=.type "range",data:=.fields #[.int lo t,.int hi u,.int 1 v] },toks:=tk }:=I.kept fun b o e=>Heap.get?_push_of_some _ e
 refine ⟨(s.heap.push { cls:=.type "range",data:=.fields #[.int lo t,.int hi u,.int 1 v] }).objs.size,[(s.heap.push { cls:=.type "range",data:=.fields #[.int lo t,.int hi u,.int 1 v] }).objs.size],_,_,H,rfl,
  I1.kept (t':=tk) fun b o e=>Heap.get?_push_of_some _ e,jW _ lo (hi - lo).toNat,?_,fun b hb=>?_,q⟩
 ·have e1:lo + ((0:Nat):Int) * 1 = lo:=by simp
  have e2:(((hi - lo).toNat:Nat):Int) - ((0:Nat):Int) = Builtin.Range.rangeSize lo hi 1:=by rw [rangeSize_one]; split <;> omega
  show IsRangeIter _ _ (lo + ((0:Nat):Int) * 1) ((((hi - lo).toNat:Nat):Int) - ((0:Nat):Int)) 1
  rw [e1,e2]
  exact Heap.get?_push_size _ rfl
 ·have e:b = (s.heap.push { cls:=.type "range",data:=.fields #[.int lo t,.int hi u,.int 1 v] }).objs.size:=by simpa using hb
  subst e
  exact I1.fpOk (Nat.le_refl _) (I1.hok.fresh (Nat.le_refl _))
def Si (ta:TA):TI:=fun σ H R=>ta σ H fun vs H1=>∃ j:Int,vs = [.int j] /\ -(2 ^ 62) <= j /\ j < 2 ^ 62 /\ R (Itr 0 j.toNat) H1
theorem xt {a:Expr} {ta:TA} {p pos:Pos} (hg:Gl X "range") (hm:X.mg "range" = none) (ha:PA X [a] ta) (hs:starEach [a] X.env = [(false,eval a X.env)]:=by rfl):PI X tg (.Call (.Name "range" p) [a] [] pos) (Si ta):=by
 intro pins s σ H R I h
 refine Call_ (xO I hg hm boot_range (PyProof.Rows.callWith_type1 (thn (ha pos pins s σ H _ I h) fun us s1 ⟨vs,H1,I1,r1,q1⟩=>?_) hs rfl))
 obtain ⟨j,e,q1,q2,q⟩:=q1
 subst e
 cases r1 with
 | cons r rr =>
  cases rr
  obtain ⟨t,rfl⟩:=r
  exact call_range_1 (Wa I1 (by omega) (by omega) q1 q2 (by simpa using q))
def tFor (wi:TI) (g:TG) (tb:TS):TS:=fun D σ H=>wi σ H fun J H1=>∃ W:Nat -> Nat -> St -> Hp -> Prop,(∃ m,W 0 m σ H1) /\ ∀ i m σ H,W i m σ H →
 (J.stop i H /\ D.nx σ H) \/ (J.go i H /\ ∃ N:St -> Hp -> Prop,(∀ σ' H',N σ' H' -> ∃ m',m' < m /\ W (i + 1) m' σ' H') /\ ∀ x H',J.yld i H x H' -> g x σ H' fun σ2 H2=>tb { D with nx:=N,ct:=N,bk:=D.nx } σ2 H2)
def sv (fp:List Addr) (h:Heap):List (Addr × Obj):=fp.filterMap fun b=>(h.get? b).map fun o=>(b,o)
theorem xG {fp:List Addr} {h:Heap} {b:Addr} {o:Obj} (hb:b ∈ fp) (e:h.get? b = some o):(b,o) ∈ sv fp h:=List.mem_filterMap.mpr ⟨b,hb,by rw [e]; rfl⟩
theorem Z5 {fp:List Addr} {h:Heap} {p:Addr × Obj} (hp:p ∈ sv fp h):p.1 ∈ fp /\ h.get? p.1 = some p.2:=by
 obtain ⟨b,hb,e⟩:=List.mem_filterMap.mp hp
 cases q:h.get? b with
 | none=>rw [q] at e; cases e
 | some o =>
  rw [q] at e
  have e':(b,o) = p:=Option.some.inj e
  subst e'
  exact ⟨hb,q⟩
theorem Inv.pinned {pins:List (Addr × Obj)} {σ:St} {H:Hp} {s:Shared} {fp:List Addr} (I:Inv X pins σ H s) (hf:∀ b ∈ fp,FpOk X pins H b) (ho:∀ b ∈ fp,∃ o,s.heap.get? b = some o /\ ∀ v,o.data ≠ .cell v):Inv X (pins ++ sv fp s.heap) σ H s :=
 I.pins_of fun p hp=>(List.mem_append.mp hp).elim (fun z=>I.pin p (List.mem_append_right _ z)) fun z=>by
  obtain ⟨hb,e⟩:=Z5 z
  obtain ⟨f0,f1,f2,_⟩:=hf p.1 hb
  obtain ⟨o,e',d⟩:=ho p.1 hb
  rw [e] at e'; cases e'
  exact ⟨e,f0,f1,f2,d⟩
theorem Inv.unpinned {pins pl:List (Addr × Obj)} {σ:St} {H:Hp} {s:Shared} (I:Inv X (pins ++ pl) σ H s):Inv X pins σ H s:=I.pins_of fun p hp=>I.pin p (List.mem_append_right _ (List.mem_append_left _ hp))
theorem xm {iter:Expr} {body:List Stmt} {wi:TI} {g:TG} {tb:TS} {pos:Pos} (hp:PassesOwn (model X.prog X.w) X.A X.env X.xe) (hc:X.calm = true) (hi:PI X tg iter wi) (hg:PG X tg g) (hb:PSs X body tb)
  (hs:∀ x,foldedSetIterable iter X.env x = pure x:=by intro _; rfl):PS X (.For tg iter body [] pos) (tFor wi g tb):=by
 intro pins s σ H D I h
 refine wpAny_For (thn (hi pins s σ H _ I h) fun v s1 h1=>thn h1 fun itv s2 h2=>?_) hs
 obtain ⟨it,fp,tn,J,H2,e,I2,T,st2,f2,W,⟨m0,w0⟩,turn⟩:=h2
 subst e
 -- what stays true of the iterator's objects through the loop
 have stat:∀ {H':Hp},(∀ b ∈ fp,H' b = none) -> ∀ b ∈ fp,FpOk X pins H' b:=fun hn b hb=>⟨hn b hb,(f2 b hb).2⟩
 refine codeAny_forLoop_any (fun n s'=>∃ i σ' H',Inv X pins σ' H' s' /\ tn i s'.heap /\ (∀ b ∈ fp,H' b = none) /\ W i n σ' H') ?_ m0 ⟨0,σ,H2,I2,st2,fun b hb=>(f2 b hb).1,w0⟩
 rintro n s3 ⟨i,σ3,H3,I3,st3,fr3,w3⟩
 rcases turn i n σ3 H3 w3 with ⟨stop,qn⟩ | ⟨go,N,hN,step⟩
 ·refine wpAny_passesOwn hp (thn (T.done X rfl rfl rfl hc i pins s3 σ3 H3 X.xe I3 (stat fr3) st3 stop) fun r s4 ⟨hr,I4⟩=>?_)
  subst hr
  exact wpAny_execs_nil ⟨σ3,H3,I4,qn⟩
 ·refine wpAny_passesOwn hp (thn (T.item X rfl rfl rfl hc i pins s3 σ3 H3 X.xe I3 (stat fr3) st3 go) fun r s4 ⟨u,hr,h4⟩=>?_)
  subst hr
  refine wpAny_passesOwn hp (thn h4 fun _ s5 ⟨x,H5,I5,r5,y5,st5,fr5⟩=>?_)
  have I5':=I5.pinned (stat fr5) (T.obj _ _ st5)
  refine wpAny_passesOwn hp (thn (hg _ s5 σ3 H5 x u _ I5' r5 (step x H5 y5)) fun _ s6 ⟨σ6,H6,I6,q6⟩=>?_)
  refine wpAny_passesOwn hp (thn (hb _ s6 σ6 H6 _ I6 q6) fun f s7 q7=>?_)
  have again:∀ {σ7:St} {H7:Hp},Inv X (pins ++ sv fp s5.heap) σ7 H7 s7 -> N σ7 H7 -> ∃ m,m < n /\ ∃ i σ' H',Inv X pins σ' H' s7 /\ tn i s7.heap /\ (∀ b ∈ fp,H' b = none) /\ W i m σ' H':=fun {σ7 H7} I7 n7=>by
   obtain ⟨m',hm,w7⟩:=hN σ7 H7 n7
   refine ⟨m',hm,i + 1,σ7,H7,I7.unpinned,T.keep _ _ _ st5 fun b hb o e=>(I7.pin (b,o) (List.mem_append_right _ (List.mem_append_right _ (xG hb e)))).1,fun b hb=>?_,w7⟩
   obtain ⟨o,e,d⟩:=T.obj _ _ st5 b hb
   exact (I7.pin (b,o) (List.mem_append_right _ (List.mem_append_right _ (xG hb e)))).2.1
  cases f with
  | next=>obtain ⟨σ7,H7,I7,n7⟩:=q7; exact again I7 n7
  | cont=>obtain ⟨σ7,H7,I7,n7⟩:=q7; exact again I7 n7
  | brk=>obtain ⟨σ7,H7,I7,q7⟩:=q7; exact ⟨σ7,H7,I7.unpinned,q7⟩
  | ret v=>obtain ⟨x7,σ7,H7,I7,r7,q7⟩:=q7; exact ⟨x7,σ7,H7,I7.unpinned,r7,q7⟩
end
theorem Wb {K:FG7} {a:Addr} {xs:List V} {g:TG} {tb:TS} {D:Ends} {σ:St} {H:Hp} (Pv:Nat -> St -> Hp -> Prop) (h0:Pv 0 σ H) (hl:∀ i σ H,i <= xs.length -> Pv i σ H -> SqL K H a xs)
  (hs:∀ i x σ H,xs[i]? = some x -> Pv i σ H -> g x σ H fun σ2 H2=>tb { D with nx:=Pv (i + 1),ct:=Pv (i + 1),bk:=D.nx } σ2 H2) (hd:∀ σ H,Pv xs.length σ H -> D.nx σ H) :
  ∃ W:Nat -> Nat -> St -> Hp -> Prop,(∃ m,W 0 m σ H) /\ ∀ i m σ H,W i m σ H →
   ((Itl K a).stop i H /\ D.nx σ H) \/ ((Itl K a).go i H /\ ∃ N:St -> Hp -> Prop,(∀ σ' H',N σ' H' -> ∃ m',m' < m /\ W (i + 1) m' σ' H') /\ ∀ x H',(Itl K a).yld i H x H' -> g x σ H' fun σ2 H2=>tb { D with nx:=N,ct:=N,bk:=D.nx } σ2 H2):=by
 refine ⟨fun i m σ H=>m = xs.length - i /\ i <= xs.length /\ Pv i σ H,⟨xs.length,by simp,Nat.zero_le _,h0⟩,?_⟩
 rintro i m σ H ⟨rfl,hi,p⟩
 have q:=hl i σ H hi p
 by_cases hlt:i < xs.length
 ·refine .inr ⟨⟨xs,xs[i],q,by simp [hlt]⟩,Pv (i + 1),fun σ' H' p'=>⟨xs.length - (i + 1),by omega,rfl,hlt,p'⟩,fun x H' y=>?_⟩
  obtain ⟨e,y⟩:=y
  subst e
  exact hs i x σ _ (y xs q) p
 ·have e:i = xs.length:=by omega
  subst e
  exact .inl ⟨⟨xs,q,Nat.le_refl _⟩,hd σ H p⟩
theorem rX {K:FG7} {a:Addr} {xs:List V} {g:TG} {tb:TS} {D:Ends} {σ:St} {H:Hp} (Pv:Nat -> St -> Hp -> Prop) (h0:Pv 0 σ H) (hl:∀ i σ H,i <= xs.length -> Pv i σ H -> SqT K H a xs)
  (hs:∀ i x σ H,xs[i]? = some x -> Pv i σ H -> g x σ H fun σ2 H2=>tb { D with nx:=Pv (i + 1),ct:=Pv (i + 1),bk:=D.nx } σ2 H2) (hd:∀ σ H,Pv xs.length σ H -> D.nx σ H) :
  ∃ W:Nat -> Nat -> St -> Hp -> Prop,(∃ m,W 0 m σ H) /\ ∀ i m σ H,W i m σ H →
   ((Itt K a).stop i H /\ D.nx σ H) \/ ((Itt K a).go i H /\ ∃ N:St -> Hp -> Prop,(∀ σ' H',N σ' H' -> ∃ m',m' < m /\ W (i + 1) m' σ' H') /\ ∀ x H',(Itt K a).yld i H x H' -> g x σ H' fun σ2 H2=>tb { D with nx:=N,ct:=N,bk:=D.nx } σ2 H2):=by
 refine ⟨fun i m σ H=>m = xs.length - i /\ i <= xs.length /\ Pv i σ H,⟨xs.length,by simp,Nat.zero_le _,h0⟩,?_⟩
 rintro i m σ H ⟨rfl,hi,p⟩
 have q:=hl i σ H hi p
 by_cases hlt:i < xs.length
 ·refine .inr ⟨⟨xs,xs[i],q,by simp [hlt]⟩,Pv (i + 1),fun σ' H' p'=>⟨xs.length - (i + 1),by omega,rfl,hlt,p'⟩,fun x H' y=>?_⟩
  obtain ⟨e,y⟩:=y
  subst e
  exact hs i x σ _ (y xs q) p
 ·have e:i = xs.length:=by omega
  subst e
  exact .inl ⟨⟨xs,q,Nat.le_refl _⟩,hd σ H p⟩
theorem sx {lo:Int} {n:Nat} {g:TG} {tb:TS} {D:Ends} {σ:St} {H:Hp} (Pv:Nat -> St -> Hp -> Prop) (h0:Pv 0 σ H)
  (hs:∀ i σ H,i < n -> Pv i σ H -> g (.int (lo + i)) σ H fun σ2 H2=>tb { D with nx:=Pv (i + 1),ct:=Pv (i + 1),bk:=D.nx } σ2 H2) (hd:∀ σ H,Pv n σ H -> D.nx σ H) :
  ∃ W:Nat -> Nat -> St -> Hp -> Prop,(∃ m,W 0 m σ H) /\ ∀ i m σ H,W i m σ H →
   ((Itr lo n).stop i H /\ D.nx σ H) \/ ((Itr lo n).go i H /\ ∃ N:St -> Hp -> Prop,(∀ σ' H',N σ' H' -> ∃ m',m' < m /\ W (i + 1) m' σ' H') /\ ∀ x H',(Itr lo n).yld i H x H' -> g x σ H' fun σ2 H2=>tb { D with nx:=N,ct:=N,bk:=D.nx } σ2 H2):=by
 refine ⟨fun i m σ H=>m = n - i /\ i <= n /\ Pv i σ H,⟨n,by simp,Nat.zero_le _,h0⟩,?_⟩
 rintro i m σ H ⟨rfl,hi,p⟩
 by_cases hlt:i < n
 ·refine .inr ⟨hlt,Pv (i + 1),fun σ' H' p'=>⟨n - (i + 1),by omega,rfl,hlt,p'⟩,fun x H' y=>?_⟩
  obtain ⟨e,y⟩:=y
  subst e y
  exact hs i σ _ hlt p
 ·have e:i = n:=by omega
  subst e
  exact .inl ⟨Nat.le_refl _,hd σ H p⟩
end L2
namespace L2
open PySem PySem.Spec PyProof.Rows
abbrev R2:=V -> V -> Hp -> VK -> Prop
def OpR (X:Cx) (f:Value -> Value -> Sem Value) (r:R2):Prop :=
 ∀ (pins:List (Addr × Obj)) (s:Shared) (σ:St) (H:Hp) (x y:V) (v u:Value) (Q:VK),Inv X pins σ H s -> RelV x v -> RelV y u -> r x y H Q →
  wpAny (model X.prog X.w) X.A (f v u) (EP X pins σ Q) X.xe s
def yM (X:Cx) (f:Value) (r:List V -> Hp -> VK -> Prop):Prop :=
 ∀ (pins:List (Addr × Obj)) (s:Shared) (σ:St) (H:Hp) (xs:List V) (us:List Value) (Q:VK),Inv X pins σ H s -> Vals xs us -> r xs H Q →
  wpAny (model X.prog X.w) X.A (call f us) (EP X pins σ Q) X.xe s
def TruR (X:Cx) (r:V -> Hp -> (Bool -> Hp -> Prop) -> Prop):Prop :=
 ∀ (pins:List (Addr × Obj)) (s:Shared) (σ:St) (H:Hp) (x:V) (v:Value) (Q:Bool -> Hp -> Prop),Inv X pins σ H s -> RelV x v -> r x H Q →
  wpAny (model X.prog X.w) X.A (truthy v) (TP X pins σ Q) X.xe s
def tOp (r:R2) (ta tb:TE):TE:=fun σ H Q=>ta σ H fun x H1=>tb σ H1 fun y H2=>r x y H2 Q
def rI (C:Int -> Int -> Prop) (g:Int -> Int -> V):R2:=fun x y H Q=>∃ i j,x = .int i /\ y = .int j /\ C i j /\ Q (g i j) H
def rI0 (g:Int -> Int -> V):R2:=fun x y H Q=>∃ i j,x = .int i /\ y = .int j /\ Q (g i j) H
section
variable {X:Cx} {a b c:Expr} {ta tb tc:TE} {pos:Pos}
theorem binT (ha:PE X a ta) (hb:PE X b tb) {pins:List (Addr × Obj)} {s:Shared} {σ:St} {H:Hp} {R:V -> V -> Hp -> Prop} (I:Inv X pins σ H s)
  (h:ta σ H fun x H1=>tb σ H1 fun y H2=>R x y H2) {Q:VS7} {f:Value -> Value -> Sem Value}
  (hf:∀ v u s2 x y H2,Inv X pins σ H2 s2 -> RelV x v -> RelV y u -> R x y H2 -> wpAny (model X.prog X.w) X.A (f v u) Q X.xe s2) :
  wpAny (model X.prog X.w) X.A (eval a X.env) (fun v s₁=>wpAny (model X.prog X.w) X.A (eval b X.env) (fun u s₂=>wpAny (model X.prog X.w) X.A (f v u) Q X.xe s₂) X.xe s₁) X.xe s:=by
 refine thn (ha pins s σ H _ I h) fun v s1 ⟨x,H1,I1,r1,q1⟩=>?_
 refine thn (hb pins s1 σ H1 _ I1 q1) fun u s2 ⟨y,H2,I2,r2,q2⟩=>?_
 exact hf v u s2 x y H2 I2 r1 r2 q2
theorem zJ {op:Operator} {r:R2} (ho:OpR X (binaryOp op) r) (ha:PE X a ta) (hb:PE X b tb):PE X (.BinOp a op b pos) (tOp r ta tb):=by
 intro pins s σ H Q I h
 exact wpAny_BinOp (binT ha hb I h fun v u s2 x y H2 I2 rx ry q=>ho pins s2 σ H2 x y v u Q I2 rx ry q)
theorem opI {f:Value -> Value -> Sem Value} {C:Int -> Int -> Prop} {g:Int -> Int -> Int}
  (rule:∀ (i j:Int) (t u:Tok) (s:Shared) (Q:VS7) (E:VS7),C i j -> Q (.int (g i j) s.toks) { s with toks:=s.toks + 1 } -> wpAny (model X.prog X.w) X.A (f (.int i t) (.int j u)) Q E s) :
  OpR X f (rI C fun i j=>.int (g i j)):=by
 intro pins s σ H x y v u Q I rx ry h
 obtain ⟨i,j,rfl,rfl,hc,q⟩:=h
 obtain ⟨t,rfl⟩:=rx
 obtain ⟨t',rfl⟩:=ry
 exact rule i j t t' s _ _ hc ⟨.int (g i j),H,I.tok _,⟨_,rfl⟩,q⟩
theorem opI0 {f:Value -> Value -> Sem Value} {g:Int -> Int -> Int}
  (rule:∀ (i j:Int) (t u:Tok) (s:Shared) (Q:VS7) (E:VS7),Q (.int (g i j) s.toks) { s with toks:=s.toks + 1 } -> wpAny (model X.prog X.w) X.A (f (.int i t) (.int j u)) Q E s) :
  OpR X f (rI0 fun i j=>.int (g i j)):=by
 intro pins s σ H x y v u Q I rx ry h
 obtain ⟨i,j,rfl,rfl,q⟩:=h
 obtain ⟨t,rfl⟩:=rx
 obtain ⟨t',rfl⟩:=ry
 exact rule i j t t' s _ _ ⟨.int (g i j),H,I.tok _,⟨_,rfl⟩,q⟩
theorem opB0 {f:Value -> Value -> Sem Value} {g:Int -> Int -> Bool}
  (rule:∀ (i j:Int) (t u:Tok) (s:Shared) (Q:VS7) (E:VS7),Q (.bool (g i j)) s -> wpAny (model X.prog X.w) X.A (f (.int i t) (.int j u)) Q E s) :
  OpR X f (rI0 fun i j=>.bl (g i j)):=by
 intro pins s σ H x y v u Q I rx ry h
 obtain ⟨i,j,rfl,rfl,q⟩:=h
 obtain ⟨t,rfl⟩:=rx
 obtain ⟨t',rfl⟩:=ry
 exact rule i j t t' s _ _ ⟨.bl (g i j),H,I,rfl,q⟩
def CPow (i j:Int):Prop:=0 <= j /\ j <= 1000000 /\ i.natAbs < 2 ^ 64
def CMul (i j:Int):Prop:=(-(2 ^ 64) < i /\ i < 2 ^ 64) \/ (-(2 ^ 64) < j /\ j < 2 ^ 64)
theorem CMul.ok {i j:Int} (h:CMul i j):IntMulOk i j:=by
 rcases h with ⟨h1,h2⟩ | ⟨h1,h2⟩
 ·exact .of_left (intBits_le_64 h1 h2)
 ·exact .of_right (intBits_le_64 h1 h2)
theorem jX (k:Nat):(0:Int) <= 2 ^ k:=by
 rw [two_pow_cast]
 exact Int.natCast_nonneg _
theorem xn:OpR X (binaryOp .Add) (rI0 fun i j=>.int (i + j)):=opI0 fun _ _ _ _ _ _ _ q=>add_int q
theorem qZ:OpR X (binaryOp .Sub) (rI0 fun i j=>.int (i - j)):=opI0 fun _ _ _ _ _ _ _ q=>sub_int q
theorem uv:OpR X (binaryOp .Mod) (rI (fun _ j=>0 < j) fun i j=>.int (i % j)):=opI fun i j _ _ _ _ _ hc q=>by
 have h1:(0:Int) < j:=hc
 exact mod_int' (by omega) (by rw [Int.fmod_eq_emod_of_nonneg i (by omega)]; exact q)
theorem sy:OpR X (binaryOp .Pow) (rI CPow fun i j=>.int (i ^ j.toNat)):=opI fun _ _ _ _ _ _ _ hc q=>pow_int_small hc.1 hc.2.1 hc.2.2 q
theorem Vg:OpR X (binaryOp .LShift) (rI CPow fun i j=>.int (i * 2 ^ j.toNat)):=opI fun _ _ _ _ _ _ _ hc q=>lshift_int_small hc.1 hc.2.1 hc.2.2 q
theorem UL:OpR X (binaryOp .RShift) (rI (fun _ j=>0 <= j) fun i j=>.int (i / 2 ^ j.toNat)):=opI fun i j _ _ _ _ _ hc q =>
 rshift_int hc (by rw [Int.fdiv_eq_ediv_of_nonneg i (jX _)]; exact q)
theorem Vh:OpR X (binaryOp .BitAnd) (rI0 fun i j=>.int (Builtin.bitAnd i j)):=opI0 fun _ _ _ _ _ _ _ q=>and_int q
theorem Sj:OpR X (binaryOp .BitOr) (rI0 fun i j=>.int (Builtin.bitOr i j)):=opI0 fun _ _ _ _ _ _ _ q=>or_int q
end
def scal:V -> V -> Bool
 | .non,.non=>true | .non,.int _=>true | .int _,.non=>true | .non,.bl _=>true | .bl _,.non=>true | .non,.str _=>true | .str _,.non=>true
 | .int _,.int _=>true | .bl _,.bl _=>true | .str _,.str _=>true | .byt _,.byt _=>true
 | .int _,.str _=>true | .str _,.int _=>true | .bl _,.str _=>true | .str _,.bl _=>true
 | _,_=>false
def rEq:R2:=fun x y H Q=>scal x y = true /\ Q (.bl (decide (x = y))) H
def rNe:R2:=fun x y H Q=>scal x y = true /\ Q (.bl (!decide (x = y))) H
theorem Z6 {i j:Int}:decide (V.int i = V.int j) = (i == j):=by
 rw [Bool.eq_iff_iff]
 simp
theorem Vi {i j:Bool}:decide (V.bl i = V.bl j) = (i == j):=by
 rw [Bool.eq_iff_iff]
 simp
theorem Z7 {i j:Str}:decide (V.str i = V.str j) = (i == j):=by
 rw [Bool.eq_iff_iff]
 simp
theorem Z8 {i j:Array UInt8}:decide (V.byt i = V.byt j) = (i.toList == j.toList):=by
 rw [Bool.eq_iff_iff]
 cases i
 cases j
 simp
section
variable {X:Cx} {a b c:Expr} {ta tb tc:TE} {pos:Pos}
theorem zK {pins:List (Addr × Obj)} {σ:St} {H:Hp} {s:Shared} {Q:VK} {k k':Bool} (I:Inv X pins σ H s) (q:Q (.bl k) H) (e:k = k'):EP X pins σ Q (.bool k') s:=by
 subst e
 exact ⟨.bl k,H,I,rfl,q⟩
theorem sA:OpR X (compareOp .Eq) rEq:=by
 intro pins s σ H x y v u Q I rx ry h
 obtain ⟨hs,q⟩:=h
 cases x with
 | non =>
  cases rx
  cases y with
  | non=>cases ry; exact PySem.EqNone.eq_none_none (zK I q (by simp))
  | bl j=>cases ry; exact PySem.EqNone.eq_none_bool (zK I q (by simp))
  | int j=>obtain ⟨t',rfl⟩:=ry; exact PySem.EqNone.eq_none_int (zK I q (by simp))
  | str j=>obtain ⟨t',rfl⟩:=ry; exact PySem.EqNone.eq_none_str (zK I q (by simp))
  | _=>exact absurd (show false = true from hs) Bool.false_ne_true
 | bl i =>
  cases rx
  cases y with
  | non=>cases ry; exact PySem.EqNone.eq_bool_none (zK I q (by simp))
  | bl j=>cases ry; exact eq_bool (zK I q Vi)
  | str j=>obtain ⟨t',rfl⟩:=ry; exact PySem.EqMixed.eq_bool_str (zK I q (by simp))
  | _=>exact absurd (show false = true from hs) Bool.false_ne_true
 | int i =>
  obtain ⟨t,rfl⟩:=rx
  cases y with
  | non=>cases ry; exact PySem.EqNone.eq_int_none (zK I q (by simp))
  | int j=>obtain ⟨t',rfl⟩:=ry; exact eq_int (zK I q Z6)
  | str j=>obtain ⟨t',rfl⟩:=ry; exact PySem.EqMixed.eq_int_str (zK I q (by simp))
  | _=>exact absurd (show false = true from hs) Bool.false_ne_true
 | str i =>
  obtain ⟨t,rfl⟩:=rx
  cases y with
  | non=>cases ry; exact PySem.EqNone.eq_str_none (zK I q (by simp))
  | bl j=>cases ry; exact PySem.EqMixed.eq_str_bool (zK I q (by simp))
  | int j=>obtain ⟨t',rfl⟩:=ry; exact PySem.EqMixed.eq_str_int (zK I q (by simp))
  | str j=>obtain ⟨t',rfl⟩:=ry; exact eq_str (zK I q Z7)
  | _=>exact absurd (show false = true from hs) Bool.false_ne_true
 | byt i =>
  obtain ⟨t,rfl⟩:=rx
  cases y with
  | byt j=>obtain ⟨t',rfl⟩:=ry; exact PySem.W.eq_bytes (zK I q Z8)
  | _=>exact absurd (show false = true from hs) Bool.false_ne_true
 | _=>cases y <;> exact absurd (show false = true from hs) Bool.false_ne_true
theorem sB:OpR X (compareOp .NotEq) rNe:=by
 intro pins s σ H x y v u Q I rx ry h
 obtain ⟨hs,q⟩:=h
 cases x with
 | non =>
  cases rx
  cases y with
  | non=>cases ry; exact PySem.EqNone.ne_none_none (zK I q (by simp))
  | bl j=>cases ry; exact PySem.EqNone.ne_none_bool (zK I q (by simp))
  | int j=>obtain ⟨t',rfl⟩:=ry; exact PySem.EqNone.ne_none_int (zK I q (by simp))
  | str j=>obtain ⟨t',rfl⟩:=ry; exact PySem.EqNone.ne_none_str (zK I q (by simp))
  | _=>exact absurd (show false = true from hs) Bool.false_ne_true
 | bl i =>
  cases rx
  cases y with
  | non=>cases ry; exact PySem.EqNone.ne_bool_none (zK I q (by simp))
  | bl j=>cases ry; exact ne_bool (zK I q (congrArg not Vi))
  | str j=>obtain ⟨t',rfl⟩:=ry; exact PySem.EqMixed.ne_bool_str (zK I q (by simp))
  | _=>exact absurd (show false = true from hs) Bool.false_ne_true
 | int i =>
  obtain ⟨t,rfl⟩:=rx
  cases y with
  | non=>cases ry; exact PySem.EqNone.ne_int_none (zK I q (by simp))
  | int j=>obtain ⟨t',rfl⟩:=ry; exact ne_int (zK I q (congrArg not Z6))
  | str j=>obtain ⟨t',rfl⟩:=ry; exact PySem.EqMixed.ne_int_str (zK I q (by simp))
  | _=>exact absurd (show false = true from hs) Bool.false_ne_true
 | str i =>
  obtain ⟨t,rfl⟩:=rx
  cases y with
  | non=>cases ry; exact PySem.EqNone.ne_str_none (zK I q (by simp))
  | bl j=>cases ry; exact PySem.EqMixed.ne_str_bool (zK I q (by simp))
  | int j=>obtain ⟨t',rfl⟩:=ry; exact PySem.EqMixed.ne_str_int (zK I q (by simp))
  | str j=>obtain ⟨t',rfl⟩:=ry; exact ne_str (zK I q (congrArg not Z7))
  | _=>exact absurd (show false = true from hs) Bool.false_ne_true
 | byt i =>
  obtain ⟨t,rfl⟩:=rx
  cases y with
  | byt j=>obtain ⟨t',rfl⟩:=ry; exact PySem.W.ne_bytes (zK I q (congrArg not Z8))
  | _=>exact absurd (show false = true from hs) Bool.false_ne_true
 | _=>cases y <;> exact absurd (show false = true from hs) Bool.false_ne_true
theorem jY:OpR X (compareOp .Lt) (rI0 fun i j=>.bl (decide (i < j))):=opB0 fun _ _ _ _ _ _ _ q=>lt_int q
theorem u9:OpR X (compareOp .LtE) (rI0 fun i j=>.bl (decide (i <= j))):=opB0 fun _ _ _ _ _ _ _ q=>le_int q
theorem sC:OpR X (compareOp .Gt) (rI0 fun i j=>.bl (decide (j < i))):=opB0 fun _ _ _ _ _ _ _ q=>gt_int q
theorem OpR.or {f:Value -> Value -> Sem Value} {r r':R2} (h:OpR X f r) (h':OpR X f r'):OpR X f (fun x y H Q=>r x y H Q \/ r' x y H Q):=by
 intro pins s σ H x y v u Q I rx ry q
 rcases q with q | q
 ·exact h pins s σ H x y v u Q I rx ry q
 ·exact h' pins s σ H x y v u Q I rx ry q
theorem zD (b:Expr) {op:CmpOp} (h:op ≠ .In:=by decide) (h2:op ≠ .NotIn:=by decide):behindInMarks op b = false:=by
 have e1:(op == CmpOp.In) = false:=by cases op <;> first | rfl | exact absurd rfl h
 have e2:(op == CmpOp.NotIn) = false:=by cases op <;> first | rfl | exact absurd rfl h2
 cases b <;> simp [behindInMarks,e1,e2]
theorem yN {op:CmpOp} {r:R2} (ho:OpR X (compareOp op) r) (ha:PE X a ta) (hb:PE X b tb) (hm:behindInMarks op b = false):PE X (.Compare a [op] [b] pos) (tOp r ta tb):=by
 intro pins s σ H Q I h
 exact wpAny_Compare1 (binT ha hb I h fun v u s2 x y H2 I2 rx ry q=>ho pins s2 σ H2 x y v u Q I2 rx ry q) hm
def UM (t:TE):TT:=fun σ H Q=>t σ H fun x H'=>∃ k,x = .bl k /\ Q k H'
theorem zF {op:CmpOp} {r:R2} (ho:OpR X (compareOp op) r) (ha:PE X a ta) (hb:PE X b tb) (hm:behindInMarks op b = false):PT X (.Compare a [op] [b] pos) (UM (tOp r ta tb)):=by
 intro pins s σ H Q I h
 refine wpAny_isTrue_Compare1 (thn (ha pins s σ H _ I h) fun v s1 ⟨x,H1,I1,r1,q1⟩=>thn (hb pins s1 σ H1 _ I1 q1) fun u s2 ⟨y,H2,I2,r2,q2⟩ =>
  thn (ho pins s2 σ H2 x y v u _ I2 r1 r2 q2) fun c s3 ⟨z,H3,I3,r3,k,e,q3⟩=>?_) hm
 subst e
 cases r3
 exact wpAny_truthy_bool ⟨H3,I3,q3⟩
def Vj (r r':R2) (ta tb tc:TE):TE:=fun σ H Q=>ta σ H fun x H1=>tb σ H1 fun y H2=>r x y H2 fun z H3=>∃ k,z = .bl k ∧
 (if k = true then tc σ H3 fun w' H4=>r' y w' H4 Q else Q (.bl false) H3)
theorem q8 {op op':CmpOp} {r r':R2} (ho:OpR X (compareOp op) r) (ho':OpR X (compareOp op') r') (ha:PE X a ta) (hb:PE X b tb) (hc:PE X c tc)
  (hm:lastMarks [op,op'] [b,c] = false:=by with_unfolding_all rfl):PE X (.Compare a [op,op'] [b,c] pos) (Vj r r' ta tb tc):=by
 intro pins s σ H Q I h
 refine Compare_chain (thn (ha pins s σ H _ I h) fun v s1 ⟨x,H1,I1,r1,q1⟩=>chain_link (thn (hb pins s1 σ H1 _ I1 q1) fun u s2 ⟨y,H2,I2,r2,q2⟩ =>
  thn (ho pins s2 σ H2 x y v u _ I2 r1 r2 q2) fun d s3 ⟨z,H3,I3,r3,k,e,q3⟩=>?_)) hm
 subst e
 cases r3
 refine wpAny_truthy_bool ?_
 cases k with
 | false=>exact ite_ff ⟨.bl false,H3,I3,rfl,q3⟩
 | true=>exact ite_tt (chain_last (thn (hc pins s3 σ H3 _ I3 q3) fun w' s4 ⟨z',H4,I4,r4,q4⟩=>ho' pins s4 σ H4 y z' u w' Q I4 r2 r4 q4))
theorem q9 {op op':CmpOp} {r r':R2} (ho:OpR X (compareOp op) r) (ho':OpR X (compareOp op') r') (ha:PE X a ta) (hb:PE X b tb) (hc:PE X c tc)
  (hm:lastMarks [op,op'] [b,c] = false:=by with_unfolding_all rfl):PT X (.Compare a [op,op'] [b,c] pos) (UM (Vj r r' ta tb tc)):=by
 intro pins s σ H Q I h
 refine isTrue_chain (thn (ha pins s σ H _ I h) fun v s1 ⟨x,H1,I1,r1,q1⟩=>test_link (thn (hb pins s1 σ H1 _ I1 q1) fun u s2 ⟨y,H2,I2,r2,q2⟩ =>
  thn (ho pins s2 σ H2 x y v u _ I2 r1 r2 q2) fun d s3 ⟨z,H3,I3,r3,k,e,q3⟩=>?_)) hm
 subst e
 cases r3
 refine wpAny_truthy_bool ?_
 cases k with
 | false =>
  obtain ⟨k',e',q'⟩:=q3
  cases e'
  exact ite_ff ⟨H3,I3,q'⟩
 | true =>
  refine ite_tt (test_last (thn (hc pins s3 σ H3 _ I3 q3) fun w' s4 ⟨z',H4,I4,r4,q4⟩=>thn (ho' pins s4 σ H4 y z' u w' _ I4 r2 r4 q4) fun d' s5 ⟨z2,H5,I5,r5,k2,e2,q5⟩=>?_))
  subst e2
  cases r5
  exact wpAny_truthy_bool ⟨H5,I5,q5⟩
def TruV (K:FG7) (x:V) (H:Hp) (k:Bool):Prop :=
 match x with
 | .non=>k = false
 | .bl b=>k = b
 | .int i=>k = (i != 0)
 | .str y=>y.length <= sizeLine /\ k = ((y.length:Int) != 0)
 | .byt y=>y.size <= sizeLine /\ k = ((y.size:Int) != 0)
 | .ref p=>(∃ xs,SqL K H p xs /\ k = !xs.isEmpty) \/ (∃ xs,SqT K H p xs /\ k = !xs.isEmpty) \/ ∃ kvs,H p = some (.dK kvs) /\ k = !kvs.isEmpty
 | _=>False
theorem jZ {κ:Type} {kvs:List (κ × V)} {vs:List (κ × Value)} (r:KV kvs vs):(!vs.isEmpty) = !kvs.isEmpty:=by
 cases r <;> rfl
theorem uw {xs:List V} {its:List Value} (r:Vals xs its):(!its.toArray.isEmpty) = !xs.isEmpty:=by
 cases r <;> simp
theorem sD:(sizeLine:Nat) < 2 ^ 63:=by rw [sizeLine_eq]; decide
theorem UN:TruR X (fun x H Q=>∃ k,TruV X.K x H k /\ Q k H):=by
 intro pins s σ H x v Q I rx h
 obtain ⟨k,e,q⟩:=h
 have hl:=sD
 have hs:sizeLine = 16777216:=sizeLine_eq
 cases x with
 | non =>
  cases rx
  have e':k = false:=e
  subst e'
  exact truthy_none ⟨H,I,q⟩
 | bl b =>
  cases rx
  have e':k = b:=e
  subst e'
  exact wpAny_truthy_bool ⟨H,I,q⟩
 | int i =>
  obtain ⟨t,rfl⟩:=rx
  have e':k = (i != 0):=e
  subst e'
  exact PySem.P.truthy_int ⟨H,I,q⟩
 | str y =>
  obtain ⟨t,rfl⟩:=rx
  obtain ⟨hy,e'⟩:y.length <= sizeLine /\ k = ((y.length:Int) != 0):=e
  subst e'
  exact PySem.P.truthy_str (by omega) ⟨H,I.tok _,q⟩
 | byt y =>
  obtain ⟨t,rfl⟩:=rx
  obtain ⟨hy,e'⟩:y.size <= sizeLine /\ k = ((y.size:Int) != 0):=e
  subst e'
  exact PySem.W.truthy_bytes (by omega) ⟨H,I.tok _,q⟩
 | ref p =>
  cases rx
  have e':(∃ xs,SqL X.K H p xs /\ k = !xs.isEmpty) \/ (∃ xs,SqT X.K H p xs /\ k = !xs.isEmpty) \/ ∃ kvs,H p = some (.dK kvs) /\ k = !kvs.isEmpty:=e
  rcases e' with ⟨xs,hx,e'⟩ | ⟨xs,hx,e'⟩ | ⟨kvs,hx,e'⟩
  ·subst e'
   obtain ⟨its,r,pl,hz⟩:=I.list hx
   have hlen:=r.length
   exact wpAny_truthy_list pl.isList (by simp only [List.size_toArray]; omega) ⟨H,I.tok _,by rw [uw r]; exact q⟩
  ·subst e'
   obtain ⟨its,r,pl,hz⟩:=I.tuple hx
   have hlen:=r.length
   exact truthy_tuple pl (by simp only [List.size_toArray]; omega) ⟨H,I.tok _,by rw [uw r]; exact q⟩
  ·subst e'
   obtain ⟨hz,hS,vs,r,m⟩:kvs.length <= sizeLine /\ (p == sysModules) = false /\ ∃ vs,KV kvs vs /\ s.heap.DictOf (z7 X.prog X.w) p vs:=I.hok p _ hx
   have hlen:kvs.length = vs.length:=Paired.length r
   exact wpAny_truthy_dict hS m (by omega) ⟨H,I.tok _,by rw [jZ r]; exact q⟩
 | _=>exact (show False from e).elim
theorem Wc (ha:PE X a ta) (he:∀ whole,isTrue a X.env whole = (do let v ← whole; standAt a.pos; holding [v] (truthy v))) :
  PT X a (fun σ H Q=>ta σ H fun x H'=>∃ k,TruV X.K x H' k /\ Q k H'):=by
 intro pins s σ H Q I h
 exact isTrue_plain (thn (ha pins s σ H _ I h) fun v s1 ⟨x,H1,I1,r1,q1⟩=>UN pins s1 σ H1 x v Q I1 r1 q1) (he _)
theorem wa {x:V} {us:List Value} (r:Vals [x] us):∃ u,us = [u] /\ RelV x u:=by
 cases r with
 | cons r1 r2=>cases r2; exact ⟨_,rfl,r1⟩
theorem Wd {x y:V} {us:List Value} (r:Vals [x,y] us):∃ u w',us = [u,w'] /\ RelV x u /\ RelV y w':=by
 cases r with
 | cons r1 r2 =>
  cases r2 with
  | cons r3 r4=>cases r4; exact ⟨_,_,rfl,r1,r3⟩
theorem sE (hc:X.calm = true):yM X (.builtin "max") (fun xs H Q=>∃ i j,xs = [.int i,.int j] /\ Q (.int (if j > i then j else i)) H):=by
 intro pins s σ H xs us Q I r h
 obtain ⟨i,j,rfl,q⟩:=h
 obtain ⟨u,w',rfl,⟨t,rfl⟩,⟨t',rfl⟩⟩:=Wd r
 refine max_two_ints (I.ok.hd hc) fun h' tk k=>⟨_,H,I.kept k,?_,q⟩
 by_cases hj:j > i
 ·rw [if_pos hj,if_pos hj]; exact ⟨_,rfl⟩
 ·rw [if_neg hj,if_neg hj]; exact ⟨_,rfl⟩
theorem Z9 (hc:X.calm = true):yM X (.builtin "min") (fun xs H Q=>∃ i j,xs = [.int i,.int j] /\ Q (.int (if j < i then j else i)) H):=by
 intro pins s σ H xs us Q I r h
 obtain ⟨i,j,rfl,q⟩:=h
 obtain ⟨u,w',rfl,⟨t,rfl⟩,⟨t',rfl⟩⟩:=Wd r
 refine min_two_ints (I.ok.hd hc) fun h' tk k=>⟨_,H,I.kept k,?_,q⟩
 by_cases hj:j < i
 ·rw [if_pos hj,if_pos hj]; exact ⟨_,rfl⟩
 ·rw [if_neg hj,if_neg hj]; exact ⟨_,rfl⟩
end
end L2
namespace L2
open PySem PySem.Spec PyProof.Rows
structure ObjM (h:Heap) (x dx C:Addr) (mA:Str -> Option Value):Prop where
 obj:h.get? x = some (PySem.W.instObj C dx)
 ns:h.Ns1 dx mA
 ne:dx ≠ x
theorem Ya {h:Heap} {dx:Addr} {mA:Str -> Option Value} (n:h.Ns1 dx mA):∃ od,h.get? dx = some od /\ ∀ name,PySem.W.lookIn name od = some (mA name):=by
 obtain ⟨o,es,ep,ho,hd,hk,_,hm⟩:=n
 refine ⟨o,ho,fun name=>?_⟩
 have e:=hm name
 unfold nsFind findBy at e
 rw [← Array.find?_toList] at e
 unfold PySem.W.lookIn
 rw [hd]
 dsimp only
 split
 ·rename_i y q
  rw [q] at e
  exact congrArg some e
 ·rename_i q
  rw [q] at e
  have a:es.toList.any (·.refKey) = false:=by
   rw [List.any_eq_false]
   intro y hy
   obtain ⟨z,t,hkey⟩:=hk y (Array.mem_toList_iff.mp hy)
   simp [DictEntry.refKey,hkey]
  have a':¬ es.toList.any (·.refKey) = true:=by rw [a]; exact Bool.false_ne_true
  rw [if_neg a']
  exact congrArg some e
theorem ObjM.look {h:Heap} {x dx C:Addr} {mA:Str -> Option Value} (I:ObjM h x dx C mA):∃ od,PySem.W.InstAt h x (PySem.W.instObj C dx) C (some od) /\ ∀ name,PySem.W.lookIn name od = some (mA name) :=
 let ⟨od,ho,hl⟩:=Ya I.ns
 ⟨od,⟨I.obj,rfl,rfl,ho⟩,hl⟩
section
variable {P:Program} {w:World} {H H':Hp} {h h':Heap} {a C dx:Addr} {fs fs':List (Str × V)}
theorem VG (hok:HOk P w H h) (e:H a = some (.ins C dx fs)):∃ mA,ObjM h a dx C mA /\ (∀ f,RelO (fs.lookup f) (mA f)) /\ PySem.Within mA (fs.map (·.1)) /\ fs.length <= 1000 /\ H dx = some (.own a):=by
 obtain ⟨d,z,ne,ob,mA,n,r,q⟩:=(show zP P w H h a (.ins C dx fs) from hok a _ e)
 exact ⟨mA,⟨ob,n,ne⟩,r,q,z,d⟩
end
structure Cls (K:FG7) (C:Addr):Prop where
 pg:PySem.W.plainGet K C Str.empty = true
 hd:PySem.W.hasDictIn K C = true
 po:PySem.W.plainOver K C = true
 sa:PySem.W.findIn K (.ref C) "__setattr__" = some (some (.builtin "object.__setattr__"))
theorem Cls.get {K:FG7} {C:Addr} (c:Cls K C) (f:Str):PySem.W.plainGet K C f = true:=c.pg
def vC (K:FG7) (C:Addr) (f:Str):Prop:=PySem.W.findIn K (.ref C) f = some none
structure Con (K:FG7) (C:Addr) (f:Str) (v:V) (u:Value):Prop where
 at_:PySem.W.findIn K (.ref C) f = some (some u)
 rel:RelV v u
 get:PySem.W.specialIn K u "__get__" = some none
 cp:PySem.W.copiedNames.contains f = false
structure Meth (K:FG7) (C:Addr) (m:Str) (f:Addr):Prop where
 at_:PySem.W.findIn K (.ref C) m = some (some (.ref f))
 fn:PySem.W.isFn K (.ref f) = true
 kp:PySem.W.keepIn K (.ref f) = true
section
variable {X:Cx} {pins:List (Addr × Obj)} {σ:St} {H:Hp} {s:Shared} {a C dx:Addr} {fs:List (Str × V)} {f:Str} {v:V} {A:Around} {E:VS7}
theorem Inv.made (I:Inv X pins σ H s):Inv X pins σ (upd (upd H s.heap.objs.size (.own (s.heap.objs.size + 1))) (s.heap.objs.size + 1) (.ins C s.heap.objs.size []))
  { s with heap:=(s.heap.push PySem.W.emptyDict).push (PySem.W.instObj C s.heap.objs.size) }:=by
 have e1:(s.heap.push PySem.W.emptyDict).get? s.heap.objs.size = some PySem.W.emptyDict:=Heap.get?_push_size s.heap rfl
 have e2:((s.heap.push PySem.W.emptyDict).push (PySem.W.instObj C s.heap.objs.size)).get? (s.heap.objs.size + 1) = some (PySem.W.instObj C s.heap.objs.size):=by
  have:=Heap.get?_push_size (s.heap.push PySem.W.emptyDict) (o:=PySem.W.instObj C s.heap.objs.size) rfl
  rwa [Heap.size_push] at this
 have e3:(s.heap.push PySem.W.emptyDict).Ns s.heap.objs.size (fun _=>none):=⟨PySem.W.emptyDict,#[],_,e1,rfl,(fun e he=>absurd he (by simp)),fun _=>rfl⟩
 have I1:=I.laid (a:=s.heap.objs.size) (o:=.own (s.heap.objs.size + 1)) (h':=s.heap.push PySem.W.emptyDict) (t':=s.toks) (fun b u q=>Heap.get?_push_of_some _ q) (Nat.le_refl _) ⟨_,e1⟩
 refine I1.laid (a:=s.heap.objs.size + 1) (o:=.ins C s.heap.objs.size []) (t':=s.toks) (fun b u q=>Heap.get?_push_of_some _ q) (Nat.le_of_eq (Heap.size_push _ _)) ?_
 have ne:s.heap.objs.size ≠ s.heap.objs.size + 1:=Nat.ne_of_lt (Nat.lt_succ_self _)
 refine ⟨by rw [zv ne,zb],Nat.zero_le _,ne,e2,fun _=>none,(Heap.Ns1.of_empty e3).at fun o q=>Heap.get?_push_of_some _ q,fun _=>True.intro,fun y hy=>absurd rfl hy⟩
end
section
variable {X:Cx} {pins:List (Addr × Obj)} {σ:St} {H:Hp} {s:Shared} {A:Around} {E:VS7} {Q:VS7} {c:Value} {b:Bool}
inductive TyOf (K:FG7) (H:Hp):V -> Value -> Prop where
 | non:TyOf K H .non (.type "NoneType")
 | bl (x:Bool):TyOf K H (.bl x) (.type "bool")
 | int (i:Int):TyOf K H (.int i) (.type "int")
 | str (x:Str):TyOf K H (.str x) (.type "str")
 | flt (x:UInt64):TyOf K H (.flt x) (.type "float")
 | lst {a:Addr} {xs:List V} (e:H a = some (.lst xs)):TyOf K H (.ref a) (.type "list")
 | frz {a:Addr} {o:Obj} {xs:List V} (e:H a = some (.frz o (.lst xs))):TyOf K H (.ref a) (.type "list")
 | tup {a:Addr} {xs:List V} (e:H a = some (.tup xs)):TyOf K H (.ref a) (.type "tuple")
 | dK {a:Addr} {kvs:List (Key × V)} (e:H a = some (.dK kvs)):TyOf K H (.ref a) (.type "dict")
 | dT {a:Addr} {kvs:List (List Key × V)} (e:H a = some (.dT kvs)):TyOf K H (.ref a) (.type "dict")
 | ins {a C dx:Addr} {fs:List (Str × V)} (e:H a = some (.ins C dx fs)) (cl:Cls K C) (ha:PySem.W.findIn K (.ref C) "__class__" = some (some (.builtin "object.__class__")))
   (hn:PySem.W.specialIn K (.builtin "object.__class__") "__get__" = some (some (.builtin "getset_descriptor.__get__"))) (htk:PySem.W.takesIn K (.builtin "object.__class__") = some true)
   (hm:PySem.W.mroIn K C (.type "object") = some true):TyOf K H (.ref a) (.ref C)
theorem xu {x:V} {u t:Value} (I:Inv X pins σ H s) (rx:RelV x u) (ty:TyOf X.K H x t) (e:PySem.W.kitOne X.K t c = some b) (h:∀ tk,Q (.bool b) { s with toks:=tk }) :
  wpAny (model X.prog X.w) A (call (.builtin "isinstance") [u,c]) Q E s:=by
 cases ty with
 | non=>cases (show u = Value.none from rx); exact PySem.W.kia_one PySem.W.kitx_none I.kIn True.intro e (fun z=>nomatch z) h
 | bl y=>cases (show u = Value.bool y from rx); exact PySem.W.kia_one PySem.W.kitx_bool I.kIn True.intro e (fun z=>nomatch z) h
 | int i=>obtain ⟨t,q⟩:=(show ∃ t,u = Value.int i t from rx); cases q; exact PySem.W.kia_one PySem.W.kitx_int I.kIn True.intro e (fun z=>nomatch z) h
 | str y=>obtain ⟨t,q⟩:=(show ∃ t,u = Value.str y t from rx); cases q; exact PySem.W.kia_one PySem.W.kitx_str I.kIn True.intro e (fun z=>nomatch z) h
 | flt y=>obtain ⟨t,q⟩:=(show ∃ t,u = Value.float y t from rx); cases q; exact PySem.W.kia_one PySem.W.kitx_float I.kIn True.intro e (fun z=>nomatch z) h
 | @lst a xs ea =>
  cases (show u = Value.ref a from rx)
  obtain ⟨_,_,n,_,h1⟩:=(show zP X.prog X.w H s.heap a (.lst xs) from I.hok a _ ea)
  exact PySem.W.kia_one PySem.W.kitx_list I.kIn ⟨_,h1,rfl⟩ e (fun z=>nomatch z) h
 | @frz a ob xs ea =>
  cases (show u = Value.ref a from rx)
  obtain ⟨_,_,_,n,_,h1⟩:=(show zP X.prog X.w H s.heap a (.frz ob (.lst xs)) from I.hok a _ ea)
  exact PySem.W.kia_one PySem.W.kitx_list I.kIn ⟨_,h1,rfl⟩ e (fun z=>nomatch z) h
 | @tup a xs ea =>
  cases (show u = Value.ref a from rx)
  obtain ⟨_,_,_,p⟩:=(show zP X.prog X.w H s.heap a (.tup xs) from I.hok a _ ea)
  obtain ⟨o,h1,h2,_⟩:=p
  exact PySem.W.kia_one PySem.W.kitx_tuple I.kIn ⟨o,h1,h2⟩ e (fun z=>nomatch z) h
 | @dK a kvs ea =>
  cases (show u = Value.ref a from rx)
  obtain ⟨_,_,vs,_,p⟩:=(show zP X.prog X.w H s.heap a (.dK kvs) from I.hok a _ ea)
  obtain ⟨o,es,ep,h1,h2,_⟩:=p
  exact PySem.W.kia_one PySem.W.kitx_dict I.kIn ⟨o,h1,h2.1⟩ e (fun z=>nomatch z) h
 | @dT a kvs ea =>
  cases (show u = Value.ref a from rx)
  obtain ⟨_,_,xs,_,o,es,ep,h1,h2,_⟩:=(show zP X.prog X.w H s.heap a (.dT kvs) from I.hok a _ ea)
  exact PySem.W.kia_one PySem.W.kitx_dict I.kIn ⟨o,h1,h2.1⟩ e (fun z=>nomatch z) h
 | @ins a C dx fs ea cl ha hn htk hm =>
  cases (show u = Value.ref a from rx)
  obtain ⟨mA,O,_⟩:=VG I.hok ea
  obtain ⟨od,J,_⟩:=O.look
  exact PySem.W.kia_one (PySem.W.kitx_own (cl.get _) cl.hd ha hn htk hm) I.kIn J e (fun z=>nomatch z) h
end
end L2
namespace L2
open PySem PySem.Spec PyProof.Rows
structure Room (k:Nat) (A:Around):Prop where
 hd:A.handled = none
 dp:A.depth + 3 * k + 5 < recursionLimit
 un:A.units + 16 * k + 200 < cLine
 gd:A.guards = some []
theorem Room.mono {j k:Nat} {A:Around} (r:Room k A) (h:j <= k):Room j A:=⟨r.hd,by have:=r.dp; omega,by have:=r.un; omega,r.gd⟩
theorem Room.deeper {k:Nat} {A:Around} (r:Room (k + 1) A) (env:Env):Room k (A.deeper env) :=
 ⟨r.hd,by have:=r.dp; show A.depth + 1 + 3 * k + 5 < _; omega,by have:=r.un; show A.units + 3 + 16 * k + 200 < _; omega,r.gd⟩
theorem Room.in1 {k:Nat} {A:Around} (r:Room (k + 1) A):Room k A.in1 :=
 ⟨r.hd,by have:=r.dp; show A.depth + 3 * k + 5 < _; omega,by have:=r.un; show A.units + 1 + 16 * k + 200 < _; omega,r.gd⟩
theorem Room.depth {k:Nat} {A:Around} (r:Room k A):A.depth < recursionLimit:=by have:=r.dp; omega
theorem Room.units {k:Nat} {A:Around} (r:Room k A):A.units + 64 < cLine:=by have:=r.un; omega
theorem Room.units0 {k:Nat} {A:Around} (r:Room k A):A.units < cLine:=by have:=r.un; omega
def tNil:TA:=fun _ H Q=>Q [] H
def Sk (ta:TE) (tr:TA):TA:=fun σ H Q=>ta σ H fun x H1=>tr σ H1 fun xs H2=>Q (x :: xs) H2
section
variable {X:Cx} {e:Expr} {es:List Expr} {te:TE} {t:TA} {pos:Pos}
theorem zd:PA X [] tNil:=fun _ _ _ _ H Q I h=>Calls.spliced_nil ⟨[],H,I,.nil,h⟩
theorem za (ha:PE X e te) (hr:PA X es t) (hs:starEach (e :: es) X.env = (false,eval e X.env) :: starEach es X.env:=by rfl):PA X (e :: es) (Sk te t):=by
 intro pos pins s σ H Q I h
 rw [hs]
 show wpAny _ _ (spliced ((false,eval e X.env) :: backTo pos (starEach es X.env))) _ _ s
 refine Calls.spliced_cons (thn (ha pins s σ H _ I h) fun u s1 ⟨x,H1,I1,r1,q1⟩=>?_)
 exact thn (hr pos pins s1 σ H1 _ I1 q1) fun us s2 ⟨xs,H2,I2,r2,q2⟩=>⟨x :: xs,H2,I2,.cons r1 r2,q2⟩
def tTup (t:TA):TE:=fun σ H Q=>t σ H fun xs H1=>xs.length <= sizeLine /\ ∀ p,H1 p = none -> Q (.ref p) (upd H1 p (.tup xs))
def tLst (t:TA):TE:=fun σ H Q=>t σ H fun xs H1=>xs.length <= sizeLine /\ ∀ p,H1 p = none -> Q (.ref p) (upd H1 p (.lst xs))
theorem z8 {x1} (h:PA X es t):PE X (.Tuple es x1 pos) (tTup t):=by
 intro pins s σ H Q I hq
 refine wpAny_Tuple_spliced (thn (h pos pins s σ H _ I hq) fun us s1 ⟨xs,H1,I1,r,z,q⟩=>⟨by rw [← r.length]; exact z,?_⟩)
 have hf:H1 s1.heap.objs.size = none:=I1.hok.fresh (Nat.le_refl _)
 refine ⟨.ref s1.heap.objs.size,upd H1 s1.heap.objs.size (.tup xs),I1.laid (t':=s1.toks) (fun b u e=>Heap.get?_push_of_some _ e) (Nat.le_refl _) ?_,rfl,q _ hf⟩
 exact ⟨z,us,r,⟨_,Heap.get?_push_size _ rfl,rfl,_,rfl⟩⟩
theorem ja (h:PA X es t):PE X (.List es pos) (tLst t):=by
 intro pins s σ H Q I hq
 refine wpAny_List_spliced (thn (h pos pins s σ H _ I hq) fun us s1 ⟨xs,H1,I1,r,z,q⟩=>⟨by rw [← r.length]; exact z,?_⟩)
 have hf:H1 s1.heap.objs.size = none:=I1.hok.fresh (Nat.le_refl _)
 refine ⟨.ref s1.heap.objs.size,upd H1 s1.heap.objs.size (.lst xs),I1.laid (t':=s1.toks) (fun b u e=>Heap.get?_push_of_some _ e) (Nat.le_refl _) ?_,rfl,q _ hf⟩
 exact ⟨z,us,0,r,Heap.get?_push_size _ rfl⟩
end
abbrev Sp:=List V -> Hp -> VK -> XK -> Prop
abbrev CXT:=List Env -> Hp -> Shared -> XK -> Value -> Shared -> Prop
structure Env0 (P:Program) (w:World) (K:FG7) (mg:Str -> Option Value) (base:Heap) (A:Around) (outer:List Env) (s:Shared) (H:Hp):Prop where
 frames:A.frames = some outer
 mod:Mod K mg base
 bs:∀ b o,base.get? b = some o -> s.heap.get? b = some o /\ H b = none
 bsz:base.objs.size <= s.heap.objs.size
 funs:s.heap.FunFrames base outer
 frf:∀ b ∈ frs outer,H b = none
 hok:HOk P w H s.heap
 bare:AllBare s.gens
def CE (outer:List Env) (P:Program) (w:World) (H:Hp) (s:Shared) (Q:VK) (u:Value) (s':Shared):Prop :=
 ∃ v H',s'.os = s.os /\ AllBare s'.gens /\ Un (frs outer) [] H H' s.heap s'.heap /\ HOk P w H' s'.heap /\ RelV v u /\ Q v H'
def CR (CX:CXT) (outer:List Env) (P:Program) (w:World) (H:Hp) (s:Shared) (Q:VK) (E:XK) (r:Result) (s':Shared):Prop :=
 match r with
 | .ok (.ret u)=>CE outer P w H s Q u s'
 | .ok _=>False
 | .error e=>CX outer H s E e s'
structure FnOk (P:Program) (w:World) (K:FG7) (mg:Str -> Option Value) (base:Heap) (CX:CXT) (k:Nat) (f:Addr) (fd:FuncData) (ps:List Str) (sp:Sp):Prop where
 len:∀ vs H Q E,sp vs H Q E -> vs.length = ps.length
 run:∀ (A:Around) (outer:List Env) (s:Shared) (H:Hp) (args:Args) (us:List Value) (vs:List V) (Q:VK) (E:XK),Room k A -> Env0 P w K mg base A outer s H -> BindsTo s fd args (ps.zip us) -> Vals vs us -> sp vs H Q E →
  codeAny (model P w) A (.call (.ref f) args) (CR CX outer P w H s Q E) s
theorem FnOk.mono {P:Program} {w:World} {K:FG7} {mg:Str -> Option Value} {base:Heap} {CX:CXT} {j k:Nat} {f:Addr} {fd:FuncData} {ps:List Str} {sp:Sp} (F:FnOk P w K mg base CX j f fd ps sp) (h:j <= k) :
  FnOk P w K mg base CX k f fd ps sp:=⟨F.len,fun A outer s H args us vs Q E hr=>F.run A outer s H args us vs Q E (hr.mono h)⟩
theorem FnOk.imp {P:Program} {w:World} {K:FG7} {mg:Str -> Option Value} {base:Heap} {CX:CXT} {k:Nat} {f:Addr} {fd:FuncData} {ps:List Str} {sp sp':Sp} (F:FnOk P w K mg base CX k f fd ps sp)
  (h:∀ vs H Q E,sp' vs H Q E -> sp vs H Q E):FnOk P w K mg base CX k f fd ps sp' :=
 ⟨fun vs H Q E q=>F.len vs H Q E (h _ _ _ _ q),fun A outer s H args us vs Q E hr he hb hv hs=>F.run A outer s H args us vs Q E hr he hb hv (h _ _ _ _ hs)⟩
theorem Env0.in1 {P:Program} {w:World} {K:FG7} {mg:Str -> Option Value} {base:Heap} {A:Around} {outer:List Env} {s:Shared} {H:Hp} (e:Env0 P w K mg base A outer s H) :
  Env0 P w K mg base A.in1 outer s H:=⟨e.frames,e.mod,e.bs,e.bsz,e.funs,e.frf,e.hok,e.bare⟩
section
variable {X:Cx} {pins:List (Addr × Obj)} {σ:St} {H:Hp} {s s':Shared}
theorem Inv.env0 (I:Inv X pins σ H s):Env0 X.prog X.w X.K X.mg X.base X.A X.stack s H :=
 ⟨I.ok.frames,I.ok.mod,I.bs,Nat.le_trans I.ok.bsz I.sz,I.stack,I.stkFree,I.hok,I.bare⟩
theorem Inv.after {Q:VK} {u:Value} (I:Inv X pins σ H s) (h:CE X.stack X.prog X.w H s Q u s'):EP X pins σ Q u s':=by
 obtain ⟨v,H',os,bare,un,hok,r,q⟩:=h
 obtain ⟨hh,g,d,t,os'⟩:=s'
 obtain rfl:os' = s.os:=os
 exact ⟨v,H',I.call (h':=hh) (g':=g) (d':=d) (t':=t) (ch:=[]) un hok bare (fun b z=>absurd z (by simp)),r,q⟩
end
def We (sp:Sp) (dvs:List V) (E:XK) (t:TA):TE:=fun σ H Q=>t σ H fun vs H1=>sp (vs ++ dvs) H1 Q E
def w5 (K:FG7) (fd:FuncData) (ps:List Str) (ds:List Value):Prop :=
 ∀ (s:Shared) (us:List Value),K.In s.heap -> (us ++ ds).length = ps.length -> BindsTo s fd ⟨us,[]⟩ (ps.zip (us ++ ds))
theorem w5.all {K:FG7} {fd:FuncData} {ps:List Str} (h:∀ us:List Value,us.length = ps.length -> bindArgs fd ⟨us,[]⟩ = pure (ps.zip us)):w5 K fd ps []:=fun s us _ hl=>by
 rw [List.append_nil] at hl ⊢
 exact .of_eq (h us hl)
def jb (CX:CXT) (X:Cx) (E:XK):Prop:=∀ (pins:List (Addr × Obj)) (σ:St) (H:Hp) (s:Shared) (e:Value) (s':Shared),Inv X pins σ H s -> CX X.stack H s E e s' -> X.xe e s'
section
variable {X:Cx} {CX:CXT} {k:Nat} {f C:Addr} {fd:FuncData} {ps:List Str} {sp:Sp} {dvs:List V} {ds:List Value} {E:XK} {x m:Str} {p pos apos:Pos} {e o:Expr} {es:List Expr} {ta:TE} {t:TA}
theorem Vk {pins:List (Addr × Obj)} {σ:St} {H:Hp} {s:Shared} {Q:VK} {us:List Value} {vs:List V} (F:FnOk X.prog X.w X.K X.mg X.base CX k f fd ps sp) (hr:Room k X.A) (hb:w5 X.K fd ps ds) (hd:Vals dvs ds) (hx:jb CX X E)
  (I:Inv X pins σ H s) (r:Vals vs us) (h:sp (vs ++ dvs) H Q E):wpAny (model X.prog X.w) X.A (call (.ref f) us) (EP X pins σ Q) X.xe s:=by
 have r2:Vals (vs ++ dvs) (us ++ ds):=r.append hd
 have hl:(us ++ ds).length = ps.length:=by rw [← r2.length]; exact F.len _ _ _ _ h
 refine wpAny_call (codeAny_mono (F.run X.A X.stack s H ⟨us,[]⟩ (us ++ ds) (vs ++ dvs) Q E hr I.env0 (hb s us I.kIn hl) r2 h) fun r s' hq=>?_)
 cases r with
 | error e=>exact hx pins σ H s e s' I hq
 | ok fl =>
  cases fl with
  | ret u=>exact I.after hq
  | next=>exact False.elim hq
  | brk=>exact False.elim hq
  | cont=>exact False.elim hq
theorem VH (F:FnOk X.prog X.w X.K X.mg X.base CX k f fd ps sp) (hr:Room k X.A) (hg:Gl X x) (hm:X.mg x = some (.ref f)) (hk:PySem.W.keepIn X.K (.ref f) = true) (hb:w5 X.K fd ps ds) (hd:Vals dvs ds) (hx:jb CX X E)
  (ha:PA X (e :: es) t) (hdb:(x == ("__debug__":Str)) = false:=by decide) (he:starEach (e :: es) X.env = (false,eval e X.env) :: starEach es X.env:=by rfl) (hpl:(backTo pos (starEach es X.env)).any (·.1) = false:=by rfl) :
  PE X (.Call (.Name x p) (e :: es) [] pos) (We sp dvs E t):=by
 intro pins s σ H Q I h
 refine wpAny_Call_Name_kw (rW I hg hm ?_ hdb)
 refine PySem.W.callWith_K (h₀:=X.base) I.ok.mod.kin hk (thn (ha pos pins s σ H _ I h) fun us s1 ⟨vs,H1,I1,r,q⟩=>⟨I1.kIn,?_⟩) he hpl
 exact Vk F hr hb hd hx I1 r q
theorem Wf (F:FnOk X.prog X.w X.K X.mg X.base CX k f fd ps sp) (hr:Room k X.A) (hg:Gl X x) (hm:X.mg x = some (.ref f)) (hk:PySem.W.keepIn X.K (.ref f) = true) (hb:w5 X.K fd ps ds) (hd:Vals dvs ds) (hx:jb CX X E)
  (hdb:(x == ("__debug__":Str)) = false:=by decide):PE X (.Call (.Name x p) [] [] pos) (We sp dvs E tNil):=by
 intro pins s σ H Q I h
 refine wpAny_Call_Name_kw (rW I hg hm ?_ hdb)
 exact PySem.W.callWith_K0 I.kIn hk (Vk (us:=[]) F hr hb hd hx I .nil h)
structure Mk (K:FG7) (C f:Addr):Prop where
 makes:PySem.W.makesIn K C = true
 init:PySem.W.findIn K (.ref C) "__init__" = some (some (.ref f))
 fn:PySem.W.isFn K (.ref f) = true
 kp:PySem.W.keepIn K (.ref C) = true
end
section
variable {X:Cx} {CX:CXT} {k:Nat} {f C:Addr} {fd:FuncData} {ps ks:List Str} {sp:Sp} {E:XK} {x m:Str} {p pos apos kpos:Pos} {e o:Expr} {es:List Expr} {kws:List Keyword} {te ta:TE} {t tk:TA} {nm:Option Str}
structure KBinds (K:FG7) (fd:FuncData) (ps ks:List Str) (g:List Value -> List Value -> List Value) (gV:List V -> List V -> List V):Prop where
 to:∀ (s:Shared) (us ws:List Value),K.In s.heap -> (g us ws).length = ps.length -> BindsTo s fd ⟨us,ks.zip ws⟩ (ps.zip (g us ws))
 rel:∀ {vs:List V} {us:List Value} {zs:List V} {ws:List Value},Vals vs us -> Vals zs ws -> Vals (gV vs zs) (g us ws)
variable {g:List Value -> List Value -> List Value} {gV:List V -> List V -> List V}
end
structure FnScope (N P:List Str) (sc:Scope):Prop where
 kind:sc.kind = .function
 co:sc.isCoroutine = false
 gen:sc.isGenerator = false
 nd:N.Nodup
 pre:N.take P.length = P
 par:∀ x ∈ P,sc.names.lookup x = some .local \/ sc.names.lookup x = some .cell
 nofree:∀ y ∈ sc.names,y.2 ≠ .free
theorem sF {kindOf:Str -> Option NameKind} {x:Str}:∀ {binds:List (Str × Value)} {m:Str -> Option Value},(∀ v,(x,v) ∉ binds) -> bindL kindOf binds m x = m x
 | [],_,_=>rfl
 | (n,v) :: r,m,h=>by
  unfold bindL
  rw [sF fun w hw=>h w (List.mem_cons_of_mem _ hw)]
  split
  ·have:x ≠ n:=by rintro rfl; exact h v List.mem_cons_self
   simp [this]
  ·rfl
theorem sG {kindOf:Str -> Option NameKind} {x:Str}:∀ {binds:List (Str × Value)} {m:Str -> Option Value},(∀ v,(x,v) ∉ binds) -> bindC kindOf binds m x = m x
 | [],_,_=>rfl
 | (n,v) :: r,m,h=>by
  unfold bindC
  rw [sG fun w hw=>h w (List.mem_cons_of_mem _ hw)]
  split
  ·rfl
  ·have:x ≠ n:=by rintro rfl; exact h v List.mem_cons_self
   simp [this]
theorem sH {kindOf:Str -> Option NameKind} {x:Str} {v:Value}:∀ {P:List Str} {vs:List Value} {i:Nat} {m:Str -> Option Value},P.Nodup -> P[i]? = some x -> vs[i]? = some v -> kindOf x = some .local →
  bindL kindOf (P.zip vs) m x = some v
 | [],_,_,_,_,h,_,_=>by simp at h
 | _ :: _,[],_,_,_,_,h,_=>by simp at h
 | p :: P,w :: vs,0,m,nd,h1,h2,hk=>by
  simp at h1 h2; subst h1; subst h2
  show bindL kindOf ((p,w) :: P.zip vs) m p = _
  unfold bindL
  rw [sF fun v hv=>(List.nodup_cons.mp nd).1 (List.of_mem_zip hv).1,if_pos hk]
  simp
 | p :: P,w :: vs,i + 1,m,nd,h1,h2,hk=>by
  show bindL kindOf ((p,w) :: P.zip vs) m x = _
  unfold bindL
  exact sH (i:=i) (List.nodup_cons.mp nd).2 (by simpa using h1) (by simpa using h2) hk
theorem sI {kindOf:Str -> Option NameKind} {x:Str} {v:Value}:∀ {P:List Str} {vs:List Value} {i:Nat} {m:Str -> Option Value},P.Nodup -> P[i]? = some x -> vs[i]? = some v -> kindOf x ≠ some .local →
  bindC kindOf (P.zip vs) m x = some v
 | [],_,_,_,_,h,_,_=>by simp at h
 | _ :: _,[],_,_,_,_,h,_=>by simp at h
 | p :: P,w :: vs,0,m,nd,h1,h2,hk=>by
  simp at h1 h2; subst h1; subst h2
  show bindC kindOf ((p,w) :: P.zip vs) m p = _
  unfold bindC
  rw [sG fun v hv=>(List.nodup_cons.mp nd).1 (List.of_mem_zip hv).1,if_neg hk]
  simp
 | p :: P,w :: vs,i + 1,m,nd,h1,h2,hk=>by
  show bindC kindOf ((p,w) :: P.zip vs) m x = _
  unfold bindC
  exact sI (i:=i) (List.nodup_cons.mp nd).2 (by simpa using h1) (by simpa using h2) hk
def start (N:List Str) (vs:List V):St:=vs.map some ++ List.replicate (N.length - vs.length) none
def cxOf (CX:CXT) (P:Program) (w:World) (K:FG7) (mg:Str -> Option Value) (base:Heap) (N:List Str) (qual:Str) (scope:Scope) (f:Addr) (cd:Value) (A:Around) (outer:List Env) (s:Shared) (H:Hp) (E:XK):Cx where
 prog:=P
 w:=w
 K:=K
 mg:=mg
 base:=base
 A:=A.deeper (envOfC qual scope s.heap.objs.size f cd)
 N:=N
 s₀:=s
 H₀:=H
 env:=envOfC qual scope s.heap.objs.size f cd
 outer:=outer
 stack:=envOfC qual scope s.heap.objs.size f cd :: outer
 ex:=[]
 calm:=true
 fn:=fun _=>true
 pn:=[]
 xe:=fun e s'=>wpAny (model P w) (A.deeper (envOfC qual scope s.heap.objs.size f cd)) (leaving (envOfC qual scope s.heap.objs.size f cd) e) (fun _ s''=>CX outer H s E e s'') (fun e' s''=>CX outer H s E e' s'') s'
theorem jc {sc:Scope} {n:Nat} {x:Str} (h:sc.names.lookup x = some .cell):∃ c,(cellsFrom n sc.names []).lookup x = some c:=by
 have q:=PySem.W.cellsFrom_some sc.names n [] (.inl h)
 exact Option.isSome_iff_exists.mp q
theorem Yb {CX:CXT} {P:Program} {w:World} {K:FG7} {mg:Str -> Option Value} {base:Heap} {N ps:List Str} {qual:Str} {scope:Scope} {f:Addr} {cd:Value} {A:Around} {outer:List Env} {s s1:Shared} {H:Hp} {E:XK} {us:List Value} {vs:List V}
  (S:FnScope N ps scope) (hd:A.handled = none) (e0:Env0 P w K mg base A outer s H) (hl:vs.length = ps.length) (r:Vals vs us)
  (x:InCallC s s.heap.objs.size (bindL (envOfC qual scope s.heap.objs.size f cd).kindOf (ps.zip us) fun _=>none) (cellsFrom (s.heap.objs.size + 1) scope.names []) (bindC (envOfC qual scope s.heap.objs.size f cd).kindOf (ps.zip us) fun _=>none) s1) :
  Inv (cxOf CX P w K mg base N qual scope f cd A outer s H E) [] (start N vs) H s1:=by
 have hpl:ps.length <= N.length:=by have:=congrArg List.length S.pre; rw [List.length_take] at this; omega
 obtain ⟨h1,tk,rfl,hk⟩:=x.done
 have noA:∀ b:Addr,b ∉ (cxOf CX P w K mg base N qual scope f cd A outer s H E).ex:=fun b z=>absurd (show b ∈ ([]:List Addr) from z) (by simp)
 refine ⟨⟨e0.mod,S.kind,rfl,rfl,Nat.le_refl _,fun y z c h1 h2=>?_,fun y hy=>?_,fun y c _ h=>?_,fun _=>hd,Around.frames_deeper e0.frames,.inr ⟨rfl,rfl⟩,fun b z=>absurd z (noA b),e0.bs,e0.bsz,fun b _ _=>noA b,fun b z=>absurd z (noA b),e0.funs,e0.frf⟩,
  rfl,e0.bare,Un.kept hk,⟨_,x.toInCall.ns,fun i y v h1 h2 h3=>?_⟩,fun y c h=>⟨_,x.cell y c h⟩,e0.hok.fresh (Nat.le_refl _),fun y c h=>?_,fun p hp=>absurd (show p ∈ ([]:List (Addr × Obj)) from hp) (by simp),e0.hok.kept hk,?_⟩
 ·exact name_of_addr x.apart (PySem.mem_of_lookup h1) (PySem.mem_of_lookup h2)
 ·have hy:scope.names.lookup y = some .cell \/ scope.names.lookup y = some .free:=hy
  rcases hy with hy | hy
  ·exact jc hy
  ·exact absurd rfl (S.nofree _ (PySem.mem_of_lookup hy))
 ·exact Nat.le_of_lt (x.above y c (PySem.mem_of_lookup h))
 ·have hi:i < vs.length:=by
   unfold start at h2
   by_cases hi:i < vs.length
   ·exact hi
   ·rw [List.getElem?_append_right (by simpa using hi)] at h2
    rw [List.getElem?_replicate] at h2
    split at h2 <;> cases h2
  have ha:vs[i]? = some v:=by
   unfold start at h2
   rw [List.getElem?_append_left (by simpa using hi),List.getElem?_map] at h2
   cases e:vs[i]? with
   | none=>rw [e] at h2; cases h2
   | some a=>rw [e] at h2; cases h2; rfl
  obtain ⟨u,hu,rv⟩:=r.get ha
  have hp:ps[i]? = some y:=by
   rw [← S.pre,List.getElem?_take_of_lt (by omega)]; exact h1
  have ndP:ps.Nodup:=by rw [← S.pre]; exact S.nd.sublist (List.take_sublist _ _)
  refine ⟨u,rv,?_⟩
  rcases S.par y (List.mem_of_getElem? hp) with k | k
  ·exact .inl ⟨k,sH ndP hp hu k⟩
  ·obtain ⟨c,e⟩:=jc (n:=s.heap.objs.size + 1) k
   refine .inr ⟨.inl k,c,e,?_⟩
   have q:=x.cell y c e
   rw [sI ndP hp hu (by show scope.names.lookup y ≠ _; rw [k]; decide)] at q
   exact q
 ·exact e0.hok.fresh (Nat.le_of_lt (x.above y c (PySem.mem_of_lookup h)))
 ·unfold start
  show _ = N.length
  rw [List.length_append,List.length_map,List.length_replicate]
  omega
theorem Sl {CX:CXT} {P:Program} {w:World} {K:FG7} {mg:Str -> Option Value} {base:Heap} {k:Nat} {f:Addr} {name qual:Str} {params:Arguments} {body:List Stmt} {scope:Scope} {dV kV doc pm cdv ct oc:Value} {an od:Option Addr}
  {osl:Array (Option Value)} {N ps:List Str} {sp:Sp} (lk:K.lookup f = some ⟨oc,od,.func (PySem.W.fnOf name qual params body scope dV kV doc pm an cdv ct),osl⟩) (hcd:PySem.W.codeIn K cdv qual = true) (S:FnScope N ps scope)
  (len:∀ vs H Q E,sp vs H Q E -> vs.length = ps.length)
  (hbody:∀ (A:Around) (outer:List Env) (s:Shared) (H:Hp) (vs:List V) (Q:VK) (E:XK),Room k (A.deeper (envOfC qual scope s.heap.objs.size f cdv)) -> sp vs H Q E →
   ∃ t,PSs (cxOf CX P w K mg base N qual scope f cdv A outer s H E) body t /\ t { nx:=fun _ H'=>Q .non H',rt:=Q } (start N vs) H) :
  FnOk P w K mg base CX (k + 1) f (PySem.W.fnOf name qual params body scope dV kV doc pm an cdv ct) ps sp:=by
 refine ⟨len,fun A outer s H args us vs Q E hr e0 hb r hsp=>?_⟩
 have hl:=len _ _ _ _ hsp
 have KX:K.In s.heap:=e0.mod.kin.keeps fun b o e=>(e0.bs b o e).1
 have lim:s.heap.NoLimit:=e0.mod.nolimit.keeps fun b o e=>(e0.bs b o e).1
 have hkind:∀ y ∈ ps.zip us,scope.names.lookup y.1 = some .local \/ (scope.names.lookup y.1 = some .cell /\ ((cellsFrom (s.heap.objs.size + 1) scope.names []).lookup y.1).isSome = true):=fun ⟨n,v⟩ hy=>by
  rcases S.par n (List.of_mem_zip hy).1 with q | q
  ·exact .inl q
  ·exact .inr ⟨q,PySem.W.cellsFrom_some _ _ _ (.inl q)⟩
 refine codeAny_call_function hr.depth (KX _ _ lk) rfl S.co S.gen rfl (PySem.W.codeRec_of KX hcd) (hb _ _ _ _ ?_)
 refine wpAny_newFunctionEnv_cells S.kind hkind fun env he s1 x=>?_
 subst he
 refine ⟨lim.keeps x.toInCall.keep,codeAny_func ?_⟩
 obtain ⟨t,ht,hq⟩:=hbody A outer s H vs Q E (hr.deeper _) hsp
 have I:Inv (cxOf CX P w K mg base N qual scope f cdv A outer s H E) [] (start N vs) H s1:=Yb S hr.hd e0 hl r x
 refine wpAny_mono (ht [] s1 (start N vs) H _ I hq) (fun fl s' hs=>?_) fun e s' hs=>hs
 have fin:∀ {σ':St} {H':Hp} {v:V} {u:Value},Inv (cxOf CX P w K mg base N qual scope f cdv A outer s H E) [] σ' H' s' -> RelV v u -> Q v H' -> CE outer P w H s Q u s' :=
  fun {σ' H' v u} J rv q=>⟨v,H',J.os,J.bare,J.base,J.hok,rv,q⟩
 cases fl with
 | ret u =>
  obtain ⟨v,σ',H',J,rv,q⟩:=hs
  exact fin J rv q
 | next =>
  obtain ⟨σ',H',J,q⟩:=hs
  exact fin (v:=V.non) (u:=Value.none) J rfl q
 | brk =>
  obtain ⟨_,_,_,q⟩:=hs
  exact False.elim q
 | cont =>
  obtain ⟨_,_,_,q⟩:=hs
  exact False.elim q
end L2
namespace L2
open PySem PySem.Spec PyProof.Rows
section
variable {X:Cx} {x:Str} {p pos:Pos} {e:Expr} {es:List Expr} {t:TA} {id T:String} {r:List V -> Hp -> VK -> Prop}
def tCB (r:List V -> Hp -> VK -> Prop) (t:TA):TE:=fun σ H Q=>t σ H fun vs H1=>r vs H1 Q
theorem zn (hc:yM X (.builtin id) r) (hg:Gl X x) (hm:X.mg x = none) (hv:bootBuiltins x = some (.builtin id)) (ha:PA X (e :: es) t) (hn:x ≠ "__name__":=by decide) (hdb:(x == ("__debug__":Str)) = false:=by decide)
  (he:starEach (e :: es) X.env = (false,eval e X.env) :: starEach es X.env:=by rfl) (hpl:(backTo pos (starEach es X.env)).any (·.1) = false:=by rfl):PE X (.Call (.Name x p) (e :: es) [] pos) (tCB r t):=by
 intro pins s σ H Q I h
 refine wpAny_Call_Name_kw (xO I hg hm hv ?_ hn hdb)
 exact PyProof.Rows.callWith_builtin1 (thn (ha pos pins s σ H _ I h) fun us s1 ⟨vs,H1,I1,r1,q1⟩=>hc pins s1 σ H1 vs us Q I1 r1 q1) he hpl
theorem yp (hc:yM X (.type T) r) (hg:Gl X x) (hm:X.mg x = none) (hv:bootBuiltins x = some (.type T)) (ha:PA X (e :: es) t) (hn:x ≠ "__name__":=by decide) (hdb:(x == ("__debug__":Str)) = false:=by decide)
  (he:starEach (e :: es) X.env = (false,eval e X.env) :: starEach es X.env:=by rfl) (hpl:(backTo pos (starEach es X.env)).any (·.1) = false:=by rfl):PE X (.Call (.Name x p) (e :: es) [] pos) (tCB r t):=by
 intro pins s σ H Q I h
 refine wpAny_Call_Name_kw (xO I hg hm hv ?_ hn hdb)
 exact PyProof.Rows.callWith_type1 (thn (ha pos pins s σ H _ I h) fun us s1 ⟨vs,H1,I1,r1,q1⟩=>hc pins s1 σ H1 vs us Q I1 r1 q1) he hpl
end
end L2
namespace HT
open PySem PyProof.Rows
section
variable {prog:Program} {w:World} {A:Around} {E:VS7} {s:Shared}
theorem cat_tup {t b:Addr} {vs ws:List Value} {Q:VS7} (ht:IsTup s.heap t vs.toArray) (hb:IsTup s.heap b ws.toArray) (hv:vs ≠ [])
  (h1:ws = [] -> Q (.ref t) s) (h2:ws ≠ [] -> Q (.ref s.heap.objs.size) { s with heap:=s.heap.push { cls:=.type "tuple",data:=.seq (vs ++ ws).toArray } })
  (hsz:vs.length + ws.length <= sizeLine):wpAny (model prog w) A (binaryOp .Add (.ref t) (.ref b)) Q E s:=by
 obtain ⟨⟨cls,dd,data,sl⟩,ho,hc,n,hd⟩:=id ht
 obtain ⟨⟨cls2,dd2,data2,sl2⟩,ho2,hc2,n2,hd2⟩:=id hb
 simp only at hc hd hc2 hd2
 subst hc hd hc2 hd2
 have e:vs.toArray ++ ws.toArray = (vs ++ ws).toArray:=by simp
 by_cases hw:ws = []
 ·exact concat_meets ⟨_,ho,rfl⟩ ⟨_,ho2,rfl⟩ noFill_tuple_add seq_tuple_add PySem.F.slot_tuple_add PySem.F.entry_tuple_add (PySem.F.args_tuple_add_2 _ _)
   (tuple_addW1 t b vs.toArray ws.toArray n n2 dd dd2 sl sl2 (by simpa using hv) (by simp [hw])) ⟨ho,ho2,h1 hw⟩
 ·refine concat_meets ⟨_,ho,rfl⟩ ⟨_,ho2,rfl⟩ noFill_tuple_add seq_tuple_add PySem.F.slot_tuple_add PySem.F.entry_tuple_add (PySem.F.args_tuple_add_2 _ _)
   (tuple_addW2 t b vs.toArray ws.toArray n n2 dd dd2 sl sl2 (by simpa using hv) (by simpa using hw) (by rw [List.size_toArray,List.size_toArray]; exact hsz)) ⟨ho,ho2,?_⟩
  rw [e]
  exact h2 hw
def sIx (n d:Nat):Option Int -> Nat
 | none=>d
 | some v=>if v < 0 then (v + (n:Int)).toNat else min v.toNat n
theorem sIx_none (n d:Nat):sIx n d none = d:=rfl
theorem sIx_nat (n d k:Nat):sIx n d (some (k:Int)) = min k n:=by
 show (if (k:Int) < 0 then ((k:Int) + (n:Int)).toNat else min (k:Int).toNat n) = min k n
 rw [if_neg (by omega),Int.toNat_natCast]
theorem UO (n d:Nat) (hd:d <= n) (o:Option Int):sIx n d o <= n:=by
 cases o with
 | none=>exact hd
 | some v =>
  show (if v < 0 then (v + (n:Int)).toNat else min v.toNat n) <= n
  by_cases hv:v < 0
  ·rw [if_pos hv]; omega
  ·rw [if_neg hv]; exact Nat.min_le_right _ _
theorem Yc (v:Int) (n d:Nat):(if v < 0 then max (v + (n:Int)) 0 else min v (n:Int)) = ((sIx n d (some v):Nat):Int):=by
 show (if v < 0 then max (v + (n:Int)) 0 else min v (n:Int)) = (((if v < 0 then (v + (n:Int)).toNat else min v.toNat n):Nat):Int)
 by_cases hv:v < 0
 ·simp only [if_pos hv]; omega
 ·simp only [if_neg hv]; omega
theorem j3 (lo hi:Option Int) (n:Nat):Builtin.Slice.sliceAdjust lo hi 1 (n:Int) = (((sIx n 0 lo:Nat):Int),((sIx n n hi:Nat):Int)):=by
 have h1:¬ ((1:Int) < 0):=by omega
 unfold Builtin.Slice.sliceAdjust
 simp only [h1,if_false]
 refine Prod.ext ?_ ?_
 ·cases lo with
  | none=>rfl
  | some v=>exact Yc v n 0
 ·cases hi with
  | none=>rfl
  | some v=>exact Yc v n n
theorem j5 (i j:Nat):Builtin.Slice.slicePlaces (i:Int) (j:Int) 1 = j - i:=by
 unfold Builtin.Slice.slicePlaces
 have h1:(1:Int) > 0:=by omega
 simp only [h1,if_true,Int.ediv_one]
 split <;> omega
theorem ux {v:Value} {o:Option Int} {Q:Option Int -> Shared -> Prop} (p:IsPart v o) (h:Q o s):wpAny (model prog w) A (Builtin.Slice.slicePartIndex v) Q E s:=by
 cases p with
 | none=>exact slicePart_none h
 | int i t=>exact slicePart_int h
theorem xo {sl:Addr} {vl vu:Value} {lo hi:Option Int} {n:Nat} {Q:Int × Int × Nat -> Shared -> Prop} (hs:s.heap.IsSliceOf sl vl vu .none) (pl:IsPart vl lo) (pu:IsPart vu hi)
  (h:Q (((sIx n 0 lo:Nat):Int),1,sIx n n hi - sIx n 0 lo) s):wpAny (model prog w) A (Builtin.Slice.sliceApplied (.ref sl) (pure (n:Int))) Q E s:=by
 obtain ⟨os,hos,hcs,hds⟩:=id hs
 unfold Builtin.Slice.sliceApplied Builtin.Slice.sliceFields
 refine wpAny_bind (wpAny_bind (wpAny_field hos hds (x:=vl) rfl (wpAny_bind (wpAny_field hos hds (x:=vu) rfl (wpAny_bind (wpAny_field hos hds (x:=.none) rfl (wpAny_pure ?_)))))))
 refine wpAny_bind (slicePart_none ?_)
 show wpAny _ _ (if ((1:Int) == 0) = true then _ else _) _ _ s
 rw [if_neg (by decide)]
 refine wpAny_bind (ux pl (wpAny_bind (ux pu (wpAny_bind (wpAny_pure ?_)))))
 show wpAny _ _ (match Builtin.Slice.sliceAdjust lo hi 1 (n:Int) with | (lo,hi)=>pure (lo,(1:Int),Builtin.Slice.slicePlaces lo hi 1)) _ _ s
 rw [j3 lo hi n]
 show wpAny _ _ (pure (((sIx n 0 lo:Nat):Int),(1:Int),Builtin.Slice.slicePlaces ((sIx n 0 lo:Nat):Int) ((sIx n n hi:Nat):Int) 1)) _ _ s
 rw [j5]
 exact wpAny_pure h
theorem Wg (xs:Array Value) (i k:Nat):((List.range k).filterMap fun (m:Nat)=>xs[((i:Int) + (m:Int) * 1).toNat]?).toArray = ((xs.toList.drop i).take k).toArray:=by
 have e:(fun (m:Nat)=>xs[((i:Int) + (m:Int) * 1).toNat]?) = fun m=>xs[i + m]?:=by
  funext m
  have:((i:Int) + (m:Int) * 1).toNat = i + m:=by omega
  rw [this]
 rw [e]
 have:=pick_run xs i k
 rw [List.filterMap_map] at this
 have e2:((fun x=>xs[x]?) ∘ fun x=>i + x) = fun m=>xs[i + m]?:=rfl
 rw [e2] at this
 rw [this]
theorem getItem_tuple_cut {t sl:Addr} {items:Array Value} {vl vu:Value} {lo hi:Option Int} {Q:VS7} (ht:IsTup s.heap t items) (hs:s.heap.IsSliceOf sl vl vu .none) (pl:IsPart vl lo) (pu:IsPart vu hi)
  (hw:¬ (sIx items.size 0 lo = 0 /\ sIx items.size items.size hi = items.size))
  (h:Q (.ref s.heap.objs.size) { s with heap:=s.heap.push { cls:=.type "tuple",data:=.seq ((items.toList.drop (sIx items.size 0 lo)).take (sIx items.size items.size hi - sIx items.size 0 lo)).toArray } })
  (hsz:items.size <= sizeLine):wpAny (model prog w) A (getItem (.ref t) (.ref sl)) Q E s:=by
 have htake:sizeOk (.seq ((items.toList.drop (sIx items.size 0 lo)).take (sIx items.size items.size hi - sIx items.size 0 lo)).toArray):=by
  show ((items.toList.drop (sIx items.size 0 lo)).take (sIx items.size items.size hi - sIx items.size 0 lo)).toArray.size <= sizeLine
  rw [List.size_toArray,List.length_take,List.length_drop,Array.length_toList]
  omega
 have hj:sIx items.size items.size hi <= items.size:=UO _ _ (Nat.le_refl _) hi
 obtain ⟨os,hos,hcs,hds⟩:=id hs
 have hTs:s.TypeIs (.ref sl) "slice":=⟨os,hos,hcs⟩
 unfold getItem
 try with_reducible refine wpAny_holding ?_
 first | refine wpAny_bind (wpAny_pure ?_) | skip
 refine wpAny_bind (wpAny_sequenceKey ht.typeIs (by decide) ?_)
 refine wpAny_bind (wpAny_callSpecial?_slot (name:=Str.ofString "__getitem__") ht.typeIs PyProof.Rows.slot_tuple_getitem
  (wpAny_call_entry PyProof.Rows.slot_tuple_getitem ht.typeIs entry_tuple_getitem ?_ (args_tuple_getitem _ _)))
 show wpAny _ _ (Builtin.Tuple.tupleItemsOf (.ref t) >>= _) _ _ s
 refine wpAny_bind (tupleItemsOf_ ht ?_)
 refine wpAny_bind (wpAny_typeOf hTs ?_)
 rw [if_pos (by decide)]
 refine wpAny_bind (xo hs pl pu ?_)
 have hno:¬ ((((sIx items.size 0 lo:Nat):Int) == 0 && (1:Int) == 1 && (sIx items.size items.size hi - sIx items.size 0 lo) == items.size) = true):=by
  intro q
  rw [Bool.and_eq_true,Bool.and_eq_true] at q
  have q1:((sIx items.size 0 lo:Nat):Int) = 0:=eq_of_beq q.1.1
  have q2:sIx items.size items.size hi - sIx items.size 0 lo = items.size:=eq_of_beq q.2
  exact hw ⟨by omega,by omega⟩
 show wpAny _ _ (if (((sIx items.size 0 lo:Nat):Int) == 0 && (1:Int) == 1 && (sIx items.size items.size hi - sIx items.size 0 lo) == items.size) = true then _ else _) _ _ s
 rw [if_neg hno,Wg]
 first
  | exact wpAny_bind (m:=Builtin.Tuple.tupleExact _) (wpAny_newObj_type (wpAny_pure ⟨_,rfl,wpAny_pure h⟩) htake)
  | exact wpAny_bind (m:=Builtin.Tuple.tupleExact _) (wpAny_newObj_type (wpAny_bind (wpAny_pure (wpAny_pure ⟨_,rfl,wpAny_pure h⟩))) htake)
  | exact wpAny_bind (wpAny_bind (m:=Builtin.Tuple.tupleExact _) (wpAny_newObj_type (wpAny_pure (wpAny_pure ⟨_,rfl,wpAny_pure h⟩)) htake))
  | exact wpAny_bind (wpAny_bind (m:=Builtin.Tuple.tupleExact _) (wpAny_newObj_type (wpAny_pure ⟨_,rfl,wpAny_pure h⟩) htake))
end
end HT
namespace L2
open PySem PySem.Spec PyProof.Rows
abbrev TO:=St -> Hp -> (Option Int -> Hp -> Prop) -> Prop
def PO (X:Cx) (e:Option Expr) (t:TO):Prop :=
 ∀ (pins:List (Addr × Obj)) (s:Shared) (σ:St) (H:Hp) (Q:Option Int -> Hp -> Prop),Inv X pins σ H s -> t σ H Q →
  wpAny (model X.prog X.w) X.A (evalPart e X.env) (fun u s'=>∃ o H',Inv X pins σ H' s' /\ IsPart u o /\ Q o H') X.xe s
def VJ:TO:=fun _ H Q=>Q none H
def Sn (t:TE):TO:=fun σ H Q=>t σ H fun x H1=>∃ i,x = .int i /\ Q (some i) H1
theorem j6 {ns:List Int}:∀ {us:List Value},Vals (ns.map V.int) us -> IntsAre us ns:=by
 induction ns with
 | nil=>intro us r; rw [List.map_nil] at r; cases r; exact .nil
 | cons n ns ih =>
  intro us r
  rw [List.map_cons] at r
  cases r with
  | cons r1 r2 =>
   obtain ⟨t,e⟩:=r1
   subst e
   exact .cons n t (ih r2)
section
variable {X:Cx} {e:Expr} {te:TE} {lo hi:Option Expr} {tl th:TO} {pos p2:Pos}
theorem xv:PO X none VJ:=by
 intro pins s σ H Q I h
 rw [evalPart_none]
 exact wpAny_pure ⟨none,H,I,.none,h⟩
theorem xw (h:PE X e te):PO X (some e) (Sn te):=by
 intro pins s σ H Q I hw
 rw [evalPart_some]
 refine thn (h pins s σ H _ I hw) fun u s1 ⟨x,H1,I1,r1,q1⟩=>?_
 obtain ⟨i,rfl,q⟩:=q1
 obtain ⟨t,rfl⟩:=r1
 exact ⟨some i,H1,I1,.int i t,q⟩
def SlR (X:Cx) (r:V -> Option Int -> Option Int -> Hp -> VK -> Prop):Prop :=
 ∀ (pins:List (Addr × Obj)) (s:Shared) (σ:St) (H:Hp) (x:V) (v vl vu:Value) (lo hi:Option Int) (sl:Addr) (Q:VK),Inv X pins σ H s -> RelV x v -> s.heap.IsSliceOf sl vl vu .none -> IsPart vl lo -> IsPart vu hi -> r x lo hi H Q →
  ∃ T id,typeLookup (.type T) "__getitem__" = pure (some (.builtin id)) /\ s.TypeIs v T /\ wpAny (model X.prog X.w) X.A (getItem v (.ref sl)) (EP X pins σ Q) X.xe s
theorem SlR.or {r r':V -> Option Int -> Option Int -> Hp -> VK -> Prop} (h:SlR X r) (h':SlR X r'):SlR X (fun x lo hi H Q=>r x lo hi H Q \/ r' x lo hi H Q):=by
 intro pins s σ H x v vl vu lo hi sl Q I rx hs pl pu q
 rcases q with q | q
 ·exact h pins s σ H x v vl vu lo hi sl Q I rx hs pl pu q
 ·exact h' pins s σ H x v vl vu lo hi sl Q I rx hs pl pu q
def tSl (r:V -> Option Int -> Option Int -> Hp -> VK -> Prop) (te:TE) (tl th:TO):TE:=fun σ H Q=>te σ H fun x H1=>tl σ H1 fun l H2=>th σ H2 fun u H3=>r x l u H3 Q
theorem yV {r:V -> Option Int -> Option Int -> Hp -> VK -> Prop} (hr:SlR X r) (he:PE X e te) (hl:PO X lo tl) (hu:PO X hi th):PE X (.Subscript e (.Slice lo hi none p2) pos) (tSl r te tl th):=by
 intro pins s σ H Q I h
 refine Subscript_ (thn (he pins s σ H _ I h) fun v s1 ⟨x,H1,I1,r1,q1⟩=>?_)
 refine wpAny_Slice (thn (hl pins s1 σ H1 _ I1 q1) fun vl s2 ⟨l,H2,I2,pl,q2⟩=>thn (hu pins s2 σ H2 _ I2 q2) fun vu s3 ⟨u,H3,I3,pu,q3⟩=>?_)
 rw [evalPart_none]
 refine wpAny_pure ?_
 have I4:Inv X pins σ H3 { s3 with heap:=s3.heap.push { cls:=.type "slice",data:=.fields #[vl,vu,.none] } }:=I3.kept (t':=s3.toks) fun b ob q=>Heap.get?_push_of_some _ q
 obtain ⟨T,id,hT,ht,hg⟩:=hr pins { s3 with heap:=s3.heap.push { cls:=.type "slice",data:=.fields #[vl,vu,.none] } } σ H3 x v vl vu l u s3.heap.objs.size Q I4 r1 (Heap.IsSliceOf.new ..) pl pu q3
 show wpAny (model X.prog X.w) X.A (subscriptTail e (.Slice lo hi none p2) v (.ref s3.heap.objs.size)) (EP X pins σ Q) X.xe { s3 with heap:=s3.heap.push { cls:=.type "slice",data:=.fields #[vl,vu,.none] } }
 exact tail_any (ops:=[.ref s3.heap.objs.size,v]) ht hT hg (by with_unfolding_all rfl)
def cutV (xs:List V) (lo hi:Option Int):List V:=(xs.drop (HT.sIx xs.length 0 lo)).take (HT.sIx xs.length xs.length hi - HT.sIx xs.length 0 lo)
theorem xa (xs:List V) (lo hi:Option Int):(cutV xs lo hi).length <= xs.length:=by
 unfold cutV
 rw [List.length_take,List.length_drop]
 omega
def rSlT (K:FG7):V -> Option Int -> Option Int -> Hp -> VK -> Prop:=fun x lo hi H Q=>∃ a xs,x = .ref a /\ SqT K H a xs ∧
 ¬ (HT.sIx xs.length 0 lo = 0 /\ HT.sIx xs.length xs.length hi = xs.length) /\ ∀ p,H p = none -> Q (.ref p) (upd H p (.tup (cutV xs lo hi)))
theorem Yd:SlR X (rSlT X.K):=by
 intro pins s σ H x v vl vu lo hi sl Q I rx hs pl pu h
 obtain ⟨a,xs,rfl,hx,hw,q⟩:=h
 cases rx
 obtain ⟨its,r,ht,hz⟩:=I.tuple hx
 have hlen:its.toArray.size = xs.length:=by rw [List.size_toArray]; exact r.length.symm
 refine ⟨"tuple",_,PyProof.Rows.slot_tuple_getitem.lookup,ht.typeIs,?_⟩
 refine HT.getItem_tuple_cut ht hs pl pu (by rw [hlen]; exact hw) ?_ (by rw [hlen]; exact hz)
 rw [hlen]
 refine ⟨.ref s.heap.objs.size,_,I.laid (t':=s.toks) (o:=.tup (cutV xs lo hi)) (fun b ob q=>Heap.get?_push_of_some _ q) (Nat.le_refl _) ?_,rfl,q _ (I.hok.fresh (Nat.le_refl _))⟩
 exact ⟨Nat.le_trans (xa xs lo hi) hz,_,(r.drop (HT.sIx xs.length 0 lo)).take (HT.sIx xs.length xs.length hi - HT.sIx xs.length 0 lo),IsTup.new _ _⟩
def Sq (K:FG7):R2:=fun x y H Q=>∃ a b xs ys,x = .ref a /\ y = .ref b /\ SqT K H a xs /\ SqT K H b ys /\ xs ≠ [] /\ xs.length + ys.length <= sizeLine ∧
 (ys = [] -> Q (.ref a) H) /\ (ys ≠ [] -> ∀ p,H p = none -> Q (.ref p) (upd H p (.tup (xs ++ ys))))
theorem Vals.nil_iff {xs:List V} {us:List Value} (r:Vals xs us):us = [] ↔ xs = []:=by
 cases r with
 | nil=>simp
 | cons _ _=>simp
theorem VL:OpR X (binaryOp .Add) (Sq X.K):=by
 intro pins s σ H x y v u Q I rx ry h
 obtain ⟨a,b,xs,ys,rfl,rfl,ha,hb,hx,hz,q1,q2⟩:=h
 cases rx
 cases ry
 obtain ⟨its,r1,p1,_⟩:=I.tuple ha
 obtain ⟨its2,r2,p2,_⟩:=I.tuple hb
 refine HT.cat_tup p1 p2 (fun z=>hx (r1.nil_iff.mp z)) (fun z=>⟨.ref a,H,I,rfl,q1 (r2.nil_iff.mp z)⟩) (fun z=>?_) (by rw [← r1.length,← r2.length]; exact hz)
 refine ⟨.ref s.heap.objs.size,_,I.laid (t':=s.toks) (o:=.tup (xs ++ ys)) (fun b ob q=>Heap.get?_push_of_some _ q) (Nat.le_refl _) ?_,rfl,q2 (fun w=>z (r2.nil_iff.mpr w)) _ (I.hok.fresh (Nat.le_refl _))⟩
 exact ⟨by rw [List.length_append]; exact hz,_,r1.append r2,IsTup.new _ _⟩
end
end L2
namespace L2
open PySem PySem.Spec PyProof.Rows
def ixN (n:Nat) (i:Int):Option Nat:=if 0 <= i then (if i < n then some i.toNat else none) else if -(n:Int) <= i then some (i + n).toNat else none
def atI {α:Type} (xs:List α) (i:Int):Option α:=(ixN xs.length i).bind fun j=>xs[j]?
theorem Ye {n:Nat} {i:Int} {j:Nat} (h:ixN n i = some j):seqIndex? i n = some j /\ j < n /\ -(n:Int) <= i /\ i < n:=by
 unfold ixN at h
 by_cases h0:0 <= i
 ·rw [if_pos h0] at h
  by_cases h1:i < n
  ·rw [if_pos h1] at h
   have e:i.toNat = j:=Option.some.inj h
   exact ⟨by rw [seqIndex_of h0 h1,e],by omega,by omega,h1⟩
  ·rw [if_neg h1] at h; cases h
 ·rw [if_neg h0] at h
  by_cases h1:-(n:Int) <= i
  ·rw [if_pos h1] at h
   have e:(i + n).toNat = j:=Option.some.inj h
   exact ⟨by rw [seqIndex_neg (by omega) h1,e],by omega,h1,by omega⟩
  ·rw [if_neg h1] at h; cases h
theorem Yf {α:Type} {xs:List α} {i:Int} {v:α} (h:atI xs i = some v):∃ j,seqIndex? i xs.length = some j /\ xs[j]? = some v /\ j < xs.length /\ -(xs.length:Int) <= i /\ i < xs.length:=by
 unfold atI at h
 cases e:ixN xs.length i with
 | none=>rw [e] at h; cases h
 | some j =>
  rw [e] at h
  obtain ⟨h1,h2,h3,h4⟩:=Ye e
  exact ⟨j,h1,h,h2,h3,h4⟩
theorem zt {α:Type} {xs:List α} {j:Nat} {v:α} (h:xs[j]? = some v):atI xs (j:Int) = some v:=by
 have hj:j < xs.length:=(List.getElem?_eq_some_iff.mp h).1
 have e:ixN xs.length (j:Int) = some j:=by
  unfold ixN
  rw [if_pos (by omega),if_pos (by omega)]; simp
 unfold atI; rw [e]; exact h
def VM (b:Expr):Prop:=∀ o i,subscripted b false o i = operate [o,i] (getItem o i)
def IxR (X:Cx) (r:R2):Prop :=
 ∀ (value slice:Expr) (pins:List (Addr × Obj)) (s:Shared) (σ:St) (H:Hp) (x y:V) (v u:Value) (Q:VK),Inv X pins σ H s -> RelV x v -> RelV y u -> r x y H Q →
  subscripted slice false v u = operate [v,u] (getItem v u) -> wpAny (model X.prog X.w) X.A (subscriptTail value slice v u) (EP X pins σ Q) X.xe s
def MtR (X:Cx) (id:String) (r:V -> List V -> Hp -> VK -> Prop):Prop :=
 ∀ (pins:List (Addr × Obj)) (s:Shared) (σ:St) (H:Hp) (x:V) (xs:List V) (v:Value) (us:List Value) (Q:VK),Inv X pins σ H s -> RelV x v -> Vals xs us -> r x xs H Q →
  wpAny (model X.prog X.w) X.A (call (.builtin id) (v :: us)) (EP X pins σ Q) X.xe s
section
variable {X:Cx} {a b:Expr} {ta tb:TE} {pos:Pos}
theorem IxR.or {r r':R2} (h:IxR X r) (h':IxR X r'):IxR X (fun x y H Q=>r x y H Q \/ r' x y H Q):=by
 intro value slice pins s σ H x y v u Q I rx ry q hs
 rcases q with q | q
 ·exact h value slice pins s σ H x y v u Q I rx ry q hs
 ·exact h' value slice pins s σ H x y v u Q I rx ry q hs
theorem MtR.or {id:String} {r r':V -> List V -> Hp -> VK -> Prop} (h:MtR X id r) (h':MtR X id r'):MtR X id (fun x xs H Q=>r x xs H Q \/ r' x xs H Q):=by
 intro pins s σ H x xs v us Q I rx rs q
 rcases q with q | q
 ·exact h pins s σ H x xs v us Q I rx rs q
 ·exact h' pins s σ H x xs v us Q I rx rs q
theorem zG {r:R2} (hr:IxR X r) (ha:PE X a ta) (hb:PE X b tb) (hs:VM b):PE X (.Subscript a b pos) (tOp r ta tb):=by
 intro pins s σ H Q I h
 exact Subscript_ (binT ha hb I h fun v u s2 x y H2 I2 rx ry q=>hr a b pins s2 σ H2 x y v u Q I2 rx ry q (hs _ _))
def rIxL (K:FG7):R2:=fun x y H Q=>∃ p xs i v,x = .ref p /\ y = .int i /\ SqL K H p xs /\ atI xs i = some v /\ Q v H
def rIxT (K:FG7):R2:=fun x y H Q=>∃ p xs i v,x = .ref p /\ y = .int i /\ SqT K H p xs /\ atI xs i = some v /\ Q v H
theorem yE:IxR X (rIxL X.K):=by
 intro value slice pins s σ H x y v u Q I rx ry h hs
 obtain ⟨p,xs,i,z,rfl,rfl,hq,he,q⟩:=h
 cases rx
 obtain ⟨t,rfl⟩:=ry
 obtain ⟨its,r,pl,hz⟩:=I.list hq
 obtain ⟨j,h1,h2,h3,h4,h5⟩:=Yf he
 obtain ⟨w,ew,rw'⟩:=r.get h2
 have hl:=r.length
 have hn:=sD
 have fin:EP X pins σ Q w s:=⟨z,H,I,rw',q⟩
 by_cases h0:0 <= i
 ·have hj:i.toNat = j:=by
   rw [seqIndex_of h0 h5] at h1
   exact Option.some.inj h1
  exact item_listR pl.isList h0 (by omega) (by rw [hj]; simpa using ew) fin hs
 ·have hj:(i + (its.toArray.size:Int)).toNat = j:=by
   rw [seqIndex_neg (by omega) h4] at h1
   rw [List.size_toArray,← hl]
   exact Option.some.inj h1
  exact subscriptTail_builtinR (x:=w) pl.isList.typeIs slot_list_getitem.lookup
   (wpAny_getItem_list_neg (Q:=fun r s'=>r = w /\ EP X pins σ Q r s') pl.isList (by omega) (by rw [List.size_toArray] <;> omega) (by omega) (by rw [hj]; simpa using ew) ⟨rfl,fin⟩) hs
theorem zX:IxR X (rIxT X.K):=by
 intro value slice pins s σ H x y v u Q I rx ry h hs
 obtain ⟨p,xs,i,z,rfl,rfl,hq,he,q⟩:=h
 cases rx
 obtain ⟨t,rfl⟩:=ry
 obtain ⟨its,r,pl,hz⟩:=I.tuple hq
 obtain ⟨j,h1,h2,h3,h4,h5⟩:=Yf he
 obtain ⟨w,ew,rw'⟩:=r.get h2
 have hl:=r.length
 have hn:=sD
 have fin:EP X pins σ Q w s:=⟨z,H,I,rw',q⟩
 exact subscriptTail_builtinR (x:=w) pl.typeIs slot_tuple_getitem.lookup
  (getItem_tuple (j:=j) (Q:=fun r s'=>r = w /\ EP X pins σ Q r s') pl (by omega) (by omega) (by rw [List.size_toArray,← hl]; exact h1) (by simpa using ew) ⟨rfl,fin⟩) hs
theorem j7 (its:List Value) (n j:Nat) (u:Value):Obj.mapSeq (·.setIfInBounds j u) { cls:=.type "list",data:=.seq its.toArray n } = { cls:=.type "list",data:=.seq (its.set j u).toArray n }:=by
 simp [Obj.mapSeq]
theorem Inv.lst {pins:List (Addr × Obj)} {σ:St} {H:Hp} {s:Shared} {p:Addr} {xs:List V} (I:Inv X pins σ H s) (h:H p = some (.lst xs)) :
  ∃ (its:List Value) (n:Nat),Vals xs its /\ s.heap.get? p = some { cls:=.type "list",data:=.seq its.toArray n } /\ xs.length <= sizeLine:=by
 obtain ⟨z,its,n,r,e⟩:=I.hok p _ h
 exact ⟨its,n,r,e,z⟩
theorem Inv.lstUpd {pins:List (Addr × Obj)} {σ:St} {H:Hp} {s:Shared} {p:Addr} {xs ys:List V} {its its':List Value} {n n':Nat} {f:Obj -> Obj} (I:Inv X pins σ H s) (h:H p = some (.lst xs))
  (ho:s.heap.get? p = some { cls:=.type "list",data:=.seq its.toArray n }) (hf:f { cls:=.type "list",data:=.seq its.toArray n } = { cls:=.type "list",data:=.seq its'.toArray n' }) (r:Vals ys its') (hz:ys.length <= sizeLine) (t:Nat) :
  Inv X pins σ (upd H p (.lst ys)) { s with heap:=s.heap.update p f,toks:=t }:=by
 have e:(s.heap.update p f).get? p = some { cls:=.type "list",data:=.seq its'.toArray n' }:=by
  rw [Heap.get?_update_self f ho (by rw [hf] <;> rfl),hf]
 refine I.write (x:=p) (e:=p) (by rw [h]; trivial) (.inl rfl) (fun b u hb q=>(Heap.get?_update_other _ _ (Ne.symm hb)).trans q) ⟨_,e⟩ ?_
 exact ⟨hz,its',n',r,e⟩
def Sr:V -> V -> V -> Hp -> (Hp -> Prop) -> Prop:=fun o i v H Q=>∃ p xs k j,o = .ref p /\ i = .int k /\ H p = some (.lst xs) /\ ixN xs.length k = some j /\ Q (upd H p (.lst (xs.set j v)))
theorem tj:PSet X Sr:=by
 intro pins s σ H o i v ov iv u Q I ro ri rv h
 obtain ⟨p,xs,k,j,rfl,rfl,hp,hj,q⟩:=h
 cases ro
 obtain ⟨t,rfl⟩:=ri
 obtain ⟨its,n,r,ho,hz⟩:=I.lst hp
 obtain ⟨h1,h2,h3,h4⟩:=Ye hj
 have hl:=r.length
 have hn:=sD
 have I':Inv X pins σ (upd H p (.lst (xs.set j v))) { s with heap:=s.heap.update p (Obj.mapSeq (·.setIfInBounds j u)) } :=
  I.lstUpd hp ho (j7 its n j u) (r.set rv j) (by rw [List.length_set]; exact hz) s.toks
 by_cases h0:0 <= k
 ·have hk:k.toNat = j:=by
   rw [seqIndex_of h0 h4] at h1
   exact Option.some.inj h1
  exact PySem.W.ki_setAt ho h0 (by omega) (by rw [List.size_toArray,← hl]; exact h4) (by rw [hk]; exact ⟨_,I',q⟩)
 ·have hk:(k + (its.toArray.size:Int)).toNat = j:=by
   rw [seqIndex_neg (by omega) h3] at h1
   rw [List.size_toArray,← hl]
   exact Option.some.inj h1
  exact PySem.W.ki_setBack ho (by omega) (by rw [List.size_toArray,← hl]; exact h3) (by omega) (by rw [hk]; exact ⟨_,I',q⟩)
theorem sJ (lo hi:Option Int) (n:Nat):(sliceBounds lo hi none n).1 = ((HT.sIx n 0 lo:Nat):Int) /\ (sliceBounds lo hi none n).2.1 = ((HT.sIx n n hi:Nat):Int) /\ (sliceBounds lo hi none n).2.2 = 1:=by
 refine ⟨?_,?_,rfl⟩
 ·cases lo with
  | none=>simp [sliceBounds,HT.sIx]
  | some i =>
   simp only [sliceBounds,HT.sIx,Option.getD_none,show (1:Int) > 0 by decide,if_true]
   by_cases h:i < 0
   ·simp only [h,if_true] <;> omega
   ·simp only [h,if_false] <;> omega
 ·cases hi with
  | none=>simp [sliceBounds,HT.sIx]
  | some i =>
   simp only [sliceBounds,HT.sIx,Option.getD_none,show (1:Int) > 0 by decide,if_true]
   by_cases h:i < 0
   ·simp only [h,if_true] <;> omega
   ·simp only [h,if_false] <;> omega
theorem tm (its:List Value) (lo hi:Option Int):slicePick its.toArray lo hi none = ((its.drop (HT.sIx its.length 0 lo)).take (HT.sIx its.length its.length hi - HT.sIx its.length 0 lo)).toArray:=by
 obtain ⟨h1,h2,h3⟩:=sJ lo hi its.toArray.size
 unfold slicePick
 rw [h1,h2,h3]
 simp only [sliceRange_one,pick_run,List.size_toArray] <;> rfl
def rSlL (K:FG7):V -> Option Int -> Option Int -> Hp -> VK -> Prop:=fun x lo hi H Q=>∃ a xs,x = .ref a /\ SqL K H a xs /\ ∀ p,H p = none -> Q (.ref p) (upd H p (.lst (cutV xs lo hi)))
theorem VN:SlR X (rSlL X.K):=by
 intro pins s σ H x v vl vu lo hi sl Q I rx hs pl pu h
 obtain ⟨a,xs,rfl,hx,q⟩:=h
 cases rx
 obtain ⟨its,r,ht,hz⟩:=I.list hx
 have hlen:=r.length
 refine ⟨"list",_,slot_list_getitem.lookup,ht.isList.typeIs,?_⟩
 refine wpAny_getItem_list_slice ht.isList hs pl pu .none (by simp) ?_ (by rw [List.size_toArray] <;> omega)
 rw [tm,← hlen]
 refine ⟨.ref s.heap.objs.size,_,I.laid (t':=s.toks) (o:=.lst (cutV xs lo hi)) (fun b ob q=>Heap.get?_push_of_some _ q) (Nat.le_refl _) ?_,rfl,q _ (I.hok.fresh (Nat.le_refl _))⟩
 exact ⟨Nat.le_trans (xa xs lo hi) hz,_,0,(r.drop (HT.sIx xs.length 0 lo)).take (HT.sIx xs.length xs.length hi - HT.sIx xs.length 0 lo),Heap.get?_push_size _ rfl⟩
def vD:V -> Bool
 | .non=>true
 | .bl _=>true
 | .int _=>true
 | .str _=>true
 | _=>false
def eqV:V -> V -> Bool
 | .non,.non=>true
 | .bl a,.bl b=>a == b
 | .bl a,.int b=>(if a then 1 else 0) == b
 | .int a,.bl b=>a == (if b then 1 else 0)
 | .int a,.int b=>a == b
 | .str a,.str b=>a == b
 | _,_=>false
theorem UP {A:Around} {s:Shared} {y x:V} {u v:Value} (ry:RelV y u) (rx:RelV x v) (fy:vD y = true) (fx:vD x = true):SeqAt.EqAt A s u v (eqV y x):=by
 cases y with
 | non =>
  cases ry
  cases x with
  | non=>cases rx; exact SeqAt.EqAt.same _
  | bl b=>cases rx; exact SeqAt.EqAt.none_bool b
  | int b=>obtain ⟨t,rfl⟩:=rx; exact SeqAt.EqAt.none_int b t
  | str b=>obtain ⟨t,rfl⟩:=rx; exact SeqAt.EqAt.none_str b t
  | _=>exact absurd (show false = true from fx) Bool.false_ne_true
 | bl a =>
  cases ry
  cases x with
  | non=>cases rx; exact SeqAt.EqAt.bool_none a
  | bl b=>cases rx; exact SeqAt.EqAt.bool_bool a b
  | int b=>obtain ⟨t,rfl⟩:=rx; exact SeqAt.EqAt.bool_int a b t
  | str b=>obtain ⟨t,rfl⟩:=rx; exact SeqAt.EqAt.bool_str a b t
  | _=>exact absurd (show false = true from fx) Bool.false_ne_true
 | int a =>
  obtain ⟨t',rfl⟩:=ry
  cases x with
  | non=>cases rx; exact SeqAt.EqAt.int_none a t'
  | bl b=>cases rx; exact SeqAt.EqAt.int_bool a t' b
  | int b=>obtain ⟨t,rfl⟩:=rx; exact SeqAt.EqAt.int_int a t' b t
  | str b=>obtain ⟨t,rfl⟩:=rx; exact SeqAt.EqAt.int_str a t' b t
  | _=>exact absurd (show false = true from fx) Bool.false_ne_true
 | str a =>
  obtain ⟨t',rfl⟩:=ry
  cases x with
  | non=>cases rx; exact SeqAt.EqAt.str_none a t'
  | bl b=>cases rx; exact SeqAt.EqAt.str_bool a t' b
  | int b=>obtain ⟨t,rfl⟩:=rx; exact SeqAt.EqAt.str_int a t' b t
  | str b=>obtain ⟨t,rfl⟩:=rx; exact SeqAt.EqAt.str_str a t' b t
  | _=>exact absurd (show false = true from fx) Bool.false_ne_true
 | _=>exact absurd (show false = true from fy) Bool.false_ne_true
theorem zp:yM X (.builtin "len") (fun xs H Q=>∃ p ys,xs = [.ref p] /\ (SqL X.K H p ys \/ SqT X.K H p ys) /\ Q (.int ys.length) H):=by
 intro pins s σ H xs us Q I r h
 obtain ⟨p,ys,rfl,hq,q⟩:=h
 obtain ⟨u,rfl,rx⟩:=wa r
 cases rx
 have hn:=sD
 rcases hq with hq | hq
 ·obtain ⟨its,r',pl,hz⟩:=I.list hq
  have hlen:=r'.length
  exact Calls.call_len_list pl.isList (by simp only [List.size_toArray] <;> omega) ⟨.int ys.length,H,I.tok _,⟨s.toks + 1,by rw [List.size_toArray,hlen]⟩,q⟩
 ·obtain ⟨its,r',pl,hz⟩:=I.tuple hq
  have hlen:=r'.length
  exact len_tuple pl (by simp only [List.size_toArray] <;> omega) ⟨.int ys.length,H,I.tok _,⟨s.toks + 1,by rw [List.size_toArray,hlen]⟩,q⟩
theorem yM.or {f:Value} {r r':List V -> Hp -> VK -> Prop} (h:yM X f r) (h':yM X f r'):yM X f (fun xs H Q=>r xs H Q \/ r' xs H Q):=by
 intro pins s σ H xs us Q I rs q
 rcases q with q | q
 ·exact h pins s σ H xs us Q I rs q
 ·exact h' pins s σ H xs us Q I rs q
theorem xy:yM X (.type "list") (fun xs H Q=>∃ p ys,xs = [.ref p] /\ (SqL X.K H p ys \/ SqT X.K H p ys) /\ ∀ l,H l = none -> Q (.ref l) (upd H l (.lst ys))):=by
 intro pins s σ H xs us Q I r h
 obtain ⟨p,ys,rfl,hq,q⟩:=h
 obtain ⟨u,rfl,rx⟩:=wa r
 cases rx
 have fin:∀ (its:List Value),Vals ys its -> ys.length <= sizeLine -> ∀ (h':Heap) (c':Nat),(∀ b o',s.heap.get? b = some o' -> h'.get? b = some o') →
   h'.get? s.heap.objs.size = some { cls:=.type "list",dict:=none,data:=.seq its.toArray c',slots:=#[] } -> EP X pins σ Q (.ref s.heap.objs.size) { s with heap:=h' }:=fun its r' hz h' c' kp e =>
  ⟨.ref s.heap.objs.size,_,I.laid (t':=s.toks) kp (Nat.le_refl _) (show zP X.prog X.w _ h' _ (.lst ys) from ⟨hz,its,c',r',e⟩),rfl,q _ (I.hok.fresh (Nat.le_refl _))⟩
 rcases hq with hq | hq
 ·obtain ⟨its,r',pl,hz⟩:=I.list hq
  have hlen:=r'.length
  obtain ⟨o,ho,hc,n,hd⟩:=pl.isList
  exact call_list_seq p (.inl rfl) ho hc hd (fun h' c' kp e=>fin its r' hz h' c' kp e) (by simp only [List.size_toArray] <;> omega)
 ·obtain ⟨its,r',pl,hz⟩:=I.tuple hq
  have hlen:=r'.length
  obtain ⟨o,ho,hc,n,hd⟩:=pl
  exact call_list_seq p (.inr rfl) ho hc hd (fun h' c' kp e=>fin its r' hz h' c' kp e) (by simp only [List.size_toArray] <;> omega)
theorem yq:yM X (.type "tuple") (fun xs H Q=>∃ p ys,xs = [.ref p] /\ ((SqL X.K H p ys /\ ∀ l,H l = none -> Q (.ref l) (upd H l (.tup ys))) \/ (SqT X.K H p ys /\ Q (.ref p) H))):=by
 intro pins s σ H xs us Q I r h
 obtain ⟨p,ys,rfl,h⟩:=h
 obtain ⟨u,rfl,rx⟩:=wa r
 cases rx
 rcases h with ⟨hq,q⟩ | ⟨hq,q⟩
 ·obtain ⟨its,r',pl,hz⟩:=I.list hq
  have hlen:=r'.length
  refine call_tuple_list pl.isList (fun h' kp=>?_) (by simp only [List.size_toArray] <;> omega)
  have I1:Inv X pins σ H { s with heap:=h' }:=I.kept (t':=s.toks) kp
  have I2:Inv X pins σ (upd H h'.objs.size (.tup ys)) { s with heap:=h'.push { cls:=.type "tuple",data:=.seq its.toArray } } :=
   I1.laid (t':=s.toks) (fun b o e=>Heap.get?_push_of_some _ e) (Nat.le_refl _) (show zP X.prog X.w _ _ _ (.tup ys) from ⟨hz,its,r',IsTup.new _ _⟩)
  exact ⟨.ref h'.objs.size,_,I2,rfl,q _ (I1.hok.fresh (Nat.le_refl _))⟩
 ·obtain ⟨its,r',pl,hz⟩:=I.tuple hq
  exact call_tuple_same pl ⟨.ref p,H,I,rfl,q⟩
def tyV (K:FG7) (T:String) (x:V) (H:Hp):Prop:=match x with
 | .str _=>T = "str"
 | .int _=>T = "int"
 | .ref p=>(T = "list" /\ ∃ xs,SqL K H p xs) \/ (T = "tuple" /\ ∃ o,K.lookup p = some o /\ o.cls = .type "tuple" /\ o.dict = none) ∨
   (T = "dict" /\ ((∃ kvs,H p = some (.dK kvs)) \/ ∃ kvs,H p = some (.dT kvs))) \/ (T = "set" /\ ∃ S n,H p = some (.set S n))
 | _=>False
theorem UQ {pins:List (Addr × Obj)} {σ:St} {H:Hp} {s:Shared} {T:String} {x:V} {v:Value} (I:Inv X pins σ H s) (r:RelV x v) (ty:tyV X.K T x H) :
  s.TypeIs v T /\ ∀ a,v = .ref a -> ∃ ob,s.heap.get? a = some ob /\ ob.dict = none:=by
 cases x with
 | str z =>
  obtain ⟨t,rfl⟩:=r
  cases (show T = "str" from ty)
  exact ⟨typeIs_str s z t,fun _ e=>nomatch e⟩
 | int i =>
  obtain ⟨t,rfl⟩:=r
  cases (show T = "int" from ty)
  exact ⟨typeIs_int s i t,fun _ e=>nomatch e⟩
 | ref p =>
  cases r
  rcases ty with ⟨rfl,xs,hq⟩ | ⟨rfl,o,hk,hc,hd⟩ | ⟨rfl,hk⟩ | ⟨rfl,S,n,hk⟩
  ·obtain ⟨its,_,pl,_⟩:=I.list hq
   refine ⟨pl.isList.typeIs,fun a e=>?_⟩
   cases e
   obtain ⟨o,n,e,c,hd,_⟩:=pl
   exact ⟨o,e,hd⟩
  ·refine ⟨⟨o,I.kIn p o hk,hc⟩,fun a e=>?_⟩
   cases e
   exact ⟨o,I.kIn _ o hk,hd⟩
  ·have z:∃ o,s.heap.get? p = some o /\ o.ExactDict:=by
    rcases hk with ⟨kvs,hk⟩ | ⟨kvs,hk⟩
    ·obtain ⟨_,_,_,_,o,_,_,e,ex,_⟩:=I.hok p _ hk
     exact ⟨o,e,ex⟩
    ·obtain ⟨_,_,_,_,o,_,_,e,ex,_⟩:=I.hok p _ hk
     exact ⟨o,e,ex⟩
   obtain ⟨o,e,ex⟩:=z
   refine ⟨⟨o,e,ex.1⟩,fun a e2=>?_⟩
   cases e2
   exact ⟨o,e,ex.2.1⟩
  ·obtain ⟨o,_,_,_,e,ex,_⟩:=I.hok p _ hk
   refine ⟨⟨o,e,ex.1⟩,fun a e2=>?_⟩
   cases e2
   exact ⟨o,e,ex.2.1⟩
 | _=>exact False.elim ty
def tBM (K:FG7) (T:String) (r:V -> List V -> Hp -> VK -> Prop) (to:TE) (t:TA):TE:=fun σ H Q=>to σ H fun x H1=>tyV K T x H1 /\ t σ H1 fun xs H2=>r x xs H2 Q
variable {o e:Expr} {es:List Expr} {to:TE} {t:TA} {name:Str} {apos cpos:Pos} {T id:String} {r:V -> List V -> Hp -> VK -> Prop}
theorem Wh (pa:PlainAttrs T) (slot:Slot T name id) (hty:typeOf (.builtin id) = pure (.type "method_descriptor")) (hm:MtR X id r) (ho:PE X o to) (ha:PA X (e :: es) t)
  (hbase:attributeBase o name X.env (eval o X.env) = eval o X.env:=by rfl)
  (hfew:((backTo cpos (starEach (e :: es) X.env)).all (fun x=>!x.1) && (backToKw cpos (keywordEach [] X.env)).all (fun x=>x.1.isSome)
   && decide ((e :: es).length + ([]:List Keyword).length + (if ([]:List Keyword).isEmpty then 0 else 1) < 30)) = true:=by rfl)
  (hline:(apos.endLine == cpos.line) = true:=by rfl) (hs:starEach (e :: es) X.env = (false,eval e X.env) :: starEach es X.env:=by rfl) (hplain:(backTo cpos (starEach es X.env)).any (·.1) = false:=by rfl) :
  PE X (.Call (.Attribute o name apos) (e :: es) [] cpos) (tBM X.K T r to t):=by
 intro pins s σ H Q I h
 refine wpAny_Call_method_late hbase hfew hline rfl (thn (ho pins s σ H _ I h) fun v s1 ⟨x,H1,I1,r1,ty,q1⟩=>?_)
 obtain ⟨h1,h2⟩:=UQ I1 r1 ty
 refine ⟨T,id,pa,slot,hty,h1,h2,?_⟩
 have hA:=ha cpos pins s1 σ H1 _ I1 q1
 rw [hs] at hA ⊢
 refine Calls.callWith_builtin (by show (false || (backTo cpos (starEach es X.env)).any (·.1)) = false; rw [hplain] <;> rfl) (Calls.evalArgs_plain ?_)
 exact thn hA fun us s2 ⟨vs,H2,I2,r2,q2⟩=>hm pins s2 σ H2 x vs v us Q I2 r1 r2 q2
end
end L2
namespace L2
open PySem PySem.Spec PyProof.Rows
def MtM (X:Cx) (id:String) (r:V -> List V -> Hp -> VK -> Prop):Prop :=
 ∀ (pins:List (Addr × Obj)) (s:Shared) (σ:St) (H:Hp) (x:V) (xs:List V) (v:Value) (us:List Value) (Q:VK),Inv X pins σ H s -> RelV x v -> Vals xs us -> r x xs H Q →
  wpAny (model X.prog X.w) X.A (call (.builtin id) (v :: us)) (EP X pins σ Q) X.xe s
theorem Vals.one:∀ {x:V} {us:List Value},Vals [x] us -> ∃ u,us = [u] /\ RelV x u
 | _,_,.cons r .nil=>⟨_,rfl,r⟩
theorem Vals.zero:∀ {us:List Value},Vals [] us -> us = []
 | _,.nil=>rfl
theorem Vals.dropLast {xs:List V} {us:List Value} (h:Vals xs us):Vals xs.dropLast us.dropLast:=by
 induction h with
 | nil=>exact .nil
 | cons r t ih =>
  cases t with
  | nil=>exact .nil
  | cons q t'=>exact .cons r ih
theorem Vals.eraseIdx:∀ {xs:List V} {us:List Value} (i:Nat),Vals xs us -> Vals (xs.eraseIdx i) (us.eraseIdx i)
 | _,_,_,.nil=>.nil
 | _,_,0,.cons _ t=>t
 | _,_,i + 1,.cons r t=>.cons r (Vals.eraseIdx i t)
theorem Vals.reverse {xs:List V} {us:List Value} (h:Vals xs us):Vals xs.reverse us.reverse:=by
 induction h with
 | nil=>exact .nil
 | cons r t ih=>rw [List.reverse_cons,List.reverse_cons]; exact Vals.append ih (.cons r .nil)
theorem sK {α:Type}:∀ (l:List α) (i:Nat),(l.eraseIdx i).length <= l.length
 | [],_=>Nat.le_refl _
 | _ :: _,0=>Nat.le_succ _
 | _ :: r,i + 1=>Nat.succ_le_succ (sK r i)
section
variable {X:Cx} {pins:List (Addr × Obj)} {σ:St} {H:Hp} {s:Shared} {l b:Addr} {xs ys zs:List V}
theorem Inv.lset {its its':List Value} {n:Nat} {f:Array Value -> Array Value} {t':Nat} (I:Inv X pins σ H s) (hH:H l = some (.lst xs))
  (e:s.heap.get? l = some { cls:=.type "list",data:=.seq its.toArray n }) (hf:f its.toArray = its'.toArray) (hv:Vals ys its') (hz:ys.length <= sizeLine) :
  Inv X pins σ (upd H l (.lst ys)) { s with heap:=s.heap.update l (Obj.mapSeq f),toks:=t' }:=by
 have q:=PySem.IsL.update e f
 rw [hf] at q
 refine I.write (x:=l) (e:=l) (by rw [hH]; exact trivial) (.inl rfl) (fun b' u hb hu=>(Heap.get?_update_other s.heap (Obj.mapSeq f) (Ne.symm hb)).trans hu) ⟨_,q⟩ ?_
 exact ⟨hz,its',_,hv,q⟩
theorem Inv.lnew {its:List Value} {t':Nat} (I:Inv X pins σ H s) (hv:Vals ys its) (hz:ys.length <= sizeLine) :
  Inv X pins σ (upd H s.heap.objs.size (.lst ys)) { s with heap:=s.heap.push { cls:=.type "list",data:=.seq its.toArray },toks:=t' } :=
 I.laid (fun _ _ q=>Heap.get?_push_of_some _ q) (Nat.le_refl _) ⟨hz,its,0,hv,Heap.get?_push_size _ rfl⟩
theorem Inv.fresh (I:Inv X pins σ H s):H s.heap.objs.size = none:=I.hok.fresh (Nat.le_refl _)
theorem Inv.lstM (I:Inv X pins σ H s) (hH:H l = some (.lst xs)):xs.length <= sizeLine /\ ∃ (its:List Value) (n:Nat),Vals xs its /\ xs.length = its.length /\ s.heap.get? l = some { cls:=.type "list",data:=.seq its.toArray n }:=by
 obtain ⟨z,its,n,r,e⟩:=I.hok l _ hH
 exact ⟨z,its,n,r,r.length,e⟩
end
section
variable {X:Cx}
def VO:V -> List V -> Hp -> VK -> Prop:=fun x vs H Q=>∃ l xs y,x = .ref l /\ vs = [y] /\ H l = some (.lst xs) /\ xs.length < sizeLine /\ Q .non (upd H l (.lst (xs ++ [y])))
theorem sL:MtM X "list.append" VO:=by
 intro pins s σ H x vs v us Q I rx rv h
 obtain ⟨l,xs,y,rfl,rfl,hH,hz,q⟩:=h
 cases rx
 obtain ⟨u,rfl,ru⟩:=rv.one
 obtain ⟨z,its,n,r,hl,e⟩:=I.lstM hH
 refine call_meets F.slot_list_append ⟨_,e,rfl⟩ F.entry_list_append (F.args_list_append_2 _ _) (PySem.list_append l its.toArray n u (by rw [List.size_toArray]; omega)) ⟨e,?_⟩
 refine ⟨.non,_,I.lset (its':=its ++ [u]) hH e (by simp) (r.append (.cons ru .nil)) ?_,rfl,q⟩
 rw [List.length_append,List.length_singleton]
 omega
def UR:V -> List V -> Hp -> VK -> Prop:=fun x vs H Q=>∃ l xs i k y,x = .ref l /\ vs = [.int i] /\ H l = some (.lst xs) /\ -(2 ^ 63) <= i /\ i < 2 ^ 63 /\ seqIndex? i xs.length = some k /\ xs[k]? = some y /\ Q y (upd H l (.lst (xs.eraseIdx k)))
theorem Wi:MtM X "list.pop" UR:=by
 intro pins s σ H x vs v us Q I rx rv h
 obtain ⟨l,xs,i,k,y,rfl,rfl,hH,h1,h2,hk,hy,q⟩:=h
 cases rx
 obtain ⟨u,rfl,ru⟩:=rv.one
 obtain ⟨t,rfl⟩:=ru
 obtain ⟨z,its,n,r,hl,e⟩:=I.lstM hH
 obtain ⟨w,hw,rw'⟩:=r.get hy
 refine call_meets F.slot_list_pop ⟨_,e,rfl⟩ F.entry_list_pop (F.args_list_pop_2 _ _)
  (MeetsSeq.list_pop_at l its.toArray n i t k w (fitsIndex_both h1 h2) (by rw [List.size_toArray,← hl]; exact hk) (by rw [← Array.getElem?_toList]; exact hw) (by rw [List.size_toArray]; omega)) ⟨e,?_⟩
 refine ⟨y,_,I.lset (its':=its.eraseIdx k) hH e ?_ (r.eraseIdx k) ?_,rw',q⟩
 ·show its.toArray.eraseIdxIfInBounds k = (its.eraseIdx k).toArray
  rw [List.eraseIdxIfInBounds_toArray]
 ·have:=sK xs k
  omega
def rCat:R2:=fun x y H Q=>∃ l b xs zs,x = .ref l /\ y = .ref b /\ H l = some (.lst xs) /\ H b = some (.lst zs) /\ xs.length + zs.length <= sizeLine /\ ∀ p,H p = none -> Q (.ref p) (upd H p (.lst (xs ++ zs)))
theorem Vl:OpR X (binaryOp .Add) rCat:=by
 intro pins s σ H x y v u Q I rx ry h
 obtain ⟨l,b,xs,zs,rfl,rfl,hH,hB,hz,q⟩:=h
 cases rx
 cases ry
 obtain ⟨z,its,n,r,hl,e⟩:=I.lstM hH
 obtain ⟨z2,its2,n2,r2,hl2,e2⟩:=I.lstM hB
 refine PySem.P.add_list e e2 ?_ (by rw [List.size_toArray,List.size_toArray]; omega)
 have ea:its.toArray ++ its2.toArray = (its ++ its2).toArray:=by simp
 rw [ea]
 exact ⟨.ref _,_,I.lnew (t':=s.toks) (r.append r2) (by rw [List.length_append]; omega),rfl,q _ I.fresh⟩
end
end L2
namespace Att
open PySem PySem.W PySem.Calls PyProof.Rows
theorem vE {P:Params} {h:Heap}:∀ (ns:List Int) (vs:List Value),WellAll P h vs (ns.map WData.int) -> IntsAre vs ns:=by
 intro ns
 induction ns with
 | nil =>
  intro vs w
  rw [List.map_nil] at w
  cases w
  exact .nil
 | cons n ns ih =>
  intro vs w
  rw [List.map_cons] at w
  cases w with
  | cons a b =>
   cases a
   exact .cons _ _ (ih _ b)
theorem Yg {l:OpenLaw} {n:Nat} (hn:l.most = some n) {P:Params} {h:Heap} {args:List WData} {vals:List Value}
  (hpre:l.row.toRowW.claim.pre args = true) (hwl:WellAll P h vals args) :
  ∃ a vs ns,vals = [Value.ref a] /\ args = [WData.list (ns.map WData.int)] /\ h.get? a = some { cls:=.type "list",data:=.seq vs.toArray } /\ IntsAre vs ns /\ ns.length <= n:=by
 have hsh:WShape.hasAll [] args [.list .int] = true:=(pre_splitW hpre).1
 have hc:l.pre.holds [] { args:=args } = true:=(pre_splitW hpre).2
 obtain ⟨d,r,rfl,h1,h2⟩:=hasAllW_cons hsh
 obtain rfl:=hasAllW_nil h2
 obtain ⟨xs,rfl,h3⟩:=hasW_list h1
 obtain ⟨ns,rfl⟩:=items_int h3
 have hlen:ns.length <= n:=by
  unfold OpenLaw.pre at hc
  have h4:(WTm.not (.lt (.lit (.int (n:Int))) (.len (.arg 0)))).holds [] { args:=[.list (ns.map .int)] } = true:=by
   have h4:=(holds_andW hc).1
   rw [hn] at h4
   exact h4
  have h5:=condW_of h4 (w_not (w_lt w_lit (w_len_list (w_arg rfl))))
  rw [List.length_map] at h5
  refine Nat.le_of_not_lt fun q=>?_
  have q':(n:Int) < ((ns.length:Nat):Int):=by omega
  first
   | (rw [decide_eq_true q'] at h5; exact absurd h5 (by decide))
   | (simp at h5; omega)
 cases hwl with
 | cons w1 w2 =>
  cases w2
  cases w1 with
  | list ho hall=>exact ⟨_,_,ns,rfl,rfl,ho,vE ns _ hall,hlen⟩
theorem Yh (l:OpenLaw) (args:List WData):l.row.toRowW.claim.post args (.bool true) args = true :=
 postW_of (r:=l.row.toRowW) (X:=(true == true))
  (show WShape.has [] (.bool true) .bool = true by first | rfl | decide | simp [WShape.has,WShape.arms,WShape.armsAll])
  (show (WTm.eq .res (.lit (.bool true))).value [] { args:=args,res:=some (.bool true),after:=args } = some (.bool (true == true)) from w_eq_bool (w_res rfl) w_lit) rfl
theorem attach_call {l:OpenLaw} {n:Nat} {q:Program} {loose:List Str} {XP:(Str -> Option Value) -> Heap -> Prop} {YP:World -> Heap -> Prop} {d:DefRec}
  (hn:l.most = some n) (hdf:d.params.defaults = [])
  (call:∀ (w:World) (s₀ s₁:Shared) (mg mb:Str -> Option Value) (fa:Addr) (o:Obj) (pm cd doc:Value) (a:Addr) (vs:List Value) (ns:List Int),
   Ground q loose [] XP w s₀ mg mb s₁.heap -> YP w s₁.heap →
   s₁.heap.get? fa = some o -> o.data = .func (docDef d.name d.params d.body d.scope pm cd doc) -> s₁.heap.CodeRec cd d.name -> mg d.name = some (.ref fa) →
   s₁.heap.get? a = some { cls:=.type "list",data:=.seq vs.toArray } -> IntsAre vs ns -> ns.length <= n -> s₁.gens = #[] →
   codeAny (model l.prog w) callerA (.call (.ref fa) ⟨[.ref a],[]⟩) (fun r s'=>r = .ok (.ret (.bool true)) /\ OldK s₁.heap s'.heap /\ s'.os = s₁.os /\ AllBare s'.gens) s₁) :
  WalkO q loose XP YP l.row.toRowW d [] (fun f vs=>PySem.call f vs):=by
 intro w s₀ s₁ mg mb G Y fa o pm cd doc dV kV ho hd hcd hD hmg hg args vals as hpre hlay hrd hwl hlo
 obtain rfl:dV = .none:=Dflts.none hD hdf
 obtain rfl:kV = .none:=Dflts.noKw hD
 obtain ⟨a,vs,ns,rfl,rfl,hobj,hints,hlen⟩:=Yg hn hpre hwl
 refine enter_call (codeAny_mono (call w s₀ s₁ mg mb fa o pm cd doc a vs ns G Y ho (fd_plain hd) hcd hmg hobj hints hlen hg) fun r s' hq=>?_)
 obtain ⟨rfl,h2,h3,h4⟩:=hq
 exact ⟨.inl ⟨.bool true,.bool true,[],rfl,fun _=>rfl,.bool true,Yh l _,fun _=>⟨List.Pairwise.nil,fun _ hm=>(nomatch hm)⟩⟩,h2,h3,h4⟩
end Att
namespace L2
open PySem PySem.Spec PyProof.Rows
theorem wb:∀ {vs:List Value} {ns:List Int},IntsAre vs ns -> Vals (ns.map V.int) vs
 | _,_,.nil=>.nil
 | _,_,.cons n t h=>.cons ⟨t,rfl⟩ (wb h)
def Only (H:Hp):Prop:=∀ b,H b = none \/ ∃ o xs,H b = some (.frz o (.lst xs))
theorem Wj {P:Program} {w:World} {K:FG7} {mg mb:Str -> Option Value} {CX:CXT} {k:Nat} {fa a:Addr} {fd:FuncData} {x:Str} {sp:Sp} {s₁:Shared} {vs:List Value} {ns:List Int}
  (KX:K.In s₁.heap) (hns:s₁.heap.Ns mainGlobals mg) (hb:s₁.heap.Ns builtinsNs mb) (hbb:∀ x:Str,x ≠ "__name__" -> mb x = bootBuiltins x) (hlim:s₁.heap.NoLimit) (hg:s₁.gens = #[])
  (ha:s₁.heap.get? a = some { cls:=.type "list",data:=.seq vs.toArray }) (hi:IntsAre vs ns) (hl:ns.length <= sizeLine) (hr:Room k callerA)
  (F:∀ base:Heap,K.In base -> base.Ns mainGlobals mg -> FnOk P w K mg base CX k fa fd [x] sp) (hbind:∀ (s:Shared) (u:Value),BindsTo s fd ⟨[u],[]⟩ [(x,u)])
  (hsp:∀ H:Hp,Only H -> SqL K H a (ns.map V.int) -> sp [.ref a] H (fun v _=>v = .bl true) fun _ _ _=>False)
  (hCX:∀ H e s',CX [] H s₁ (fun _ _ _=>False) e s' -> False) :
  codeAny (model P w) callerA (.call (.ref fa) ⟨[.ref a],[]⟩) (fun r s'=>r = .ok (.ret (.bool true)) /\ OldK s₁.heap s'.heap /\ s'.os = s₁.os /\ AllBare s'.gens) s₁:=by
 have rv:=wb hi
 have lenV:=hi.length
 -- from an abstract heap in which nothing but the script may be tracked
 have core:∀ H:Hp,Only H -> SqL K H a (ns.map V.int) -> HOk P w H s₁.heap -> (∀ b,H b ≠ none -> b = a) -> (H a ≠ none -> K.lookup a = none) →
   codeAny (model P w) callerA (.call (.ref fa) ⟨[.ref a],[]⟩) (fun r s'=>r = .ok (.ret (.bool true)) /\ OldK s₁.heap s'.heap /\ s'.os = s₁.os /\ AllBare s'.gens) s₁:=by
  intro H hO hS hok hA hK
  have base_of:∀ {b:Addr} {o:Obj},s₁.heap.get? b = some o -> H b = none -> (hidT s₁.heap H).get? b = some o:=fun e n=>X7 e n
  have noA:∀ {b:Addr} {o:Obj} {es:Array DictEntry} {ep:Nat},s₁.heap.get? b = some o -> o.data = .dict es ep -> H b = none:=fun {b o es ep} e d=>by
   cases q:H b with
   | none=>rfl
   | some u =>
    have e':b = a:=hA b (by rw [q]; simp)
    subst e'
    rw [ha] at e; cases e
    have d':Data.seq vs.toArray _ = Data.dict es ep:=d
    cases d'
  have nsK:∀ {b:Addr} {m:Str -> Option Value},s₁.heap.Ns b m -> (hidT s₁.heap H).Ns b m:=fun {b m} ⟨o,es,ep,e,d,r⟩=>⟨o,es,ep,base_of e (noA e d),d,r⟩
  have hKb:K.In (hidT s₁.heap H):=fun b o e=>base_of (KX b o e) (by
   cases q:H b with
   | none=>rfl
   | some u =>
    have e':b = a:=hA b (by rw [q]; simp)
    subst e'
    rw [hK (by rw [q]; simp)] at e; cases e)
  have hM:Mod K mg (hidT s₁.heap H):=⟨hKb,nsK hns,⟨mb,nsK hb,hbb⟩,let ⟨mc,h1,h2⟩:=hlim; ⟨mc,nsK h1,h2⟩⟩
  have e0:Env0 P w K mg (hidT s₁.heap H) callerA [] s₁ H:=⟨rfl,hM,fun b o e=>VD e,Nat.le_of_eq (ZZ _ _),trivial,fun b hb=>absurd (show b ∈ ([]:List Addr) from hb) (by simp),hok,.of_eq hg⟩
  refine codeAny_mono ((F _ hKb (nsK hns)).run callerA [] s₁ H ⟨[.ref a],[]⟩ [.ref a] [.ref a] _ _ hr e0 (hbind s₁ (.ref a)) (.cons rfl .nil) (hsp H hO hS)) fun r s' h=>?_
  cases r with
  | error e=>exact (hCX H e s' h).elim
  | ok fl =>
   cases fl with
   | next=>exact False.elim h
   | brk=>exact False.elim h
   | cont=>exact False.elim h
   | ret u =>
    obtain ⟨v,H',os,bare,un,hok',r',q⟩:=h
    have q':v = .bl true:=q
    subst q'
    obtain rfl:u = Value.bool true:=r'
    refine ⟨rfl,OldK.of_keep fun b o e=>?_,os,bare⟩
    cases q:H b with
    | none=>exact un.keep b o e q (by intro z; exact absurd (show b ∈ ([]:List Addr) from z) (by simp)) (by simp)
    | some u =>
     rcases hO b with z | ⟨ob,xs,z⟩
     ·rw [q] at z; cases z
     ·have z2:=un.frzs b ob _ z
      obtain ⟨e1,_⟩:=hok b _ z
      obtain ⟨e2,_⟩:=hok' b _ z2
      rw [e] at e1; cases e1
      exact e2
 cases hk:K.lookup a with
 | some o =>
  -- the script is one of the module's own objects
  have e:=KX a o hk
  rw [ha] at e
  cases e
  refine core (fun _=>none) (fun _=>.inl rfl) (.inr ⟨_,vs.toArray,_,hk,rfl,rfl,rfl,by rw [List.size_toArray,lenV]; exact hl,by simpa using rv⟩) (fun b u z=>by have z':(none:Option HO) = some u:=z; cases z') (fun b z=>absurd rfl z) fun z=>absurd rfl z
 | none =>
  refine core (fun b=>if b = a then some (.frz { cls:=.type "list",data:=.seq vs.toArray } (.lst (ns.map V.int))) else none) (fun b=>?_) (.inl (.inr ⟨{ cls:=.type "list",data:=.seq vs.toArray },if_pos rfl⟩)) (fun b u z=>?_) (fun b z=>?_) fun _=>hk
  ·by_cases hb:b = a
   ·exact .inr ⟨_,_,if_pos hb⟩
   ·exact .inl (if_neg hb)
  ·by_cases hb:b = a
   ·have z':=(if_pos hb).symm.trans z
    cases z'
    subst hb
    exact ⟨ha,by rw [List.length_map]; exact hl,vs,_,rv,ha⟩
   ·have z':=(if_neg hb).symm.trans z
    cases z'
  ·by_cases hb:b = a
   ·exact hb
   ·exact absurd (if_neg hb) z
end L2
namespace L2
open PySem PySem.Spec PyProof.Rows
theorem walk_of {l:PySem.W.OpenLaw} {n k:Nat} {q:Program} {loose:List Str} {XP:(Str -> Option Value) -> Heap -> Prop} {YP:World -> Heap -> Prop} {d:DefRec} {K:Params -> FG7} {CX:World -> CXT} {sp:World -> Sp} {x:Str}
  (hn:l.most = some n) (hn2:n <= sizeLine) (hdf:d.params.defaults = []) (hr:Room k callerA)
  (hY:∀ (w:World) (h:Heap),YP w h -> (K w.params).In h)
  (F:∀ (w:World) (mg:Str -> Option Value) (fa:Addr) (h:Heap),(K w.params).In h -> h.Ns mainGlobals mg -> mg d.name = some (.ref fa) →
   ∃ fd:FuncData,(∀ (s:Shared) (u:Value),BindsTo s fd ⟨[u],[]⟩ [(x,u)]) ∧
    ∀ base:Heap,(K w.params).In base -> base.Ns mainGlobals mg -> FnOk l.prog w (K w.params) mg base (CX w) k fa fd [x] (sp w))
  (hsp:∀ (w:World) (H:Hp) (a:Addr) (ns:List Int),ns.length <= n -> Only H -> SqL (K w.params) H a (ns.map V.int) -> sp w [.ref a] H (fun v _=>v = .bl true) fun _ _ _=>False)
  (hCX:∀ (w:World) (H:Hp) (s:Shared) (e:Value) (s':Shared),CX w [] H s (fun _ _ _=>False) e s' -> False) :
  PySem.W.WalkO q loose XP YP l.row.toRowW d [] (fun f vs=>PySem.call f vs):=by
 refine Att.attach_call hn hdf fun w s₀ s₁ mg mb fa o pm cd doc a vs ns G Y ho hd hcd hmg hobj hints hlen hg=>?_
 have KX:=hY w _ Y
 obtain ⟨fd,hb,hF⟩:=F w mg fa _ KX G.T.g hmg
 exact Wj KX G.T.g G.T.b G.T.builtins G.T.nolimit hg hobj hints (Nat.le_trans hlen hn2) hr hF hb (fun H hO hS=>hsp w H a ns hlen hO hS) fun H e s'=>hCX w H s₁ e s'
end L2
namespace L2
open PySem PySem.Spec PyProof.Rows
def vF (s:Stmt):Arguments:=match s with
 | .FunctionDef _ a _ _ _ _ _ _ _ _=>a
 | _=>{ posonlyargs:=[],args:=[],vararg:=none,kwonlyargs:=[],kw_defaults:=[],kwarg:=none,defaults:=[] }
def wA (s:Stmt):List Stmt:=match s with
 | .FunctionDef _ _ b _ _ _ _ _ _ _=>b
 | _=>[]
def zi (s:Stmt):Scope:=match s with
 | .FunctionDef _ _ _ _ _ _ sc _ _ _=>sc
 | _=>{ kind:=.function,names:=[],isGenerator:=false,isCoroutine:=false }
abbrev CX0:CXT:=fun _ _ _ _ _ _=>False
abbrev E0:XK:=fun _ _ _=>False
theorem US {X:Cx}:jb CX0 X E0:=fun _ _ _ _ _ _ _ h=>h.elim
structure Fun (K:FG7) (x qual:Str) (st:Stmt) (f:Addr) (fd:FuncData):Prop where
 ex:∃ (oc:Value) (od:Option Addr) (kV doc pm:Value) (an:Option Addr) (cdv ct:Value) (osl:Array (Option Value)),
  fd = PySem.W.fnOf x qual (vF st) (wA st) (zi st) .none kV doc pm an cdv ct /\ K.lookup f = some ⟨oc,od,.func fd,osl⟩ /\ PySem.W.codeIn K cdv qual = true
 kp:PySem.W.keepIn K (.ref f) = true
section
variable {P:Program} {w:World} {K:FG7} {mg:Str -> Option Value} {base:Heap}
theorem Fun.ok {x qual:Str} {st:Stmt} {f:Addr} {fd:FuncData} {N ps:List Str} {k:Nat} {sp:Sp} (F:Fun K x qual st f fd) (S:FnScope N ps (zi st)) (len:∀ vs H Q E,sp vs H Q E -> vs.length = ps.length)
  (hbody:∀ (cdv:Value) (A:Around) (outer:List Env) (s:Shared) (H:Hp) (vs:List V) (Q:VK) (E:XK),Room k (A.deeper (envOfC qual (zi st) s.heap.objs.size f cdv)) -> sp vs H Q E →
   ∃ t,PSs (cxOf CX0 P w K mg base N qual (zi st) f cdv A outer s H E).nox (wA st) t /\ t { nx:=fun _ H'=>Q .non H',rt:=Q } (start N vs) H):FnOk P w K mg base CX0 (k + 1) f fd ps sp:=by
 obtain ⟨oc,od,kV,doc,pm,an,cdv,ct,osl,rfl,lk,hcd⟩:=F.ex
 refine Sl lk hcd S len fun A outer s H vs Q E hr hsp=>?_
 obtain ⟨t,h,q⟩:=hbody cdv A outer s H vs Q E hr hsp
 exact ⟨t,h.nox,q⟩
theorem Fun.binds {x qual:Str} {st:Stmt} {f:Addr} {fd:FuncData} {ps:List Str} (F:Fun K x qual st f fd)
  (h:∀ (kV doc pm:Value) (an:Option Addr) (cdv ct:Value) (us:List Value),us.length = ps.length -> bindArgs (PySem.W.fnOf x qual (vF st) (wA st) (zi st) .none kV doc pm an cdv ct) ⟨us,[]⟩ = pure (ps.zip us)):w5 K fd ps []:=by
 obtain ⟨oc,od,kV,doc,pm,an,cdv,ct,osl,rfl,lk,hcd⟩:=F.ex
 exact .all (h kV doc pm an cdv ct)
theorem fun_mk {x qual:Str} {st:Stmt} {f:Addr} {oc:Value} {od an:Option Addr} {osl:Array (Option Value)} {kV doc pm cdv ct:Value} (l:K.lookup f = some ⟨oc,od,.func (PySem.W.fnOf x qual (vF st) (wA st) (zi st) .none kV doc pm an cdv ct),osl⟩)
  (c:PySem.W.codeIn K cdv qual = true) (k:PySem.W.keepIn K (.ref f) = true):Fun K x qual st f (PySem.W.fnOf x qual (vF st) (wA st) (zi st) .none kV doc pm an cdv ct):=⟨⟨oc,od,kV,doc,pm,an,cdv,ct,osl,rfl,l,c⟩,k⟩
end
theorem xz {n:Nat} (h:n <= 1000):n < sizeLine:=Nat.lt_of_le_of_lt h (by decide)
section
variable {X:Cx}
theorem pv (i:Nat) {x:Str} {pos:Pos} (hN:X.N[i]? = some x:=by rfl) (hv:Vis X.env.scope x:=by first | exact Or.inl rfl | exact Or.inr (Or.inl rfl) | exact Or.inr (Or.inr rfl)) (hd:(x == ("__debug__":Str)) = false:=by decide)
  (hcd:(x == ("__classdict__":Str)) = false:=by decide):PE X (.Name x pos) (tVar i):=UF hN hv hd hcd
end
theorem iteF {A B:Prop} (h:B):if false = true then A else B:=by
 rw [if_neg Bool.false_ne_true]
 exact h
theorem iteT {A B:Prop} (h:A):if true = true then A else B:=by
 rw [if_pos rfl]
 exact h
theorem ite2 {c A B:Prop} [Decidable c] (h1:c -> A) (h2:¬ c -> B):if c then A else B:=by
 by_cases h:c
 ·rw [if_pos h]
  exact h1 h
 ·rw [if_neg h]
  exact h2 h
def Same (H H':Hp):Prop:=∀ b o,H b = some o -> H' b = some o
theorem Same.refl (H:Hp):Same H H:=fun _ _ h=>h
theorem Same.trans {H H1 H2:Hp} (a:Same H H1) (b:Same H1 H2):Same H H2:=fun c o h=>b c o (a c o h)
theorem Same.free {H H':Hp} (e:Same H H') {l:Addr} (h:H' l = Option.none):H l = Option.none:=by
 cases q:H l with
 | none=>rfl
 | some o =>
  rw [e l o q] at h
  cases h
theorem Same.seq {K:FG7} {H H':Hp} {a:Addr} {xs:List V} (e:Same H H') (h:SqL K H a xs):SqL K H' a xs:=by
 rcases h with (h | ⟨o,h⟩) | h
 ·exact .inl (.inl (e _ _ h))
 ·exact .inl (.inr ⟨o,e _ _ h⟩)
 ·exact .inr h
end L2
namespace L3
open PySem PySem.Spec PyProof.Rows L2
theorem yA:bootBuiltins "len" = some (.builtin "len"):=by decide +kernel
theorem VP:bootBuiltins "max" = some (.builtin "max"):=by decide +kernel
theorem Ss:bootBuiltins "min" = some (.builtin "min"):=by decide +kernel
theorem zB:bootBuiltins "isinstance" = some (.builtin "isinstance"):=by decide +kernel
theorem j8:bootBuiltins "all" = some (.builtin "all"):=by decide +kernel
theorem VQ:bootBuiltins "any" = some (.builtin "any"):=by decide +kernel
theorem Su:bootBuiltins "sum" = some (.builtin "sum"):=by decide +kernel
theorem jd:bootBuiltins "sorted" = some (.builtin "sorted"):=by decide +kernel
theorem UT:bootBuiltins "int" = some (.type "int"):=by decide +kernel
theorem Vm:bootBuiltins "bool" = some (.type "bool"):=by decide +kernel
theorem ye:bootBuiltins "tuple" = some (.type "tuple"):=by decide +kernel
theorem sM:bootBuiltins "list" = some (.type "list"):=by decide +kernel
def TyV (K:FG7) (H:Hp) (x:V) (T:String):Prop:=match x with
 | .non=>T = "NoneType"
 | .bl _=>T = "bool"
 | .int _=>T = "int"
 | .str _=>T = "str"
 | .ref a=>(T = "tuple" /\ ∃ xs,SqT K H a xs) \/ (T = "list" /\ ∃ xs,SqL K H a xs) \/ (T = "dict" /\ ∃ kvs,H a = some (.dK kvs))
 | _=>False
section
variable {X:Cx} {a b c:Expr} {ta tb tc:TE} {pos:Pos}
def rIsi (K:FG7):List V -> Hp -> VK -> Prop:=fun xs H Q=>∃ x T t k,xs = [x,.ty T] /\ TyV K H x t /\ PySem.W.kitOne K (.type t) (.type T) = some k /\ Q (.bl k) H
theorem zL:yM X (.builtin "isinstance") (rIsi X.K):=by
 intro pins s σ H xs us Q I r h
 obtain ⟨x,T,t,k,rfl,ty,e,q⟩:=h
 obtain ⟨u,w',rfl,rx,rt⟩:=Wd r
 cases (show w' = Value.type T from rt)
 have fin:∀ tk,EP X pins σ Q (.bool k) { s with toks:=tk }:=fun tk=>⟨.bl k,H,I.tok _,rfl,q⟩
 cases x with
 | non=>cases (show t = "NoneType" from ty); exact xu I rx .non e fin
 | bl y=>cases (show t = "bool" from ty); exact xu I rx (.bl y) e fin
 | int i=>cases (show t = "int" from ty); exact xu I rx (.int i) e fin
 | str y=>cases (show t = "str" from ty); exact xu I rx (.str y) e fin
 | byt y=>exact ty.elim
 | flt y=>exact ty.elim
 | ty y=>exact ty.elim
 | ref a =>
  cases (show u = Value.ref a from rx)
  rcases ty with ⟨rfl,xs,hq⟩ | ⟨rfl,xs,hq⟩ | ⟨rfl,kvs,hq⟩
  ·obtain ⟨its,_,⟨o,h1,h2,_⟩,_⟩:=I.tuple hq
   exact PySem.W.kia_one PySem.W.kitx_tuple I.kIn ⟨o,h1,h2⟩ e (fun z=>nomatch z) fin
  ·obtain ⟨its,_,pl,_⟩:=I.list hq
   obtain ⟨o,h1,h2,_⟩:=pl.isList
   exact PySem.W.kia_one PySem.W.kitx_list I.kIn ⟨o,h1,h2⟩ e (fun z=>nomatch z) fin
  ·exact xu (x:=V.ref a) I (show RelV (.ref a) (.ref a) from rfl) (.dK hq) e fin
theorem y6 {x:Str} {T:String} {pos:Pos} (hg:Gl X x) (hm:X.mg x = none) (hv:bootBuiltins x = some (.type T)) (hn:x ≠ "__name__":=by decide) (hd:(x == ("__debug__":Str)) = false:=by decide):PE X (.Name x pos) (tC (.ty T)) :=
 VF hg hm hv (show RelV (.ty T) (Value.type T) from rfl) hn hd
theorem wB:OpR X (binaryOp .Mult) (rI IntMulOk fun i j=>.int (i * j)):=opI fun _ _ _ _ _ _ _ hc q=>mul_int q hc
def VR (i j:Int):Prop:=0 < j /\ j < 2 ^ 200
theorem VR.py {i j:Int} (h:VR i j):Builtin.divisionGoesByPylong i j = false:=by
 refine PyProof.noPylong_of_log2 ?_
 obtain ⟨h1,h2⟩:=h
 have h0:j.natAbs ≠ 0:=by omega
 have h3:j.natAbs < 2 ^ 200:=by
  have:(j.natAbs:Int) = j:=by omega
  have h4:((j.natAbs:Nat):Int) < ((2 ^ 200:Nat):Int):=by rw [this]; exact h2
  exact Int.ofNat_lt.mp h4
 exact Nat.lt_of_lt_of_le ((Nat.log2_lt h0).mpr h3) (by decide)
theorem je:OpR X (binaryOp .FloorDiv) (rI VR fun i j=>.int (i / j)):=opI fun i j _ _ _ _ _ hc q=>by
 have:=hc.1
 refine floordiv_int (by omega) ?_ (.inl hc.py)
 rw [Int.fdiv_eq_ediv_of_nonneg i (by omega)]
 exact q
end
def zo (P:Program) (w:World) (K:FG7) (mg:Str -> Option Value) (base:Heap) (k:Nat) (x:Str) (ps:List Str) (sp:Sp):Prop :=
 ∃ (f:Addr) (fd:FuncData),FnOk P w K mg base CX0 k f fd ps sp /\ w5 K fd ps [] /\ PySem.W.keepIn K (.ref f) = true /\ mg x = some (.ref f)
theorem zo.mono {P:Program} {w:World} {K:FG7} {mg:Str -> Option Value} {base:Heap} {j k:Nat} {x:Str} {ps:List Str} {sp:Sp} (C:zo P w K mg base j x ps sp) (h:j <= k):zo P w K mg base k x ps sp:=by
 obtain ⟨f,fd,F,b,kp,m⟩:=C
 exact ⟨f,fd,F.mono h,b,kp,m⟩
section
variable {X:Cx} {k:Nat} {ps:List Str} {sp:Sp} {x:Str} {p pos:Pos} {e:Expr} {es:List Expr} {t:TA}
theorem zj (C:zo X.prog X.w X.K X.mg X.base k x ps sp) (hr:Room k X.A) (hg:Gl X x)
  (ha:PA X (e :: es) t) (hdb:(x == ("__debug__":Str)) = false:=by decide) (he:starEach (e :: es) X.env = (false,eval e X.env) :: starEach es X.env:=by rfl) (hpl:(backTo pos (starEach es X.env)).any (·.1) = false:=by rfl) :
  PE X (.Call (.Name x p) (e :: es) [] pos) (We sp [] E0 t):=by
 obtain ⟨f,fd,F,b,kp,m⟩:=C
 exact VH F hr hg m kp b .nil US ha hdb he hpl
end
structure Grow (m:List Addr) (H H':Hp):Prop where
 keep:∀ b o,b ∉ m -> H b = some o -> H' b = some o
 tup:∀ b xs,H b = some (.tup xs) -> H' b = some (.tup xs)
 frz:∀ b o u,H b = some (.frz o u) -> H' b = some (.frz o u)
theorem Grow.refl (m:List Addr) (H:Hp):Grow m H H:=⟨fun _ _ _ h=>h,fun _ _ h=>h,fun _ _ _ h=>h⟩
theorem Grow.trans {m:List Addr} {H H1 H2:Hp} (a:Grow m H H1) (b:Grow m H1 H2):Grow m H H2 :=
 ⟨fun c o n h=>b.keep c o n (a.keep c o n h),fun c xs h=>b.tup c xs (a.tup c xs h),fun c o u h=>b.frz c o u (a.frz c o u h)⟩
theorem Grow.new {m:List Addr} {H:Hp} {p:Addr} (h:H p = none) (o:HO):Grow m H (upd H p o) :=
 ⟨fun b u _ q=>by rw [zv (zz q h)]; exact q,fun b xs q=>by rw [zv (zz q h)]; exact q,fun b u v q=>by rw [zv (zz q h)]; exact q⟩
theorem Grow.set {m:List Addr} {H:Hp} {p:Addr} {xs:List V} (h:H p = some (.lst xs)) (hm:p ∈ m) (ys:List V):Grow m H (upd H p (.lst ys)) :=
 ⟨fun b u hb q=>by rw [zv (show b ≠ p from fun z=>hb (by rw [z]; exact hm))]; exact q,fun b zs q=>by rw [zv (fun z=>by subst z; rw [h] at q; cases q)]; exact q,fun b u v q=>by rw [zv (fun z=>by subst z; rw [h] at q; cases q)]; exact q⟩
theorem Grow.mono {m m':List Addr} {H H':Hp} (a:Grow m H H') (h:∀ b ∈ m,b ∈ m'):Grow m' H H':=⟨fun b o n q=>a.keep b o (fun z=>n (h b z)) q,a.tup,a.frz⟩
theorem Grow.same {H H':Hp} (a:Grow [] H H'):Same H H':=fun b o h=>a.keep b o (by simp) h
theorem Grow.sqT {m:List Addr} {H H':Hp} (g:Grow m H H') {K:FG7} {a:Addr} {xs:List V} (h:SqT K H a xs):SqT K H' a xs:=by
 rcases h with (h | ⟨o,h⟩) | h
 ·exact .inl (.inl (g.tup _ _ h))
 ·exact .inl (.inr ⟨o,g.frz _ _ _ h⟩)
 ·exact .inr h
theorem Grow.free {H H':Hp} {m:List Addr} (g:Grow m H H') {l:Addr} (hm:l ∉ m) (h:H' l = none):H l = none:=by
 cases q:H l with
 | none=>rfl
 | some o=>rw [g.keep l o hm q] at h; cases h
def Scr (K:FG7) (H:Hp) (a:Addr) (ns:List Int):Prop :=
 (∃ o,H a = some (.frz o (.lst (ns.map V.int)))) ∨
  ∃ (o:Obj) (its:Array Value) (n:Nat),K.lookup a = some o /\ o.cls = .type "list" /\ o.dict = none /\ o.data = .seq its n /\ its.size <= sizeLine /\ Vals (ns.map V.int) its.toList
theorem Scr.sq {K:FG7} {H:Hp} {a:Addr} {ns:List Int} (h:Scr K H a ns):SqL K H a (ns.map V.int):=by
 rcases h with ⟨o,h⟩ | h
 ·exact .inl (.inr ⟨o,h⟩)
 ·exact .inr h
theorem Scr.of {K:FG7} {H:Hp} {a:Addr} {ns:List Int} (hO:Only H) (h:SqL K H a (ns.map V.int)):Scr K H a ns:=by
 rcases h with (h | ⟨o,h⟩) | h
 ·rcases hO a with z | ⟨o,xs,z⟩
  ·rw [h] at z; cases z
  ·rw [h] at z; cases z
 ·exact .inl ⟨o,h⟩
 ·exact .inr h
theorem Grow.scr {m:List Addr} {H H':Hp} (g:Grow m H H') {K:FG7} {a:Addr} {ns:List Int} (h:Scr K H a ns):Scr K H' a ns:=by
 rcases h with ⟨o,h⟩ | h
 ·exact .inl ⟨o,g.frz _ _ _ h⟩
 ·exact .inr h
section
variable {prog:Program} {w:World} {A:Around} {R:Result -> Shared -> Prop} {s:Shared}
theorem Yi {elt target iter:Expr} {ifs:List Expr} {scope:Scope} {pos:Pos} {it acc:Value} {env:Env} (I:Nat -> Shared -> Prop)
  (turn:∀ n s,I n s -> wpAny (model prog w) A (pyNext it) (fun r s₁=>match r with
   | none=>R (.ok .next) s₁
   | some v=>wpAny (model prog w) A (letOwnedTupleGo target it v) (fun _ s₂=>wpAny (model prog w) A (assign target env v) (fun _ s₃ =>
     wpAny (model prog w) A (forIn ifs true fun c r=>if r = true then do let ok ← isTrue c env (eval c env); pure (ForInStep.yield ok) else pure (ForInStep.yield r)) (fun ok s₄ =>
      if ok = true then wpAny (model prog w) A (eval elt env) (fun x s₅ =>
       wpAny (model prog w) A (call (.builtin "list.append") [acc,x]) (fun _ s₆=>∃ m,m < n /\ I m s₆) (fun _ _=>False) s₅) (fun _ _=>False) s₄
      else ∃ m,m < n /\ I m s₄) (fun _ _=>False) s₃) (fun _ _=>False) s₂) (fun _ _=>False) s₁) (fun _ _=>False) s)
  (n:Nat) (h:I n s) :
  codeAny (model prog w) A (.compLoop (.ListComp elt [⟨target,iter,ifs,0⟩] scope pos) 0 it acc env) R s:=by
 refine codeAny_loop rfl I (fun n s hI=>?_) n h
 show wpAny _ A ((compTurn (.ListComp elt [⟨target,iter,ifs,0⟩] scope pos) 0 it acc env).onRaise (fun x=>do noteFrame x env; theTreesLotGoes x)) _ _ s
 refine wpAny_noted ?_
 rw [compTurn_list]
 have no:∀ (E:VS7) (e:Value) (s:Shared),(fun (_:Value) (_:Shared)=>False) e s -> E e s:=fun _ _ _ f=>f.elim
 refine wpAny_bind (wpAny_standAt (wpAny_bind (wpAny_mono (turn n s hI) (fun r s₁ h₁=>?_) (no _))))
 cases r with
 | none=>exact wpAny_pure h₁
 | some v =>
  refine wpAny_bind (wpAny_mono h₁ (fun _ s₂ h₂=>?_) (no _))
  refine wpAny_bind (wpAny_mono h₂ (fun _ s₃ h₃=>wpAny_bind (wpAny_mono h₃ (fun ok s₄ h₄=>?_) (no _))) (no _))
  cases ok with
  | true =>
   simp only [if_true] at h₄ ⊢
   exact wpAny_bind (wpAny_bind (wpAny_mono h₄ (fun x s₅ h₅=>wpAny_bind (wpAny_mono h₅ (fun _ s₆ h₆=>wpAny_pure (wpAny_pure ⟨rfl,h₆⟩)) (no _))) (no _)))
  | false =>
   simp only [Bool.false_eq_true,if_false] at h₄ ⊢
   first
    | exact wpAny_bind (wpAny_pure (wpAny_pure ⟨rfl,h₄⟩))
    | exact wpAny_pure ⟨rfl,h₄⟩
end
theorem uy {scope:Scope} {env:Env} (hfree:∀ y ∈ scope.names,y.2 = .free -> ∃ c,env.cells.lookup y.1 = some c) :
  ∃ cl,closureFor scope env = pure cl /\ (∀ x c,cl.lookup x = some c -> env.cells.lookup x = some c) /\ ∀ y ∈ scope.names,y.2 = .free -> ∃ c,cl.lookup y.1 = some c:=by
 have key:∀ (l:List (Str × NameKind)) (cs:List (Str × Addr)),(∀ y ∈ l,y.2 = .free -> ∃ c,env.cells.lookup y.1 = some c) -> (∀ x c,cs.lookup x = some c -> env.cells.lookup x = some c) →
   ∃ cl,(forIn l cs (fun (x:Str × NameKind) r=>do if x.2 == .free then do let c ← cellOf env x.1; pure (ForInStep.yield ((x.1,c) :: r)) else pure (ForInStep.yield r)):Sem (List (Str × Addr))) = pure cl ∧
    (∀ x c,cl.lookup x = some c -> env.cells.lookup x = some c) /\ (∀ y ∈ l,y.2 = .free -> ∃ c,cl.lookup y.1 = some c) /\ ∀ x c,cs.lookup x = some c -> ∃ c',cl.lookup x = some c':=by
  intro l
  induction l with
  | nil=>intro cs _ h2; exact ⟨cs,rfl,h2,fun y hy=>absurd hy (by simp),fun x c h=>⟨c,h⟩⟩
  | cons y r ih =>
   intro cs h1 h2
   obtain ⟨n,k⟩:=y
   by_cases hk:k = .free
   ·subst hk
    obtain ⟨c,hc⟩:=h1 (n,.free) (by simp) rfl
    have hc':env.cells.lookup n = some c:=hc
    have e0:cellOf env n = pure c:=by unfold cellOf; rw [hc']
    obtain ⟨cl,e,p1,p2,p3⟩:=ih ((n,c) :: cs) (fun z hz=>h1 z (List.mem_cons_of_mem _ hz)) (fun x d h=>by
     by_cases hx:x = n
     ·subst hx
      rw [List.lookup_cons_self] at h
      cases h; exact hc'
     ·rw [List.lookup_cons,beq_eq_false_iff_ne.mpr hx] at h
      exact h2 x d h)
    refine ⟨cl,?_,p1,fun z hz=>?_,fun x d h=>?_⟩
    ·rw [List.forIn_cons]
     simp only [beq_self_eq_true,if_true,e0,pure_bind]
     exact e
    ·rcases List.mem_cons.mp hz with rfl | hz
     ·intro _
      exact p3 n c List.lookup_cons_self
     ·exact p2 z hz
    ·by_cases hx:x = n
     ·subst hx; exact p3 x c List.lookup_cons_self
     ·exact p3 x d (by rw [List.lookup_cons,beq_eq_false_iff_ne.mpr hx]; exact h)
   ·have hb:(k == NameKind.free) = false:=beq_eq_false_iff_ne.mpr hk
    obtain ⟨cl,e,p1,p2,p3⟩:=ih cs (fun z hz=>h1 z (List.mem_cons_of_mem _ hz)) h2
    refine ⟨cl,?_,p1,fun z hz=>?_,p3⟩
    ·rw [List.forIn_cons]
     simp only [hb,Bool.false_eq_true,if_false,pure_bind]
     exact e
    ·rcases List.mem_cons.mp hz with rfl | hz
     ·intro h; exact absurd h hk
     ·exact p2 z hz
 obtain ⟨cl,e,p1,p2,_⟩:=key scope.names [] hfree (fun x c h=>by cases h)
 refine ⟨cl,?_,p1,p2⟩
 unfold closureFor
 first
  | (rw [show (forIn scope.names [] _:Sem (List (Str × Addr))) = pure cl from e]; rfl)
  | (simp only [bind_pure]; exact e)
  | exact e
def PIfs (X:Cx) (ifs:List Expr) (t:TT):Prop :=
 ∀ (pins:List (Addr × Obj)) (s:Shared) (σ:L2.St) (H:Hp) (Q:Bool -> Hp -> Prop),Inv X pins σ H s -> t σ H Q →
  wpAny (model X.prog X.w) X.A (forIn ifs true fun c r=>if r = true then do let ok ← isTrue c X.env (eval c X.env); pure (ForInStep.yield ok) else pure (ForInStep.yield r)) (TP X pins σ Q) X.xe s
def rY:TT:=fun _ H Q=>Q true H
theorem zM {X:Cx}:PIfs X [] rY:=fun pins s σ H Q I h=>wpAny_pure ⟨H,I,h⟩
theorem tq {X:Cx} {c:Expr} {t:TT} (hc:PT X c t):PIfs X [c] t:=fun pins s σ H Q I h=>wpAny_tests_one (hc pins s σ H Q I h)
abbrev cxC (X:Cx) (N':List Str) (scope:Scope) (cl:List (Str × Addr)) (C D:Addr) (fp:List Addr) (s:Shared) (H:Hp):Cx :=
 { X with N:=N',s₀:=s,H₀:=H,env:=compEnvC scope cl C X.env,outer:=X.stack,ex:=D :: fp,fn:=fun _=>false,xe:=fun _ _=>False }
def capt (sub:List (Option Nat)) (σ:L2.St):L2.St:=sub.map fun o=>match o with
 | none=>none
 | some i=>(match σ[i]? with | some v=>v | none=>none)
def wc (J:It) (σ0:L2.St) (H1:Hp) (g:TG) (tt:TT) (te:TE) (Q:VK):Prop :=
 ∃ W:Nat -> Nat -> List V -> L2.St -> Hp -> Prop,(∃ m,W 0 m [] σ0 H1) /\ ∀ i m ys σ' H',W i m ys σ' H' →
  (J.stop i H' /\ ∀ l,H' l = none -> Q (.ref l) (upd H' l (.lst ys))) ∨
  (J.go i H' /\ ∃ Nn:List V -> L2.St -> Hp -> Prop,(∀ zs σ2 H2,Nn zs σ2 H2 -> ∃ m',m' < m /\ W (i + 1) m' zs σ2 H2) ∧
   ∀ x H2,J.yld i H' x H2 -> g x σ' H2 fun σ2 H3=>tt σ2 H3 fun b H4=>if b = true then te σ2 H4 fun y H5=>ys.length < sizeLine /\ Nn (ys ++ [y]) σ2 H5 else Nn ys σ2 H4)
def UU (wi:TI) (sub:List (Option Nat)) (g:TG) (tt:TT) (te:TE):TE:=fun σ H Q=>wi σ H fun J H1=>wc J (capt sub σ) H1 g tt te Q
structure CSc (X:Cx) (scope:Scope) (N':List Str) (sub:List (Option Nat)):Prop where
 free:∀ y ∈ scope.names,y.2 = .free -> X.env.kindOf y.1 = some .cell
 nocell:∀ y ∈ scope.names,y.2 ≠ .cell
 kind:scope.kind = .function
 names:∀ y ∈ scope.names,y.2 = .local -> scope.names.lookup y.1 = some .local
 len:sub.length = N'.length
 cap:∀ (j:Nat) (y:Str) (i:Nat),N'[j]? = some y -> sub[j]? = some (some i) -> X.N[i]? = some y /\ X.env.scope.names.lookup y = some .cell /\ scope.names.lookup y = some .free
theorem HOk.track {P:Program} {w:World} {H:Hp} {h:Heap} {a:Addr} {o:HO} (x:HOk P w H h) (hn:H a = none) (new:zP P w (upd H a o) h a o):HOk P w (upd H a o) h:=fun b u e=>by
 by_cases hb:b = a
 ·subst hb; rw [zb] at e; cases e; exact new
 ·rw [zv hb] at e
  exact (x b u e).stay (fun c v _ q=>q) (fun c q=>by rw [zv (zz q hn)]; exact q) fun c xs q=>by rw [zv (zz q hn)]; exact q
theorem xP {scope:Scope} {env:Env} {y:Str} {k:NameKind} (h:(relabel scope env).names.lookup y = some k) :
  ∃ k',scope.names.lookup y = some k' /\ (k = k' \/ (k = .cell /\ k' = .free)):=by
 have key:∀ l:List (Str × NameKind),(l.map fun (n,k)=>if (k == NameKind.free && env.scope.kind == .function && env.kindOf n == some .cell) then (n,NameKind.cell) else (n,k)).lookup y = some k →
   ∃ k',l.lookup y = some k' /\ (k = k' \/ (k = .cell /\ k' = .free)):=by
  intro l
  induction l with
  | nil=>intro h; cases h
  | cons p r ih =>
   obtain ⟨n,k0⟩:=p
   intro h
   rw [List.map_cons] at h
   by_cases hc:(k0 == NameKind.free && env.scope.kind == .function && env.kindOf n == some .cell) = true
   ·have hf:k0 = .free:=by
     simp only [Bool.and_eq_true,beq_iff_eq] at hc
     exact hc.1.1
    dsimp only at h
    rw [if_pos hc,List.lookup_cons] at h
    rw [List.lookup_cons]
    cases hx:y == n with
    | true=>rw [hx] at h; cases h; exact ⟨k0,rfl,.inr ⟨rfl,hf⟩⟩
    | false=>rw [hx] at h; exact ih h
   ·dsimp only at h
    rw [if_neg hc,List.lookup_cons] at h
    rw [List.lookup_cons]
    cases hx:y == n with
    | true=>rw [hx] at h; cases h; exact ⟨_,rfl,.inl rfl⟩
    | false=>rw [hx] at h; exact ih h
 exact key scope.names h
theorem sN {scope:Scope} {env:Env} {y:Str} (hk:env.scope.kind = .function) (hc:env.kindOf y = some .cell) (h:scope.names.lookup y = some .free):(relabel scope env).names.lookup y = some .cell:=by
 have key:∀ l:List (Str × NameKind),l.lookup y = some .free -> (l.map fun (n,k)=>if (k == NameKind.free && env.scope.kind == .function && env.kindOf n == some .cell) then (n,NameKind.cell) else (n,k)).lookup y = some .cell:=by
  intro l
  induction l with
  | nil=>intro h; cases h
  | cons p r ih =>
   obtain ⟨n,k0⟩:=p
   intro h
   rw [List.map_cons]
   rw [List.lookup_cons] at h
   dsimp only
   cases hx:y == n with
   | true =>
    rw [hx] at h
    cases h
    have e:y = n:=by simpa using hx
    subst e
    rw [if_pos (by simp [hk,hc]),List.lookup_cons,hx]
   | false =>
    rw [hx] at h
    by_cases hc2:(k0 == NameKind.free && env.scope.kind == .function && env.kindOf n == some .cell) = true
    ·rw [if_pos hc2,List.lookup_cons,hx]; exact ih h
    ·rw [if_neg hc2,List.lookup_cons,hx]; exact ih h
 exact key scope.names h
section
variable {X:Cx} {pins:List (Addr × Obj)} {σ:L2.St} {H2:Hp} {s₂:Shared} {it:Addr} {fp:List Addr} {tn:Nat -> Heap -> Prop} {J:It} {scope:Scope} {cl:List (Str × Addr)} {N':List Str} {sub:List (Option Nat)}
theorem j9 {h₁:Heap} {tk:Nat} (I:Inv X pins σ H2 s₂) (S:CSc X scope N' sub) (hcl1:∀ x c,cl.lookup x = some c -> X.env.cells.lookup x = some c) (hcl2:∀ y ∈ scope.names,y.2 = .free -> ∃ c,cl.lookup y.1 = some c)
    (f2:∀ b ∈ fp,FpOk X pins H2 b) (hfp:∀ b ∈ fp,b < s₂.heap.objs.size) {m:Str -> Option Value} {ob:Obj}
    (hns:h₁.Ns (s₂.heap.objs.size + 1) m) (hk:∀ b o,(s₂.heap.push ob).get? b = some o -> h₁.get? b = some o) :
    Inv (cxC X N' scope cl (s₂.heap.objs.size + 1) s₂.heap.objs.size fp { s₂ with heap:=s₂.heap.push ob } H2) pins (capt sub σ) H2 { s₂ with heap:=h₁,toks:=tk }:=by
  have old:∀ b o,s₂.heap.get? b = some o -> (s₂.heap.push ob).get? b = some o:=fun b o e=>Heap.get?_push_of_some _ e
  have old2:∀ b o,s₂.heap.get? b = some o -> h₁.get? b = some o:=fun b o e=>hk b o (old b o e)
  have sz:(s₂.heap.push ob).objs.size = s₂.heap.objs.size + 1:=Heap.size_push ..
  have cells:∀ x c,cl.lookup x = some c -> c < s₂.heap.objs.size:=fun x c e=>let ⟨v,q⟩:=I.cell x c (hcl1 x c e); q.lt
  have has:∀ x,((relabel scope X.env).names.lookup x = some .cell \/ (relabel scope X.env).names.lookup x = some .free) -> ∃ c,cl.lookup x = some c:=fun x hx=>by
    rcases hx with hx | hx
    · obtain ⟨k',e,z⟩:=xP hx
      rcases z with z | ⟨_,z⟩
      · subst z; exact absurd rfl (S.nocell _ (PySem.mem_of_lookup e))
      · subst z; exact hcl2 _ (PySem.mem_of_lookup e) rfl
    · obtain ⟨k',e,z⟩:=xP hx
      rcases z with z | ⟨z,_⟩
      · subst z; exact hcl2 _ (PySem.mem_of_lookup e) rfl
      · cases z
  have frsz:∀ b ∈ frs X.stack,b < s₂.heap.objs.size:=fun b hb=>by
    rcases List.mem_cons.mp (I.stkSub b hb) with z | z
    · rw [z]; exact I.lt
    · exact Nat.lt_of_not_le fun q=>I.nofs q z
  refine
    { ok :=
      { mod:=I.ok.mod,kind:=S.kind,glob:=I.ok.glob,blt:=I.ok.blt
        above:=by show (s₂.heap.push ob).objs.size <= s₂.heap.objs.size + 1; rw [sz]; exact Nat.le_refl _
        inj:=fun x y c h1 h2=>I.ok.inj x y c (hcl1 x c h1) (hcl1 y c h2)
        has:=has
        cab:=fun x c z=>by cases z
        hd:=I.ok.hd,frames:=I.ok.frames,stk:=.inl rfl
        exf:=fun b hb=>?exf
        bs:=fun b o e=>⟨old b o (I.bk b o e),(I.bs b o e).2⟩
        bsz:=by show X.base.objs.size <= (s₂.heap.push ob).objs.size; rw [sz]; exact Nat.le_succ_of_le (Nat.le_trans I.ok.bsz I.sz)
        noex:=fun b o e hb=>?noex
        exfs:=fun b hb=>?exfs
        funs:=?funs
        frf:=I.stkFree }
      os:=rfl,bare:=I.bare,base:=Un.kept fun b u e=>hk b u e
      loc:=⟨m,hns,?loc⟩
      cell:=fun x c e=>?cell
      free:=I.hok.fresh (Nat.le_succ _)
      freeC:=fun x c e=>I.freeC x c (hcl1 x c e)
      pin:=fun p hp=>?pin
      hok:=I.hok.kept old2
      len:=?len }
  case exf =>
    rcases List.mem_cons.mp hb with rfl | hb
    · exact ⟨Nat.ne_of_lt (Nat.lt_succ_self _),fun x c e=>Nat.ne_of_lt (cells x c e)⟩
    · exact ⟨Nat.ne_of_lt (Nat.lt_succ_of_lt (hfp b hb)),fun x c e=>(f2 b hb).2.2.2.2.1 x c (hcl1 x c e)⟩
  case noex =>
    have hl:b < X.s₀.heap.objs.size:=Nat.lt_of_lt_of_le (Heap.lt_size e) I.ok.bsz
    rcases List.mem_cons.mp hb with rfl | hb
    · exact absurd (Nat.lt_of_lt_of_le hl I.sz) (Nat.lt_irrefl _)
    · rcases (f2 b hb).2.2.2.1 with z | z
      · exact I.ok.noex b o e z
      · exact absurd (Nat.lt_of_lt_of_le hl z) (Nat.lt_irrefl _)
  case exfs =>
    intro hs
    rcases List.mem_cons.mp hb with rfl | hb
    · exact absurd (frsz _ hs) (Nat.lt_irrefl _)
    · rcases List.mem_cons.mp (I.stkSub b hs) with z | z
      · exact (f2 b hb).2.1 z
      · exact (f2 b hb).2.2.1 z
  case funs=>exact Heap.FunFrames.of_keeps (fun b o e _=>⟨o,old b o e,rfl⟩) I.stack
  case loc =>
    intro j y v hj hv hvis
    obtain ⟨mX,_,lX⟩:=I.loc
    unfold capt at hv
    rw [List.getElem?_map] at hv
    cases hs:sub[j]? with
    | none=>rw [hs] at hv; cases hv
    | some o =>
      rw [hs] at hv
      cases o with
      | none=>cases hv
      | some i =>
        obtain ⟨hN,hc,hf⟩:=S.cap j y i hj hs
        have hv':σ[i]? = some (some v):=by
          have z:(match σ[i]? with | some v=>v | none=>none) = some v:=Option.some.inj hv
          cases q:σ[i]? with
          | none=>rw [q] at z; cases z
          | some w=>rw [q] at z; rw [show w = some v from z]
        obtain ⟨u,ru,hl⟩:=lX i y v hN hv' (.inr (.inl hc))
        refine ⟨u,ru,?_⟩
        have kc:(relabel scope X.env).names.lookup y = some .cell:=sN I.ok.kind hc hf
        rcases hl with ⟨z,_⟩ | ⟨_,c,e,ic⟩
        · have z':X.env.scope.names.lookup y = some .local :=z
          rw [hc] at z'; cases z'
        · obtain ⟨c',e'⟩:=hcl2 _ (PySem.mem_of_lookup hf) rfl
          have:=hcl1 _ _ e'
          rw [e] at this; cases this
          refine .inr ⟨.inl kc,c,e',?_⟩
          obtain ⟨oc,h1,h2⟩:=ic
          exact ⟨oc,old2 _ _ h1,h2⟩
  case cell =>
    obtain ⟨v,oc,h1,h2⟩:=I.cell x c (hcl1 x c e)
    exact ⟨v,oc,old2 _ _ h1,h2⟩
  case pin =>
    obtain ⟨p1,p2,p3,p4,p5⟩:=I.pin p hp
    refine ⟨old2 _ _ p1,p2,Nat.ne_of_lt (Nat.lt_succ_of_lt (Heap.lt_size p1)),fun hs=>?_,p5⟩
    rcases List.mem_cons.mp (I.stkSub _ hs) with z | z
    · exact p3 z
    · exact p4 z
  case len =>
    show (capt sub σ).length = N'.length
    unfold capt
    rw [List.length_map]; exact S.len
theorem Wl {C D:Addr} {s₀:Shared} {s':Shared} {σ':L2.St} {H':Hp} {ys:List V} {us:List Value} {k:Nat} {oC:Obj} (I:Inv X pins σ H2 s₂)
    (hs₀:∀ b o,s₂.heap.get? b = some o -> s₀.heap.get? b = some o) (hos:s₀.os = s₂.os) (hD:s₂.heap.objs.size <= D) (hC:s₂.heap.objs.size <= C) (hDC:D ≠ C) (f2:∀ b ∈ fp,FpOk X pins H2 b)
    (I':Inv (cxC X N' scope cl C D fp s₀ H2) pins σ' H' s') (hn:H' D = none) (hy:s'.heap.get? D = some { cls:=.type "list",data:=.seq us.toArray k }) (rv:Vals ys us) (hz:ys.length <= sizeLine)
    (ho:s'.heap.get? C = some oC) (hd:∀ v,oC.data ≠ .cell v):Inv X (pins ++ [(C,oC)]) σ (upd H' D (.lst ys)) s' /\ FpOk X pins (upd H' D (.lst ys)) C:=by
  have neD:∀ b o,s₂.heap.get? b = some o -> b ≠ D:=fun b o e=>Nat.ne_of_lt (Nat.lt_of_lt_of_le (Heap.lt_size e) hD)
  have nm:∀ b o,s₂.heap.get? b = some o -> b ∉ fp -> b ∉ D :: fp:=fun b o e h z=>(List.mem_cons.mp z).elim (neD b o e) h
  have U:=I'.base
  have HC:upd H' D (.lst ys) C = none:=by rw [zv (Ne.symm hDC)]; exact I'.free
  have fpc:FpOk X pins (upd H' D (.lst ys)) C:=I.fpOk hC HC
  have un:Un (frs X.stack) fp H2 (upd H' D (.lst ys)) s₂.heap s'.heap :=
    { keep:=fun b o e n h1 h2=>U.keep b o (hs₀ b o e) n h1 (nm b o e h2)
      slot:=fun b o e n h1 h2=>U.slot b o (hs₀ b o e) n h1 (nm b o e h2)
      free:=fun b o e n h2=>by rw [zv (neD b o e)]; exact U.free b o (hs₀ b o e) n (nm b o e h2)
      there:=fun b o e h2=>U.there b o (hs₀ b o e) (nm b o e h2)
      tups:=fun b xs e=>by have z:=U.tups b xs e; rw [zv (zz z hn)]; exact z
      frzs:=fun b o u e=>by have z:=U.frzs b o u e; rw [zv (zz z hn)]; exact z
      tbls:=fun b ps e=>by obtain ⟨more,z⟩:=U.tbls b ps e; exact ⟨more,by rw [zv (zz z hn)]; exact z⟩ }
  have hok:HOk X.prog X.w (upd H' D (.lst ys)) s'.heap:=HOk.track I'.hok hn ⟨hz,us,k,rv,hy⟩
  have IX:Inv X pins σ (upd H' D (.lst ys)) s':=I.call' (I'.os.trans hos) un hok I'.bare fun b hb=>⟨(f2 b hb).2.2.2.1,(f2 b hb).2.1,(f2 b hb).2.2.2.2.1,(f2 b hb).2.2.2.2.2⟩
  refine ⟨IX.pins_of fun p hp=>?_,fpc⟩
  rcases List.mem_append.mp hp with hp | hp
  · exact IX.pin p (List.mem_append_right _ hp)
  · rw [List.mem_singleton.mp hp]
    exact ⟨ho,HC,fpc.2.1,fpc.2.2.1,hd⟩
end
section
variable {X:Cx} {scope:Scope} {N':List Str} {sub:List (Option Nat)} {x:Str} {px pos:Pos} {elt iter:Expr} {ifs:List Expr} {wi:TI} {g:TG} {tt:TT} {te:TE}
theorem CSc.clos {pins:List (Addr × Obj)} {σ:L2.St} {H:Hp} {s:Shared} (S:CSc X scope N' sub) (I:Inv X pins σ H s):∃ cl,closureFor scope X.env = pure cl /\ (∀ x c,cl.lookup x = some c -> X.env.cells.lookup x = some c) /\ ∀ y ∈ scope.names,y.2 = .free -> ∃ c,cl.lookup y.1 = some c :=
 uy fun y hy hf=>I.ok.has y.1 (.inl (S.free y hy hf))
end
structure Blt (mg:Str -> Option Value):Prop where
 abs:mg "abs" = none
 len:mg "len" = none
 max:mg "max" = none
 min:mg "min" = none
 divmod:mg "divmod" = none
 repr:mg "repr" = none
 isinstance:mg "isinstance" = none
 all:mg "all" = none
 range:mg "range" = none
 int:mg "int" = none
 bool:mg "bool" = none
 str:mg "str" = none
 tuple:mg "tuple" = none
 list:mg "list" = none
 dict:mg "dict" = none
def sp1 (b:V -> Hp -> VK -> Prop):Sp:=fun vs H Q _=>∃ x,vs = [x] /\ b x H Q
def sp2 (b:V -> V -> Hp -> VK -> Prop):Sp:=fun vs H Q _=>∃ x y,vs = [x,y] /\ b x y H Q
def sp3 (b:V -> V -> V -> Hp -> VK -> Prop):Sp:=fun vs H Q _=>∃ x y z,vs = [x,y,z] /\ b x y z H Q
theorem yZ {b:V -> Hp -> VK -> Prop} {p:Str}:∀ vs H Q E,sp1 b vs H Q E -> vs.length = [p].length:=fun vs H Q E h=>by
 obtain ⟨x,rfl,_⟩:=h; rfl
theorem yf {b:V -> V -> Hp -> VK -> Prop} {p q:Str}:∀ vs H Q E,sp2 b vs H Q E -> vs.length = [p,q].length:=fun vs H Q E h=>by
 obtain ⟨x,y,rfl,_⟩:=h; rfl
theorem xb {b:V -> V -> V -> Hp -> VK -> Prop} {p q r:Str}:∀ vs H Q E,sp3 b vs H Q E -> vs.length = [p,q,r].length:=fun vs H Q E h=>by
 obtain ⟨x,y,z,rfl,_⟩:=h; rfl
def uz:V -> Bool
 | .int _=>true
 | _=>false
def endV:V -> Bool
 | .non=>true
 | .int _=>true
 | _=>false
def Kn (K:FG7) (H:Hp) (x:V):Prop:=∃ T,TyV K H x T
structure Deed where
 add:Int
 lo:Option Int
 hi:Option Int
 deriving DecidableEq
def ov:Option Int -> V
 | none=>.non
 | some i=>.int i
def Deed.vs (d:Deed):List V:=[.int d.add,ov d.lo,ov d.hi]
def Deed.Ok (d:Deed):Prop:=∀ l h,d.lo = some l -> d.hi = some h -> l < h \/ (l = h /\ d.add = 0)
def vG (lo:Option Int) (r:Int):Int:=match lo with
 | none=>r
 | some l=>if l > r then l else r
def tw (hi:Option Int) (r:Int):Int:=match hi with
 | none=>r
 | some h=>if h < r then h else r
def Deed.mk' (d:Deed) (v:Int):Int:=tw d.hi (vG d.lo (v + d.add))
def ordV:V -> V -> V -> Bool
 | .int a,.int l,.int h=>decide (l < h) || (decide (l = h) && decide (a = 0))
 | _,_,_=>true
def wC:List V -> Bool
 | [x,y,z]=>uz x && (endV y && (endV z && ordV x y z))
 | _=>false
theorem Za {d:Deed} (h:d.Ok):wC d.vs = true:=by
 obtain ⟨a,lo,hi⟩:=d
 cases lo with
 | none=>cases hi <;> rfl
 | some l =>
  cases hi with
  | none=>rfl
  | some u =>
   have:=h l u rfl rfl
   show (decide (l < u) || (decide (l = u) && decide (a = 0))) = true
   rcases this with q | ⟨q,q2⟩
   ·simp [q]
   ·have q2':a = 0:=q2
    simp [q,q2']
theorem Yj {x:V} (h:uz x = true):∃ i,x = .int i:=by
 cases x <;> first | exact ⟨_,rfl⟩ | cases h
theorem Vn {x:V} (h:endV x = true):∃ o,x = ov o:=by
 cases x <;> first | exact ⟨none,rfl⟩ | exact ⟨some _,rfl⟩ | cases h
theorem len3 {xs:List V} (h:xs.length = 3):∃ x y z,xs = [x,y,z]:=by
 match xs,h with
 | [x,y,z],_=>exact ⟨x,y,z,rfl⟩
theorem rZ {xs:List V} (h:xs.length ≠ 3):wC xs = false:=by
 match xs,h with
 | [],_=>rfl
 | [_],_=>rfl
 | [_,_],_=>rfl
 | [_,_,_],h=>exact absurd rfl h
 | _ :: _ :: _ :: _ :: _,_=>rfl
def yu (K:FG7) (H:Hp) (x:V) (d:Deed):Prop:=∃ a,x = .ref a /\ SqT K H a d.vs
theorem Grow.deed {m:List Addr} {H H':Hp} (g:Grow m H H') {K:FG7} {x:V} {d:Deed} (h:yu K H x d):yu K H' x d:=by
 obtain ⟨a,e,h⟩:=h
 exact ⟨a,e,g.sqT h⟩
theorem vH {K:FG7} {H:Hp} {i:Int}:Kn K H (.int i):=⟨"int",rfl⟩
theorem UV {K:FG7} {H:Hp}:Kn K H .non:=⟨"NoneType",rfl⟩
theorem UW {K:FG7} {H:Hp} (o:Option Int):Kn K H (ov o):=by cases o; exact UV; exact vH
def yg (K:FG7):Sp:=sp1 fun x H Q=>Kn K H x /\ Q (.bl (uz x)) H
def sO (K:FG7):Sp:=sp1 fun x H Q=>Kn K H x /\ Q (.bl (endV x)) H
def uA (K:FG7):Sp:=sp1 fun x H Q=>(∃ T,T ≠ "tuple" /\ TyV K H x T /\ Q (.bl false) H) \/ ∃ a xs,x = .ref a /\ SqT K H a xs /\ (∀ y ∈ xs,Kn K H y) /\ Q (.bl (wC xs)) H
def vJ (K:FG7):Sp:=sp2 fun x y H Q=>∃ d v,yu K H x d /\ y = .int v /\ Q (.int (d.mk' v)) H
def Pot (H:Hp) (a:Addr):Prop:=∃ p0 p1:Int,H a = some (.lst [.int p0,.int p1]) /\ 0 <= p0
def Sm (n:Int):Prop:=-(10 ^ 30) < n /\ n < 10 ^ 30
def Deed.Sm (d:Deed):Prop:=L3.Sm d.add /\ (∀ l,d.lo = some l -> L3.Sm l) /\ ∀ h,d.hi = some h -> L3.Sm h
def Vo (K:FG7):Sp:=sp2 fun x y H Q=>∃ a ns k,x = .ref a /\ y = .int k /\ Scr K H a ns /\ 0 <= k /\ k < 1000 /\ ∀ p H',H p = none -> Grow [] H H' -> Pot H' p -> Q (.ref p) H'
def r0 (_:FG7):Sp:=sp2 fun x y H Q=>∃ a m,x = .ref a /\ y = .int m /\ Pot H a /\ 0 < m /\ m < 2 ^ 200 /\ ∀ n H',0 <= n -> n < m -> Grow [a] H H' -> Pot H' a -> Q (.int n) H'
theorem Sm.of {n:Int} (h1:-(10 ^ 30) < n) (h2:n < 10 ^ 30):Sm n:=⟨h1,h2⟩
def jf (K:FG7):Sp:=sp1 fun x H Q=>∃ a ns,x = .ref a /\ Scr K H a ns /\ ns.length <= 63 /\ ∀ H',Q (.bl true) H'
theorem szl {n:Nat} (h:Nat.ble n 1000 = true):n <= sizeLine:=Nat.le_of_lt (xz (Nat.le_of_ble_eq_true h))
theorem Grow.shrink {H H':Hp} {l:Addr} (h:H l = none) (g:Grow [l] H H'):Grow [] H H' :=
 ⟨fun b o _ q=>g.keep b o (fun z=>by rw [List.mem_singleton.mp z] at q; rw [h] at q; cases q) q,g.tup,g.frz⟩
theorem Grow.wk {m:List Addr} {H H':Hp} (g:Grow [] H H'):Grow m H H':=g.mono (by simp)
theorem Pot.grow {H H':Hp} {a:Addr} (p:Pot H a) (g:Grow [] H H'):Pot H' a:=by
 obtain ⟨u0,u1,hu,hn⟩:=p
 exact ⟨u0,u1,g.keep _ _ (by simp) hu,hn⟩
theorem Pot.new {H:Hp} {a l:Addr} (p:Pot H a) (hl:H l = none) (o:HO):Pot (upd H l o) a:=p.grow (Grow.new hl o)
theorem sP {i j:Int} (h2:-(2 ^ 60) < j /\ j < 2 ^ 60):IntMulOk i j:=PySem.IntMulOk.of_right (Nat.le_trans ((PySem.intBits_le_iff (m:=60)).mpr (by obtain ⟨a,b⟩:=h2; omega)) (by decide))
def eqVs:List V -> List V -> Bool
 | [],[]=>true
 | x :: xs,y :: ys=>eqV x y && eqVs xs ys
 | _,_=>false
theorem tD:∀ {xs ys:List V},eqVs xs ys = true -> xs.length = ys.length
 | [],[],_=>rfl
 | x :: xs,y :: ys,h=>by
  have h':(eqV x y && eqVs xs ys) = true:=h
  rw [Bool.and_eq_true] at h'
  simp [tD h'.2]
 | [],_ :: _,h=>by cases h
 | _ :: _,[],h=>by cases h
theorem jg:∀ {xs ys:List V},eqVs xs ys = true ↔ xs.length = ys.length /\ ∀ (j:Nat) (x y:V),xs[j]? = some x -> ys[j]? = some y -> eqV x y = true
 | [],[]=>by simp [eqVs]
 | x :: xs,y :: ys=>by
  show (eqV x y && eqVs xs ys) = true ↔ _
  rw [Bool.and_eq_true,jg]
  constructor
  ·rintro ⟨h1,h2,h3⟩
   refine ⟨by simp [h2],fun j a b ha hb=>?_⟩
   cases j with
   | zero=>simp at ha hb; subst ha hb; exact h1
   | succ j=>exact h3 j a b (by simpa using ha) (by simpa using hb)
  ·rintro ⟨h1,h2⟩
   exact ⟨h2 0 x y rfl rfl,by simpa using h1,fun j a b ha hb=>h2 (j + 1) a b (by simpa using ha) (by simpa using hb)⟩
 | [],_ :: _=>by simp [eqVs]
 | _ :: _,[]=>by simp [eqVs]
theorem wD {xs ys:List V}:((List.range (min xs.length ys.length)).all (fun j=>match xs[j]?,ys[j]? with | some x,some y=>eqV x y | _,_=>true) && xs.length == ys.length) = eqVs xs ys:=by
 rw [Bool.eq_iff_iff,Bool.and_eq_true,List.all_eq_true,beq_iff_eq,jg]
 constructor
 ·rintro ⟨h1,h2⟩
  refine ⟨h2,fun j x y hx hy=>?_⟩
  have hj:j < xs.length:=(List.getElem?_eq_some_iff.mp hx).1
  have:=h1 j (List.mem_range.mpr (by rw [← h2]; simpa using hj))
  rw [hx,hy] at this
  exact this
 ·rintro ⟨h1,h2⟩
  refine ⟨fun j hj=>?_,h1⟩
  have hj':=List.mem_range.mp hj
  have a:j < xs.length:=by omega
  have b:j < ys.length:=by omega
  rw [List.getElem?_eq_getElem a,List.getElem?_eq_getElem b]
  exact h2 j _ _ (List.getElem?_eq_getElem a) (List.getElem?_eq_getElem b)
theorem r9 {xs:List V} {us:List Value} (r:Vals xs us) (j:Nat) (h:j < us.length):∃ x,xs[j]? = some x /\ RelV x us[j]:=by
 have hl:=r.length
 have hx:xs[j]? = some xs[j]:=List.getElem?_eq_getElem (by omega)
 obtain ⟨u,e,q⟩:=r.get hx
 rw [List.getElem?_eq_getElem h] at e
 cases e
 exact ⟨_,hx,q⟩
theorem Yk {A:Around} {s:Shared} {xs ys:List V} {us ws:List Value} (r1:Vals xs us) (r2:Vals ys ws) (f1:xs.all vD = true) (f2:ys.all vD = true) :
  ∀ j (h1:j < us.toArray.size) (h2:j < ws.toArray.size),SeqAt.EqAt A s us.toArray[j] ws.toArray[j] ((fun j=>match xs[j]?,ys[j]? with | some x,some y=>eqV x y | _,_=>true) j):=by
 intro j h1 h2
 obtain ⟨x,ex,qx⟩:=r9 r1 j (by simpa using h1)
 obtain ⟨y,ey,qy⟩:=r9 r2 j (by simpa using h2)
 have fx:vD x = true:=List.all_eq_true.mp f1 x (List.mem_of_getElem? ex)
 have fy:vD y = true:=List.all_eq_true.mp f2 y (List.mem_of_getElem? ey)
 show SeqAt.EqAt A s _ _ (match xs[j]?,ys[j]? with | some x,some y=>eqV x y | _,_=>true)
 rw [ex,ey]
 simpa using UP qx qy fx fy
section
variable {X:Cx}
theorem ym {h:Heap} {a:Addr} {its:Array Value} (t:IsTup h a its):h.IsTuple a its:=t
end
section
variable {X:Cx} {pos:Pos}
theorem vK:∀ {bs:List Bool} {us:List Value},Vals (bs.map V.bl) us -> LSm.BoolsAre us bs
 | [],_,.nil=>.nil
 | b :: bs,_,.cons r t=>by
  cases r
  exact .cons b (vK t)
theorem y7 (hcalm:X.calm = true):yM X (.builtin "all") (fun xs H Q=>∃ (l:Addr) (bs:List Bool),xs = [.ref l] /\ SqL X.K H l (bs.map V.bl) /\ Q (.bl (bs.all id)) H):=by
 intro pins s σ H xs us Q I r h
 obtain ⟨l,bs,rfl,hl,q⟩:=h
 obtain ⟨u,rfl,rx⟩:=wa r
 cases (show u = Value.ref l from rx)
 obtain ⟨vs,rv,pl,_⟩:=I.list hl
 have hl':s.heap.IsList l vs.toArray:=pl.isList
 have hb:LSm.BoolsAre vs bs:=vK rv
 have hlt:l < s.heap.objs.size:=by obtain ⟨_,e,_⟩:=hl'; exact Heap.lt_size e
 refine call_all_walk (wpAny_pyIter_list hl' ?_)
 refine ⟨s.heap.objs.size,[s.heap.objs.size,l],[s.heap.objs.size],vs.toArray.size,_,_,fun i=>(bs[i]?).getD true,rfl,Walks.list (A:=X.A.in1) (I.ok.hd hcalm) _ l (Nat.ne_of_lt hlt) vs.toArray,
  ⟨⟨_,Heap.get?_push_size _ rfl,rfl,rfl⟩,hl'.push _⟩,fun i v s' Q' E' hP hQ=>?_,fun h' tk hk=>?_⟩
 ·obtain ⟨b,e,rfl⟩:=hb.get i v (by simpa using hP)
  simp only [e,Option.getD_some] at hQ
  exact wpAny_truthy_bool hQ
 ·have e:((List.range vs.toArray.size).all fun i=>(bs[i]?).getD true) = bs.all id:=by
   have hlen:bs.length = vs.length:=by rw [← rv.length,List.length_map]
   rw [List.size_toArray,← hlen,Bool.eq_iff_iff,List.all_eq_true,List.all_eq_true]
   constructor
   ·intro z b hb'
    obtain ⟨i,hi,rfl⟩:=List.getElem_of_mem hb'
    have:=z i (List.mem_range.mpr hi)
    simpa [List.getElem?_eq_getElem hi] using this
   ·intro z i hi
    have hi':=List.mem_range.mp hi
    simpa [List.getElem?_eq_getElem hi'] using z _ (List.getElem_mem hi')
  rw [e]
  exact ⟨.bl (bs.all id),H,I.kept (t':=tk) (h':=h') (LSm.kept_iter hk),rfl,q⟩
end
theorem CSc.of {X:Cx} {scope:Scope} {N':List Str} {sub:List (Option Nat)} (sc:Scope) (NN:List Str) (e:X.env.scope = sc) (en:X.N = NN)
  (h:((scope.names.all fun y=>(y.2 != .free || sc.names.lookup y.1 == some .cell) && (y.2 != .cell) && (y.2 != .local || scope.names.lookup y.1 == some .local)) && (sub.length == N'.length) &&
   ((N'.zip sub).all fun p=>match p.2 with | none=>true | some i=>NN[i]? == some p.1 && sc.names.lookup p.1 == some .cell && scope.names.lookup p.1 == some .free)) = true)
  (hk:scope.kind = .function):CSc X scope N' sub:=by
 rw [Bool.and_eq_true,Bool.and_eq_true] at h
 obtain ⟨⟨h1,h2⟩,h3⟩:=h
 have k1:=fun y hy=>List.all_eq_true.mp h1 y hy
 refine ⟨fun y hy hf=>?_,fun y hy hc=>?_,hk,fun y hy hl=>?_,by simpa using h2,fun j y i hj hs=>?_⟩
 ·have:=k1 y hy
  simp only [hf,Bool.and_eq_true] at this
  have z:=this.1.1
  show X.env.scope.names.lookup y.1 = _
  rw [e]; simpa using z
 ·have:=k1 y hy
  simp only [hc,Bool.and_eq_true] at this
  simp at this
 ·have:=k1 y hy
  simp only [hl,Bool.and_eq_true] at this
  simpa using this.2
 ·have hm:(y,some i) ∈ N'.zip sub:=by
   have:(N'.zip sub)[j]? = some (y,some i):=by
    rw [List.getElem?_zip_eq_some]; exact ⟨hj,hs⟩
   exact List.mem_of_getElem? this
  have:=List.all_eq_true.mp h3 _ hm
  simp only [Bool.and_eq_true,beq_iff_eq] at this
  rw [e,en]
  exact ⟨this.1.1,this.1.2,this.2⟩
def Sv (a:Int) (lo hi:Option Int):Deed:=if lo ≠ none /\ lo = hi then ⟨0,lo,hi⟩ else ⟨a,lo,hi⟩
def thrO (e:Deed) (o:Option Int) (d:Option Int):Option Int:=match o with
 | none=>d
 | some l=>some (e.mk' l)
def UX (d e:Deed):Deed:=Sv (d.add + e.add) (thrO e d.lo e.lo) (thrO e d.hi e.hi)
def Deed.Bd (B:Int) (d:Deed):Prop:=(-B <= d.add /\ d.add <= B) /\ (∀ l,d.lo = some l -> -B <= l /\ l <= B) /\ ∀ h,d.hi = some h -> -B <= h /\ h <= B
theorem Sw (a v:Int):(Deed.mk a none none).mk' v = v + a:=rfl
theorem Sx (a l v:Int):(Deed.mk a (some l) none).mk' v = if l > v + a then l else v + a:=rfl
theorem Sy (a h v:Int):(Deed.mk a none (some h)).mk' v = if h < v + a then h else v + a:=rfl
theorem Sz (a l h v:Int):(Deed.mk a (some l) (some h)).mk' v = if h < (if l > v + a then l else v + a) then h else (if l > v + a then l else v + a):=rfl
def optA (o:Option Int):Int:=match o with | none=>0 | some i=>(i.natAbs:Int)
def Deed.big (d:Deed):Int:=(d.add.natAbs:Int) + optA d.lo + optA d.hi + 1
theorem SA {e:Deed} {B C:Int} (b:e.Bd B) (hB:0 <= B) {v:Int} (h1:-C <= v) (h2:v <= C) (hC:0 <= C):-(B + C) <= e.mk' v /\ e.mk' v <= B + C:=by
 obtain ⟨a,lo,hi⟩:=e
 obtain ⟨⟨b1,b2⟩,b3,b4⟩:=b
 have b1':-B <= a:=b1
 have b2':a <= B:=b2
 cases lo with
 | none =>
  cases hi with
  | none=>rw [Sw]; omega
  | some h=>have:=b4 h rfl; rw [Sy]; split <;> omega
 | some l =>
  have:=b3 l rfl
  cases hi with
  | none=>rw [Sx]; split <;> omega
  | some h=>have:=b4 h rfl; rw [Sz]; (repeat' split) <;> omega
theorem Deed.Sm.bd {d:Deed} (h:d.Sm):d.Bd (10 ^ 30):=by
 obtain ⟨⟨a1,a2⟩,h1,h2⟩:=h
 exact ⟨⟨by omega,by omega⟩,fun l e=>by have:=h1 l e; exact ⟨by have:=this.1; omega,by have:=this.2; omega⟩,fun l e=>by have:=h2 l e; exact ⟨by have:=this.1; omega,by have:=this.2; omega⟩⟩
theorem xK {c:Bool} {A B:Prop} (e:c = false) (h:B):if c = true then A else B:=by rw [e]; exact iteF h
theorem xT {c:Bool} {A B:Prop} (e:c = true) (h:A):if c = true then A else B:=by rw [e]; exact iteT h
theorem tE {K:FG7} {a:Addr} {xs:List V} {g:TG} {tt:TT} {te:TE} {Q:VK} {σ:L2.St} {H:Hp} (Pv:Nat -> List V -> L2.St -> Hp -> Prop) (h0:Pv 0 [] σ H) (hl:∀ i ys σ H,i <= xs.length -> Pv i ys σ H -> SqT K H a xs)
  (hs:∀ i x ys σ H,xs[i]? = some x -> Pv i ys σ H -> g x σ H fun σ2 H3=>tt σ2 H3 fun b H4=>if b = true then te σ2 H4 fun y H5=>ys.length < sizeLine /\ Pv (i + 1) (ys ++ [y]) σ2 H5 else Pv (i + 1) ys σ2 H4)
  (hd:∀ ys σ H,Pv xs.length ys σ H -> ∀ l,H l = none -> Q (.ref l) (upd H l (.lst ys))) :
  wc (Itt K a) σ H g tt te Q:=by
 refine ⟨fun i m ys σ H=>m = xs.length - i /\ i <= xs.length /\ Pv i ys σ H,⟨xs.length,by simp,Nat.zero_le _,h0⟩,?_⟩
 rintro i m ys σ H ⟨rfl,hi,p⟩
 have q:=hl i ys σ H hi p
 by_cases hlt:i < xs.length
 ·refine .inr ⟨⟨xs,xs[i],q,by simp [hlt]⟩,Pv (i + 1),fun zs σ' H' p'=>⟨xs.length - (i + 1),by omega,rfl,hlt,p'⟩,fun x H' y=>?_⟩
  obtain ⟨e,y⟩:=y
  subst e
  exact hs i x ys σ _ (y xs q) p
 ·have e:i = xs.length:=by omega
  subst e
  exact .inl ⟨⟨xs,q,Nat.le_refl _⟩,hd ys σ H p⟩
theorem sQ {K:FG7} {a:Addr} {xs:List V} {g:TG} {tt:TT} {te:TE} {Q:VK} {σ:L2.St} {H:Hp} (Pv:Nat -> List V -> L2.St -> Hp -> Prop) (h0:Pv 0 [] σ H) (hl:∀ i ys σ H,i <= xs.length -> Pv i ys σ H -> SqL K H a xs)
  (hs:∀ i x ys σ H,xs[i]? = some x -> Pv i ys σ H -> g x σ H fun σ2 H3=>tt σ2 H3 fun b H4=>if b = true then te σ2 H4 fun y H5=>ys.length < sizeLine /\ Pv (i + 1) (ys ++ [y]) σ2 H5 else Pv (i + 1) ys σ2 H4)
  (hd:∀ ys σ H,Pv xs.length ys σ H -> ∀ l,H l = none -> Q (.ref l) (upd H l (.lst ys))) :
  wc (Itl K a) σ H g tt te Q:=by
 refine ⟨fun i m ys σ H=>m = xs.length - i /\ i <= xs.length /\ Pv i ys σ H,⟨xs.length,by simp,Nat.zero_le _,h0⟩,?_⟩
 rintro i m ys σ H ⟨rfl,hi,p⟩
 have q:=hl i ys σ H hi p
 by_cases hlt:i < xs.length
 ·refine .inr ⟨⟨xs,xs[i],q,by simp [hlt]⟩,Pv (i + 1),fun zs σ' H' p'=>⟨xs.length - (i + 1),by omega,rfl,hlt,p'⟩,fun x H' y=>?_⟩
  obtain ⟨e,y⟩:=y
  subst e
  exact hs i x ys σ _ (y xs q) p
 ·have e:i = xs.length:=by omega
  subst e
  exact .inl ⟨⟨xs,q,Nat.le_refl _⟩,hd ys σ H p⟩
theorem yd {X:Cx} {K:FG7} (h:X.K = K):IxR X (rIxT K):=by subst h; exact zX
theorem Wm {X:Cx} {K:FG7} (h:X.K = K):IxR X (rIxL K):=by subst h; exact yE
theorem Deed.Bd.mono {d:Deed} {B C:Int} (b:d.Bd B) (h:B <= C):d.Bd C:=by
 obtain ⟨⟨b1,b2⟩,b3,b4⟩:=b
 exact ⟨⟨by omega,by omega⟩,fun l e=>by have:=b3 l e; omega,fun l e=>by have:=b4 l e; omega⟩
section
variable {X:Cx}
def rEqL (K:FG7) (neg:Bool):R2:=fun x y H Q=>∃ a b xs ys,x = .ref a /\ y = .ref b /\ SqL K H a xs /\ SqL K H b ys /\ xs.all vD = true /\ ys.all vD = true /\ Q (.bl (if neg then !eqVs xs ys else eqVs xs ys)) H
theorem UY {k:Nat} (hr:Room k X.A):OpR X (compareOp .NotEq) (rEqL X.K true):=by
 intro pins s σ H x y v u Q I rx ry h
 obtain ⟨a,b,xs,ys,rfl,rfl,ha,hb,f1,f2,q⟩:=h
 cases rx; cases ry
 obtain ⟨us,r1,t1,_⟩:=I.list ha
 obtain ⟨ws,r2,t2,_⟩:=I.list hb
 by_cases hl:us.length = ws.length
 ·refine SeqAt.RcNeAt.lists t1.isList t2.isList (by simpa using hl) hr.units0 (Yk r1 r2 f1 f2) _ _ _ _ ?_
  have e:=wD (xs:=xs) (ys:=ys)
  have e2:(xs.length == ys.length) = true:=by rw [beq_iff_eq,r1.length,r2.length]; exact hl
  rw [e2,Bool.and_true,show min xs.length ys.length = xs.length by rw [r1.length,r2.length]; omega] at e
  rw [List.size_toArray,← r1.length,e]
  exact ⟨.bl _,H,I,rfl,q⟩
 ·refine SeqAt.RcNeAt.lists_lengths t1.isList t2.isList (by simpa using hl) hr.units0 _ _ _ _ ?_
  have e:eqVs xs ys = false:=by
   cases z:eqVs xs ys with
   | false=>rfl
   | true=>exact absurd (by rw [← r1.length,← r2.length]; exact tD z) hl
  rw [e] at q
  exact ⟨.bl _,H,I,rfl,q⟩
theorem UZ {k:Nat} (hr:Room k X.A):OpR X (compareOp .Eq) (rEqL X.K false):=by
 intro pins s σ H x y v u Q I rx ry h
 obtain ⟨a,b,xs,ys,rfl,rfl,ha,hb,f1,f2,q⟩:=h
 cases rx; cases ry
 obtain ⟨us,r1,t1,_⟩:=I.list ha
 obtain ⟨ws,r2,t2,_⟩:=I.list hb
 by_cases hl:us.length = ws.length
 ·refine SeqAt.eq_listAt t1.isList t2.isList (by simpa using hl) hr.units0 (Yk r1 r2 f1 f2) ?_
  have e:=wD (xs:=xs) (ys:=ys)
  have e2:(xs.length == ys.length) = true:=by rw [beq_iff_eq,r1.length,r2.length]; exact hl
  rw [e2,Bool.and_true,show min xs.length ys.length = xs.length by rw [r1.length,r2.length]; omega] at e
  rw [List.size_toArray,← r1.length,e]
  exact ⟨.bl _,H,I,rfl,q⟩
 ·refine SeqAt.eq_list_lengthsAt t1.isList t2.isList (by simpa using hl) hr.units0 ?_
  have e:eqVs xs ys = false:=by
   cases z:eqVs xs ys with
   | false=>rfl
   | true=>exact absurd (by rw [← r1.length,← r2.length]; exact tD z) hl
  rw [e] at q
  exact ⟨.bl _,H,I,rfl,q⟩
end
theorem VS {i j:Int}:eqV (.int i) (.int j) = decide (i = j):=by rw [Bool.eq_iff_iff]; simp [eqV]
theorem we:∀ {xs ys:List Int},eqVs (xs.map V.int) (ys.map V.int) = decide (xs = ys)
 | [],[]=>rfl
 | x :: xs,y :: ys=>by
  show (eqV (.int x) (.int y) && eqVs (xs.map V.int) (ys.map V.int)) = _
  rw [VS,we,Bool.eq_iff_iff]
  simp
 | [],_ :: _=>by simp [eqVs]
 | _ :: _,[]=>by simp [eqVs]
theorem sR {xs:List Int}:(xs.map V.int).all vD = true:=by
 rw [List.all_eq_true]; intro x hx; obtain ⟨i,_,rfl⟩:=List.mem_map.mp hx; rfl
theorem Grow.sqL {H H':Hp} (g:Grow [] H H') {K:FG7} {a:Addr} {xs:List V} (h:SqL K H a xs):SqL K H' a xs:=by
 rcases h with (h | ⟨o,h⟩) | h
 ·exact .inl (.inl (g.keep _ _ (by simp) h))
 ·exact .inl (.inr ⟨o,g.frz _ _ _ h⟩)
 ·exact .inr h
section
variable {K:FG7} {a:Addr} {xs:List V} {n:Nat} {tt:TT} {te:TE} {Q:VK} {σ:L2.St} {H:Hp}
theorem wf {p:V -> Bool} {f:V -> V} {i:Nat} {x:V} (hx:xs[i]? = some x):((xs.take (i + 1)).filter p).map f = ((xs.take i).filter p).map f ++ (if p x = true then [f x] else []):=by
 rw [List.take_add_one,hx,List.filter_append,List.map_append]
 congr 1
 show ((([x]:List V)).filter p).map f = _
 by_cases c:p x = true
 ·rw [if_pos c,List.filter_cons_of_pos c]; rfl
 ·rw [if_neg c,List.filter_cons_of_neg c]; rfl
theorem jh {p:V -> Bool} {f:V -> V} {i:Nat} (h:xs.length <= 1000):(((xs.take i).filter p).map f).length < sizeLine:=by
 rw [List.length_map]
 refine xz ?_
 have:=List.length_filter_le p (xs.take i)
 have:=List.length_take_le i xs
 have:(xs.take i).length <= xs.length:=by rw [List.length_take]; omega
 omega
theorem ji {p:V -> Bool} {f:V -> V}:((xs.take xs.length).filter p).map f = (xs.filter p).map f:=by rw [List.take_length]
theorem Zb (p:V -> Bool) (f:V -> V) (hl:SqL K H a xs) (hlen:xs.length <= 1000)
  (ht:∀ x H' (R:Bool -> Hp -> Prop),x ∈ xs -> Grow [] H H' -> (∀ H2,Grow [] H' H2 -> R (p x) H2) -> tt (σ.set n (some x)) H' R)
  (hs:∀ x H' (R:VK),x ∈ xs -> p x = true -> Grow [] H H' -> (∀ H2,Grow [] H' H2 -> R (f x) H2) -> te (σ.set n (some x)) H' R)
  (hd:∀ H' l,Grow [] H H' -> H' l = none -> Q (.ref l) (upd H' l (.lst ((xs.filter p).map f)))):wc (Itl K a) σ H (x9 n) tt te Q:=by
 refine sQ (xs:=xs) (fun i ys σ' H'=>Grow [] H H' /\ (σ' = σ \/ ∃ e,σ' = σ.set n e) /\ ys = ((xs.take i).filter p).map f) ⟨Grow.refl _ _,.inl rfl,rfl⟩ ?_ ?_ ?_
 ·rintro i ys σ' H' _ ⟨g,_⟩
  exact g.sqL hl
 ·rintro i x ys σ' H' hx ⟨g,hσ,rfl⟩
  have e:σ'.set n (some x) = σ.set n (some x):=by
   rcases hσ with rfl | ⟨e,rfl⟩
   ·rfl
   ·rw [List.set_set]
  show tt (σ'.set n (some x)) H' _
  rw [e]
  refine ht x H' _ (List.mem_of_getElem? hx) g fun H2 g2=>?_
  by_cases c:p x = true
  ·rw [if_pos c]
   refine hs x H2 _ (List.mem_of_getElem? hx) c (g.trans g2) fun H3 g3=>⟨jh hlen,(g.trans g2).trans g3,.inr ⟨_,rfl⟩,?_⟩
   rw [wf hx,if_pos c]
  ·rw [if_neg c]
   refine ⟨g.trans g2,.inr ⟨_,rfl⟩,?_⟩
   rw [wf hx,if_neg c,List.append_nil]
 ·rintro ys σ' H' ⟨g,_,rfl⟩ l hl
  rw [ji]
  exact hd H' l g hl
theorem uB (p:V -> Bool) (f:V -> V) (hl:SqT K H a xs) (hlen:xs.length <= 1000)
  (ht:∀ x H' (R:Bool -> Hp -> Prop),x ∈ xs -> Grow [] H H' -> (∀ H2,Grow [] H' H2 -> R (p x) H2) -> tt (σ.set n (some x)) H' R)
  (hs:∀ x H' (R:VK),x ∈ xs -> p x = true -> Grow [] H H' -> (∀ H2,Grow [] H' H2 -> R (f x) H2) -> te (σ.set n (some x)) H' R)
  (hd:∀ H' l,Grow [] H H' -> H' l = none -> Q (.ref l) (upd H' l (.lst ((xs.filter p).map f)))):wc (Itt K a) σ H (x9 n) tt te Q:=by
 refine tE (xs:=xs) (fun i ys σ' H'=>Grow [] H H' /\ (σ' = σ \/ ∃ e,σ' = σ.set n e) /\ ys = ((xs.take i).filter p).map f) ⟨Grow.refl _ _,.inl rfl,rfl⟩ ?_ ?_ ?_
 ·rintro i ys σ' H' _ ⟨g,_⟩
  exact g.sqT hl
 ·rintro i x ys σ' H' hx ⟨g,hσ,rfl⟩
  have e:σ'.set n (some x) = σ.set n (some x):=by
   rcases hσ with rfl | ⟨e,rfl⟩
   ·rfl
   ·rw [List.set_set]
  show tt (σ'.set n (some x)) H' _
  rw [e]
  refine ht x H' _ (List.mem_of_getElem? hx) g fun H2 g2=>?_
  by_cases c:p x = true
  ·rw [if_pos c]
   refine hs x H2 _ (List.mem_of_getElem? hx) c (g.trans g2) fun H3 g3=>⟨jh hlen,(g.trans g2).trans g3,.inr ⟨_,rfl⟩,?_⟩
   rw [wf hx,if_pos c]
  ·rw [if_neg c]
   refine ⟨g.trans g2,.inr ⟨_,rfl⟩,?_⟩
   rw [wf hx,if_neg c,List.append_nil]
 ·rintro ys σ' H' ⟨g,_,rfl⟩ l hl
  rw [ji]
  exact hd H' l g hl
theorem jj {p:V -> Bool} (h:∀ x,p x = true):xs.filter p = xs:=List.filter_eq_self.mpr fun x _=>h x
theorem Yl (f:V -> V) (hl:SqL K H a xs) (hlen:xs.length <= 1000)
  (hs:∀ x H' (R:VK),x ∈ xs -> Grow [] H H' -> (∀ H2,Grow [] H' H2 -> R (f x) H2) -> te (σ.set n (some x)) H' R)
  (hd:∀ H' l,Grow [] H H' -> H' l = none -> Q (.ref l) (upd H' l (.lst (xs.map f)))):wc (Itl K a) σ H (x9 n) rY te Q :=
 Zb (fun _=>true) f hl hlen (fun x H' R _ _ k=>k H' (Grow.refl _ _)) (fun x H' R hx _ g k=>hs x H' R hx g k) (fun H' l g hl=>by rw [jj fun _=>rfl]; exact hd H' l g hl)
theorem vL (f:V -> V) (hl:SqT K H a xs) (hlen:xs.length <= 1000)
  (hs:∀ x H' (R:VK),x ∈ xs -> Grow [] H H' -> (∀ H2,Grow [] H' H2 -> R (f x) H2) -> te (σ.set n (some x)) H' R)
  (hd:∀ H' l,Grow [] H H' -> H' l = none -> Q (.ref l) (upd H' l (.lst (xs.map f)))):wc (Itt K a) σ H (x9 n) rY te Q :=
 uB (fun _=>true) f hl hlen (fun x H' R _ _ k=>k H' (Grow.refl _ _)) (fun x H' R hx _ g k=>hs x H' R hx g k) (fun H' l g hl=>by rw [jj fun _=>rfl]; exact hd H' l g hl)
def vi (f:Int -> Int):V -> V
 | .int i=>.int (f i)
 | v=>v
theorem U0 (f:Int -> Int) (ns:List Int):(ns.map V.int).map (vi f) = (ns.map f).map V.int:=by
 rw [List.map_map,List.map_map]; rfl
theorem Zc {ns:List Int} (f:Int -> Int) (hl:SqL K H a (ns.map V.int)) (hlen:ns.length <= 1000)
  (hs:∀ i H' (R:VK),i ∈ ns -> Grow [] H H' -> (∀ H2,Grow [] H' H2 -> R (.int (f i)) H2) -> te (σ.set n (some (.int i))) H' R)
  (hd:∀ H' l,Grow [] H H' -> H' l = none -> Q (.ref l) (upd H' l (.lst ((ns.map f).map V.int)))):wc (Itl K a) σ H (x9 n) rY te Q :=
 Yl (vi f) hl (by rw [List.length_map]; exact hlen) (fun x H' R hx g k=>by obtain ⟨i,hi,rfl⟩:=List.mem_map.mp hx; exact hs i H' R hi g k) (fun H' l g hl=>by rw [U0]; exact hd H' l g hl)
end
theorem nd {d e:Deed} (h:d = e):(!decide (d = e)) = false:=by rw [decide_eq_true h]; rfl
mutual
inductive Dat (K:FG7) (H:Hp):V -> PyData -> Prop
 | non:Dat K H .non .none
 | bl (b:Bool):Dat K H (.bl b) (.bool b)
 | int (i:Int):Dat K H (.int i) (.int i)
 | tup {a:Addr} {xs:List V} {ds:List PyData}:SqT K H a xs -> DatAll K H xs ds -> Dat K H (.ref a) (.tuple ds)
 | lst {a:Addr} {xs:List V} {ds:List PyData}:SqL K H a xs -> DatAll K H xs ds -> Dat K H (.ref a) (.list ds)
inductive DatAll (K:FG7) (H:Hp):List V -> List PyData -> Prop
 | nil:DatAll K H [] []
 | cons {x:V} {xs:List V} {d:PyData} {ds:List PyData}:Dat K H x d -> DatAll K H xs ds -> DatAll K H (x :: xs) (d :: ds)
end
section
variable {X:Cx} {pins:List (Addr × Obj)} {σ:L2.St} {H:Hp} {s:Shared}
mutual
theorem Dat.reads (I:Inv X pins σ H s):∀ {x:V} {d:PyData} {u:Value},Dat X.K H x d -> RelV x u -> ∃ as,Reads s.heap u d as
 | _,_,u,.non,r=>by
  cases (show u = Value.none from r)
  exact ⟨_,.none⟩
 | _,_,u,.bl b,r=>by
  cases (show u = Value.bool b from r)
  exact ⟨_,.bool b⟩
 | _,_,u,.int i,r=>by
  obtain ⟨t,rfl⟩:=r
  exact ⟨_,.int i t⟩
 | _,_,u,.tup (a:=a) hs hd,r=>by
  cases (show u = Value.ref a from r)
  obtain ⟨its,r1,⟨o,e1,e2,n,e3⟩,_⟩:=I.tuple hs
  obtain ⟨as,q⟩:=DatAll.reads I hd r1
  exact ⟨_,.tuple e1 e2 e3 q⟩
 | _,_,u,.lst (a:=a) hs hd,r=>by
  cases (show u = Value.ref a from r)
  obtain ⟨its,r1,⟨o,n,e1,e2,_,e3⟩,_⟩:=I.list hs
  obtain ⟨as,q⟩:=DatAll.reads I hd r1
  exact ⟨_,.list e1 e2 e3 q⟩
theorem DatAll.reads (I:Inv X pins σ H s):∀ {xs:List V} {ds:List PyData} {us:List Value},DatAll X.K H xs ds -> Vals xs us -> ∃ as,ReadsAll s.heap us ds as
 | _,_,_,.nil,.nil=>⟨_,.nil⟩
 | _,_,_,.cons h t,.cons r rs=>by
  obtain ⟨as,q⟩:=Dat.reads I h r
  obtain ⟨bs,q2⟩:=DatAll.reads I t rs
  exact ⟨_,.cons q q2⟩
end
end
mutual
/-- a bound of the text's length -/
def wtD:PyData -> Nat
 | .list xs | .tuple xs=>wtAll xs + 3
 | .int _=>1921
 | .none | .bool _=>5
 | _=>20000000
def wtAll:List PyData -> Nat
 | []=>0
 | x :: xs=>wtD x + 2 + wtAll xs
end
mutual
theorem shown_wt:∀ {d:PyData},d.showable = true -> d.hasDict = false -> wtD d <= 16777216 -> d.shown.length <= wtD d
 | .none,_,_,_=>by decide
 | .bool b,_,_,_=>by cases b <;> decide
 | .int i,h,_,_=>int_text_len_1921 (of_decide_eq_true h)
 | .str _,_,_,z=>absurd (show 20000000 <= 16777216 from z) (by decide)
 | .list xs,h,h2,z=>by
  have z':wtAll xs + 3 <= 16777216:=z
  have q:=shown_wtAll (xs:=xs) h h2 (by omega)
  have l:=listText_len_le (PyData.shownAll xs)
  show (listText (PyData.shownAll xs)).length <= wtAll xs + 3
  omega
 | .tuple xs,h,h2,z=>by
  have z':wtAll xs + 3 <= 16777216:=z
  have q:=shown_wtAll (xs:=xs) h h2 (by omega)
  have l:=tupleText_len_le (PyData.shownAll xs)
  show (tupleText (PyData.shownAll xs)).length <= wtAll xs + 3
  omega
 | .dict _,_,h,_=>by cases h
theorem shown_wtAll:∀ {xs:List PyData},PyData.showableAll xs = true -> PyData.hasDictAll xs = false -> wtAll xs <= 16777216 -> ((PyData.shownAll xs).map (·.length)).sum + 2 * (PyData.shownAll xs).length <= wtAll xs
 | [],_,_,_=>by decide
 | x :: xs,h,h2,z=>by
  have h':(x.showable && PyData.showableAll xs) = true:=h
  have h2':(x.hasDict || PyData.hasDictAll xs) = false:=h2
  rw [Bool.and_eq_true] at h'
  rw [Bool.or_eq_false_iff] at h2'
  have z':wtD x + 2 + wtAll xs <= 16777216:=z
  have q1:=shown_wt (d:=x) h'.1 h2'.1 (by omega)
  have q2:=shown_wtAll (xs:=xs) h'.2 h2'.2 (by omega)
  show (x.shown.length :: (PyData.shownAll xs).map (·.length)).sum + 2 * ((PyData.shownAll xs).length + 1) <= wtD x + 2 + wtAll xs
  rw [List.sum_cons]
  omega
end
theorem Zd {d:PyData} (h1:d.showable = true) (h2:d.hasDict = false) (h3:wtD d <= 16777216):d.shown.length <= sizeLine:=by
 rw [sizeLine_eq]; exact Nat.le_trans (shown_wt h1 h2 h3) h3
abbrev Span:=Option (Option Int × Option Int)
def Vp (K:FG7) (H:Hp) (x:V):Span -> Prop
 | none=>x = .non
 | some (l,h)=>∃ a,x = .ref a /\ SqT K H a [ov l,ov h]
def oD:Option Int -> PyData
 | none=>.none
 | some i=>.int i
def SB:Span -> PyData
 | none=>.none
 | some (l,h)=>.tuple [oD l,oD h]
theorem jk {K:FG7} {H:Hp} (o:Option Int):Dat K H (ov o) (oD o):=by cases o; exact .non; exact .int _
theorem Vp.dat {K:FG7} {H:Hp} {x:V} {sp:Span} (h:Vp K H x sp):Dat K H x (SB sp):=by
 match sp,h with
 | none,h=>cases (show x = .non from h); exact .non
 | some (l,u),⟨a,e,q⟩=>subst e; exact .tup q (.cons (jk l) (.cons (jk u) .nil))
theorem sS {α:Type} (xs:List α):(xs.map (fun _=>true)).all id = true:=by rw [List.all_eq_true]; intro x hx; obtain ⟨_,_,rfl⟩:=List.mem_map.mp hx; rfl
theorem jl (gs:List Int):(gs.map V.int).map (fun _=>V.bl true) = (gs.map (fun _=>true)).map V.bl:=by rw [List.map_map,List.map_map]; rfl
section
variable {K:FG7} {a:Addr} {xs:List V} {lo:Int} {n k:Nat} {te:TE} {Q:VK} {σ:L2.St} {H:Hp}
theorem tF (Pv:Nat -> List V -> Hp -> Prop) (h0:Pv 0 [] H)
  (hs:∀ i ys H',i < n -> Pv i ys H' -> te (σ.set k (some (.int (lo + i)))) H' fun y H5=>ys.length < sizeLine /\ Pv (i + 1) (ys ++ [y]) H5)
  (hd:∀ ys H',Pv n ys H' -> ∀ l,H' l = none -> Q (.ref l) (upd H' l (.lst ys))):wc (Itr lo n) σ H (x9 k) rY te Q:=by
 refine ⟨fun i m ys σ' H'=>m = n - i /\ i <= n /\ (σ' = σ \/ ∃ e,σ' = σ.set k e) /\ Pv i ys H',⟨n,by simp,Nat.zero_le _,.inl rfl,h0⟩,?_⟩
 rintro i m ys σ' H' ⟨rfl,hi,hσ,p⟩
 by_cases hlt:i < n
 ·refine .inr ⟨hlt,fun zs σ2 H2=>(σ2 = σ \/ ∃ e,σ2 = σ.set k e) /\ Pv (i + 1) zs H2,fun zs σ2 H2 p'=>⟨n - (i + 1),by omega,rfl,hlt,p'.1,p'.2⟩,fun x H2 y=>?_⟩
  obtain ⟨e,y⟩:=y
  subst e y
  have e:σ'.set k (some (V.int (lo + i))) = σ.set k (some (V.int (lo + i))):=by
   rcases hσ with rfl | ⟨e,rfl⟩
   ·rfl
   ·rw [List.set_set]
  show if true = true then te (σ'.set k (some (V.int (lo + i)))) H2 (fun y H5=>ys.length < sizeLine /\ ((σ'.set k (some (V.int (lo + i))) = σ \/ ∃ e,σ'.set k (some (V.int (lo + i))) = σ.set k e) /\ Pv (i + 1) (ys ++ [y]) H5)) else ((σ'.set k (some (V.int (lo + i))) = σ \/ ∃ e,σ'.set k (some (V.int (lo + i))) = σ.set k e) /\ Pv (i + 1) ys H2)
  rw [if_pos rfl,e]
  have e2:(fun (y:V) (H5:Hp)=>ys.length < sizeLine /\ ((σ.set k (some (V.int (lo + i))) = σ \/ ∃ e,σ.set k (some (V.int (lo + i))) = σ.set k e) /\ Pv (i + 1) (ys ++ [y]) H5)) = fun y H5=>ys.length < sizeLine /\ Pv (i + 1) (ys ++ [y]) H5:=by
   funext y H5
   exact propext ⟨fun z=>⟨z.1,z.2.2⟩,fun z=>⟨z.1,.inr ⟨_,rfl⟩,z.2⟩⟩
  rw [e2]
  exact hs i ys H2 hlt p
 ·have e:i = n:=by omega
  subst e
  exact .inl ⟨Nat.le_refl _,hd ys H' p⟩
theorem wE (Pv:Nat -> List V -> Hp -> Prop) (h0:Pv 0 [] H) (hl:∀ i ys H',Pv i ys H' -> SqL K H' a xs)
  (hs:∀ i x ys H',xs[i]? = some x -> Pv i ys H' -> te (σ.set k (some x)) H' fun y H5=>ys.length < sizeLine /\ Pv (i + 1) (ys ++ [y]) H5)
  (hd:∀ ys H',Pv xs.length ys H' -> ∀ l,H' l = none -> Q (.ref l) (upd H' l (.lst ys))):wc (Itl K a) σ H (x9 k) rY te Q:=by
 refine sQ (xs:=xs) (fun i ys σ' H'=>(σ' = σ \/ ∃ e,σ' = σ.set k e) /\ Pv i ys H') ⟨.inl rfl,h0⟩ (fun i ys σ' H' _ p=>hl i ys H' p.2) ?_ (fun ys σ' H' p l hl=>hd ys H' p.2 l hl)
 rintro i x ys σ' H' hx ⟨hσ,p⟩
 have e:σ'.set k (some x) = σ.set k (some x):=by
  rcases hσ with rfl | ⟨e,rfl⟩
  ·rfl
  ·rw [List.set_set]
 show if true = true then te (σ'.set k (some x)) H' (fun y H5=>ys.length < sizeLine /\ ((σ'.set k (some x) = σ \/ ∃ e,σ'.set k (some x) = σ.set k e) /\ Pv (i + 1) (ys ++ [y]) H5)) else ((σ'.set k (some x) = σ \/ ∃ e,σ'.set k (some x) = σ.set k e) /\ Pv (i + 1) ys H')
 rw [if_pos rfl,e]
 have e2:(fun (y:V) (H5:Hp)=>ys.length < sizeLine /\ ((σ.set k (some x) = σ \/ ∃ e,σ.set k (some x) = σ.set k e) /\ Pv (i + 1) (ys ++ [y]) H5)) = fun y H5=>ys.length < sizeLine /\ Pv (i + 1) (ys ++ [y]) H5:=by
  funext y H5
  exact propext ⟨fun z=>⟨z.1,z.2.2⟩,fun z=>⟨z.1,.inr ⟨_,rfl⟩,z.2⟩⟩
 rw [e2]
 exact hs i x ys H' hx p
end
theorem Grow.fresh {m:List Addr} {H H':Hp} (h:∀ b ∈ m,H b = none) (g:Grow m H H'):Grow [] H H' :=
 ⟨fun b o _ q=>g.keep b o (fun z=>by rw [h b z] at q; cases q) q,g.tup,g.frz⟩
theorem Grow.less {m m':List Addr} {H H':Hp} (g:Grow m H H') (h:∀ b ∈ m,b ∈ m' \/ H b = none):Grow m' H H' :=
 ⟨fun b o n q=>g.keep b o (fun z=>by
  rcases h b z with w | w
  ·exact n w
  ·rw [w] at q; cases q) q,g.tup,g.frz⟩
theorem Pot.ne {H:Hp} {a l:Addr} (p:Pot H a) (h:H l = none):l ∉ [a]:=by
 intro z
 obtain ⟨z0,z1,hz,_⟩:=p
 rw [List.mem_singleton.mp z,hz] at h
 cases h
theorem VT {n:Nat} {i:Int} (h0:0 <= i) (h:i.toNat < n):ixN n i = some i.toNat:=by
 unfold ixN; rw [if_pos h0,if_pos (by omega)]
structure Ask where
 hand:Int
 box:Int
 deed:Deed
def qa (K:FG7) (H:Hp) (x:V) (k:Ask):Prop:=∃ r rd,x = .ref r /\ SqT K H r [.int k.hand,.int k.box,.ref rd] /\ SqT K H rd k.deed.vs
def AllA (K:FG7) (H:Hp):List V -> List Ask -> Prop
 | [],[]=>True
 | x :: xs,k :: ks=>qa K H x k /\ AllA K H xs ks
 | _,_=>False
def Vq (K:FG7) (H:Hp) (x:V) (ks:List Ask):Prop:=∃ r xs,x = .ref r /\ SqT K H r xs /\ AllA K H xs ks
def zr (K:FG7) (H:Hp) (x:V) (b:List Int):Prop:=∃ r,x = .ref r /\ SqT K H r (b.map V.int)
def SC (m:Nat) (k:Ask):Prop:=0 <= k.hand /\ k.hand <= 15 /\ 0 <= k.box /\ k.box < m /\ k.deed.Ok
theorem Grow.board {m:List Addr} {H H':Hp} (g:Grow m H H') {K:FG7} {x:V} {b:List Int} (h:zr K H x b):zr K H' x b:=by
 obtain ⟨r,e,h1⟩:=h
 exact ⟨r,e,g.sqT h1⟩
theorem AllA.len {K:FG7} {H:Hp}:∀ {xs:List V} {ks:List Ask},AllA K H xs ks -> xs.length = ks.length
 | [],[],_=>rfl
 | _ :: xs,_ :: ks,⟨_,t⟩=>congrArg (· + 1) (AllA.len t)
 | [],_ :: _,h=>h.elim
 | _ :: _,[],h=>h.elim
theorem AllA.get {K:FG7} {H:Hp}:∀ {xs:List V} {ks:List Ask} {i:Nat} {x:V},AllA K H xs ks -> xs[i]? = some x -> ∃ k,ks[i]? = some k /\ qa K H x k
 | _ :: _,k :: _,0,x,⟨h,_⟩,e=>by
  obtain rfl:=Option.some.inj e
  exact ⟨k,rfl,h⟩
 | _ :: _,_ :: _,i + 1,x,⟨_,t⟩,e=>AllA.get (i:=i) t e
 | [],[],i,x,_,e=>by cases e
 | [],_ :: _,_,_,h,_=>h.elim
 | _ :: _,[],_,_,h,_=>h.elim
theorem AllA.snoc {K:FG7} {H:Hp}:∀ {xs:List V} {ks:List Ask} {x:V} {k:Ask},AllA K H xs ks -> qa K H x k -> AllA K H (xs ++ [x]) (ks ++ [k])
 | [],[],_,_,_,h=>⟨h,trivial⟩
 | _ :: _,_ :: _,_,_,⟨h,t⟩,q=>⟨h,AllA.snoc t q⟩
 | [],_ :: _,_,_,h,_=>h.elim
 | _ :: _,[],_,_,h,_=>h.elim
theorem VU {xs:List Int} {i:Nat} (h:i < xs.length):xs[i]? = some (xs.getD i 0):=by
 rw [List.getD_eq_getElem?_getD,List.getElem?_eq_getElem h]; rfl
def InB (B:Int) (xs:List Int):Prop:=∀ v ∈ xs,-B < v /\ v < B
def Ze (xs:List Int):PyData:=.tuple (xs.map PyData.int)
def qb (d:Deed):PyData:=.tuple [.int d.add,oD d.lo,oD d.hi]
def askD (k:Ask):PyData:=.tuple [.int k.hand,.int k.box,qb k.deed]
def SD (ks:List Ask):PyData:=.tuple (ks.map askD)
theorem vm {K:FG7} {H:Hp}:∀ xs:List Int,DatAll K H (xs.map V.int) (xs.map PyData.int)
 | []=>.nil
 | x :: xs=>.cons (.int x) (vm xs)
theorem zr.dat {K:FG7} {H:Hp} {x:V} {b:List Int} (h:zr K H x b):Dat K H x (Ze b):=by
 obtain ⟨r,rfl,h⟩:=h
 exact .tup h (vm b)
theorem jm {K:FG7} {H:Hp} {r:Addr} {d:Deed} (h:SqT K H r d.vs):Dat K H (.ref r) (qb d):=.tup h (.cons (.int _) (.cons (jk _) (.cons (jk _) .nil)))
theorem qa.dat {K:FG7} {H:Hp} {x:V} {k:Ask} (h:qa K H x k):Dat K H x (askD k):=by
 obtain ⟨r,rd,rfl,h1,h2⟩:=h
 exact .tup h1 (.cons (.int _) (.cons (.int _) (.cons (jm h2) .nil)))
theorem AllA.dat {K:FG7} {H:Hp}:∀ {xs:List V} {ks:List Ask},AllA K H xs ks -> DatAll K H xs (ks.map askD)
 | [],[],_=>.nil
 | _ :: _,_ :: _,⟨h,t⟩=>.cons h.dat (AllA.dat t)
 | [],_ :: _,h=>h.elim
 | _ :: _,[],h=>h.elim
theorem Vq.dat {K:FG7} {H:Hp} {x:V} {ks:List Ask} (h:Vq K H x ks):Dat K H x (SD ks):=by
 obtain ⟨r,xs,rfl,h1,h2⟩:=h
 exact .tup h1 h2.dat
def Sh (d:PyData) (w n:Nat):Prop:=d.showable = true /\ d.hasDict = false /\ wtD d <= w /\ d.depth <= n
theorem Sh.mono {d:PyData} {w w' n n':Nat} (h:Sh d w n) (h1:w <= w') (h2:n <= n'):Sh d w' n':=⟨h.1,h.2.1,Nat.le_trans h.2.2.1 h1,Nat.le_trans h.2.2.2 h2⟩
theorem Sh.fits {d:PyData} {w n:Nat} (h:Sh d w n) (hw:w <= 16777216):d.shown.length <= sizeLine:=Zd h.1 h.2.1 (Nat.le_trans h.2.2.1 hw)
def Vr (K:FG7) (H:Hp) (x:V) (p:List Int × List Int):Prop:=∃ r r1 r2,x = .ref r /\ SqT K H r [.ref r1,.ref r2] /\ SqT K H r1 (p.1.map V.int) /\ SqT K H r2 (p.2.map V.int)
def SE (p:List Int × List Int):PyData:=.tuple [Ze p.1,Ze p.2]
theorem Vr.dat {K:FG7} {H:Hp} {x:V} {p:List Int × List Int} (h:Vr K H x p):Dat K H x (SE p):=by
 obtain ⟨r,r1,r2,rfl,h0,h1,h2⟩:=h
 exact .tup h0 (.cons (.tup h1 (vm _)) (.cons (.tup h2 (vm _)) .nil))
theorem InB.mono {B C:Int} {xs:List Int} (h:InB B xs) (hC:B <= C):InB C xs:=fun v hv=>by have:=h v hv; omega
def wR (K:FG7):Sp:=sp3 fun x y z H Q=>∃ i l u,x = .int i /\ y = .int l /\ z = .int u /\ Q (.bl (decide (l <= i) && decide (i <= u))) H
def vM (K:FG7):Sp:=sp1 fun x H Q=>∃ b,zr K H x b /\ 1 <= b.length /\ b.length <= 16 /\ ∀ H',Grow [] H H' -> Q (.bl true) H'
def wg (K:FG7):Sp:=sp1 fun x H Q=>∃ b,zr K H x b /\ 1 <= b.length /\ b.length <= 16 /\ ∀ H',Grow [] H H' -> Q .non H'
def sT (K:FG7):Sp:=sp2 fun x y H Q=>∃ b k,zr K H x b /\ qa K H y k /\ SC b.length k /\ Q (.bl true) H
theorem Wn {P:Program} {w:World} {K:FG7} {mg:Str -> Option Value} {base:Heap} {CX:CXT} {k:Nat} {f:Addr} {fd:FuncData} {ps:List Str} {sp:Sp} (h:∀ vs H Q E,¬ sp vs H Q E):FnOk P w K mg base CX k f fd ps sp :=
 ⟨fun vs H Q E z=>(h vs H Q E z).elim,by
  intros
  first
   | exact (h _ _ _ _ (by assumption)).elim⟩
inductive Tr where
 | leaf (n:Int)
 | node (l r:Tr)
def Tr.ht:Tr -> Nat
 | .leaf _=>0
 | .node l r=>max l.ht r.ht + 1
def uC (K:FG7) (H:Hp) (x:V):Tr -> Prop
 | .leaf n=>x = .int n
 | .node l r=>∃ a xl xr,x = .ref a /\ SqT K H a [xl,xr] /\ uC K H xl l /\ uC K H xr r
def trD:Tr -> PyData
 | .leaf n=>.int n
 | .node l r=>.tuple [trD l,trD r]
theorem uC.dat {K:FG7} {H:Hp}:∀ {t:Tr} {x:V},uC K H x t -> Dat K H x (trD t)
 | .leaf n,x,h=>by
  cases (show x = V.int n from h)
  exact .int n
 | .node l r,x,h=>by
  obtain ⟨a,xl,xr,e,hs,h1,h2⟩:=h
  subst e
  exact .tup hs (.cons (uC.dat h1) (.cons (uC.dat h2) .nil))
def Tr.wt:Tr -> Nat
 | .leaf _=>1
 | .node l r=>l.wt + r.wt + 1
def sp4 (b:V -> V -> V -> V -> Hp -> VK -> Prop):Sp:=fun vs H Q _=>∃ x y z u,vs = [x,y,z,u] /\ b x y z u H Q
theorem VV {b:V -> V -> V -> V -> Hp -> VK -> Prop} {p q r s:Str}:∀ vs H Q E,sp4 b vs H Q E -> vs.length = [p,q,r,s].length:=fun vs H Q E h=>by
 obtain ⟨x,y,z,u,rfl,_⟩:=h; rfl
def AllR {α:Type} (R:V -> α -> Prop):List V -> List α -> Prop
 | [],[]=>True
 | x :: xs,k :: ks=>R x k /\ AllR R xs ks
 | _,_=>False
section
variable {α:Type} {R S:V -> α -> Prop}
theorem AllR.imp (h:∀ x k,R x k -> S x k):∀ {xs:List V} {ks:List α},AllR R xs ks -> AllR S xs ks
 | [],[],_=>trivial
 | _ :: _,_ :: _,⟨a,t⟩=>⟨h _ _ a,AllR.imp h t⟩
 | [],_ :: _,z=>z.elim
 | _ :: _,[],z=>z.elim
theorem AllR.len:∀ {xs:List V} {ks:List α},AllR R xs ks -> xs.length = ks.length
 | [],[],_=>rfl
 | _ :: xs,_ :: ks,⟨_,t⟩=>congrArg (· + 1) (AllR.len t)
 | [],_ :: _,h=>h.elim
 | _ :: _,[],h=>h.elim
theorem AllR.get:∀ {xs:List V} {ks:List α} {i:Nat} {x:V},AllR R xs ks -> xs[i]? = some x -> ∃ k,ks[i]? = some k /\ R x k
 | _ :: _,k :: _,0,x,⟨h,_⟩,e=>by
  obtain rfl:=Option.some.inj e
  exact ⟨k,rfl,h⟩
 | _ :: _,_ :: _,i + 1,x,⟨_,t⟩,e=>AllR.get (i:=i) t e
 | [],[],i,x,_,e=>by cases e
 | [],_ :: _,_,_,h,_=>h.elim
 | _ :: _,[],_,_,h,_=>h.elim
theorem AllR.getR:∀ {xs:List V} {ks:List α} {i:Nat} {k:α},AllR R xs ks -> ks[i]? = some k -> ∃ x,xs[i]? = some x /\ R x k
 | x :: _,_ :: _,0,k,⟨h,_⟩,e=>by
  obtain rfl:=Option.some.inj e
  exact ⟨x,rfl,h⟩
 | _ :: _,_ :: _,i + 1,k,⟨_,t⟩,e=>AllR.getR (i:=i) t e
 | [],[],i,k,_,e=>by cases e
 | [],_ :: _,_,_,h,_=>h.elim
 | _ :: _,[],_,_,h,_=>h.elim
theorem AllR.app:∀ {xs ys:List V} {ks js:List α},AllR R xs ks -> AllR R ys js -> AllR R (xs ++ ys) (ks ++ js)
 | [],_,[],_,_,h=>h
 | _ :: _,_,_ :: _,_,⟨h,t⟩,q=>⟨h,AllR.app t q⟩
 | [],_,_ :: _,_,h,_=>h.elim
 | _ :: _,_,[],_,h,_=>h.elim
theorem AllR.one {x:V} {k:α} (h:R x k):AllR R [x] [k]:=⟨h,trivial⟩
theorem AllR.take:∀ {xs:List V} {ks:List α} {n:Nat},AllR R xs ks -> AllR R (xs.take n) (ks.take n)
 | [],[],n,_=>by rw [List.take_nil,List.take_nil]; trivial
 | _ :: _,_ :: _,0,_=>trivial
 | _ :: _,_ :: _,n + 1,⟨h,t⟩=>⟨h,AllR.take t⟩
 | [],_ :: _,_,h=>h.elim
 | _ :: _,[],_,h=>h.elim
end
def jn (K:FG7) (H:Hp) (x:V) (ds:List Deed):Prop:=∃ r xs,x = .ref r /\ SqT K H r xs /\ AllR (yu K H) xs ds
theorem yu.dat {K:FG7} {H:Hp} {x:V} {d:Deed} (h:yu K H x d):Dat K H x (qb d):=by
 obtain ⟨r,rfl,h⟩:=h
 exact jm h
theorem datR {α:Type} {K:FG7} {H:Hp} {R:V -> α -> Prop} {f:α -> PyData} (h:∀ x k,R x k -> Dat K H x (f k)):∀ {xs:List V} {ks:List α},AllR R xs ks -> DatAll K H xs (ks.map f)
 | [],[],_=>.nil
 | _ :: _,_ :: _,⟨a,t⟩=>.cons (h _ _ a) (datR h t)
 | [],_ :: _,h=>h.elim
 | _ :: _,[],h=>h.elim
theorem jn.dat {K:FG7} {H:Hp} {x:V} {ds:List Deed} (h:jn K H x ds):Dat K H x (.tuple (ds.map qb)):=by
 obtain ⟨r,xs,rfl,h1,h2⟩:=h
 exact .tup h1 (datR (fun _ _ z=>z.dat) h2)
def look:Deed:=⟨0,none,none⟩
def U1 (ds:List Deed):Prop:=∀ d ∈ ds,d.Ok
def runD (ds:List Deed):Deed:=ds.foldl UX look
theorem AllR.drop {α:Type} {R:V -> α -> Prop}:∀ {xs:List V} {ks:List α} {n:Nat},AllR R xs ks -> AllR R (xs.drop n) (ks.drop n)
 | [],[],n,_=>by rw [List.drop_nil,List.drop_nil]; trivial
 | _ :: _,_ :: _,0,h=>h
 | _ :: _,_ :: _,n + 1,⟨h,t⟩=>AllR.drop (n:=n) t
 | [],_ :: _,_,h=>h.elim
 | _ :: _,[],_,h=>h.elim
theorem AllR.cut {α:Type} {R:V -> α -> Prop} {xs:List V} {ks:List α} (h:AllR R xs ks) (lo hi:Option Int):∃ us,AllR R (cutV xs lo hi) us /\ ∀ u ∈ us,u ∈ ks:=by
 unfold cutV
 exact ⟨_,(h.drop (n:=HT.sIx xs.length 0 lo)).take (n:=HT.sIx xs.length xs.length hi - HT.sIx xs.length 0 lo),fun u hu=>List.mem_of_mem_drop (List.mem_of_mem_take hu)⟩
theorem vN {X:Cx} {K:FG7} (h:X.K = K):yM X (.builtin "len") (fun xs H Q=>∃ p ys,xs = [.ref p] /\ (SqL K H p ys \/ SqT K H p ys) /\ Q (.int ys.length) H):=by subst h; exact zp
theorem qc {X:Cx} {K:FG7} (h:X.K = K):yM X (.type "tuple") (fun xs H Q=>∃ p ys,xs = [.ref p] /\ ((SqL K H p ys /\ ∀ l,H l = none -> Q (.ref l) (upd H l (.tup ys))) \/ (SqT K H p ys /\ Q (.ref p) H))):=by subst h; exact yq
def wS (K:FG7) (H:Hp) (x:V) (rows:List (List Int)):Prop:=∃ r xs,x = .ref r /\ SqT K H r xs /\ AllR (zr K H) xs rows
theorem Grow.boardsR {m:List Addr} {H H':Hp} (g:Grow m H H') {K:FG7} {xs:List V} {rows:List (List Int)} (h:AllR (zr K H) xs rows):AllR (zr K H') xs rows:=h.imp fun _ _ z=>g.board z
theorem Grow.rows {m:List Addr} {H H':Hp} (g:Grow m H H') {K:FG7} {x:V} {rows:List (List Int)} (h:wS K H x rows):wS K H' x rows:=by
 obtain ⟨r,xs,e,h1,h2⟩:=h
 exact ⟨r,xs,e,g.sqT h1,g.boardsR h2⟩
def Rng (m:Int) (xs:List Int):Prop:=∀ v ∈ xs,0 <= v /\ v < m
def Wo (R M:Nat) (rows:List (List Int)):Prop:=rows.length = R /\ ∀ row ∈ rows,row.length = M /\ Rng M row
structure Fd (R:Nat) (tab:List (List Int)) (ns:List Int):Prop where
 tab:Wo R R tab
 ns:Rng R ns
section
variable {prog:Program} {w:World} {A:Around} {E:VS7} {s:Shared}
theorem qd {jt t:Addr} {i:Nat} {vs:Array Value} {v:Value} {Q:VS7} (hit:s.heap.IsTupleIter jt t i) (ht:s.heap.IsTuple t vs) (hv:vs[i]? = some v)
  (hQ:∀ h',h'.IsTupleIter jt t (i + 1) -> Heap.SameBut jt s.heap h' -> Q v { s with heap:=h' }):wpAny (model prog w) A (Builtin.SmallTypes.nextOf (.ref jt)) Q E s:=by
 obtain ⟨oj,hoj,cj,dj⟩:=id hit
 obtain ⟨ot,hot,_,nt,dt⟩:=ht
 unfold Builtin.SmallTypes.nextOf
 refine wpAny_bind (wpAny_callSpecial?_slot (name:=Str.ofString "__next__") hit.typeIs F.slot_tuple_iterator_next (wpAny_call_entry F.slot_tuple_iterator_next hit.typeIs F.entry_tuple_iterator_next ?_ (F.args_tuple_iterator_next_1 _)))
 show wpAny _ _ (field (.ref jt) 0 >>= _) _ _ s
 refine wpAny_bind (wpAny_field hoj dj (x:=.ref t) rfl ?_); show wpAny _ _ (if (Value.ref t == Value.none) = true then _ else _) _ _ s
 rw [if_neg (show ¬ ((Value.ref t == Value.none) = true) by exact Bool.false_ne_true)]; show wpAny _ _ (field (.ref jt) 1 >>= _) _ _ s
 refine wpAny_bind (wpAny_field hoj dj (x:=.int i 0) rfl ?_); show wpAny _ _ (seqItems? (.ref t) >>= _) _ _ s
 refine wpAny_bind (wpAny_seqItems hot dt ?_); simp only [Int.toNat_natCast,hv]
 refine wpAny_bind (wpAny_setField hoj dj (by simp) (wpAny_pure ⟨v,rfl,wpAny_pure (hQ _ ⟨_,Heap.get?_update_self _ hoj (Obj.isFreed_of_fields (Obj.data_mapFields dj _)),(Obj.cls_mapFields ..).trans cj,by rw [Obj.data_mapFields dj]; simp [rawInt]⟩ (Heap.SameBut.update ..))⟩))
theorem uD {jt t:Addr} {i:Nat} {vs:Array Value} {Q:VS7} (hh:A.handled = none) (hit:s.heap.IsTupleIter jt t i) (ht:s.heap.IsTuple t vs) (hv:vs[i]? = none)
  (hE:∀ h' e,Heap.ExtBut jt s.heap h' -> (∃ o,h'.get? e = some o /\ o.cls = .type "StopIteration") -> E (.ref e) { s with heap:=h' }):wpAny (model prog w) A (Builtin.SmallTypes.nextOf (.ref jt)) Q E s:=by
 obtain ⟨oj,hoj,cj,dj⟩:=id hit
 obtain ⟨ot,hot,_,nt,dt⟩:=ht
 unfold Builtin.SmallTypes.nextOf
 refine wpAny_bind (wpAny_callSpecial?_slot (name:=Str.ofString "__next__") hit.typeIs F.slot_tuple_iterator_next (wpAny_call_entry F.slot_tuple_iterator_next hit.typeIs F.entry_tuple_iterator_next ?_ (F.args_tuple_iterator_next_1 _)))
 show wpAny _ _ (field (.ref jt) 0 >>= _) _ _ s
 refine wpAny_bind (wpAny_field hoj dj (x:=.ref t) rfl ?_); show wpAny _ _ (if (Value.ref t == Value.none) = true then _ else _) _ _ s
 rw [if_neg (show ¬ ((Value.ref t == Value.none) = true) by exact Bool.false_ne_true)]; show wpAny _ _ (field (.ref jt) 1 >>= _) _ _ s
 refine wpAny_bind (wpAny_field hoj dj (x:=.int i 0) rfl ?_); show wpAny _ _ (seqItems? (.ref t) >>= _) _ _ s
 refine wpAny_bind (wpAny_seqItems hot dt ?_); simp only [Int.toNat_natCast,hv]
 refine wpAny_bind (wpAny_rule (wpAny_bind (wpAny_setField hoj dj (by simp) ?_))); show wpAny _ _ (newExc (.type "StopIteration") [] >>= _) _ _ _
 refine wpAny_bind ?_; simp only [newExc,newTuple]
 refine wpAny_bind (wpAny_newObj_type ?_ (by size_fits)); refine wpAny_bind (m:=firstArgMember _ _) (wpAny_of_eq (a:=Value.none) (by first | rfl | (simp only [firstArgMember]; rfl)) ?_)
 refine wpAny_newObj_type ?_ (by size_fits); simp only [raiseNew]
 refine wpAny_bind (wpAny_handled ?_); (first | rw [show A.in1.handled = none from hh] | rw [hh])
 exact wpAny_bind (wpAny_pure (wpAny_throw (hE _ _ (((Heap.SameBut.update ..).extBut.push _).push _) ⟨_,Heap.get?_push_size _ rfl,rfl⟩)))
end
theorem Ym {prog:Program} {w:World} {A:Around} (hh:A.handled = none) (jt t:Addr) (hne:t ≠ jt) (vs:Array Value) :
  Draws prog w A jt [jt,t] vs.size (fun i v=>vs[i]? = some v) (fun i h=>h.IsTupleIter jt t i /\ h.IsTuple t vs) where
 live:=fun _ _ st=>let ⟨o,ho,_⟩:=st.1; ⟨o,ho⟩
 frame:=fun _ _ _ st hk=>⟨st.1.at (hk jt (by simp)),st.2.at (hk t (by simp))⟩
 item:=fun i s Q E hi st hQ=>qd st.1 st.2 (v:=vs[i]) (by simp [hi]) fun h' hit' hs'=>hQ _ h' s.toks (by simp [hi]) ⟨hit',st.2.extBut hs'.extBut hne⟩ hs'
 done:=fun s Q E st hE=>uD hh st.1 st.2 (by simp) hE
theorem Yn {prog:Program} {w:World} {A:Around} (hh:A.handled = none) (jt t:Addr) (vs:Array Value) {i:Nat} (hv:vs[i]? = none) :
  Draws prog w A jt [jt,t] i (fun _ _=>True) (fun j h=>j = i /\ h.IsTupleIter jt t i /\ h.IsTuple t vs) where
 live:=fun _ _ st=>let ⟨o,ho,_⟩:=st.2.1; ⟨o,ho⟩
 frame:=fun _ _ _ st hk=>⟨st.1,st.2.1.at (hk jt (by simp)),st.2.2.at (hk t (by simp))⟩
 item:=fun j s Q E hj st hQ=>absurd st.1 (Nat.ne_of_lt hj)
 done:=fun s Q E st hE=>uD hh st.2.1 st.2.2 hv hE
section
variable {X:Cx} {pins:List (Addr × Obj)} {σ:L2.St} {H:Hp} {s:Shared} {h':Heap}
theorem qe {fp:List Addr} {t':Nat} (I:Inv X pins σ H s) (k:∀ b o,b ∉ fp -> s.heap.get? b = some o -> h'.get? b = some o) (ff:∀ b ∈ fp,FpOk X pins H b):Inv X pins σ H { s with heap:=h',toks:=t' }:=by
 have nit:∀ b u,H b = some u -> b ∉ fp:=fun b u e z=>by rw [(ff b z).1] at e; cases e
 refine I.step (g':=s.gens) (d':=s.drawn) (ch:=fp) (fun b hb=>?_) (fun b o _ _ hc e _=>k b o hc e) (fun b o _ _ hc e _=>⟨o.slots,k b o hc e⟩) (fun _ _ _ _ n=>n) (fun b o hc e=>⟨o,k b o hc e⟩) (fun _ _ e=>e) (fun _ _ _ e=>e) (fun b ps e=>⟨#[],by rw [e]; simp⟩) (fun m hm=>?_) (fun b u e=>?_) I.bare
 ·obtain ⟨_,f1,_,f3,f4,f5⟩:=ff b hb
  exact ⟨f3,f1,f4,f5⟩
 ·obtain ⟨o,es,ep,ho,r⟩:=hm
  exact ⟨o,es,ep,k _ o (fun z=>(ff _ z).2.1 rfl) ho,r⟩
 ·refine (I.hok b u e).stay (fun c v hc q=>k c v ?_ q) (fun _ q=>q) fun _ _ q=>q
  rcases hc with z | z
  ·rw [z]; exact nit b u e
  ·exact nit c _ z
theorem jo {fp:List Addr} {T:Addr} {o:HO} {t':Nat} (I:Inv X pins σ H s) (k:∀ b o,b ∉ fp -> s.heap.get? b = some o -> h'.get? b = some o) (ff:∀ b ∈ fp,FpOk X pins H b) (hT:s.heap.objs.size <= T)
  (new:zP X.prog X.w (upd H T o) h' T o):Inv X pins σ (upd H T o) { s with heap:=h',toks:=t' }:=by
 have hn:H T = none:=I.hok.fresh hT
 have I1:Inv X pins σ H { s with heap:=h',toks:=t' }:=qe I k ff
 have hok:HOk X.prog X.w (upd H T o) h':=HOk.track I1.hok hn new
 refine I.step (g':=s.gens) (d':=s.drawn) (ch:=fp) (fun b hb=>?_) (fun b o _ _ hc e _=>k b o hc e) (fun b o _ _ hc e _=>⟨o.slots,k b o hc e⟩) (fun b u _ e n=>by rw [zv (Nat.ne_of_lt (Nat.lt_of_lt_of_le (Heap.lt_size e) hT))]; exact n) (fun b o hc e=>⟨o,k b o hc e⟩)
  (fun b xs e=>by rw [zv (zz e hn)]; exact e) (fun b u xs e=>by rw [zv (zz e hn)]; exact e) (fun b ps e=>⟨#[],by rw [zv (zz e hn),e]; simp⟩) (fun m hm=>?_) hok I.bare
 ·obtain ⟨_,f1,_,f3,f4,f5⟩:=ff b hb
  exact ⟨f3,f1,f4,f5⟩
 ·obtain ⟨o,es,ep,ho,r⟩:=hm
  exact ⟨o,es,ep,k _ o (fun z=>(ff _ z).2.1 rfl) ho,r⟩
end
section
variable {X:Cx} {elts:List Expr} {kt:Nat} {pt:Pos}
theorem U2:bootBuiltins "enumerate" = some (.type "enumerate"):=by decide +kernel
end
theorem SF {ds:List Deed} {i:Nat} (h:i < ds.length):ds[i]? = some (ds.getD i look):=by
 rw [List.getD_eq_getElem?_getD,List.getElem?_eq_getElem h]; rfl
def SG (j:Int) (ks:List Ask):List Deed:=(ks.filter fun k=>decide (k.box = j)).map Ask.deed
structure GInv (b:List Int) (ks:List Ask) (g:List Deed × List Deed) (p:List Int × List Int):Prop where
 l1:g.1.length = b.length
 l2:g.2.length = ks.length
 p1:p.1.length = ks.length
 p2:p.2.length = b.length
 bd1:∀ d ∈ g.1,d.Ok /\ d.Bd (ks.length * 10 ^ 30)
 bd2:∀ d ∈ g.2,d.Ok /\ d.Bd (ks.length * 10 ^ 30)
 run:∀ j:Nat,j < b.length -> g.1.getD j look = runD (SG j ks)
 val:∀ j:Nat,j < b.length -> p.2.getD j 0 = (g.1.getD j look).mk' (b.getD j 0)
 ans:∀ i k,ks[i]? = some k -> p.1.getD i 0 = (g.2.getD i look).mk' (b.getD k.box.toNat 0)
theorem AllR.set {α:Type} {R:V -> α -> Prop} {x:V} {k:α} (h:R x k):∀ {xs:List V} {ks:List α} {n:Nat},AllR R xs ks -> AllR R (xs.set n x) (ks.set n k)
 | [],[],n,_=>by cases n <;> trivial
 | _ :: _,_ :: _,0,⟨_,t⟩=>⟨h,t⟩
 | _ :: _,_ :: _,n + 1,⟨a,t⟩=>⟨a,AllR.set h t⟩
 | [],_ :: _,_,z=>z.elim
 | _ :: _,[],_,z=>z.elim
def Vs (K:FG7) (H:Hp) (x:V) (g:List Deed × List Deed):Prop:=∃ r r1 r2,x = .ref r /\ SqT K H r [.ref r1,.ref r2] /\ jn K H (.ref r1) g.1 /\ jn K H (.ref r2) g.2
section
variable {K:FG7} {a:Addr} {xs:List V} {k:Nat} {tt:TT} {te:TE} {Q:VK} {σ:L2.St} {H:Hp}
theorem Zf (p:V -> Bool) (Pv:Nat -> List V -> Hp -> Prop) (h0:Pv 0 [] H) (hl:∀ i ys H',Pv i ys H' -> SqT K H' a xs)
  (ht:∀ x H' (R:Bool -> Hp -> Prop),x ∈ xs -> R (p x) H' -> tt (σ.set k (some x)) H' R)
  (hs:∀ i x ys H',xs[i]? = some x -> Pv i ys H' -> p x = true -> te (σ.set k (some x)) H' fun y H5=>ys.length < sizeLine /\ Pv (i + 1) (ys ++ [y]) H5)
  (hn:∀ i x ys H',xs[i]? = some x -> Pv i ys H' -> p x = false -> Pv (i + 1) ys H')
  (hd:∀ ys H',Pv xs.length ys H' -> ∀ l,H' l = none -> Q (.ref l) (upd H' l (.lst ys))):wc (Itt K a) σ H (x9 k) tt te Q:=by
 refine tE (xs:=xs) (fun i ys σ' H'=>(σ' = σ \/ ∃ e,σ' = σ.set k e) /\ Pv i ys H') ⟨.inl rfl,h0⟩ (fun i ys σ' H' _ p=>hl i ys H' p.2) ?_ (fun ys σ' H' p l hl=>hd ys H' p.2 l hl)
 rintro i x ys σ' H' hx ⟨hσ,pv⟩
 have e:σ'.set k (some x) = σ.set k (some x):=by
  rcases hσ with rfl | ⟨e,rfl⟩
  ·rfl
  ·rw [List.set_set]
 show tt (σ'.set k (some x)) H' _
 rw [e]
 refine ht x H' _ (List.mem_of_getElem? hx) ?_
 by_cases c:p x = true
 ·rw [if_pos c]
  have e2:(fun (y:V) (H5:Hp)=>ys.length < sizeLine /\ ((σ.set k (some x) = σ \/ ∃ e,σ.set k (some x) = σ.set k e) /\ Pv (i + 1) (ys ++ [y]) H5)) = fun y H5=>ys.length < sizeLine /\ Pv (i + 1) (ys ++ [y]) H5:=by
   funext y H5
   exact propext ⟨fun z=>⟨z.1,z.2.2⟩,fun z=>⟨z.1,.inr ⟨_,rfl⟩,z.2⟩⟩
  have z:=hs i x ys H' hx pv c
  rw [← e2] at z
  exact z
 ·rw [if_neg c]
  exact ⟨.inr ⟨_,rfl⟩,hn i x ys H' hx pv (by simpa using c)⟩
end
def figI (k st l:Int):Int:=Builtin.bitAnd (l / 2 ^ (k - st).toNat) 1
def wfI (k st l w:Int):Int:=Builtin.bitXor l (Builtin.bitXor (figI k st l) w * 2 ^ (k - st).toNat)
def swI (k st l:Int):Int:=Builtin.bitOr (l / 2 ^ (k - st + 1).toNat * 2 ^ (k - st).toNat) (Builtin.bitAnd l (1 * 2 ^ (k - st).toNat - 1))
def wj (k n:Int):List Int:=(List.range k.toNat).map fun i:Nat=>Builtin.bitAnd (n / 2 ^ (k - 1 - (0 + (i:Int))).toNat) 1
def numL (xs:List Int):Int:=xs.foldl (fun f o=>2 * f + o) 0
def VW (k h g:Int) (n:Nat):Int:=numL ((wj k g).take n ++ (wj k h).drop n)
def Zg (k l:Int) (st:Nat):Int:=numL ((wj k l).take (st - 1) ++ (wj k l).drop st)
section
variable {X:Cx}
theorem vO (hcalm:X.calm = true):yM X (.builtin "any") (fun xs H Q=>∃ (l:Addr) (bs:List Bool),xs = [.ref l] /\ SqL X.K H l (bs.map V.bl) /\ Q (.bl (bs.any id)) H):=by
 intro pins s σ H xs us Q I r h
 obtain ⟨l,bs,rfl,hl,q⟩:=h
 obtain ⟨u,rfl,rx⟩:=wa r
 cases (show u = Value.ref l from rx)
 obtain ⟨vs,rv,pl,_⟩:=I.list hl
 have hl':s.heap.IsList l vs.toArray:=pl.isList
 have hb:LSm.BoolsAre vs bs:=vK rv
 have hlt:l < s.heap.objs.size:=by obtain ⟨_,e,_⟩:=hl'; exact Heap.lt_size e
 refine call_any_walk (wpAny_pyIter_list hl' ?_)
 refine ⟨s.heap.objs.size,[s.heap.objs.size,l],[s.heap.objs.size],vs.toArray.size,_,_,fun i=>(bs[i]?).getD true,rfl,Walks.list (A:=X.A.in1) (I.ok.hd hcalm) _ l (Nat.ne_of_lt hlt) vs.toArray,
  ⟨⟨_,Heap.get?_push_size _ rfl,rfl,rfl⟩,hl'.push _⟩,fun i v s' Q' E' hP hQ=>?_,fun h' tk hk=>?_⟩
 ·obtain ⟨b,e,rfl⟩:=hb.get i v (by simpa using hP)
  simp only [e,Option.getD_some] at hQ
  exact wpAny_truthy_bool hQ
 ·have e:((List.range vs.toArray.size).any fun i=>(bs[i]?).getD true) = bs.any id:=by
   have hlen:bs.length = vs.length:=by rw [← rv.length,List.length_map]
   rw [List.size_toArray,← hlen,Bool.eq_iff_iff,List.any_eq_true,List.any_eq_true]
   constructor
   ·rintro ⟨i,hi,z⟩
    have hi':=List.mem_range.mp hi
    exact ⟨bs[i],List.getElem_mem hi',by simpa [List.getElem?_eq_getElem hi'] using z⟩
   ·rintro ⟨b,hb',z⟩
    obtain ⟨i,hi,rfl⟩:=List.getElem_of_mem hb'
    exact ⟨i,List.mem_range.mpr hi,by simpa [List.getElem?_eq_getElem hi] using z⟩
  rw [e]
  exact ⟨.bl (bs.any id),H,I.kept (t':=tk) (h':=h') (LSm.kept_iter hk),rfl,q⟩
theorem Wp {K:FG7} (h:X.K = K):SlR X (rSlL K):=by subst h; exact VN
end
theorem U3 {i j:Int} (h:-(2 ^ 60) < i /\ i < 2 ^ 60):IntMulOk i j:=PySem.IntMulOk.of_left (Nat.le_trans ((PySem.intBits_le_iff (m:=60)).mpr (by obtain ⟨a,b⟩:=h; omega)) (by decide))
theorem Zh {k:Nat} (h:k <= 4):(2:Nat) ^ k <= 16:=Nat.le_trans (Nat.pow_le_pow_right (by decide) h) (by decide)
theorem VX {k:Nat}:(1:Int) * 2 ^ ((k:Int)).toNat = ((2 ^ k:Nat):Int):=by rw [Int.toNat_natCast,Int.one_mul,Int.natCast_pow]; rfl
section
variable {X:Cx}
theorem Yo:∀ {ns:List Int} {us:List Value},Vals (ns.map V.int) us -> ∀ (i:Nat) (v:Value),us[i]? = some v -> ∃ t,v = Value.int ((ns[i]?).getD 0) t
 | [],_,.nil,i,v,e=>by cases e
 | n :: ns,_,.cons r t,0,v,e=>by
  obtain ⟨u,rfl⟩:=r
  obtain rfl:=Option.some.inj e
  exact ⟨u,rfl⟩
 | n :: ns,_,.cons r t,i + 1,v,e=>Yo t i v e
theorem Yp (hcalm:X.calm = true):yM X (.builtin "max") (fun xs H Q=>∃ (l:Addr) (ns:List Int),xs = [.ref l] /\ SqL X.K H l (ns.map V.int) /\ 0 < ns.length /\ ∀ M,M ∈ ns -> (∀ a ∈ ns,a <= M) -> Q (.int M) H):=by
 intro pins s σ H xs us Q I r h
 obtain ⟨l,ns,rfl,hl,h0,q⟩:=h
 obtain ⟨u,rfl,rx⟩:=wa r
 cases (show u = Value.ref l from rx)
 obtain ⟨vs,rv,pl,_⟩:=I.list hl
 have hl':s.heap.IsList l vs.toArray:=pl.isList
 have hb:=Yo rv
 have hlen:ns.length = vs.length:=by rw [← rv.length,List.length_map]
 have hlt:l < s.heap.objs.size:=by obtain ⟨_,e,_⟩:=hl'; exact Heap.lt_size e
 have best:=argBest_gt (fun i=>(ns[i]?).getD 0) (vs.length - 1)
 refine call_max_walk (wpAny_pyIter_list hl' ?_)
 refine ⟨s.heap.objs.size,[s.heap.objs.size,l],[s.heap.objs.size],vs.toArray.size,_,_,fun i j=>decide ((ns[i]?).getD 0 > (ns[j]?).getD 0),rfl,Walks.list (A:=X.A.in1) (I.ok.hd hcalm) _ l (Nat.ne_of_lt hlt) vs.toArray,
  ⟨⟨_,Heap.get?_push_size _ rfl,rfl,rfl⟩,hl'.push _⟩,?_,?_,CmpOf.ints_gt _ (fun i v hP=>hb i v (by simpa using hP)),fun v h' tk hP hk=>?_⟩
 ·intro b hb
  have sz:(s.heap.push { cls:=.type "list_iterator",data:=.fields #[.ref l,.int 0 0] }).objs.size = s.heap.objs.size + 1:=Heap.size_push ..
  rcases List.mem_cons.mp hb with z | z
  ·rw [z]; show _ < (s.heap.push _).objs.size; rw [sz]; omega
  ·rw [List.mem_singleton.mp z]; show _ < (s.heap.push _).objs.size; rw [sz]; exact Nat.lt_succ_of_lt hlt
 ·rw [List.size_toArray]; omega
 ·rw [List.size_toArray] at hP
  obtain ⟨t,rfl⟩:=hb _ v (by simpa using hP)
  have hi:argBest (fun i j=>decide ((ns[i]?).getD 0 > (ns[j]?).getD 0)) (vs.length - 1) < ns.length:=by have:=best.1; omega
  refine ⟨.int ((ns[argBest (fun i j=>decide ((ns[i]?).getD 0 > (ns[j]?).getD 0)) (vs.length - 1)]?).getD 0),H,I.kept (t':=tk) (h':=h') (LSm.kept_iter hk),⟨t,rfl⟩,q _ ?_ ?_⟩
  ·rw [List.getElem?_eq_getElem hi]; exact List.getElem_mem hi
  ·intro a ha
   obtain ⟨j,hj,rfl⟩:=List.getElem_of_mem ha
   have:=best.2 j (by omega)
   rw [List.getElem?_eq_getElem hj] at this
   exact this
end
def pI (p:Int -> Bool):V -> Bool
 | .int i=>p i
 | _=>false
theorem Yq (p:Int -> Bool):∀ ns:List Int,((ns.map V.int).filter (pI p)).map id = (ns.filter p).map V.int
 | []=>rfl
 | n :: ns=>by
  have ih:=Yq p ns
  rw [List.map_id] at ih ⊢
  rw [List.map_cons,List.filter_cons,List.filter_cons,show pI p (V.int n) = p n from rfl]
  split
  ·rw [ih]; rfl
  ·exact ih
theorem Deed.Sm.bd2 {d:Deed} (h:d.Sm):d.Bd (2 * 10 ^ 30):=h.bd.mono (by decide)
section
variable {X:Cx} {pins:List (Addr × Obj)} {σ:L2.St} {H2:Hp} {s₂:Shared} {it:Addr} {fp:List Addr} {tn:Nat -> Heap -> Prop} {J:It} {scope:Scope} {cl:List (Str × Addr)} {N':List Str} {sub:List (Option Nat)}
theorem Yr {C D:Addr} {s₀:Shared} {tg:Expr} {pos:Pos} {elt iter:Expr} {ifs:List Expr} {g:TG} {tt:TT} {te:TE} {Q:VK} {RR:Value -> Addr -> Result -> Shared -> Prop} {W:Nat -> Nat -> List V -> L2.St -> Hp -> Prop}
  (I:Inv X pins σ H2 s₂) (hcalm:X.calm = true) (T:Turn X.prog X.w X.K tg J fp it tn) (f2:∀ b ∈ fp,FpOk X pins H2 b) (hfp:∀ b ∈ fp,b < s₂.heap.objs.size)
  (hs₀:∀ b o,s₂.heap.get? b = some o -> s₀.heap.get? b = some o) (hos:s₀.os = s₂.os) (hD:s₂.heap.objs.size <= D) (hC:s₂.heap.objs.size <= C) (hDC:D ≠ C)
  (hcl1:∀ x c,cl.lookup x = some c -> X.env.cells.lookup x = some c)
  (hg:PG (cxC X N' scope cl C D fp s₀ H2) tg g) (ht:PIfs (cxC X N' scope cl C D fp s₀ H2) ifs tt) (he:PE (cxC X N' scope cl C D fp s₀ H2) elt te)
  (turn:∀ i m ys σ' H',W i m ys σ' H' →
   (J.stop i H' /\ ∀ l,H' l = none -> Q (.ref l) (upd H' l (.lst ys))) ∨
   (J.go i H' /\ ∃ Nn:List V -> L2.St -> Hp -> Prop,(∀ zs σ2 H2,Nn zs σ2 H2 -> ∃ m',m' < m /\ W (i + 1) m' zs σ2 H2) ∧
    ∀ x H2,J.yld i H' x H2 -> g x σ' H2 fun σ2 H3=>tt σ2 H3 fun b H4=>if b = true then te σ2 H4 fun y H5=>ys.length < sizeLine /\ Nn (ys ++ [y]) σ2 H5 else Nn ys σ2 H4))
  (hRR:∀ (D C:Addr) (oC:Obj) (m:Str -> Option Value) (s':Shared) (Hf:Hp),Inv X (pins ++ [(C,oC)]) σ Hf s' -> s'.heap.Ns C m -> FpOk X pins Hf C -> Q (.ref D) Hf -> RR (.ref D) C (.ok .next) s')
  (n:Nat) (s:Shared) (h:∃ i ys us k σ' H',Inv (cxC X N' scope cl C D fp s₀ H2) pins σ' H' s /\ tn i s.heap /\ (∀ b ∈ fp,H' b = none) /\ H' D = none ∧
   s.heap.get? D = some { cls:=.type "list",data:=.seq (us:List Value).toArray k } /\ Vals ys us /\ ys.length <= sizeLine /\ W i n ys σ' H') :
  codeAny (model X.prog X.w) X.A (.compLoop (.ListComp elt [⟨tg,iter,ifs,0⟩] scope pos) 0 (.ref it) (.ref D) (compEnvC scope cl C X.env)) (RR (.ref D) C) s:=by
 have frsz:∀ b ∈ frs X.stack,b < s₂.heap.objs.size:=fun b hb=>by
  rcases List.mem_cons.mp (I.stkSub b hb) with z | z
  ·rw [z]; exact I.lt
  ·exact Nat.lt_of_not_le fun q=>I.nofs q z
 have cells:∀ x c,cl.lookup x = some c -> c < s₂.heap.objs.size:=fun x c e=>let ⟨v,q⟩:=I.cell x c (hcl1 x c e); q.lt
 have pinsz:∀ p ∈ X.pn ++ pins,p.1 < s₂.heap.objs.size:=fun p hp=>Heap.lt_size (I.pin p hp).1
 refine Yi (fun n s=>∃ i ys us k σ' H',Inv (cxC X N' scope cl C D fp s₀ H2) pins σ' H' s /\ tn i s.heap /\ (∀ b ∈ fp,H' b = none) /\ H' D = none ∧
   s.heap.get? D = some { cls:=.type "list",data:=.seq (us:List Value).toArray k } /\ Vals ys us /\ ys.length <= sizeLine /\ W i n ys σ' H') ?_ n h
 rintro n s ⟨i,ys,us,k,σ',H',I',st',fr,hn,hy,rv,hz,w'⟩
 have pD:Inv (cxC X N' scope cl C D fp s₀ H2) (pins ++ [(D,{ cls:=.type "list",data:=.seq us.toArray k })]) σ' H' s:=I'.pins_of fun p hp=>by
  rcases List.mem_append.mp hp with hp | hp
  ·exact I'.pin p (List.mem_append_right _ hp)
  ·rw [List.mem_singleton.mp hp]
   exact ⟨hy,hn,hDC,fun z=>absurd (Nat.lt_of_lt_of_le (frsz _ z) hD) (Nat.lt_irrefl _),fun v z=>by cases z⟩
 have fpok:∀ {H'':Hp},(∀ b ∈ fp,H'' b = none) -> ∀ b ∈ fp,FpOk (cxC X N' scope cl C D fp s₀ H2) (pins ++ [(D,{ cls:=.type "list",data:=.seq us.toArray k })]) H'' b:=fun hz b hb=>by
  refine ⟨hz b hb,Nat.ne_of_lt (Nat.lt_of_lt_of_le (hfp b hb) hC),fun z=>?_,.inl (List.mem_cons_of_mem _ hb),fun x c e=>(f2 b hb).2.2.2.2.1 x c (hcl1 x c e),fun p hp=>?_⟩
  ·rcases List.mem_cons.mp (I.stkSub b z) with z | z
   ·exact (f2 b hb).2.1 z
   ·exact (f2 b hb).2.2.1 z
  ·rcases List.mem_append.mp hp with hp | hp
   ·exact (f2 b hb).2.2.2.2.2 p (List.mem_append_left _ hp)
   ·rcases List.mem_append.mp hp with hp | hp
    ·exact (f2 b hb).2.2.2.2.2 p (List.mem_append_right _ hp)
    ·rw [List.mem_singleton.mp hp]
     exact Nat.ne_of_gt (Nat.lt_of_lt_of_le (hfp b hb) hD)
 rcases turn i n ys σ' H' w' with ⟨stop,q⟩ | ⟨go,Nn,hN,step⟩
 ·refine thn (T.done (cxC X N' scope cl C D fp s₀ H2) rfl rfl rfl hcalm i _ s σ' H' (fun _ _=>False) pD (fpok fr) st' stop) fun r s1 ⟨hr,I1⟩=>?_
  subst hr
  have hy1:=(I1.pin (D,{ cls:=.type "list",data:=.seq us.toArray k }) (by simp)).1
  obtain ⟨m,hm,_⟩:=I1.loc
  obtain ⟨oC,es,ep,hoC,hdC,_⟩:=id hm
  obtain ⟨IX,fpc⟩:=Wl I hs₀ hos hD hC hDC f2 I1.unpinned hn hy1 rv hz hoC (by intro v z; rw [hdC] at z; cases z)
  exact hRR D C oC m s1 _ IX hm fpc (q D hn)
 ·refine thn (T.item (cxC X N' scope cl C D fp s₀ H2) rfl rfl rfl hcalm i _ s σ' H' (fun _ _=>False) pD (fpok fr) st' go) fun r s1 ⟨u,hr,h4⟩=>?_
  subst hr
  refine thn h4 fun _ s2 ⟨x5,H5,I5,r5,y5,st5,fr5⟩=>?_
  have I5':=I5.pinned (fpok fr5) (T.obj _ _ st5)
  refine thn (hg _ s2 σ' H5 x5 u _ I5' r5 (step x5 H5 y5)) fun _ s3 ⟨σ6,H6,I6,q6⟩=>?_
  refine thn (ht _ s3 σ6 H6 _ I6 q6) fun ok s4 ⟨H7,I7,q7⟩=>?_
  have stay:∀ {σ7:L2.St} {H7:Hp} {s7:Shared},Inv (cxC X N' scope cl C D fp s₀ H2) (pins ++ [(D,{ cls:=.type "list",data:=.seq us.toArray k })] ++ sv fp s2.heap) σ7 H7 s7 →
    (∀ b ∈ fp,∀ o,s2.heap.get? b = some o -> s7.heap.get? b = some o) /\ (∀ b ∈ fp,H7 b = none) /\ H7 D = none /\ s7.heap.get? D = some { cls:=.type "list",data:=.seq us.toArray k }:=fun {σ7 H7 s7} I7=>by
   have d:=I7.pin (D,{ cls:=.type "list",data:=.seq us.toArray k }) (by simp)
   refine ⟨fun b hb o e=>(I7.pin (b,o) (List.mem_append_right _ (List.mem_append_right _ (xG hb e)))).1,fun b hb=>?_,d.2.1,d.1⟩
   obtain ⟨o,e,_⟩:=T.obj _ _ st5 b hb
   exact (I7.pin (b,o) (List.mem_append_right _ (List.mem_append_right _ (xG hb e)))).2.1
  cases ok with
  | false =>
   rw [if_neg (by decide)] at q7 ⊢
   obtain ⟨k1,k2,k3,k4⟩:=stay I7
   obtain ⟨m',hm,w7⟩:=hN ys σ6 H7 q7
   exact ⟨m',hm,i + 1,ys,us,k,σ6,H7,I7.unpinned.unpinned,T.keep _ _ _ st5 k1,k2,k3,k4,rv,hz,w7⟩
  | true =>
   rw [if_pos rfl] at q7 ⊢
   refine thn (he _ s4 σ6 H7 _ I7 q7) fun v s5 ⟨y,H8,I8,r8,hl8,n8⟩=>?_
   obtain ⟨k1,k2,k3,k4⟩:=stay I8
   refine wpAny_list_append_plain (l:=D) ⟨k,k4⟩ (fun h' pl sb=>?_) (by rw [List.size_toArray,← rv.length]; exact hz)
   obtain ⟨k',e'⟩:=pl
   obtain ⟨m',hm,w8⟩:=hN _ σ6 H8 n8
   refine ⟨m',hm,i + 1,ys ++ [y],us ++ [v],k',σ6,H8,?_,T.keep _ _ _ (T.keep _ _ _ st5 k1) fun b hb o e=>sb.extBut b o (Nat.ne_of_lt (Nat.lt_of_lt_of_le (hfp b hb) hD)) e,k2,k3,?_,rv.append (.cons r8 .nil),?_,w8⟩
   ·exact (I8.unpinned.unpinned).turned (it:=D) (t':=s5.toks) (h':=h') (fun b o hb e=>sb.extBut b o hb e) k3 hDC (.inl (by simp)) (fun x c e=>Nat.ne_of_lt (Nat.lt_of_lt_of_le (cells x c e) hD)) (fun p hp=>Nat.ne_of_lt (Nat.lt_of_lt_of_le (pinsz p hp) hD))
   ·rw [e']; simp
   ·rw [List.length_append]; exact hl8
theorem vP {tg:Expr} {pos:Pos} {elt iter:Expr} {ifs:List Expr} {g:TG} {tt:TT} {te:TE} {E:VS7} {Q:VK} {RR:Value -> Addr -> Result -> Shared -> Prop}
  (I:Inv X pins σ H2 s₂) (hcalm:X.calm = true) (T:Turn X.prog X.w X.K tg J fp it tn) (st:tn 0 s₂.heap) (f2:∀ b ∈ fp,FpOk X pins H2 b)
  (S:CSc X scope N' sub) (hcl1:∀ x c,cl.lookup x = some c -> X.env.cells.lookup x = some c) (hcl2:∀ y ∈ scope.names,y.2 = .free -> ∃ c,cl.lookup y.1 = some c)
  (hg:∀ C D fp s H,PG (cxC X N' scope cl C D fp s H) tg g) (ht:∀ C D fp s H,PIfs (cxC X N' scope cl C D fp s H) ifs tt) (he:∀ C D fp s H,PE (cxC X N' scope cl C D fp s H) elt te)
  (hW:wc J (capt sub σ) H2 g tt te Q)
  (hRR:∀ (D C:Addr) (oC:Obj) (m:Str -> Option Value) (s':Shared) (Hf:Hp),Inv X (pins ++ [(C,oC)]) σ Hf s' -> s'.heap.Ns C m -> FpOk X pins Hf C -> Q (.ref D) Hf -> RR (.ref D) C (.ok .next) s') :
  wpAny (model X.prog X.w) X.A (newList []) (fun acc s₃=>wpAny (model X.prog X.w) X.A (newFunctionEnv scope X.env.globals cl [] X.env.qual none .none (some X.env)) (fun cenv s₄ =>
   codeAny (model X.prog X.w) X.A (.compStart (.ListComp elt [⟨tg,iter,ifs,0⟩] scope pos) 0 (.ref it) acc { cenv with scope:=relabel scope X.env }) (RR acc cenv.locals) s₄) E s₃) E s₂:=by
 obtain ⟨W,⟨m0,w0⟩,turn⟩:=hW
 refine wpAny_newObj_type (wpAny_newFunctionEnv S.nocell (by intro y hy; simp at hy) (fun h₁ hns₁ hsb₁=>?_) S.kind)
 dsimp only at hns₁ hsb₁ ⊢
 have hC:(s₂.heap.push { cls:=.type "list",dict:=none,data:=.seq ([]:List Value).toArray }).objs.size = s₂.heap.objs.size + 1:=Heap.size_push ..
 rw [hC] at hns₁ hsb₁ ⊢
 have hk:∀ b o,(s₂.heap.push { cls:=.type "list",dict:=none,data:=.seq ([]:List Value).toArray }).get? b = some o -> h₁.get? b = some o:=fun b o e =>
  hsb₁.extBut b o (by have:=Heap.lt_size e; rw [hC] at this; exact Nat.ne_of_lt this) (Heap.get?_push_of_some _ e)
 have hfp:∀ b ∈ fp,b < s₂.heap.objs.size:=fun b hb=>by
  obtain ⟨o,e,_⟩:=T.obj _ _ st b hb
  exact Heap.lt_size e
 have I0:=j9 (tk:=s₂.toks + ([]:List (Str × Value)).length) I S hcl1 hcl2 f2 hfp hns₁ hk
 have hD0:h₁.get? s₂.heap.objs.size = some { cls:=.type "list",data:=.seq ([]:List Value).toArray 0 }:=hk _ _ (Heap.get?_push_size _ rfl)
 have loop:codeAny (model X.prog X.w) X.A (.compLoop (.ListComp elt [⟨tg,iter,ifs,0⟩] scope pos) 0 (.ref it) (.ref s₂.heap.objs.size) (compEnvC scope cl (s₂.heap.objs.size + 1) X.env)) (RR (.ref s₂.heap.objs.size) (s₂.heap.objs.size + 1)) { s₂ with heap:=h₁,toks:=s₂.toks + ([]:List (Str × Value)).length } :=
  Yr (s₀:={ s₂ with heap:=s₂.heap.push { cls:=.type "list",dict:=none,data:=.seq ([]:List Value).toArray } }) (C:=s₂.heap.objs.size + 1) (D:=s₂.heap.objs.size) I hcalm T f2 hfp (fun b o e=>Heap.get?_push_of_some _ e) rfl (Nat.le_refl _) (Nat.le_succ _) (Nat.ne_of_lt (Nat.lt_succ_self _)) hcl1 (hg _ _ _ _ _) (ht _ _ _ _ _) (he _ _ _ _ _) turn hRR m0 _
   ⟨0,[],[],0,capt sub σ,H2,I0,T.keep _ _ _ st fun b hb o e=>hk b o (Heap.get?_push_of_some _ e),fun b hb=>(f2 b hb).1,I.hok.fresh (Nat.le_refl _),hD0,.nil,Nat.zero_le _,w0⟩
 exact codeAny_compStart_list loop (T.self _ _ _ _ _ (T.keep _ _ _ st fun b hb o e=>hk b o (Heap.get?_push_of_some _ e)) loop)
end
section
variable {X:Cx} {scope:Scope} {N':List Str} {sub:List (Option Nat)} {tg:Expr} {pos:Pos} {elt iter:Expr} {ifs:List Expr} {wi:TI} {g:TG} {tt:TT} {te:TE}
theorem zQ (S:CSc X scope N' sub) (hcalm:X.calm = true) (hi:PI X tg iter wi)
  (hg:∀ cl C D fp s H,PG (cxC X N' scope cl C D fp s H) tg g) (ht:∀ cl C D fp s H,PIfs (cxC X N' scope cl C D fp s H) ifs tt) (he:∀ cl C D fp s H,PE (cxC X N' scope cl C D fp s H) elt te)
  (hs:∀ x,foldedSetIterable iter X.env x = pure x:=by intro _; rfl):PE X (.ListComp elt [⟨tg,iter,ifs,0⟩] scope pos) (UU wi sub g tt te):=by
 intro pins s σ H Q I h
 obtain ⟨cl,hclos,hcl1,hcl2⟩:=S.clos I
 rw [eval_ListComp]
 refine wpAny_comprehension_free (use:=none) rfl hs hclos S.kind S.names (thn (hi pins s σ H _ I h) fun v s1 h1=>thn h1 fun itv s2 h2=>?_)
 obtain ⟨it,fp,tn,J,H2,e,I2,T,st2,f2,hW⟩:=h2
 subst e
 refine vP (RR:=fun acc C=>compPost (model X.prog X.w) X.A X.xe none (EP X pins σ Q) acc C) I2 hcalm T st2 f2 S hcl1 hcl2 (hg cl) (ht cl) (he cl) hW ?_
 intro D C oC m s' Hf IX hm fpc q
 refine ⟨m,hm,fun h' sb=>⟨.ref D,Hf,?_,rfl,q⟩⟩
 exact (IX.unpinned).turned (it:=C) (t':=s'.toks) (h':=h') (fun b o hb e=>sb.extBut b o hb e) fpc.1 fpc.2.1 fpc.2.2.2.1 fpc.2.2.2.2.1 fpc.2.2.2.2.2
theorem vn {i:Nat} {y:Str} {py spos:Pos} (hN:X.N.Nodup) (hiN:X.N[i]? = some y) (hy:X.env.scope.names.lookup y = some .local) (S:CSc X scope N' sub) (hcalm:X.calm = true) (hi:PI X tg iter wi)
  (hg:∀ cl C D fp s H,PG (cxC X N' scope cl C D fp s H) tg g) (ht:∀ cl C D fp s H,PIfs (cxC X N' scope cl C D fp s H) ifs tt) (he:∀ cl C D fp s H,PE (cxC X N' scope cl C D fp s H) elt te)
  (hsw:swapsWith (.ListComp elt [⟨tg,iter,ifs,0⟩] scope pos) (some (.Name y py)) spos.line X.env = pure true:=by rfl)
  (hs:∀ x,foldedSetIterable iter X.env x = pure x:=by intro _; rfl):PS X (.Assign [.Name y py] (.ListComp elt [⟨tg,iter,ifs,0⟩] scope pos) spos) (tAsg (UU wi sub g tt te) (x9 i)):=by
 intro pins s σ H D I h
 obtain ⟨cl,hclos,hcl1,hcl2⟩:=S.clos I
 rw [exec_Assign_Name_used _ _ _ _ hsw]
 refine wpAny_bind (wpAny_standAt (wpAny_bind ?_))
 show wpAny _ X.A (do let _ ← comprehension (.ListComp elt [⟨tg,iter,ifs,0⟩] scope pos) scope X.env _ (newList []) false (eval iter X.env) (some (assign (.Name y py) X.env))) _ _ s
 refine wpAny_bind (wpAny_mono (wpAny_comprehension_free (use:=some (assign (.Name y py) X.env)) (Q:=fun _ s'=>SP X pins D .next s') rfl hs hclos S.kind S.names
  (thn (hi pins s σ H _ I h) fun v s1 h1=>thn h1 fun itv s2 h2=>?_)) (fun _ s' hq=>wpAny_pure (wpAny_pure hq)) fun _ _ e=>e)
 obtain ⟨it,fp,tn,J,H2,e,I2,T,st2,f2,hW⟩:=h2
 subst e
 refine vP (Q:=fun x H1=>x9 i x σ H1 D.nx) (RR:=fun acc C=>compPost (model X.prog X.w) X.A X.xe (some (assign (.Name y py) X.env)) (fun _ s'=>SP X pins D .next s') acc C) I2 hcalm T st2 f2 S hcl1 hcl2 (hg cl) (ht cl) (he cl) hW ?_
 intro L C oC m s' Hf IX hm fpc q
 have st:=zh (X:=X) (pos:=py) hN hiN (.inl hy) (.inr hy) _ s' σ Hf (.ref L) (.ref L) D.nx IX rfl q
 refine thn st fun _ s'' ⟨σ2,H2,I2',q2⟩=>?_
 have p:=I2'.pin (C,oC) (by simp)
 have hm':s''.heap.Ns C m:=by
  obtain ⟨o,es,ep,e1,r⟩:=hm
  have z:=(IX.pin (C,oC) (by simp)).1
  rw [e1] at z; cases z
  exact ⟨_,es,ep,p.1,r⟩
 refine ⟨m,hm',fun h' sb=>⟨σ2,H2,?_,q2⟩⟩
 exact (I2'.unpinned).turned (it:=C) (t':=s''.toks) (h':=h') (fun b o hb e=>sb.extBut b o hb e) p.2.1 fpc.2.1 fpc.2.2.2.1 fpc.2.2.2.2.1 fpc.2.2.2.2.2
end
section
variable {prog:Program} {w:World} {A:Around} {E:VS7} {s:Shared}
def tG (h:Heap) (a:Addr) (cn:String) (vs:Array Value):Prop:=(cn = "tuple_iterator" /\ h.IsTuple a vs) \/ (cn = "list_iterator" /\ h.IsList a vs)
theorem tG.iter {a:Addr} {cn:String} {vs:Array Value} {Q:VS7} (h:tG s.heap a cn vs)
  (q:Q (.ref s.heap.objs.size) { s with heap:=s.heap.push { cls:=.type cn,data:=.fields #[.ref a,.int 0 0] } }):wpAny (model prog w) A (pyIter (.ref a)) Q E s:=by
 rcases h with ⟨rfl,h⟩ | ⟨rfl,h⟩
 ·exact wpAny_pyIter_tuple h q
 ·exact wpAny_pyIter_list h q
theorem tG.push {h:Heap} {a:Addr} {cn:String} {vs:Array Value} (x:tG h a cn vs) (o:Obj):tG (h.push o) a cn vs:=by
 rcases x with ⟨rfl,x⟩ | ⟨rfl,x⟩
 ·exact .inl ⟨rfl,x.push o⟩
 ·exact .inr ⟨rfl,x.push o⟩
def zpO (c:String) (a:Addr):Obj:={ cls:=.type c,data:=.fields #[.ref a,.int 0 0] }
end
def SqC (c:Bool) (K:FG7) (H:Hp) (a:Addr) (xs:List V):Prop:=match c with
 | true=>SqT K H a xs
 | false=>SqL K H a xs
def vQ (c:Bool) (h:Heap) (j a:Addr) (i:Nat):Prop:=match c with
 | true=>h.IsTupleIter j a i
 | false=>h.IsListIter j a i
def SeqC (c:Bool) (h:Heap) (a:Addr) (vs:Array Value):Prop:=match c with
 | true=>h.IsTuple a vs
 | false=>h.IsList a vs
def cnC (c:Bool):String:=match c with
 | true=>"tuple_iterator"
 | false=>"list_iterator"
theorem vQ.at {c:Bool} {h h':Heap} {j a:Addr} {i:Nat} (x:vQ c h j a i) (k:∀ o,h.get? j = some o -> h'.get? j = some o):vQ c h' j a i:=by
 cases c
 ·exact Heap.IsListIter.at x k
 ·exact Heap.IsTupleIter.at x k
theorem vQ.obj {c:Bool} {h:Heap} {j a:Addr} {i:Nat} (x:vQ c h j a i):∃ o,h.get? j = some o /\ ∀ v,o.data ≠ .cell v:=by
 cases c
 ·obtain ⟨o,e,_,d⟩:=x
  exact ⟨o,e,fun v z=>by rw [d] at z; cases z⟩
 ·obtain ⟨o,e,_,d⟩:=x
  exact ⟨o,e,fun v z=>by rw [d] at z; cases z⟩
theorem vQ.mk {c:Bool} {h:Heap} {j a:Addr} (e:h.get? j = some (zpO (cnC c) a)):vQ c h j a 0:=by
 cases c
 ·exact ⟨_,e,rfl,rfl⟩
 ·exact ⟨_,e,rfl,rfl⟩
theorem SeqC.src {c:Bool} {h:Heap} {a:Addr} {vs:Array Value} (x:SeqC c h a vs):tG h a (cnC c) vs:=by
 cases c
 ·exact .inr ⟨rfl,x⟩
 ·exact .inl ⟨rfl,x⟩
theorem SeqC.lt {c:Bool} {h:Heap} {a:Addr} {vs:Array Value} (x:SeqC c h a vs):a < h.objs.size:=by
 cases c
 ·obtain ⟨_,e,_⟩:=(show h.IsList a vs from x); exact Heap.lt_size e
 ·obtain ⟨_,e,_⟩:=(show h.IsTuple a vs from x); exact Heap.lt_size e
theorem U4 {prog:Program} {w:World} {A:Around} (hh:A.handled = none) (c:Bool) (j t:Addr) (hne:t ≠ j) (vs:Array Value) :
  Draws prog w A j [j,t] vs.size (fun i v=>vs[i]? = some v) (fun i h=>vQ c h j t i /\ SeqC c h t vs):=by
 cases c
 ·exact Draws.list hh j t hne vs
 ·exact Ym hh j t hne vs
theorem Zi {prog:Program} {w:World} {A:Around} (hh:A.handled = none) (jt t:Addr) (vs:Array Value) {i:Nat} (hv:vs[i]? = none) :
  Draws prog w A jt [jt,t] i (fun _ _=>True) (fun j h=>j = i /\ h.IsListIter jt t i /\ h.IsList t vs) where
 live:=fun _ _ st=>let ⟨o,ho,_⟩:=st.2.1; ⟨o,ho⟩
 frame:=fun _ _ _ st hk=>⟨st.1,st.2.1.at (hk jt (by simp)),st.2.2.at (hk t (by simp))⟩
 item:=fun j s Q E hj st hQ=>absurd st.1 (Nat.ne_of_lt hj)
 done:=fun s Q E st hE=>wpAny_nextOf_list_end hh st.2.1 st.2.2 hv hE
theorem Zj {prog:Program} {w:World} {A:Around} (hh:A.handled = none) (c:Bool) (j t:Addr) (vs:Array Value) {i:Nat} (hv:vs[i]? = none) :
  Draws prog w A j [j,t] i (fun _ _=>True) (fun k h=>k = i /\ vQ c h j t i /\ SeqC c h t vs):=by
 cases c
 ·exact Zi hh j t vs hv
 ·exact Yn hh j t vs hv
theorem tH {X:Cx} {pins:List (Addr × Obj)} {σ:L2.St} {H:Hp} {s:Shared} {c:Bool} {a:Addr} {xs:List V} (I:Inv X pins σ H s) (h:SqC c X.K H a xs):∃ its:List Value,Vals xs its /\ SeqC c s.heap a its.toArray:=by
 cases c
 ·obtain ⟨its,r,p,_⟩:=I.list h
  exact ⟨its,r,p.isList⟩
 ·obtain ⟨its,r,p,_⟩:=I.tuple h
  exact ⟨its,r,p⟩
theorem sU {X:Cx} {pins:List (Addr × Obj)} {σ:L2.St} {H:Hp} {s:Shared} {c:Bool} {a:Addr} {xs ys:List V} (I:Inv X pins σ H s) (h:SqC c X.K H a xs) (h':SqC c X.K H a ys):xs = ys:=by
 cases c
 ·exact I.list_inj h h'
 ·exact I.tuple_inj h h'
section
variable {prog:Program} {w:World} {A:Around} {E:VS7} {s:Shared}
open PySem.AutoSeq1 (wpAny_loadPart')
theorem Ys (t:Addr) (c:Bool) (vs:Array Value) :
  Meets (Builtin.«enumerate.__new__» ⟨[.type "enumerate",.ref t],[]⟩) (fun _ R s=>SeqC c s.heap t vs ∧
   R (.ok (.ret (.ref (s.heap.push (zpO (cnC c) t)).objs.size)))
    { s with heap:=(s.heap.push (zpO (cnC c) t)).push { cls:=.type "enumerate",data:=.fields #[.none,.bool false,.ref s.heap.objs.size,rawInt 0,.none,.none] } }) :=
 .of_wp fun prog w A R s h=>by
  obtain ⟨hp,g,d,tk,os⟩:=s; obtain ⟨hT,h⟩:=h
  have hT':tG (Shared.heap ⟨hp,g,d,tk,os⟩) t (cnC c) vs:=hT.src
  obtain ⟨ot,hot⟩:∃ o,hp.get? t = some o:=by
   cases c
   ·obtain ⟨o,e,_⟩:=(show hp.IsList t vs from hT); exact ⟨o,e⟩
   ·obtain ⟨o,e,_⟩:=(show hp.IsTuple t vs from hT); exact ⟨o,e⟩
  have hsub:=sub_enumerate
  wp_walk using wpAny_loadPart' hot
  refine wpAny_stack_any fun st=>wpAny_pure ?_
  split
  ·rename_i c' _ _ _ _ _
   cases (c' == Value.type "enumerate") <;> (wp_walk using wpAny_loadPart' hot,tG.iter hT') <;> exact ⟨_,rfl,h⟩
  ·wp_walk using wpAny_loadPart' hot,tG.iter hT'
   exact ⟨_,rfl,h⟩
theorem Zk {t:Addr} {c:Bool} {vs:Array Value} {Q:VS7} (ht:SeqC c s.heap t vs)
  (h:∀ h',IsEnum h' (s.heap.objs.size + 1) s.heap.objs.size 0 .none -> vQ c h' s.heap.objs.size t 0 -> h'.objs.size = s.heap.objs.size + 2 -> (∀ b o,s.heap.get? b = some o -> h'.get? b = some o) -> Q (.ref (s.heap.objs.size + 1)) { s with heap:=h' }) :
  wpAny (model prog w) A (call (.type "enumerate") [.ref t]) Q E s:=by
 refine callType_new F.called_enumerate (by decide) (F.typeCall_enumerate_1 _) (F.newCall_enumerate_1 _) (fun obj=>F.args_object_init_2 obj _) F.entry_enumerate_new (Ys t c vs) ⟨ht,?_⟩
 have hz:(s.heap.push (zpO (cnC c) t)).objs.size = s.heap.objs.size + 1:=Heap.size_push ..
 show _ /\ _
 rw [hz]
 have he:IsEnum ((s.heap.push (zpO (cnC c) t)).push { cls:=.type "enumerate",data:=.fields #[.none,.bool false,.ref s.heap.objs.size,rawInt 0,.none,.none] }) (s.heap.objs.size + 1) s.heap.objs.size 0 .none:=by
  have:=Heap.get?_push_size (s.heap.push (zpO (cnC c) t)) (o:={ cls:=.type "enumerate",data:=.fields #[.none,.bool false,.ref s.heap.objs.size,rawInt 0,.none,.none] }) rfl
  rw [hz] at this; exact this
 exact ⟨⟨_,he,rfl⟩,h _ he (.mk (Heap.get?_push_of_some _ (Heap.get?_push_size _ rfl))) (by rw [Heap.size_push,Heap.size_push]) fun b o x=>Heap.get?_push_of_some _ (Heap.get?_push_of_some _ x)⟩
end
def IteC (c:Bool) (K:FG7) (a:Addr):It :=
 ⟨fun i H=>∃ xs x,SqC c K H a xs /\ xs[i]? = some x,fun i H x H'=>∃ T v,H T = none /\ x = .ref T /\ H' = upd H T (.tup [.int i,v]) /\ ∀ xs,SqC c K H a xs -> xs[i]? = some v,fun i H=>∃ xs,SqC c K H a xs /\ xs.length <= i⟩
theorem Zl {P:Program} {w:World} {K:FG7} {elts:List Expr} {kt:Nat} {pt:Pos} (c:Bool) (a e jt:Addr) (hej:e ≠ jt) (hae:a ≠ e) (haj:a ≠ jt) :
  Turn P w K (.Tuple elts kt pt) (IteC c K a) [e,jt] e (fun i h=>(∃ old,IsEnum h e jt i old) /\ vQ c h jt a i) where
 mem:=by simp
 obj:=fun i h st b hb=>by
  obtain ⟨⟨old,he⟩,st⟩:=st
  simp only [List.mem_cons,List.mem_nil_iff,or_false] at hb
  rcases hb with rfl | rfl
  ·exact ⟨_,he,fun v z=>by cases z⟩
  ·exact st.obj
 keep:=fun i h h' st k=>by
  obtain ⟨⟨old,he⟩,st⟩:=st
  exact ⟨⟨old,k e (by simp) _ he⟩,st.at fun o q=>k jt (by simp) o q⟩
 item:=by
  intro X hP hw hK hc i pins s σ H E I hf st hg
  subst hP hw hK
  obtain ⟨⟨old,he⟩,hit⟩:=st
  obtain ⟨xs,x,hq,hx⟩:=hg
  obtain ⟨its,rv,p⟩:=tH I hq
  obtain ⟨u,hu,ru⟩:=rv.get hx
  have hlt:i < its.toArray.size:=by have:=(List.getElem?_eq_some_iff.mp hu).1; simpa using this
  refine wpAny_pyNext_enum_itemD (U4 (A:=X.A.in1) (I.ok.hd hc) c jt a haj its.toArray) he ⟨hit,p⟩ hlt hej (by simp [hej,Ne.symm hae]) fun v h1 tk hv hout hst1 hT hsz hk=>?_
  have hvu:v = u:=by
   have e1:its.toArray[i]? = some v:=hv
   have e2:its.toArray[i]? = some u:=by simpa using hu
   rw [e1] at e2; exact Option.some.inj e2
  subst hvu
  refine ⟨_,rfl,wpAny_letOwnedTupleGo_enum (s:={ s with heap:=h1,toks:=tk + 1 }) hout fun h2 he2 hs2=>?_⟩
  have hk2:∀ b o,b ∉ [e,jt] -> s.heap.get? b = some o -> h2.get? b = some o:=fun b o hb q=>by
   have n1:b ≠ e:=fun z=>hb (by simp [z])
   have n2:b ≠ jt:=fun z=>hb (by simp [z])
   exact (hs2.2 b n1).trans (hk b o n1 n2 q)
  have eT:s.heap.objs.size ≠ e:=Nat.ne_of_gt (Heap.lt_size he)
  have hT2:h2.get? s.heap.objs.size = some { cls:=.type "tuple",data:=.seq #[.int i tk,v] }:=(hs2.2 _ eT).trans hT
  have hn:H s.heap.objs.size = none:=I.hok.fresh (Nat.le_refl _)
  have I2:Inv X pins σ (upd H s.heap.objs.size (.tup [.int i,x])) { s with heap:=h2,toks:=tk + 1 }:=jo (s:=s) I hk2 hf (Nat.le_refl _) ⟨by show 2 <= sizeLine; decide,[.int i tk,v],.cons ⟨_,rfl⟩ (.cons ru .nil),_,hT2,rfl,0,rfl⟩
  refine ⟨.ref s.heap.objs.size,upd H s.heap.objs.size (.tup [.int i,x]),I2,rfl,⟨_,x,hn,rfl,rfl,fun ys hy=>by rw [sU I hy hq]; exact hx⟩,⟨⟨v,by simpa using he2⟩,?_⟩,fun b hb=>?_⟩
  ·exact hst1.1.at fun o q=>(hs2.2 jt (Ne.symm hej)).trans q
  ·have nb:b ≠ s.heap.objs.size:=by
    obtain ⟨oj,hoj,_⟩:=hit.obj
    simp only [List.mem_cons,List.mem_nil_iff,or_false] at hb
    rcases hb with rfl | rfl
    ·exact Ne.symm eT
    ·exact Nat.ne_of_lt (Heap.lt_size hoj)
   rw [zv nb]; exact (hf b hb).1
 done:=by
  intro X hP hw hK hc i pins s σ H E I hf st hg
  subst hP hw hK
  obtain ⟨⟨old,he⟩,hit⟩:=st
  obtain ⟨xs,hq,hx⟩:=hg
  obtain ⟨its,rv,p⟩:=tH I hq
  have hl:=rv.length
  refine wpAny_pyNext_enum_endD (Zj (A:=X.A.in1) (I.ok.hd hc) c jt a its.toArray (i:=i) (by simp; omega)) he ⟨rfl,hit,p⟩ fun h' eb=>⟨rfl,?_⟩
  exact qe (fp:=[e,jt]) (t':=s.toks) I (fun b o hb q=>eb b o (fun z=>hb (by simp [z])) q) hf
 self:=fun _ _ _ _ _ st h=>by
  obtain ⟨⟨old,he⟩,_⟩:=st
  exact wpAny_pyIter_enum he h
section
variable {X:Cx} {elts:List Expr} {kt:Nat} {pt:Pos} {K:FG7}
def U5 (c:Bool) (K:FG7) (ta:TA):TI:=fun σ H R=>ta σ H fun vs H1=>∃ a xs,vs = [.ref a] /\ SqC c K H1 a xs /\ R (IteC c K a) H1
theorem wm {a:Expr} {ta:TA} {p pos:Pos} (c:Bool) (hK:X.K = K) (hg:Gl X "enumerate") (hm:X.mg "enumerate" = none) (ha:PA X [a] ta) (hs:starEach [a] X.env = [(false,eval a X.env)]:=by rfl) :
  PI X (.Tuple elts kt pt) (.Call (.Name "enumerate" p) [a] [] pos) (U5 c K ta):=by
 subst hK
 intro pins s σ H R I h
 refine Call_ (xO I hg hm U2 (PyProof.Rows.callWith_type1 (thn (ha pos pins s σ H _ I h) fun us s1 ⟨vs,H1,I1,r1,q1⟩=>?_) hs rfl))
 obtain ⟨t,xs,e,hq,q⟩:=q1
 subst e
 obtain ⟨u,rfl,e1⟩:=wa r1
 cases (show u = Value.ref t from e1)
 obtain ⟨its,rv,p⟩:=tH I1 hq
 refine Zk p fun h' he hit _ hk=>?_
 refine wpAny_pyIter_enum he ?_
 have lt:t < s1.heap.objs.size:=p.lt
 have I2:Inv X pins σ H1 { s1 with heap:=h' }:=I1.kept (t':=s1.toks) hk
 refine ⟨s1.heap.objs.size + 1,[s1.heap.objs.size + 1,s1.heap.objs.size],_,_,H1,rfl,I2,Zl c t (s1.heap.objs.size + 1) s1.heap.objs.size (Nat.succ_ne_self _) (Nat.ne_of_lt (Nat.lt_succ_of_lt lt)) (Nat.ne_of_lt lt),⟨⟨_,he⟩,hit⟩,fun b hb=>?_,q⟩
 simp only [List.mem_cons,List.mem_nil_iff,or_false] at hb
 rcases hb with rfl | rfl
 ·exact I1.fpOk (Nat.le_succ _) (I1.hok.fresh (Nat.le_succ _))
 ·exact I1.fpOk (Nat.le_refl _) (I1.hok.fresh (Nat.le_refl _))
end
section
variable {K:FG7} {a:Addr} {c:Bool} {xs:List V} {g:TG} {tt:TT} {te:TE} {tb:TS} {D:Ends} {Q:VK} {σ:L2.St} {H:Hp}
theorem vR (Pv:Nat -> L2.St -> Hp -> Prop) (h0:Pv 0 σ H) (hl:∀ i σ H,i <= xs.length -> Pv i σ H -> SqC c K H a xs)
  (hs:∀ i x σ H T,xs[i]? = some x -> Pv i σ H -> H T = none -> g (.ref T) σ (upd H T (.tup [.int i,x])) fun σ2 H2=>tb { D with nx:=Pv (i + 1),ct:=Pv (i + 1),bk:=D.nx } σ2 H2) (hd:∀ σ H,Pv xs.length σ H -> D.nx σ H) :
  ∃ W:Nat -> Nat -> L2.St -> Hp -> Prop,(∃ m,W 0 m σ H) /\ ∀ i m σ H,W i m σ H →
   ((IteC c K a).stop i H /\ D.nx σ H) \/ ((IteC c K a).go i H /\ ∃ N:L2.St -> Hp -> Prop,(∀ σ' H',N σ' H' -> ∃ m',m' < m /\ W (i + 1) m' σ' H') /\ ∀ x H',(IteC c K a).yld i H x H' -> g x σ H' fun σ2 H2=>tb { D with nx:=N,ct:=N,bk:=D.nx } σ2 H2):=by
 refine ⟨fun i m σ H=>m = xs.length - i /\ i <= xs.length /\ Pv i σ H,⟨xs.length,by simp,Nat.zero_le _,h0⟩,?_⟩
 rintro i m σ H ⟨rfl,hi,p⟩
 have q:=hl i σ H hi p
 by_cases hlt:i < xs.length
 ·refine .inr ⟨⟨xs,xs[i],q,by simp [hlt]⟩,Pv (i + 1),fun σ' H' p'=>⟨xs.length - (i + 1),by omega,rfl,hlt,p'⟩,fun x H' y=>?_⟩
  obtain ⟨T,v,hT,rfl,rfl,y⟩:=y
  exact hs i v σ H T (y xs q) p hT
 ·have e:i = xs.length:=by omega
  subst e
  exact .inl ⟨⟨xs,q,Nat.le_refl _⟩,hd σ H p⟩
theorem uE (Pv:Nat -> List V -> L2.St -> Hp -> Prop) (h0:Pv 0 [] σ H) (hl:∀ i zs σ H,Pv i zs σ H -> SqC c K H a xs)
  (hs:∀ i x zs σ H T,xs[i]? = some x -> Pv i zs σ H -> H T = none -> g (.ref T) σ (upd H T (.tup [.int i,x])) fun σ2 H3=>tt σ2 H3 fun b H4=>if b = true then te σ2 H4 fun y H5=>zs.length < sizeLine /\ Pv (i + 1) (zs ++ [y]) σ2 H5 else Pv (i + 1) zs σ2 H4)
  (hd:∀ zs σ H,Pv xs.length zs σ H -> ∀ l,H l = none -> Q (.ref l) (upd H l (.lst zs))) :
  wc (IteC c K a) σ H g tt te Q:=by
 refine ⟨fun i m zs σ H=>m = xs.length - i /\ i <= xs.length /\ Pv i zs σ H,⟨xs.length,by simp,Nat.zero_le _,h0⟩,?_⟩
 rintro i m zs σ H ⟨rfl,hi,p⟩
 have q:=hl i zs σ H p
 by_cases hlt:i < xs.length
 ·refine .inr ⟨⟨xs,xs[i],q,by simp [hlt]⟩,Pv (i + 1),fun ws σ' H' p'=>⟨xs.length - (i + 1),by omega,rfl,hlt,p'⟩,fun x H' y=>?_⟩
  obtain ⟨T,v,hT,rfl,rfl,y1⟩:=y
  exact hs i v zs σ H T (y1 xs q) p hT
 ·have e:i = xs.length:=by omega
  subst e
  exact .inl ⟨⟨xs,q,Nat.le_refl _⟩,hd zs σ H p⟩
end
section
variable {X:Cx}
theorem Yt:OpR X (compareOp .IsNot) (fun x y H Q=>∃ k j:Bool,x = .bl k /\ y = .bl j /\ Q (.bl (!(k == j))) H):=by
 intro pins s σ H x y v u Q I rx ry h
 obtain ⟨k,j,rfl,rfl,q⟩:=h
 cases (show v = Value.bool k from rx)
 cases (show u = Value.bool j from ry)
 refine wpAny_isNot_plain (by cases k <;> cases j <;> rfl) (zK I q ?_)
 cases k <;> cases j <;> rfl
variable {K:FG7}
theorem Yu {es:List Expr} {k:Nat} {pos:Pos} {t:TGs} (n:Nat) (h0:X.K = K) (hc:X.calm = true) (h:PGs X es t)
  (hn:(assignEach es X.env).length = n) (hst:(assignEach es X.env).findIdx? (·.1) = none):PG X (.Tuple es k pos) (gTup K n t):=by subst h0; exact yo hc h hn hst
theorem Zm (h:X.K = K):yM X (.type "list") (fun xs H Q=>∃ p ys,xs = [.ref p] /\ (SqL K H p ys \/ SqT K H p ys) /\ ∀ l,H l = none -> Q (.ref l) (upd H l (.lst ys))):=by subst h; exact xy
end
def InC (C:Int) (xs:List Int):Prop:=∀ v ∈ xs,-C <= v /\ v <= C
theorem InC.mono {B C:Int} {xs:List Int} (h:InC B xs) (hC:B <= C):InC C xs:=fun v hv=>by have:=h v hv; omega
theorem Vs.dat {K:FG7} {H:Hp} {x:V} {g:List Deed × List Deed} (h:Vs K H x g):Dat K H x (.tuple [.tuple (g.1.map qb),.tuple (g.2.map qb)]):=by
 obtain ⟨r,r1,r2,rfl,h0,d1,d2⟩:=h
 exact .tup h0 (.cons d1.dat (.cons d2.dat .nil))
theorem wb:∀ {ns:List Int} {us:List Value},IntsAre us ns -> Vals (ns.map V.int) us:=by
 intro ns us h
 induction h with
 | nil=>exact .nil
 | cons n t _ ih=>exact .cons ⟨t,rfl⟩ ih
structure Wk (prog:Program) (w:World) (A:Around) (T:String) (I:Addr) (n:Nat) (Fr:Addr -> Prop) (J:List Value -> Shared -> Prop) (Fn:List Value -> Shared -> Prop):Prop where
 ty:∀ acc s,J acc s -> s.TypeIs (.ref I) T
 self:∀ acc s (Q:VS7) (E:VS7),J acc s -> Q (.ref I) s -> wpAny (model prog w) A (pyIter (.ref I)) Q E s
 stay:∀ acc s (S:Addr) (ob:Obj) (h':Heap),J acc s -> Fr S -> s.heap.get? S = some ob -> ob.cls = .type "list" -> (∀ b o,b ≠ S -> s.heap.get? b = some o -> h'.get? b = some o) -> h'.objs.size = s.heap.objs.size -> J acc { s with heap:=h' }
 next:∀ acc s (S:Addr) (ob:Obj) (Q:Option Value -> Shared -> Prop) (E:VS7),J acc s -> Fr S -> s.heap.get? S = some ob -> ob.cls = .type "list" →
  (∀ v s',acc.length < n -> J (acc ++ [v]) s' -> s'.heap.get? S = some ob -> Q (some v) s') -> (∀ s',Fn acc s' -> s'.heap.get? S = some ob -> Q none s') -> wpAny (model prog w) A (pyNext (.ref I)) Q E s
 push:∀ acc s (o:Obj),J acc s -> J acc { s with heap:=s.heap.push o }
def wT (H:Hp) (a:Addr):Prop:=∃ p0 c t:Int,H a = some (.lst [.int p0,.int c,.int t]) /\ 0 <= p0
theorem wT.grow {H H':Hp} {a:Addr} (p:wT H a) (g:Grow [] H H'):wT H' a:=by
 obtain ⟨x,y,z,h,q⟩:=p
 exact ⟨x,y,z,g.keep _ _ (by simp) h,q⟩
theorem wT.new {H:Hp} {a l:Addr} (p:wT H a) (hl:H l = none) (o:HO):wT (upd H l o) a:=p.grow (Grow.new hl o)
theorem wT.ne {H:Hp} {a l:Addr} (p:wT H a) (h:H l = none):l ∉ [a]:=by
 intro z
 obtain ⟨x,y,w,hz,_⟩:=p
 rw [List.mem_singleton.mp z,hz] at h
 cases h
def PrAt (K:FG7) (H:Hp) (x:V) (q:Nat × Nat):Prop:=∃ r,x = .ref r /\ SqT K H r [.int q.1,.int q.2]
def SH (ns:List Int):List Int:=ns.mergeSort fun a b=>decide (a <= b)
def dupS:List Int -> Option Int
 | a :: b :: r=>if a = b then some a else dupS (b :: r)
 | _=>none
def U6 (rows:List (List Int)) (l:Nat):List Int:=rows.map fun r=>r.getD l 0
def wn (rows:List (List Int)) (l:Nat):Option Int:=dupS (SH (U6 rows l))
def tI (k:Nat) (rows:List (List Int)) (o:Option (Nat × Int)):Prop:=match o with
 | none=>∀ l,l <= k -> wn rows l = none
 | some (l,v)=>l <= k /\ wn rows l = some v /\ ∀ j,j < l -> wn rows j = none
theorem tI.one {k:Nat} {rows rows':List (List Int)} {o o':Option (Nat × Int)} (e:∀ l,wn rows l = wn rows' l) (h:tI k rows o) (h':tI k rows' o'):o = o':=by
 cases o with
 | none =>
  cases o' with
  | none=>rfl
  | some p =>
   obtain ⟨l,v⟩:=p
   have z:=h l h'.1
   rw [e,h'.2.1] at z; cases z
 | some p =>
  obtain ⟨l,v⟩:=p
  cases o' with
  | none =>
   have z:=h' l h.1
   rw [← e,h.2.1] at z; cases z
  | some p' =>
   obtain ⟨l',v'⟩:=p'
   obtain ⟨a1,a2,a3⟩:=h
   obtain ⟨b1,b2,b3⟩:=h'
   by_cases c:l < l'
   ·have z:=b3 l c
    rw [← e,a2] at z; cases z
   ·by_cases c2:l' < l
    ·have z:=a3 l' c2
     rw [e,b2] at z; cases z
    ·have:l = l':=by omega
     subst this
     rw [e,b2] at a2
     cases a2; rfl
def Yv (K:FG7) (H:Hp) (x:V) (o:Option (Nat × Int)):Prop:=match o with
 | none=>x = .non
 | some (l,v)=>∃ r,x = .ref r /\ SqT K H r [.int l,.int v]
theorem Grow.clash {m:List Addr} {H H':Hp} (g:Grow m H H') {K:FG7} {x:V} {o:Option (Nat × Int)} (h:Yv K H x o):Yv K H' x o:=by
 cases o with
 | none=>exact h
 | some p =>
  obtain ⟨l,v⟩:=p
  obtain ⟨r,e,z⟩:=h
  exact ⟨r,e,g.sqT z⟩
def tJ (k:Nat) (rows:List (List Int)):Prop:=rows.length = k /\ ∀ r ∈ rows,r.length = 2 ^ (k - 1) /\ ∀ b ∈ r,b = 0 \/ b = 1
theorem qf {xs:List V} {c:Nat}:cutV xs none (some (c:Int)) = xs.take c:=by
 unfold cutV
 rw [HT.sIx_none,HT.sIx_nat,List.drop_zero,Nat.sub_zero]
 by_cases h:c <= xs.length
 ·rw [Nat.min_eq_left h]
 ·rw [Nat.min_eq_right (by omega),List.take_of_length_le (by omega),List.take_of_length_le (by omega)]
theorem qg {xs:List V} {c:Nat}:cutV xs (some (c:Int)) none = xs.drop c:=by
 unfold cutV
 rw [HT.sIx_none,HT.sIx_nat]
 by_cases h:c <= xs.length
 ·rw [Nat.min_eq_left h,List.take_of_length_le (by rw [List.length_drop]; exact Nat.le_refl _)]
 ·rw [Nat.min_eq_right (by omega),List.drop_eq_nil_of_le (by omega),List.drop_eq_nil_of_le (by omega)]; simp
def PrV (K:FG7) (H:Hp) (k:Nat) (x:V):Prop:=∃ q:Nat × Nat,PrAt K H x q /\ q.1 < 2 ^ k /\ q.2 < 2 ^ k
theorem Grow.prV {m:List Addr} {H H':Hp} (g:Grow m H H') {K:FG7} {k:Nat} {x:V} (h:PrV K H k x):PrV K H' k x:=by
 obtain ⟨q,⟨r,e,z⟩,b⟩:=h
 exact ⟨q,⟨r,e,g.sqT z⟩,b⟩
mutual
inductive Dq (K:FG7) (H:Hp):V -> PyData -> Prop
 | non:Dq K H .non .none
 | bl (b:Bool):Dq K H (.bl b) (.bool b)
 | int (i:Int):Dq K H (.int i) (.int i)
 | str (x:Str):Dq K H (.str x) (.str x)
 | tup {a:Addr} {xs:List V} {ds:List PyData}:SqT K H a xs -> DqAll K H xs ds -> Dq K H (.ref a) (.tuple ds)
 | lst {a:Addr} {xs:List V} {ds:List PyData}:SqL K H a xs -> DqAll K H xs ds -> Dq K H (.ref a) (.list ds)
inductive DqAll (K:FG7) (H:Hp):List V -> List PyData -> Prop
 | nil:DqAll K H [] []
 | cons {x:V} {xs:List V} {d:PyData} {ds:List PyData}:Dq K H x d -> DqAll K H xs ds -> DqAll K H (x :: xs) (d :: ds)
end
mutual
theorem Dat.dq {K:FG7} {H:Hp}:∀ {x:V} {d:PyData},Dat K H x d -> Dq K H x d
 | _,_,.non=>.non
 | _,_,.bl b=>.bl b
 | _,_,.int i=>.int i
 | _,_,.tup h t=>.tup h (DatAll.dq t)
 | _,_,.lst h t=>.lst h (DatAll.dq t)
theorem DatAll.dq {K:FG7} {H:Hp}:∀ {xs:List V} {ds:List PyData},DatAll K H xs ds -> DqAll K H xs ds
 | _,_,.nil=>.nil
 | _,_,.cons h t=>.cons (Dat.dq h) (DatAll.dq t)
end
theorem DqAll.len {K:FG7} {H:Hp}:∀ {xs:List V} {ds:List PyData},DqAll K H xs ds -> xs.length = ds.length
 | _,_,.nil=>rfl
 | _,_,.cons _ t=>congrArg (· + 1) (DqAll.len t)
theorem DqAll.app {K:FG7} {H:Hp}:∀ {xs:List V} {ds:List PyData} {ys:List V} {es:List PyData},DqAll K H xs ds -> DqAll K H ys es -> DqAll K H (xs ++ ys) (ds ++ es)
 | _,_,_,_,.nil,h=>h
 | _,_,_,_,.cons h t,g=>.cons h (DqAll.app t g)
theorem vp (n:Nat):(List.range n).all (fun _=>true) = true:=List.all_eq_true.mpr fun _ _=>rfl
section
variable {X:Cx} {pins:List (Addr × Obj)} {σ:L2.St} {H:Hp} {s:Shared}
mutual
theorem dq_eq (I:Inv X pins σ H s):∀ {d:PyData} {x y:V} {u v:Value} {A:Around},Dq X.K H x d -> Dq X.K H y d -> RelV x u -> RelV y v -> A.units + d.depth < cLine -> SeqAt.EqAt A s u v true
 | _,_,y,u,v,A,.non,hy,ru,rv,_=>by
  cases hy
  cases (show u = Value.none from ru)
  cases (show v = Value.none from rv)
  exact SeqAt.EqAt.same _
 | _,_,y,u,v,A,.bl b,hy,ru,rv,_=>by
  cases hy
  cases (show u = Value.bool b from ru)
  cases (show v = Value.bool b from rv)
  exact SeqAt.EqAt.same _
 | _,_,y,u,v,A,.int i,hy,ru,rv,_=>by
  cases hy
  obtain ⟨t,rfl⟩:=ru
  obtain ⟨t',rfl⟩:=rv
  have z:=SeqAt.EqAt.int_int (A:=A) (s:=s) i t i t'
  rw [beq_self_eq_true] at z
  exact z
 | _,_,y,u,v,A,.str x,hy,ru,rv,_=>by
  cases hy
  obtain ⟨t,rfl⟩:=ru
  obtain ⟨t',rfl⟩:=rv
  have z:=SeqAt.EqAt.str_str (A:=A) (s:=s) x t x t'
  rw [beq_self_eq_true] at z
  exact z
 | _,_,y,u,v,A,.tup (a:=a) (xs:=xs) (ds:=ds) hs ha,hy,ru,rv,hu=>by
  cases hy with
  | tup hs' ha' =>
   rename_i a' xs'
   cases (show u = Value.ref a from ru)
   cases (show v = Value.ref a' from rv)
   obtain ⟨us,r1,t1,_⟩:=I.tuple hs
   obtain ⟨ws,r2,t2,_⟩:=I.tuple hs'
   have hd:A.units + (PyData.depthAll ds + 1) < cLine:=hu
   by_cases e:a = a'
   ·subst e; exact SeqAt.EqAt.same _
   ·have l1:=ha.len
    have l2:=ha'.len
    have q:=SeqAt.RcAt.tuples (e:=fun _=>true) (ym t1) (ym t2) (by omega) (dqs_eq I ha ha' r1 r2 (A:=A.in1) (by show A.units + 1 + PyData.depthAll ds < cLine; omega))
    rw [vp,Bool.true_and,List.size_toArray,List.size_toArray,← r1.length,← r2.length,l1,l2,beq_self_eq_true] at q
    exact SeqAt.EqAt.of_refs e q
 | _,_,y,u,v,A,.lst (a:=a) (xs:=xs) (ds:=ds) hs ha,hy,ru,rv,hu=>by
  cases hy with
  | lst hs' ha' =>
   rename_i a' xs'
   cases (show u = Value.ref a from ru)
   cases (show v = Value.ref a' from rv)
   obtain ⟨us,r1,t1,_⟩:=I.list hs
   obtain ⟨ws,r2,t2,_⟩:=I.list hs'
   have hd:A.units + (PyData.depthAll ds + 1) < cLine:=hu
   by_cases e:a = a'
   ·subst e; exact SeqAt.EqAt.same _
   ·have l1:=ha.len
    have l2:=ha'.len
    have q:=SeqAt.RcAt.lists (e:=fun _=>true) t1.isList t2.isList (by rw [List.size_toArray,List.size_toArray,← r1.length,← r2.length,l1,l2]) (by omega) (dqs_eq I ha ha' r1 r2 (A:=A.in1) (by show A.units + 1 + PyData.depthAll ds < cLine; omega))
    rw [vp] at q
    exact SeqAt.EqAt.of_refs e q
theorem dqs_eq (I:Inv X pins σ H s):∀ {ds:List PyData} {xs ys:List V} {us vs:List Value} {A:Around},DqAll X.K H xs ds -> DqAll X.K H ys ds -> Vals xs us -> Vals ys vs -> A.units + PyData.depthAll ds < cLine →
  ∀ j (h1:j < us.toArray.size) (h2:j < vs.toArray.size),SeqAt.EqAt A s us.toArray[j] vs.toArray[j] true
 | _,_,_,_,_,A,.nil,hy,ru,rv,_=>fun j h1 _=>by
  cases ru
  exact absurd h1 (Nat.not_lt_zero j)
 | _,_,_,_,_,A,.cons (d:=d) (ds:=ds) hx tx,hy,ru,rv,hd=>fun j h1 h2=>by
  cases hy with
  | cons hy ty =>
   cases ru with
   | cons r1 rr1 =>
    cases rv with
    | cons r2 rr2 =>
     have hd':A.units + max d.depth (PyData.depthAll ds) < cLine:=hd
     cases j with
     | zero=>simpa using dq_eq I hx hy r1 r2 (A:=A) (by omega)
     | succ j =>
      have z:=dqs_eq I tx ty rr1 rr2 (A:=A) (by omega) j (by simpa using h1) (by simpa using h2)
      simpa using z
end
variable {K:FG7}
def SI (K:FG7) (neg:Bool):R2:=fun x y H Q=>∃ d,Dq K H x d /\ Dq K H y d /\ (∃ a,x = .ref a) /\ d.depth <= 100 /\ Q (.bl neg) H
theorem U7 {k:Nat} (hK:X.K = K) (hr:Room k X.A):OpR X (compareOp .Eq) (SI K true):=by
 subst hK
 intro pins s σ H x y u v Q I rx ry h
 obtain ⟨d,hx,hy,⟨a0,e0⟩,hd,q⟩:=h
 have hu:=hr.un
 cases hx with
 | non=>cases e0
 | bl b=>cases e0
 | int i=>cases e0
 | str x=>cases e0
 | tup hs ha =>
  cases hy with
  | tup hs' ha' =>
   rename_i a xs ds a' xs'
   cases (show u = Value.ref a from rx)
   cases (show v = Value.ref a' from ry)
   obtain ⟨us,r1,t1,_⟩:=I.tuple hs
   obtain ⟨ws,r2,t2,_⟩:=I.tuple hs'
   have hd':PyData.depthAll ds + 1 <= 100:=hd
   refine SeqAt.eq_tupleAt (e:=fun _=>true) (ym t1) (ym t2) hr.units0 (dqs_eq I ha ha' r1 r2 (A:=X.A.in1) (by show X.A.units + 1 + PyData.depthAll ds < cLine; omega)) ?_
   rw [vp,Bool.true_and,List.size_toArray,List.size_toArray,← r1.length,← r2.length,ha.len,ha'.len,beq_self_eq_true]
   exact ⟨.bl true,H,I,rfl,q⟩
 | lst hs ha =>
  cases hy with
  | lst hs' ha' =>
   rename_i a xs ds a' xs'
   cases (show u = Value.ref a from rx)
   cases (show v = Value.ref a' from ry)
   obtain ⟨us,r1,t1,_⟩:=I.list hs
   obtain ⟨ws,r2,t2,_⟩:=I.list hs'
   have hd':PyData.depthAll ds + 1 <= 100:=hd
   refine SeqAt.eq_listAt (e:=fun _=>true) t1.isList t2.isList (by rw [List.size_toArray,List.size_toArray,← r1.length,← r2.length,ha.len,ha'.len]) hr.units0 (dqs_eq I ha ha' r1 r2 (A:=X.A.in1) (by show X.A.units + 1 + PyData.depthAll ds < cLine; omega)) ?_
   rw [vp]
   exact ⟨.bl true,H,I,rfl,q⟩
end
def xN (k st a:Nat):Nat:=a ^^^ 2 ^ (k - st)
def nN (k st a:Nat):Nat:=(Zg k a st).toNat
def lN (k h g n:Nat):Nat:=(VW k h g n).toNat
theorem Yw:∀ k:Fin 5,∀ st:Fin 5,1 <= st.val -> st.val <= k.val -> ∀ a:Fin 16,a.val < 2 ^ k.val →
  (swI k.val st.val a.val = Zg k.val a.val st.val /\ Zg k.val a.val st.val = (nN k.val st.val a.val:Int) /\ nN k.val st.val a.val < 2 ^ (k.val - 1) /\ nN k.val st.val (xN k.val st.val a.val) = nN k.val st.val a.val) ∧
  (xN k.val st.val (xN k.val st.val a.val) = a.val /\ xN k.val st.val a.val ≠ a.val /\ xN k.val st.val a.val < 2 ^ k.val) ∧
  (wfI k.val st.val a.val (Builtin.bitXor (figI k.val st.val a.val) 0) = (a.val:Int) /\ wfI k.val st.val a.val (Builtin.bitXor (figI k.val st.val a.val) 1) = (xN k.val st.val a.val:Int)) ∧
  (Builtin.bitXor (figI k.val st.val a.val) (figI k.val st.val (xN k.val st.val a.val)) = 1 /\ Builtin.bitXor (figI k.val st.val a.val) (figI k.val st.val a.val) = 0) ∧
  ((Builtin.bitXor (figI k.val st.val a.val) 0 = 0 \/ Builtin.bitXor (figI k.val st.val a.val) 0 = 1) /\ (Builtin.bitXor (figI k.val st.val a.val) 1 = 0 \/ Builtin.bitXor (figI k.val st.val a.val) 1 = 1)):=by
 decide +kernel
theorem Yx:∀ k:Fin 5,∀ st:Fin 5,1 <= st.val -> st.val <= k.val -> ∀ a:Fin 16,a.val < 2 ^ k.val -> ∀ b:Fin 16,b.val < 2 ^ k.val -> nN k.val st.val a.val = nN k.val st.val b.val -> b.val = a.val \/ b.val = xN k.val st.val a.val:=by
 decide +kernel
structure OneF (k st a:Nat):Prop where
 sw:swI k st a = Zg k a st
 num:Zg k a st = (nN k st a:Int)
 lt:nN k st a < 2 ^ (k - 1)
 nx:nN k st (xN k st a) = nN k st a
 xx:xN k st (xN k st a) = a
 xne:xN k st a ≠ a
 xlt:xN k st a < 2 ^ k
 w0:wfI k st a (Builtin.bitXor (figI k st a) 0) = (a:Int)
 w1:wfI k st a (Builtin.bitXor (figI k st a) 1) = (xN k st a:Int)
 c1:Builtin.bitXor (figI k st a) (figI k st (xN k st a)) = 1
 c0:Builtin.bitXor (figI k st a) (figI k st a) = 0
 b0:Builtin.bitXor (figI k st a) 0 = 0 \/ Builtin.bitXor (figI k st a) 0 = 1
 b1:Builtin.bitXor (figI k st a) 1 = 0 \/ Builtin.bitXor (figI k st a) 1 = 1
theorem oneF {k st a:Nat} (k4:k <= 4) (s1:1 <= st) (s2:st <= k) (ha:a < 2 ^ k):OneF k st a:=by
 have p:=Zh k4
 obtain ⟨⟨a1,a2,a3,a4⟩,⟨b1,b2,b3⟩,⟨c1,c2⟩,⟨d1,d2⟩,e1,e2⟩:=Yw ⟨k,by omega⟩ ⟨st,by omega⟩ s1 s2 ⟨a,by omega⟩ ha
 exact ⟨a1,a2,a3,a4,b1,b2,b3,c1,c2,d1,d2,e1,e2⟩
theorem twoF {k st a b:Nat} (k4:k <= 4) (s1:1 <= st) (s2:st <= k) (ha:a < 2 ^ k) (hb:b < 2 ^ k) (e:nN k st a = nN k st b):b = a \/ b = xN k st a:=by
 have p:=Zh k4
 exact Yx ⟨k,by omega⟩ ⟨st,by omega⟩ s1 s2 ⟨a,by omega⟩ ha ⟨b,by omega⟩ hb e
def plOf (gs:List Nat):List (Nat × Nat):=(List.range gs.length).map fun h=>(h,gs.getD h 0)
def vS (k:Nat) (gs:List Nat):Prop:=gs.length = 2 ^ k /\ ∀ g ∈ gs,g < 2 ^ k
theorem vS.get {k:Nat} {gs:List Nat} (h:vS k gs) {i:Nat} (hi:i < 2 ^ k):gs.getD i 0 < 2 ^ k:=by
 rw [List.getD_eq_getElem?_getD,List.getElem?_eq_getElem (by rw [h.1]; exact hi)]
 exact h.2 _ (List.getElem_mem _)
def U8 (k st:Nat) (q:Nat × Nat):Int:=Builtin.bitXor (figI k st (VW k q.1 q.2 (st - 1))) (figI k st (VW k q.1 q.2 st))
def U9 (k st:Nat) (m:List Int) (q:Nat × Nat):List Int:=m.set (nN k st (lN k q.1 q.2 st)) (U8 k st q)
def Ta (k st:Nat) (pl:List (Nat × Nat)):List Int:=pl.foldl (U9 k st) (List.replicate (2 ^ k / 2) 0)
def SJ (k:Nat) (gs:List Nat):List (List Int):=(List.range k).map fun n=>Ta k (n + 1) (plOf gs)
section
variable {X:Cx} {a:Expr} {ta:TA} {p p2 pos pos2:Pos}
def SK (ta:TA):TE:=fun σ H Q=>ta σ H fun vs H1=>∃ n:Nat,vs = [.int n] /\ n <= 1000 /\ ∀ l,H1 l = none -> Q (.ref l) (upd H1 l (.lst ((List.range n).map fun i:Nat=>V.int i)))
theorem yB (hc:X.calm = true) (hgl:Gl X "list") (hml:X.mg "list" = none) (hgr:Gl X "range") (hmr:X.mg "range" = none) (ha:PA X [a] ta)
  (hs:starEach [a] X.env = [(false,eval a X.env)]:=by rfl) (hs2:starEach [(.Call (.Name "range" p2) [a] [] pos2:Expr)] X.env = [(false,eval (.Call (.Name "range" p2) [a] [] pos2) X.env)]:=by rfl) :
  PE X (.Call (.Name "list" p) [.Call (.Name "range" p2) [a] [] pos2] [] pos) (SK ta):=by
 intro pins s σ H Q I h
 refine wpAny_Call_Name_kw (xO I hgl hml sM (PyProof.Rows.callWith_type1 ?_ hs2 rfl))
 rw [hs2]
 show wpAny _ _ (spliced [(false,eval (.Call (.Name "range" p2) [a] [] pos2) X.env)]) _ _ s
 refine Calls.spliced_cons ?_
 refine Call_ (xO I hgr hmr boot_range (PyProof.Rows.callWith_type1 (thn (ha pos2 pins s σ H _ I h) fun us s1 ⟨vs,H1,I1,r1,q1⟩=>?_) hs rfl))
 obtain ⟨n,e,hn,q⟩:=q1
 subst e
 obtain ⟨u,rfl,e1⟩:=wa r1
 obtain ⟨t,rfl⟩:=e1
 refine call_range_1 (Calls.spliced_nil ?_)
 have I2:Inv X pins σ H1 { s1 with heap:=s1.heap.push { cls:=.type "range",data:=.fields #[.int 0 s1.toks,.int n t,.int 1 (s1.toks + 1)] },toks:=s1.toks + 1 + 1 }:=I1.kept fun b o e=>Heap.get?_push_of_some _ e
 refine call_list_range (n:=n) (I.ok.hd hc) (IsRange.new ..) (small_one (by omega) (by omega) (by omega) (by omega)) (by rw [rangeSize_one]; split <;> omega) (by omega) fun h' tk acc c' hk hS hacc=>?_
 have hvr:Vals ((List.range n).map fun i:Nat=>V.int i) acc.toList:=by
  have hlen:acc.toList.length = n:=by rw [Array.length_toList]; exact hacc.1
  have key:∀ (m:Nat) (l:List Value) (j:Nat),l.length = m -> (∀ i v,l[i]? = some v -> ∃ t,v = Value.int ((j + i:Nat):Int) t) -> Vals ((List.range' j m).map fun i:Nat=>V.int i) l:=by
   intro m
   induction m with
   | zero =>
    intro l j hl _
    rw [List.length_eq_zero_iff.mp hl]
    exact .nil
   | succ m ih =>
    intro l j hl hv
    match l,hl,hv with
    | x :: l,hl,hv =>
     refine .cons ?_ (ih l (j + 1) (by simpa using hl) fun i v h=>?_)
     ·obtain ⟨t,e⟩:=hv 0 x rfl
      exact ⟨t,e⟩
     ·obtain ⟨t,e⟩:=hv (i + 1) v (by simpa using h)
      exact ⟨t,by rw [e,show j + (i + 1) = j + 1 + i by omega]⟩
  rw [List.range_eq_range']
  refine key n acc.toList 0 hlen fun i v h=>?_
  obtain ⟨t,e⟩:=hacc.2 i v (by rw [← h]; exact (Array.getElem?_toList).symm)
  exact ⟨t,by rw [e]; congr 1; omega⟩
 refine ⟨.ref (s1.heap.push { cls:=.type "range",data:=.fields #[.int 0 s1.toks,.int n t,.int 1 (s1.toks + 1)] }).objs.size,_,I2.laid (t':=tk) hk (Nat.le_refl _) (show zP X.prog X.w _ h' _ (.lst ((List.range n).map fun i:Nat=>V.int i)) from ⟨by rw [List.length_map,List.length_range]; exact Nat.le_of_lt (xz hn),acc.toList,c',hvr,by simpa using hS⟩),rfl,q _ (I2.hok.fresh (Nat.le_refl _))⟩
end
def Bits (r:List Int):Prop:=∀ b ∈ r,b = 0 \/ b = 1
def zH (gs:List Nat):List V:=gs.map fun g:Nat=>V.int g
def Tb (K:FG7) (H:Hp) (x:V) (k:Nat) (gs:List Nat) (o:Option (Nat × Int)):Prop:=∃ (r:Addr) (s:Str) (y:V),x = .ref r /\ SqT K H r [.str s,y] /\ match o with
 | none=>s = "settings" /\ wS K H y (SJ k gs)
 | some (l,v)=>s = "clash" /\ ∃ c,y = .ref c /\ SqT K H c [.int l,.int v]
theorem Grow.ans {m:List Addr} {H H':Hp} (g:Grow m H H') {K:FG7} {x:V} {k:Nat} {gs:List Nat} {o:Option (Nat × Int)} (h:Tb K H x k gs o):Tb K H' x k gs o:=by
 obtain ⟨r,s,y,e,z,w⟩:=h
 refine ⟨r,s,y,e,g.sqT z,?_⟩
 cases o with
 | none=>exact ⟨w.1,g.rows w.2⟩
 | some p =>
  obtain ⟨l,v⟩:=p
  obtain ⟨w1,c,e,z⟩:=w
  exact ⟨w1,c,e,g.sqT z⟩
theorem tJ.bits {k n:Nat} {rows:List (List Int)} (h:tJ k rows) (hn:n < k):(rows.getD n []).length = 2 ^ (k - 1) /\ Bits (rows.getD n []):=by
 have e:rows[n]? = some (rows.getD n []):=by rw [List.getD_eq_getElem?_getD,List.getElem?_eq_getElem (by rw [h.1]; exact hn)]; rfl
 exact h.2 _ (List.mem_of_getElem? e)
theorem AllR.of_get {α:Type} {R:V -> α -> Prop}:∀ {xs:List V} {ks:List α},xs.length = ks.length -> (∀ (i:Nat) (x:V),xs[i]? = some x -> ∃ k,ks[i]? = some k /\ R x k) -> AllR R xs ks
 | [],[],_,_=>trivial
 | x :: xs,k :: ks,hl,h=>by
  refine ⟨?_,AllR.of_get (by simpa using hl) fun i y hy=>by simpa using h (i + 1) y (by simpa using hy)⟩
  obtain ⟨k',e,r⟩:=h 0 x rfl
  cases e
  exact r
 | [],_ :: _,hl,_=>by simp at hl
 | _ :: _,[],hl,_=>by simp at hl
theorem vS.set {k:Nat} {gs:List Nat} (h:vS k gs) {j n:Nat} (hn:n < 2 ^ k):vS k (gs.set j n):=by
 refine ⟨by rw [List.length_set,h.1],fun g hg=>?_⟩
 rcases List.mem_or_eq_of_mem_set hg with z | rfl
 ·exact h.2 g z
 ·exact hn
section
variable {prog:Program} {w:World} {A:Around} {E:VS7} {s:Shared}
theorem Wq {l:Addr} {us:List Value} {Q:List Value -> Shared -> Prop} (tu:s.heap.IsTuple l us.toArray) (hu:us.length <= sizeLine)
  (q:Q us { s with heap:=(s.heap.push (seqObj "list" #[] 0)).update s.heap.objs.size (Obj.mapSeq (· ++ us.toArray)) }):wpAny (model prog w) A (collect (.ref l)) Q E s:=by
 obtain ⟨ob,eo,ec,m,ed⟩:=id tu
 have eo2:(s.heap.push (seqObj "list" #[] 0)).get? l = some ob:=Heap.get?_push_of_some _ eo
 unfold collect
 refine wpAny_bind (wpAny_runValue (codeAny_builtin entry_proto_collect' (show wpAny _ _ (do again (.builtin "list.__iadd__" ⟨[← newList [],.ref l],[]⟩)) _ _ s from ?_)))
 refine wpAny_bind (wpAny_newList (wpAny_pure ⟨Code.quiet_builtin _ (by decide +kernel),codeAny_builtin entry_list_iadd' (show wpAny _ _ (Builtin.List.listExtendWith (.ref s.heap.objs.size) (.ref l) (.ref s.heap.objs.size)) _ _ { s with heap:=s.heap.push (seqObj "list" #[] 0) } from ?_)⟩))
 unfold Builtin.List.listExtendWith
 refine wpAny_bind (wpAny_typeOf (T:="tuple") ⟨ob,eo2,ec⟩ ?_)
 have k1:(Value.type "tuple" == Value.type "tuple") = true:=rfl
 rw [if_pos (by simp [k1])]
 refine wpAny_bind (listItems_at eo2 ed (wpAny_bind (listItems_at (xs:=#[]) (n:=0) (Heap.get?_push_size _ rfl) rfl ?_)))
 rw [if_neg (by simp)]
 refine wpAny_bind (listUpdate_at (xs:=#[]) (n:=0) (Heap.get?_push_size _ rfl) rfl (wpAny_pure ?_) (Nat.zero_le _) (by show (#[] ++ us.toArray).size <= sizeLine + 1; simp only [Array.size_append,List.size_toArray,List.length_nil]; omega))
 refine wpAny_bind (wpAny_load (get?_update_seq (Heap.get?_push_size _ rfl) _) ?_)
 show wpAny _ _ (pure ((#[]:Array Value) ++ us.toArray).toList) Q E _
 rw [show ((#[]:Array Value) ++ us.toArray).toList = us by simp]
 exact wpAny_pure q
theorem Zn {l:Addr} {us:List Value} {ns:List Int} {Q:VS7} (tu:s.heap.IsTuple l us.toArray) (iu:IntsAre us ns) (u64:us.length < 64)
  (q:∀ (out:Array Value) (ms:List Int),IntsAre out.toList ms -> ms.Perm ns -> ms.Pairwise (· <= ·) -> Q (.ref (s.heap.objs.size + 1)) { s with heap:=sortedAll s.heap us out }) :
  wpAny (model prog w) A (call (.builtin "sorted") [.ref l]) Q E s:=by
 refine Calls.call_function_entry kind_sorted plain_sorted entry_sorted (args_sorted1 _) ?_
 unfold Builtin.«sorted»
 refine wpAny_bind (m:=checkCount "sorted" 1 1 _) (wpAny_pure (wpAny_bind (Wq tu (by rw [sizeLine_eq]; omega) (wpAny_bind (wpAny_newList ?_)))))
 have e1:((s.heap.push (seqObj "list" #[] 0)).update s.heap.objs.size (Obj.mapSeq (· ++ us.toArray))).objs.size = s.heap.objs.size + 1:=by rw [Heap.size_update,size_push']
 have e2:(((s.heap.push (seqObj "list" #[] 0)).update s.heap.objs.size (Obj.mapSeq (· ++ us.toArray))).push (seqObj "list" us.toArray 0)).get? (s.heap.objs.size + 1) = some (seqObj "list" us.toArray 0):=by
  rw [← e1]; exact Heap.get?_push_size _ rfl
 show wpAny _ _ _ _ _ { s with heap:=((s.heap.push (seqObj "list" #[] 0)).update s.heap.objs.size (Obj.mapSeq (· ++ us.toArray))).push (seqObj "list" us.toArray 0) }
 rw [e1]
 refine wpAny_bind (wpAny_holding (wpAny_call_entry slot_list_sort ⟨_,e2,rfl⟩ entry_list_sort (list_sort_tree e2 iu u64 fun out ms b1 b2 b3=>⟨_,rfl,wpAny_pure ⟨_,rfl,q out ms b1 b2 b3⟩⟩) (args_list_sort _)))
end
section
variable {X:Cx} {K:FG7}
theorem wU (hK:X.K = K):yM X (.builtin "sorted") (fun xs H Q=>∃ (l:Addr) (ns:List Int),xs = [.ref l] /\ SqT K H l (ns.map V.int) /\ ns.length < 64 /\ ∀ (p:Addr) (ms:List Int),H p = none -> ms.Perm ns -> ms.Pairwise (· <= ·) -> Q (.ref p) (upd H p (.lst (ms.map V.int)))):=by
 subst hK
 intro pins s σ H xs us Q I r h
 obtain ⟨l,ns,rfl,hl,h64,q⟩:=h
 obtain ⟨u,rfl,rx⟩:=wa r
 cases (show u = Value.ref l from rx)
 obtain ⟨vs,rv,pl,hz⟩:=I.tuple hl
 have hlen:=rv.length
 rw [List.length_map] at hlen hz
 refine Zn pl (j6 rv) (by omega) fun out ms i1 i2 i3=>?_
 obtain ⟨e,he⟩:=sortedAll_at s.heap vs out
 have hn:H (s.heap.objs.size + 1) = none:=I.hok.fresh (Nat.le_succ _)
 have rl:=wb i1
 refine ⟨.ref (s.heap.objs.size + 1),_,?_,rfl,q _ ms hn i2 i3⟩
 refine I.laid (t':=s.toks) (fun b o q=>sortedAll_old q) (Nat.le_succ _) (show zP X.prog X.w _ _ _ (.lst (ms.map V.int)) from ⟨by rw [List.length_map,i2.length_eq]; exact hz,out.toList,e,rl,he⟩)
end
def wfN (k s l:Nat) (w:Int):Nat:=(wfI k s l w).toNat
theorem Yy:∀ k:Fin 5,∀ s:Fin 5,1 <= s.val -> s.val <= k.val -> ∀ l:Fin 16,l.val < 2 ^ k.val -> ∀ w:Fin 2,
  (wfI k.val s.val l.val w.val = (wfN k.val s.val l.val w.val:Int) /\ wfN k.val s.val l.val w.val < 2 ^ k.val /\ figI k.val s.val (wfN k.val s.val l.val w.val) = w.val) /\ ∀ t:Fin 5,t.val <= k.val -> t.val ≠ s.val -> figI k.val t.val (wfN k.val s.val l.val w.val) = figI k.val t.val l.val:=by
 decide +kernel
theorem uF:∀ k:Fin 5,∀ l:Fin 16,l.val < 2 ^ k.val -> (∀ t:Fin 5,figI k.val t.val l.val = 0 \/ figI k.val t.val l.val = 1) /\ ∀ m:Fin 16,m.val < 2 ^ k.val -> (∀ t:Fin 5,1 <= t.val -> t.val <= k.val -> figI k.val t.val l.val = figI k.val t.val m.val) -> l = m:=by
 decide +kernel
structure WfF (k s l:Nat) (w:Int):Prop where
 eq:wfI k s l w = (wfN k s l w:Int)
 lt:wfN k s l w < 2 ^ k
 at_:figI k s (wfN k s l w) = w
 off:∀ t:Nat,t <= k -> t ≠ s -> figI k t (wfN k s l w) = figI k t l
theorem wfF {k s l:Nat} {w:Int} (k4:k <= 4) (s1:1 <= s) (s2:s <= k) (hl:l < 2 ^ k) (hw:w = 0 \/ w = 1):WfF k s l w:=by
 have p:=Zh k4
 have z:=Yy ⟨k,by omega⟩ ⟨s,by omega⟩ s1 s2 ⟨l,by omega⟩ hl
 rcases hw with rfl | rfl
 ·exact ⟨(z 0).1.1,(z 0).1.2.1,(z 0).1.2.2,fun t ht hn=>(z 0).2 ⟨t,by omega⟩ ht hn⟩
 ·exact ⟨(z 1).1.1,(z 1).1.2.1,(z 1).1.2.2,fun t ht hn=>(z 1).2 ⟨t,by omega⟩ ht hn⟩
theorem Tc {k t l:Nat} (k4:k <= 4) (ht:t <= k) (hl:l < 2 ^ k):figI k t l = 0 \/ figI k t l = 1:=by
 have p:=Zh k4
 exact (uF ⟨k,by omega⟩ ⟨l,by omega⟩ hl).1 ⟨t,by omega⟩
theorem tK {k l m:Nat} (k4:k <= 4) (hl:l < 2 ^ k) (hm:m < 2 ^ k) (h:∀ t:Nat,1 <= t -> t <= k -> figI k t l = figI k t m):l = m:=by
 have p:=Zh k4
 have z:=(uF ⟨k,by omega⟩ ⟨l,by omega⟩ hl).2 ⟨m,by omega⟩ hm fun t h1 h2=>h t.val h1 h2
 exact congrArg Fin.val z
theorem tL {k i:Nat} {n:Int} (hi:i < k):(wj k n)[i]? = some (figI k ((i + 1:Nat):Int) n):=by
 unfold wj figI
 rw [List.getElem?_map,List.getElem?_range (by rw [Int.toNat_natCast]; exact hi)]
 show some (Builtin.bitAnd (n / 2 ^ _) 1) = _
 congr 4
 omega
theorem jp {k:Nat} {n:Int}:(wj k n).length = k:=by unfold wj; rw [List.length_map,List.length_range,Int.toNat_natCast]
def mixN (k e x t:Nat):Nat:=(numL ((wj k e).take (t - 1) ++ (wj k x).drop t)).toNat
theorem Vt {k e x l t:Nat} (t1:1 <= t) (tk:t <= k) (h1:∀ u:Nat,1 <= u -> u < t -> figI k u l = figI k u e) (h2:∀ u:Nat,t < u -> u <= k -> figI k u l = figI k u x):nN k t l = mixN k e x t:=by
 unfold nN Zg mixN
 have a:(wj k (l:Int)).take (t - 1) = (wj k (e:Int)).take (t - 1):=by
  refine List.ext_getElem? fun i=>?_
  by_cases hi:i < t - 1
  ·rw [List.getElem?_take_of_lt hi,List.getElem?_take_of_lt hi,tL (by omega),tL (by omega),h1 (i + 1) (by omega) (by omega)]
  ·rw [List.getElem?_eq_none (by rw [List.length_take]; omega),List.getElem?_eq_none (by rw [List.length_take]; omega)]
 have b:(wj k (l:Int)).drop t = (wj k (x:Int)).drop t:=by
  refine List.ext_getElem? fun i=>?_
  rw [List.getElem?_drop,List.getElem?_drop]
  by_cases hi:t + i < k
  ·rw [tL hi,tL hi,h2 (t + i + 1) (by omega) (by omega)]
  ·rw [List.getElem?_eq_none (by rw [jp]; omega),List.getElem?_eq_none (by rw [jp]; omega)]
 rw [a,b]
def fstI (rows:List (List Int)) (t n:Nat):Int:=(rows.getD (t - 1) []).getD n 0
def SL (k:Nat) (rows:List (List Int)) (e m x y:Nat):Prop:=∃ t:Nat,m < t /\ t <= k /\ figI k t x ≠ figI k t y /\ (∀ u:Nat,t < u -> u <= k -> figI k u x = figI k u y) /\ figI k t x = fstI rows t (mixN k e x t)
theorem Td {k t l:Nat} {rows:List (List Int)} (k4:k <= 4) (hs:tJ k rows) (t1:1 <= t) (tk:t <= k) (hl:l < 2 ^ k):fstI rows t (nN k t l) = 0 \/ fstI rows t (nN k t l) = 1:=by
 have b:=hs.bits (show t - 1 < k by omega)
 have O:=oneF k4 t1 tk hl
 exact b.2 _ (List.mem_of_getElem? (VU (by rw [b.1]; exact O.lt)))
structure OrdF (k:Nat) (rows:List (List Int)) (e n:Nat) (L:List Nat):Prop where
 len:L.length = 2 ^ n
 mem:∀ x ∈ L,x < 2 ^ k /\ ∀ t:Nat,1 <= t -> t <= k - n -> figI k t x = figI k t e
 all:∀ x:Nat,x < 2 ^ k -> (∀ t:Nat,1 <= t -> t <= k - n -> figI k t x = figI k t e) -> x ∈ L
 row:L.Pairwise (SL k rows e (k - n))
def LsR (H:Hp) (x:V) (row:List Int):Prop:=∃ r,x = .ref r /\ H r = some (.lst (row.map V.int))
def LsB (H:Hp) (x:V) (rows:List (List Int)):Prop:=∃ l xs,x = .ref l /\ H l = some (.lst xs) /\ AllR (LsR H) xs rows
def LsN (a:Addr) (H:Hp) (x:V) (row:List Int):Prop:=∃ r,x = .ref r /\ r ∉ [a] /\ H r = some (.lst (row.map V.int))
def LsA (a:Addr) (H:Hp) (x:V) (rows:List (List Int)):Prop:=∃ l xs,x = .ref l /\ l ∉ [a] /\ H l = some (.lst xs) /\ AllR (LsN a H) xs rows
theorem LsA.b {a:Addr} {H:Hp} {x:V} {rows:List (List Int)} (h:LsA a H x rows):LsB H x rows:=by
 obtain ⟨l,xs,e,n,z,w⟩:=h
 exact ⟨l,xs,e,z,w.imp fun _ _ ⟨r,e,_,z⟩=>⟨r,e,z⟩⟩
theorem Yz {a b:Nat}:Builtin.bitAnd (a:Int) (b:Int) = ((a &&& b:Nat):Int):=by
 unfold Builtin.bitAnd
 rw [decide_eq_true (Int.natCast_nonneg a),decide_eq_true (Int.natCast_nonneg b)]; rfl
theorem Te {a b:Nat}:Builtin.bitOr (a:Int) (b:Int) = ((a ||| b:Nat):Int):=by
 have e:∀ x:Nat,decide (0 <= Builtin.bitNot (x:Int)) = false:=fun x=>decide_eq_false (by show ¬ 0 <= -(x:Int) - 1; omega)
 have n2:∀ x:Int,Builtin.bitNot (Builtin.bitNot x) = x:=fun x=>by show -(-x - 1) - 1 = x; omega
 unfold Builtin.bitOr Builtin.bitAnd
 rw [e a,e b]
 show Builtin.bitNot (Builtin.bitNot (((Builtin.bitNot (Builtin.bitNot (a:Int))).toNat ||| (Builtin.bitNot (Builtin.bitNot (b:Int))).toNat:Nat):Int)) = _
 rw [n2,n2,n2]; rfl
theorem Wr {a k:Nat}:(a:Int) / 2 ^ ((k:Int)).toNat = ((a / 2 ^ k:Nat):Int):=by
 rw [Int.toNat_natCast,Int.natCast_ediv,Int.natCast_pow]; rfl
def sd (k a:Nat):Nat:=if h:a = 0 \/ k = 0 then 0 else a % 2 ^ k ^^^ sd k (a / 2 ^ k)
termination_by a
decreasing_by
 have:a ≠ 0:=fun e=>h (.inl e)
 exact Nat.div_lt_self (by omega) (Nat.one_lt_two_pow (fun e=>h (.inr e)))
section
variable {X:Cx}
theorem qh (ns:List Int):∀ n,n <= ns.length -> preSum (fun i=>ns.getD i 0) n = (ns.take n).sum:=by
 intro n
 induction n with
 | zero=>intro _; rfl
 | succ n ih =>
  intro h
  show preSum (fun i=>ns.getD i 0) n + ns.getD n 0 = _
  rw [ih (by omega),List.take_succ,List.sum_append,List.getD_eq_getElem?_getD,List.getElem?_eq_getElem (show n < ns.length by omega)]
  simp
theorem YA (hcalm:X.calm = true):yM X (.builtin "sum") (fun xs H Q=>∃ (l:Addr) (ns:List Int),xs = [.ref l] /\ SqL X.K H l (ns.map V.int) /\ Q (.int ns.sum) H):=by
 intro pins s σ H xs us Q I r h
 obtain ⟨l,ns,rfl,hl,q⟩:=h
 obtain ⟨u,rfl,rx⟩:=wa r
 cases (show u = Value.ref l from rx)
 obtain ⟨vs,rv,pl,_⟩:=I.list hl
 have hl':s.heap.IsList l vs.toArray:=pl.isList
 have hlt:l < s.heap.objs.size:=by obtain ⟨_,e,_⟩:=hl'; exact Heap.lt_size e
 have hlen:ns.length = vs.length:=by rw [← rv.length,List.length_map]
 refine call_sum_walkG (wpAny_pyIter_list hl' ?_)
 refine ⟨s.heap.objs.size,[s.heap.objs.size,l],[s.heap.objs.size],vs.toArray.size,_,_,fun i=>ns.getD i 0,rfl,Walks.list (A:=X.A.in1) (I.ok.hd hcalm) _ l (Nat.ne_of_lt hlt) vs.toArray,
  ⟨⟨_,Heap.get?_push_size _ rfl,rfl,rfl⟩,hl'.push _⟩,fun b hb=>?_,fun i v hP=>?_,fun h' tk t' hk=>?_⟩
 ·rcases List.mem_cons.mp hb with rfl | hb
  ·exact Heap.lt_size (Heap.get?_push_size _ rfl)
  ·rcases List.mem_cons.mp hb with rfl | hb
   ·exact Nat.lt_trans hlt (Heap.lt_size (Heap.get?_push_size _ rfl))
   ·cases hb
 ·have hv:vs[i]? = some v:=by simpa using hP
  have hi:i < ns.length:=by rw [hlen]; exact (List.getElem?_eq_some_iff.mp hv).1
  obtain ⟨u,eu,rxv⟩:=rv.get (show (ns.map V.int)[i]? = some (V.int ns[i]) by rw [List.getElem?_map,List.getElem?_eq_getElem hi]; rfl)
  rw [hv] at eu; cases eu
  obtain ⟨t,rfl⟩:=rxv
  exact ⟨t,by show _ = Value.int (ns.getD i 0) t; rw [List.getD_eq_getElem?_getD,List.getElem?_eq_getElem hi]; rfl⟩
 ·have e:preSum (fun i=>ns.getD i 0) vs.toArray.size = ns.sum:=by
   rw [List.size_toArray,← hlen,qh ns _ (Nat.le_refl _),List.take_length]
  rw [e]
  exact ⟨.int ns.sum,H,I.kept (t':=tk) (h':=h') (LSm.kept_iter hk),⟨_,rfl⟩,q⟩
end
theorem YB {ms ns:List Int} (h:ms.Perm ns) (s:ms.Pairwise (· <= ·)) (t:ns.Pairwise (· <= ·)):ms = ns:=h.eq_of_pairwise (le:=(· <= ·)) (fun _ _ _ _ a b=>Int.le_antisymm a b) s t
theorem zR {gs:List Nat}:(zH gs).length = gs.length:=by unfold zH; rw [List.length_map]
def vT (K:FG7) (H:Hp) (f:Addr) (rows:List (List Int)):Prop:=∃ xs,H f = some (.lst xs) /\ AllR (zr K H) xs rows
theorem vT.grow {K:FG7} {H H':Hp} {f:Addr} {rows:List (List Int)} (h:vT K H f rows) (g:Grow [] H H'):vT K H' f rows:=by
 obtain ⟨xs,e,a⟩:=h
 exact ⟨xs,g.keep _ _ (by simp) e,g.boardsR a⟩
theorem vT.ne {K:FG7} {H:Hp} {f r:Addr} {rows:List (List Int)} (h:vT K H f rows) (e:H r = none):r ≠ f:=by
 obtain ⟨xs,e',_⟩:=h
 intro z; rw [z,e'] at e; cases e
theorem vU {a b:List Nat}:zH (a ++ b) = zH a ++ zH b:=by unfold zH; exact List.map_append
theorem Grow.shrink2 {H H':Hp} {f l:Addr} (g:Grow [f,l] H H') (h:H l = none):Grow [f] H H' :=
 ⟨fun b o hb q=>g.keep b o (fun z=>by rcases List.mem_cons.mp z with z | z; exact hb (by simp [z]); rw [List.mem_singleton.mp z,h] at q; cases q) q,g.tup,g.frz⟩
theorem natsV_get? {gs:List Nat} {i g:Nat} (h:gs[i]? = some g):(zH gs)[i]? = some (.int g):=by unfold zH; rw [List.getElem?_map,h]; rfl
theorem vT.set {K:FG7} {H:Hp} {f:Addr} {rows:List (List Int)} {xs:List V} (e:H f = some (.lst xs)) (a:AllR (zr K H) xs rows):vT K H f rows:=⟨xs,e,a⟩
structure CScC (X:Cx) (scope:Scope) (N':List Str) (sub:List (Option Nat)):Prop where
 free:∀ y ∈ scope.names,y.2 = .free -> X.env.kindOf y.1 = some .cell
 nd:(scope.names.map (·.1)).Nodup
 kind:scope.kind = .function
 names:∀ y ∈ scope.names,y.2 = .local -> scope.names.lookup y.1 = some .local
 len:sub.length = N'.length
 cap:∀ (j:Nat) (y:Str) (i:Nat),N'[j]? = some y -> sub[j]? = some (some i) -> X.N[i]? = some y /\ X.env.scope.names.lookup y = some .cell /\ scope.names.lookup y = some .free
section
variable {X:Cx} {scope:Scope} {N':List Str} {sub:List (Option Nat)} {tg:Expr} {pos:Pos} {elt iter:Expr} {ifs:List Expr} {wi:TI} {g:TG} {tt:TT} {te:TE}
theorem CScC.clos {pins:List (Addr × Obj)} {σ:L2.St} {H:Hp} {s:Shared} (S:CScC X scope N' sub) (I:Inv X pins σ H s):∃ cl,closureFor scope X.env = pure cl /\ (∀ x c,cl.lookup x = some c -> X.env.cells.lookup x = some c) /\ ∀ y ∈ scope.names,y.2 = .free -> ∃ c,cl.lookup y.1 = some c :=
 uy fun y hy hf=>I.ok.has y.1 (.inl (S.free y hy hf))
end
theorem CScC.of {X:Cx} {scope:Scope} {N':List Str} {sub:List (Option Nat)} (sc:Scope) (NN:List Str) (e:X.env.scope = sc) (en:X.N = NN)
  (h:((scope.names.all fun y=>(y.2 != .free || sc.names.lookup y.1 == some .cell) && (y.2 != .local || scope.names.lookup y.1 == some .local)) && (sub.length == N'.length) &&
   ((N'.zip sub).all fun p=>match p.2 with | none=>true | some i=>NN[i]? == some p.1 && sc.names.lookup p.1 == some .cell && scope.names.lookup p.1 == some .free)) = true)
  (nd:(scope.names.map (·.1)).Nodup) (hk:scope.kind = .function):CScC X scope N' sub:=by
 rw [Bool.and_eq_true,Bool.and_eq_true] at h
 obtain ⟨⟨h1,h2⟩,h3⟩:=h
 have k1:=fun y hy=>List.all_eq_true.mp h1 y hy
 refine ⟨fun y hy hf=>?_,nd,hk,fun y hy hl=>?_,by simpa using h2,fun j y i hj hs=>?_⟩
 ·have:=k1 y hy
  simp only [hf,Bool.and_eq_true] at this
  have z:=this.1
  show X.env.scope.names.lookup y.1 = _
  rw [e]; simpa using z
 ·have:=k1 y hy
  simp only [hl,Bool.and_eq_true] at this
  simpa using this.2
 ·have hm:(y,some i) ∈ N'.zip sub:=by
   have:(N'.zip sub)[j]? = some (y,some i):=by
    rw [List.getElem?_zip_eq_some]; exact ⟨hj,hs⟩
   exact List.mem_of_getElem? this
  have:=List.all_eq_true.mp h3 _ hm
  simp only [Bool.and_eq_true,beq_iff_eq] at this
  rw [e,en]
  exact ⟨this.1.1,this.1.2,this.2⟩
theorem U1.at {ds:List Deed} (h:U1 ds) {i:Nat} (hi:i < ds.length):(ds.getD i look).Ok:=h _ (List.mem_of_getElem? (SF hi))
structure MixOk (m:List Nat):Prop where
 nd:m.Nodup
 lt:∀ j ∈ m,j < m.length
 has:∀ j,j < m.length -> j ∈ m
theorem MixOk.of {m:List Nat} {n:Nat} (h:m.Perm (List.range n)):MixOk m /\ m.length = n:=by
 have hl:m.length = n:=by rw [h.length_eq,List.length_range]
 refine ⟨⟨(h.nodup_iff).mpr List.nodup_range,fun j hj=>?_,fun j hj=>?_⟩,hl⟩
 ·rw [hl]; exact List.mem_range.mp (h.mem_iff.mp hj)
 ·exact h.mem_iff.mpr (List.mem_range.mpr (by omega))
theorem MixOk.at {m:List Nat} (h:MixOk m) {j:Nat} (hj:j < m.length):m.idxOf j < m.length /\ m.getD (m.idxOf j) 0 = j:=by
 have hl:=List.idxOf_lt_length_of_mem (h.has j hj)
 refine ⟨hl,?_⟩
 rw [List.getD_eq_getElem?_getD,List.getElem?_eq_getElem hl]
 exact List.getElem_idxOf hl
theorem MixOk.lt' {m:List Nat} (h:MixOk m) {i:Nat} (hi:i < m.length):m.getD i 0 < m.length:=by
 rw [List.getD_eq_getElem?_getD,List.getElem?_eq_getElem hi]
 exact h.lt _ (List.getElem_mem hi)
section
variable {X:Cx} {K:FG7}
theorem Ws (hK:X.K = K):MtR X "list.index" (fun x vs H Q=>∃ (l:Addr) (ns:List Nat) (j:Nat),x = .ref l /\ vs = [.int j] /\ SqL K H l (zH ns) /\ j ∈ ns /\ ns.length <= 1000 /\ Q (.int (ns.idxOf j:Nat)) H):=by
 subst hK
 intro pins s σ H x vs v us Q I rx rv h
 obtain ⟨l,ns,j,rfl,rfl,hq,hj,hl,q⟩:=h
 cases rx
 obtain ⟨u,rfl,t,rfl⟩:=wa rv
 obtain ⟨its,r,⟨o,n,ho,hc,hdi,hd⟩,hz⟩:=I.list hq
 obtain ⟨oc,od,oda,osl⟩:=o
 cases hc
 cases hd
 have hlen:=r.length
 rw [zR] at hlen
 have hp:=List.idxOf_lt_length_of_mem hj
 have at_:∀ m,m < ns.length -> ∃ t,its[m]? = some (.int (ns.getD m 0:Nat) t):=fun m hm=>by
  have e1:(zH ns)[m]? = some (.int (ns.getD m 0:Nat)):=natsV_get? (by rw [List.getD_eq_getElem?_getD,List.getElem?_eq_getElem hm]; rfl)
  obtain ⟨u,hu,t,rfl⟩:=r.get e1
  exact ⟨t,hu⟩
 have hjj:∀ m (hm:m < its.toArray.size),∃ t,its.toArray[m] = .int (ns.getD m 0:Nat) t:=fun m hm=>by
  have hm':m < its.length:=by simpa using hm
  obtain ⟨t,e⟩:=at_ m (by omega)
  rw [List.getElem?_eq_getElem hm'] at e
  exact ⟨t,by simpa using Option.some.inj e⟩
 have key:∀ (x:Int),x = (j:Int) -> ∀ (p:Nat),p = ns.idxOf j -> wpAny (model X.prog X.w) X.A (call (.builtin "list.index") (.ref l :: [.int x t])) (EP X pins σ Q) X.xe s:=by
  intro x hx p hpp
  have hp':p < its.toArray.size:=by simp; omega
  refine call_meets F.slot_list_index ⟨_,ho,rfl⟩ F.entry_list_index (F.args_list_index_2 _ _)
   (SeqAt.list_indexAt l its.toArray n od osl (.int x t) (fun v=>match v with | .int a _=>a == x | _=>false) p hp' (by have:=hp'; simp at this; omega) ?_ ?_) ⟨ho,?_,?_⟩
  ·obtain ⟨t',e⟩:=hjj p hp'
   rw [e]
   show ((ns.getD p 0:Nat):Int) == x
   have:ns.getD p 0 = j:=by
    rw [hpp,List.getD_eq_getElem?_getD,List.getElem?_eq_getElem hp]
    exact List.getElem_idxOf hp
   rw [this,hx]; simp
  ·intro m hm hlt
   obtain ⟨t',e⟩:=hjj m hm
   rw [e]
   show (((ns.getD m 0:Nat):Int) == x) = false
   have hne:ns.getD m 0 ≠ j:=by
    have hm':m < ns.length:=by rw [hlen]; simpa using hm
    intro z
    have z':ns[m] = j:=by rw [← z,List.getD_eq_getElem?_getD,List.getElem?_eq_getElem hm']; rfl
    have:=List.not_of_lt_findIdx (p:=(· == j)) (xs:=ns) (i:=m) (by rw [hpp] at hlt; exact hlt)
    rw [z'] at this; simp at this
   rw [hx]
   exact beq_false_of_ne fun z=>hne (Int.ofNat.inj z)
  ·intro y hy
   obtain ⟨m,hm,rfl⟩:=List.getElem_of_mem (by simpa using hy:y ∈ its)
   obtain ⟨t',e⟩:=hjj m (by simpa using hm)
   have e':its[m] = .int (ns.getD m 0:Nat) t':=by simpa using e
   rw [e']
   exact SeqAt.EqAt.int_int _ _ _ _
  ·exact ⟨.int (ns.idxOf j:Nat),H,I.tok _,⟨_,by rw [hpp]⟩,q⟩
 exact key _ rfl _ rfl
end
theorem Tf {X:Cx} {K:FG7} {T:String} {name:Str} {id:String} {r:V -> List V -> Hp -> VK -> Prop} {o e:Expr} {es:List Expr} {to:TE} {t:TA} {apos cpos:Pos} (hK:X.K = K) (pa:PlainAttrs T) (slot:Slot T name id) (hty:typeOf (.builtin id) = pure (.type "method_descriptor")) (hm:MtR X id r) (ho:PE X o to) (ha:PA X (e :: es) t)
  (hbase:attributeBase o name X.env (eval o X.env) = eval o X.env:=by rfl)
  (hfew:((backTo cpos (starEach (e :: es) X.env)).all (fun x=>!x.1) && (backToKw cpos (keywordEach [] X.env)).all (fun x=>x.1.isSome)
   && decide ((e :: es).length + ([]:List Keyword).length + (if ([]:List Keyword).isEmpty then 0 else 1) < 30)) = true:=by rfl)
  (hline:(apos.endLine == cpos.line) = true:=by rfl) (hs:starEach (e :: es) X.env = (false,eval e X.env) :: starEach es X.env:=by rfl) (hplain:(backTo cpos (starEach es X.env)).any (·.1) = false:=by rfl) :
  PE X (.Call (.Attribute o name apos) (e :: es) [] cpos) (tBM K T r to t):=by
 subst hK
 exact Wh pa slot hty hm ho ha hbase hfew hline hs hplain
structure WkD (prog:Program) (w:World) (A:Around) (T:String) (I:Addr) (n:Nat) (Fr:Addr -> Prop) (J:List Value -> Shared -> Prop) (Fn:List Value -> Shared -> Prop):Prop where
 ty:∀ acc s,J acc s -> s.TypeIs (.ref I) T
 self:∀ acc s (Q:VS7) (E:VS7),J acc s -> Q (.ref I) s -> wpAny (model prog w) A (pyIter (.ref I)) Q E s
 stay:∀ acc s (S:Addr) (ob:Obj) (h':Heap),J acc s -> Fr S -> s.heap.get? S = some ob -> (ob.cls = .type "list" /\ ∀ v,ob.data ≠ .cell v) -> (∀ b o,b ≠ S -> s.heap.get? b = some o -> h'.get? b = some o) -> h'.objs.size = s.heap.objs.size -> J acc { s with heap:=h' }
 next:∀ acc s (S:Addr) (ob:Obj) (Q:Option Value -> Shared -> Prop) (E:VS7),J acc s -> Fr S -> s.heap.get? S = some ob -> (ob.cls = .type "list" /\ ∀ v,ob.data ≠ .cell v) →
  (∀ v s',acc.length < n -> J (acc ++ [v]) s' -> s'.heap.get? S = some ob -> Q (some v) s') -> (∀ s',Fn acc s' -> s'.heap.get? S = some ob -> Q none s') -> wpAny (model prog w) A (pyNext (.ref I)) Q E s
 push:∀ acc s (o:Obj),J acc s -> J acc { s with heap:=s.heap.push o }
section
variable {X:Cx} {K:FG7} {a b:Expr} {ta:TA} {p p2 pos pos2:Pos}
theorem SqC.grow {c:Bool} {H H':Hp} {a:Addr} {xs:List V} (g:Grow [] H H') (h:SqC c K H a xs):SqC c K H' a xs:=by
 cases c
 ·exact g.sqL h
 ·exact g.sqT h
end
open PySem PySem.Spec PyProof.Rows L2 HT
section
variable {prog:Program} {w:World} {A:Around} {E:VS7} {s:Shared}
theorem Wt (l b:Addr) (us ws:Array Value) (n m:Nat) (d1 d2:Option Addr) (e1 e2:Array (Option Value)) (h0:us.isEmpty = true) :
  Meets (Builtin.«tuple.__add__» ⟨[.ref l,.ref b],[]⟩) (fun _ R s=>s.heap.get? l = some ⟨.type "tuple",d1,.seq us n,e1⟩ /\ s.heap.get? b = some ⟨.type "tuple",d2,.seq ws m,e2⟩ /\ R (.ok (.ret (.ref b))) s) :=
 .of_wp fun P w A R s h=>by
  obtain ⟨hh,gg,dd,tk,os⟩:=s
  obtain ⟨eL,eT,q⟩:=h
  have k1:=PySem.AutoSeq1.sub_tuple_tuple
  wp_walk using PySem.AutoSeq1.wpAny_loadPart' eL,PySem.AutoSeq1.wpAny_loadPart' eT
  exact ⟨_,rfl,q⟩
theorem Wu {t b:Addr} {vs ws:List Value} {Q:VS7} (ht:IsTup s.heap t vs.toArray) (hb:IsTup s.heap b ws.toArray) (hv:vs = []) (h1:Q (.ref b) s):wpAny (model prog w) A (binaryOp .Add (.ref t) (.ref b)) Q E s:=by
 obtain ⟨⟨c1,d1,x1,l1⟩,ho,hc,n,hd⟩:=id ht
 obtain ⟨⟨c2,d2,x2,l2⟩,ho2,hc2,m,hd2⟩:=id hb
 cases hc
 cases hd
 cases hc2
 cases hd2
 exact concat_meets ⟨_,ho,rfl⟩ ⟨_,ho2,rfl⟩ noFill_tuple_add seq_tuple_add PySem.F.slot_tuple_add PySem.F.entry_tuple_add (PySem.F.args_tuple_add_2 _ _) (Wt t b vs.toArray ws.toArray n m d1 d2 l1 l2 (by simp [hv])) ⟨ho,ho2,h1⟩
theorem tM {t sl:Addr} {us:Array Value} {vl vu:Value} {lo hi:Option Int} {Q:VS7} (ht:IsTup s.heap t us) (hs:s.heap.IsSliceOf sl vl vu .none) (pl:IsPart vl lo) (pu:IsPart vu hi)
  (hw:sIx us.size 0 lo = 0 /\ sIx us.size us.size hi = us.size) (h:Q (.ref t) s):wpAny (model prog w) A (getItem (.ref t) (.ref sl)) Q E s:=by
 obtain ⟨os,hos,hcs,hds⟩:=id hs
 have hTs:s.TypeIs (.ref sl) "slice":=⟨os,hos,hcs⟩
 unfold getItem
 try with_reducible refine wpAny_holding ?_
 first | refine wpAny_bind (wpAny_pure ?_) | skip
 refine wpAny_bind (wpAny_sequenceKey ht.typeIs (by decide) ?_)
 refine wpAny_bind (wpAny_callSpecial?_slot (name:=Str.ofString "__getitem__") ht.typeIs PyProof.Rows.slot_tuple_getitem
  (wpAny_call_entry PyProof.Rows.slot_tuple_getitem ht.typeIs entry_tuple_getitem ?_ (args_tuple_getitem _ _)))
 show wpAny _ _ (Builtin.Tuple.tupleItemsOf (.ref t) >>= _) _ _ s
 refine wpAny_bind (tupleItemsOf_ ht ?_)
 refine wpAny_bind (wpAny_typeOf hTs ?_)
 rw [if_pos (by decide)]
 refine wpAny_bind (xo hs pl pu ?_)
 have yes:(((sIx us.size 0 lo:Nat):Int) == 0 && (1:Int) == 1 && (sIx us.size us.size hi - sIx us.size 0 lo) == us.size) = true:=by
  rw [hw.1,hw.2]; simp
 show wpAny _ _ (if (((sIx us.size 0 lo:Nat):Int) == 0 && (1:Int) == 1 && (sIx us.size us.size hi - sIx us.size 0 lo) == us.size) = true then _ else _) _ _ s
 rw [if_pos yes]
 refine wpAny_bind ?_
 unfold Builtin.Tuple.tupleIsExact
 refine wpAny_bind (wpAny_typeOf ht.typeIs (wpAny_pure ?_))
 show wpAny _ _ (rule _ >>= _) _ _ s
 exact wpAny_bind (wpAny_rule (wpAny_bind (wpAny_pure (wpAny_pure ⟨_,rfl,wpAny_pure h⟩))))
end
section
variable {X:Cx} {K:FG7}
def rSlG (K:FG7):V -> Option Int -> Option Int -> Hp -> VK -> Prop:=fun x lo hi H Q=>∃ a xs,x = .ref a /\ SqT K H a xs /\ ∀ p H',Grow [] H H' -> SqT K H' p (cutV xs lo hi) -> Q (.ref p) H'
theorem YC {xs:List V} {lo hi:Option Int} (h:HT.sIx xs.length 0 lo = 0 /\ HT.sIx xs.length xs.length hi = xs.length):cutV xs lo hi = xs:=by
 unfold cutV
 rw [h.1,h.2,List.drop_zero,Nat.sub_zero,List.take_length]
theorem vW (hK:X.K = K):SlR X (rSlG K):=by
 subst hK
 intro pins s σ H x v vl vu lo hi sl Q I rx hs pl pu h
 obtain ⟨a,xs,rfl,hx,q⟩:=h
 by_cases hw:HT.sIx xs.length 0 lo = 0 /\ HT.sIx xs.length xs.length hi = xs.length
 ·cases rx
  obtain ⟨its,r,ht,hz⟩:=I.tuple hx
  have hlen:its.toArray.size = xs.length:=by rw [List.size_toArray]; exact r.length.symm
  refine ⟨"tuple",_,PyProof.Rows.slot_tuple_getitem.lookup,ht.typeIs,?_⟩
  exact tM ht hs pl pu (by rw [hlen]; exact hw) ⟨.ref a,H,I,rfl,q a H (Grow.refl _ _) (by rw [YC hw]; exact hx)⟩
 ·exact Yd pins s σ H _ v vl vu lo hi sl Q I rx hs pl pu ⟨a,xs,rfl,hx,hw,fun p hp=>q p _ (Grow.new hp _) (SqT.of zb)⟩
def SM (K:FG7):R2:=fun x y H Q=>∃ a b xs ys,x = .ref a /\ y = .ref b /\ SqT K H a xs /\ SqT K H b ys /\ xs.length + ys.length <= sizeLine /\ ∀ p H',Grow [] H H' -> SqT K H' p (xs ++ ys) -> Q (.ref p) H'
theorem vX (hK:X.K = K):OpR X (binaryOp .Add) (SM K):=by
 subst hK
 intro pins s σ H x y v u Q I rx ry h
 obtain ⟨a,b,xs,ys,rfl,rfl,ha,hb,hz,q⟩:=h
 by_cases hx:xs = []
 ·cases rx
  cases ry
  obtain ⟨its,r1,p1,_⟩:=I.tuple ha
  obtain ⟨its2,r2,p2,_⟩:=I.tuple hb
  exact Wu p1 p2 (r1.nil_iff.mpr hx) ⟨.ref b,H,I,rfl,q b H (Grow.refl _ _) (by rw [hx]; exact hb)⟩
 ·exact VL pins s σ H _ _ v u Q I rx ry ⟨a,b,xs,ys,rfl,rfl,ha,hb,hx,hz,fun e=>q a H (Grow.refl _ _) (by rw [e,List.append_nil]; exact ha),fun _ p hp=>q p _ (Grow.new hp _) (SqT.of zb)⟩
end
section
variable {c:TT} {e:TE} {i:Nat} {v v':V} {t u r:TS} {D:Ends} {σ:L2.St} {H:Hp} {rt:VK} {bk ct:L2.St -> Hp -> Prop}
theorem c_if (Good:L2.St -> Hp -> Prop) (hr:∀ σ' H',Good σ' H' -> r D σ' H') (hc:(∀ σ' H',Good σ' H' -> r D σ' H') -> tIfS c t u { D with nx:=r D } σ H):tSeq (tIfS c t u) r D σ H:=hc hr
theorem yC (Good:V -> Hp -> Prop) (hc:∀ K:VK,(∀ v H',Good v H' -> K v H') -> e σ H K) (hr:∀ v H',Good v H' -> t D (σ.set i (some v)) H'):tSeq (tAsg e (x9 i)) t D σ H:=hc _ fun v H' g=>hr v H' g
theorem yn (h:t D σ H):UI ({ nx:=t D,rt:=rt,bk:=bk,ct:=ct }:Ends) σ H:=h
theorem yv (Good:Bool -> Hp -> Prop) (hc:∀ K:Bool -> Hp -> Prop,(∀ b H',Good b H' -> K b H') -> c σ H K) (hr:∀ b H',Good b H' -> if b = true then t { D with nx:=r D } σ H' else u { D with nx:=r D } σ H'):tSeq (tIfS c t u) r D σ H:=hc _ hr
end
abbrev OKey:=Option Key
def okV:OKey -> V
 | none=>.non
 | some k=>kV k
def DcO (a:Addr) (kvs:List (V × V)):HO:=.ext fun h=>∃ o es n,h.get? a = some o /\ o.cls = .type "dict" /\ o.data = .dict es n /\ Vals (kvs.map (·.1)) (es.toList.map (·.key)) /\ Vals (kvs.map (·.2)) (es.toList.map (·.val))
mutual
/-- nested data,whose lists and dicts are none of m -/
inductive Od (K:FG7) (m:List Addr) (H:Hp):V -> PyData -> Prop
 | non:Od K m H .non .none
 | bl (b:Bool):Od K m H (.bl b) (.bool b)
 | int (i:Int):Od K m H (.int i) (.int i)
 | str (x:Str):Od K m H (.str x) (.str x)
 | tup {a:Addr} {xs:List V} {ds:List PyData}:SqT K H a xs -> Ods K m H xs ds -> Od K m H (.ref a) (.tuple ds)
 | lst {a:Addr} {xs:List V} {ds:List PyData}:H a = some (.lst xs) -> a ∉ m -> a ≠ sysModules -> Ods K m H xs ds -> Od K m H (.ref a) (.list ds)
 | dct {a:Addr} {kvs:List (V × V)} {ds:List (PyData × PyData)}:H a = some (DcO a kvs) -> a ∉ m -> a ≠ sysModules -> Ods K m H (kvs.map (·.1)) (ds.map (·.1)) -> Ods K m H (kvs.map (·.2)) (ds.map (·.2)) -> Od K m H (.ref a) (.dict ds)
inductive Ods (K:FG7) (m:List Addr) (H:Hp):List V -> List PyData -> Prop
 | nil:Ods K m H [] []
 | cons {x:V} {xs:List V} {d:PyData} {ds:List PyData}:Od K m H x d -> Ods K m H xs ds -> Ods K m H (x :: xs) (d :: ds)
end
section
variable {K:FG7} {m:List Addr} {H H':Hp}
mutual
theorem Od.grow (g:Grow m H H'):∀ {x:V} {d:PyData},Od K m H x d -> Od K m H' x d
 | _,_,.non=>.non
 | _,_,.bl b=>.bl b
 | _,_,.int i=>.int i
 | _,_,.str x=>.str x
 | _,_,.tup h t=>.tup (g.sqT h) (Ods.grow g t)
 | _,_,.lst h n b t=>.lst (g.keep _ _ n h) n b (Ods.grow g t)
 | _,_,.dct h n b t u=>.dct (g.keep _ _ n h) n b (Ods.grow g t) (Ods.grow g u)
theorem Ods.grow (g:Grow m H H'):∀ {xs:List V} {ds:List PyData},Ods K m H xs ds -> Ods K m H' xs ds
 | _,_,.nil=>.nil
 | _,_,.cons h t=>.cons (Od.grow g h) (Ods.grow g t)
end
theorem Ods.length:∀ {xs:List V} {ds:List PyData},Ods K m H xs ds -> xs.length = ds.length
 | _,_,.nil=>rfl
 | _,_,.cons _ t=>congrArg (· + 1) (Ods.length t)
theorem Ods.get:∀ {xs:List V} {ds:List PyData} {i:Nat} {x:V},Ods K m H xs ds -> xs[i]? = some x -> ∃ d,ds[i]? = some d /\ Od K m H x d
 | _,_,_,_,.nil,e=>by simp at e
 | _,_,0,_,.cons h _,e=>by simp at e; subst e; exact ⟨_,rfl,h⟩
 | _,_,i + 1,x,.cons _ t,e=>Ods.get (i:=i) t (by simpa using e)
theorem Ods.at:∀ {xs:List V} {ds:List PyData} {i:Nat} {d:PyData},Ods K m H xs ds -> ds[i]? = some d -> ∃ x,xs[i]? = some x /\ Od K m H x d
 | _,_,_,_,.nil,e=>by simp at e
 | _,_,0,_,.cons h _,e=>by simp at e; subst e; exact ⟨_,rfl,h⟩
 | _,_,i + 1,x,.cons _ t,e=>Ods.at (i:=i) t (by simpa using e)
theorem Ods.append:∀ {xs ys:List V} {ds es:List PyData},Ods K m H xs ds -> Ods K m H ys es -> Ods K m H (xs ++ ys) (ds ++ es)
 | _,_,_,_,.nil,s=>s
 | _,_,_,_,.cons r t,s=>.cons r (Ods.append t s)
theorem Ods.take:∀ {xs:List V} {ds:List PyData} (n:Nat),Ods K m H xs ds -> Ods K m H (xs.take n) (ds.take n)
 | _,_,0,_=>.nil
 | _,_,_ + 1,.nil=>.nil
 | _,_,n + 1,.cons r t=>.cons r (Ods.take n t)
theorem Ods.drop:∀ {xs:List V} {ds:List PyData} (n:Nat),Ods K m H xs ds -> Ods K m H (xs.drop n) (ds.drop n)
 | _,_,0,r=>r
 | _,_,_ + 1,.nil=>.nil
 | _,_,n + 1,.cons _ t=>Ods.drop n t
end
section
variable {X:Cx} {pins:List (Addr × Obj)} {σ:L2.St} {H:Hp} {s:Shared} {m:List Addr}
theorem DcO.at (I:Inv X pins σ H s) {a:Addr} {kvs:List (V × V)} (h:H a = some (DcO a kvs)):∃ o es n,s.heap.get? a = some o /\ o.cls = .type "dict" /\ o.data = .dict es n /\ Vals (kvs.map (·.1)) (es.toList.map (·.key)) /\ Vals (kvs.map (·.2)) (es.toList.map (·.val)):=(I.hok a _ h).1
mutual
theorem Od.reads (I:Inv X pins σ H s):∀ {x:V} {d:PyData} {u:Value},Od X.K m H x d -> RelV x u -> ∃ as,Reads s.heap u d as /\ sysModules ∉ as
 | _,_,u,.non,r=>by
  cases (show u = Value.none from r)
  exact ⟨_,.none,by simp⟩
 | _,_,u,.bl b,r=>by
  cases (show u = Value.bool b from r)
  exact ⟨_,.bool b,by simp⟩
 | _,_,u,.int i,r=>by
  obtain ⟨t,rfl⟩:=r
  exact ⟨_,.int i t,by simp⟩
 | _,_,u,.str x,r=>by
  obtain ⟨t,rfl⟩:=r
  exact ⟨_,.str x t,by simp⟩
 | _,_,u,.tup (a:=a) hs hd,r=>by
  cases (show u = Value.ref a from r)
  obtain ⟨its,r1,⟨o,e1,e2,n,e3⟩,_⟩:=I.tuple hs
  obtain ⟨as,q,ns⟩:=Ods.reads I hd r1
  exact ⟨_,.tuple e1 e2 e3 q,ns⟩
 | _,_,u,.lst (a:=a) hs _ hb hd,r=>by
  cases (show u = Value.ref a from r)
  obtain ⟨its,r1,⟨o,n,e1,e2,_,e3⟩,_⟩:=I.list (SqL.of hs)
  obtain ⟨as,q,ns⟩:=Ods.reads I hd r1
  exact ⟨_,.list e1 e2 e3 q,fun z=>(List.mem_cons.mp z).elim (fun e=>hb e.symm) ns⟩
 | _,_,u,.dct (a:=a) hs _ hb h1 h2,r=>by
  cases (show u = Value.ref a from r)
  obtain ⟨o,es,n,e1,e2,e3,v1,v2⟩:=DcO.at I hs
  obtain ⟨as,q1,n1⟩:=Ods.reads I h1 v1
  obtain ⟨bs,q2,n2⟩:=Ods.reads I h2 v2
  refine ⟨_,.dict e1 e2 e3 q1 q2,fun z=>?_⟩
  rcases List.mem_append.mp z with z | z
  ·exact (List.mem_cons.mp z).elim (fun e=>hb e.symm) n1
  ·exact n2 z
theorem Ods.reads (I:Inv X pins σ H s):∀ {xs:List V} {ds:List PyData} {us:List Value},Ods X.K m H xs ds -> Vals xs us -> ∃ as,ReadsAll s.heap us ds as /\ sysModules ∉ as
 | _,_,_,.nil,.nil=>⟨_,.nil,by simp⟩
 | _,_,_,.cons h t,.cons r rs=>by
  obtain ⟨as,q,n1⟩:=Od.reads I h r
  obtain ⟨bs,q2,n2⟩:=Ods.reads I t rs
  exact ⟨_,.cons q q2,fun z=>(List.mem_append.mp z).elim n1 n2⟩
end
end
section
variable {K:FG7} {m m':List Addr} {H:Hp}
mutual
theorem Od.more {a:Addr} (h:H a = none):∀ {x:V} {d:PyData},Od K m H x d -> Od K (a :: m) H x d
 | _,_,.non=>.non
 | _,_,.bl b=>.bl b
 | _,_,.int i=>.int i
 | _,_,.str x=>.str x
 | _,_,.tup q t=>.tup q (Ods.more h t)
 | _,_,.lst q n b t=>.lst q (fun z=>(List.mem_cons.mp z).elim (fun e=>by rw [e,h] at q; cases q) n) b (Ods.more h t)
 | _,_,.dct q n b t u=>.dct q (fun z=>(List.mem_cons.mp z).elim (fun e=>by rw [e,h] at q; cases q) n) b (Ods.more h t) (Ods.more h u)
theorem Ods.more {a:Addr} (h:H a = none):∀ {xs:List V} {ds:List PyData},Ods K m H xs ds -> Ods K (a :: m) H xs ds
 | _,_,.nil=>.nil
 | _,_,.cons q t=>.cons (Od.more h q) (Ods.more h t)
end
mutual
theorem Od.less (h:∀ b ∈ m',b ∈ m):∀ {x:V} {d:PyData},Od K m H x d -> Od K m' H x d
 | _,_,.non=>.non
 | _,_,.bl b=>.bl b
 | _,_,.int i=>.int i
 | _,_,.str x=>.str x
 | _,_,.tup q t=>.tup q (Ods.less h t)
 | _,_,.lst q n b t=>.lst q (fun z=>n (h _ z)) b (Ods.less h t)
 | _,_,.dct q n b t u=>.dct q (fun z=>n (h _ z)) b (Ods.less h t) (Ods.less h u)
theorem Ods.less (h:∀ b ∈ m',b ∈ m):∀ {xs:List V} {ds:List PyData},Ods K m H xs ds -> Ods K m' H xs ds
 | _,_,.nil=>.nil
 | _,_,.cons q t=>.cons (Od.less h q) (Ods.less h t)
end
end
theorem sV {ks:List (Option Expr)} {vs es:List Expr} {p:Pos} {env:Env}:starEach (.Dict ks vs p :: es) env = (false,eval (.Dict ks vs p) env) :: starEach es env:=by rfl
structure DR where
 p:List Addr -> L2.St -> Hp -> Prop
 mono:∀ {m σ H H'},Grow [] H H' -> p m σ H -> p m σ H'
 more:∀ {a m σ H},H a = none -> p m σ H -> p (a :: m) σ H
def DR.t:DR:=⟨fun _ _ _=>True,fun _ _=>trivial,fun _ _=>trivial⟩
def DR.and (a b:DR):DR:=⟨fun m σ H=>a.p m σ H /\ b.p m σ H,fun g h=>⟨a.mono g h.1,b.mono g h.2⟩,fun g h=>⟨a.more g h.1,b.more g h.2⟩⟩
def KxR (p:OKey × V) (q:Value × Value):Prop:=RelV (okV p.1) q.1 /\ RelV p.2 q.2
structure PO2 (X:Cx) (ks:List (Option Expr)) (vs:List Expr) (R:DR) (kds:List (OKey × PyData)):Prop where
 run:∀ (pos:Pos) (pins:List (Addr × Obj)) (s:Shared) (σ:L2.St) (H:Hp) (m:List Addr) (Q:List (Value × Value) -> Shared -> Prop),Inv X pins σ H s -> R.p m σ H -> (∀ b ∈ m,H b ≠ none) →
  (∀ r s' H' (kxs:List (OKey × V)),Inv X pins σ H' s' -> Grow [] H H' -> Paired KxR kxs r -> kxs.map (·.1) = kds.map (·.1) -> Ods X.K m H' (kxs.map (·.2)) (kds.map (·.2)) -> Q r s') →
  wpAny (model X.prog X.w) X.A (evalPairs (pairTrees ks vs X.env pos)) Q X.xe s
def tyD:PyData -> String
 | .none=>"NoneType"
 | .bool _=>"bool"
 | .int _=>"int"
 | .str _=>"str"
 | .list _=>"list"
 | .tuple _=>"tuple"
 | .dict _=>"dict"
def SN (K:FG7):List V -> Hp -> VK -> Prop:=fun xs H Q=>∃ x d m T k,xs = [x,.ty T] /\ Od K m H x d /\ PySem.W.kitOne K (.type (tyD d)) (.type T) = some k /\ Q (.bl k) H
theorem YD {X:Cx} {K:FG7} (hK:X.K = K):yM X (.builtin "isinstance") (SN K):=by
 subst hK
 intro pins s σ H xs us Q I r h
 obtain ⟨x,d,m,T,k,rfl,hd,e,q⟩:=h
 cases hd with
 | non=>exact zL pins s σ H _ us Q I r ⟨_,T,_,k,rfl,rfl,e,q⟩
 | bl b=>exact zL pins s σ H _ us Q I r ⟨_,T,_,k,rfl,rfl,e,q⟩
 | int i=>exact zL pins s σ H _ us Q I r ⟨_,T,_,k,rfl,rfl,e,q⟩
 | str y=>exact zL pins s σ H _ us Q I r ⟨_,T,_,k,rfl,rfl,e,q⟩
 | tup hs _=>exact zL pins s σ H _ us Q I r ⟨_,T,_,k,rfl,.inl ⟨rfl,_,hs⟩,e,q⟩
 | lst hs _ _ _=>exact zL pins s σ H _ us Q I r ⟨_,T,_,k,rfl,.inr (.inl ⟨rfl,_,SqL.of hs⟩),e,q⟩
 | @dct a kvs ds hs _ _ _ _ =>
  obtain ⟨u,w',rfl,rx,rt⟩:=Wd r
  cases (show w' = Value.type T from rt)
  cases (show u = Value.ref a from rx)
  obtain ⟨o,es,n,e1,e2,_⟩:=DcO.at I hs
  exact PySem.W.kia_one PySem.W.kitx_dict I.kIn ⟨o,e1,e2⟩ e (fun z=>nomatch z) fun tk=>⟨.bl k,H,I.tok _,rfl,q⟩
mutual
def leD (B:Int):PyData -> Bool
 | .int i=>decide (-B <= i) && decide (i <= B)
 | .list xs | .tuple xs=>leDs B xs
 | .dict kvs=>leDk B kvs
 | .none | .bool _ | .str _=>true
def leDs (B:Int):List PyData -> Bool
 | []=>true
 | x :: xs=>leD B x && leDs B xs
def leDk (B:Int):List (PyData × PyData) -> Bool
 | []=>true
 | (k,v) :: r=>leD B k && leD B v && leDk B r
end
mutual
def wtO:PyData -> Nat
 | .list xs | .tuple xs=>wtOs xs + 3
 | .dict kvs=>wtOk kvs + 3
 | .int _=>1921
 | .none | .bool _=>5
 | .str x=>(reprText x).length
def wtOs:List PyData -> Nat
 | []=>0
 | x :: xs=>wtO x + 2 + wtOs xs
def wtOk:List (PyData × PyData) -> Nat
 | []=>0
 | (k,v) :: r=>wtO k + wtO v + 4 + wtOk r
end
mutual
theorem leD_mono {B B':Int} (h:B <= B'):∀ {d:PyData},leD B d = true -> leD B' d = true
 | .int i,z=>by
  simp only [leD,Bool.and_eq_true,decide_eq_true_eq] at z ⊢
  omega
 | .list xs,z=>leDs_mono h (xs:=xs) z
 | .tuple xs,z=>leDs_mono h (xs:=xs) z
 | .dict kvs,z=>leDk_mono h (kvs:=kvs) z
 | .none,_=>rfl
 | .bool _,_=>rfl
 | .str _,_=>rfl
theorem leDs_mono {B B':Int} (h:B <= B'):∀ {xs:List PyData},leDs B xs = true -> leDs B' xs = true
 | [],_=>rfl
 | x :: xs,z=>by
  have z':=Bool.and_eq_true_iff.mp (show (leD B x && leDs B xs) = true from z)
  show (leD B' x && leDs B' xs) = true
  rw [leD_mono h z'.1,leDs_mono h z'.2]; rfl
theorem leDk_mono {B B':Int} (h:B <= B'):∀ {kvs:List (PyData × PyData)},leDk B kvs = true -> leDk B' kvs = true
 | [],_=>rfl
 | (k,v) :: r,z=>by
  have z':=Bool.and_eq_true_iff.mp (show (leD B k && leD B v && leDk B r) = true from z)
  have z'':=Bool.and_eq_true_iff.mp z'.1
  show (leD B' k && leD B' v && leDk B' r) = true
  rw [leD_mono h z''.1,leD_mono h z''.2,leDk_mono h z'.2]; rfl
end
theorem xc {B:Int}:∀ {xs:List PyData},leDs B xs = true ↔ ∀ x ∈ xs,leD B x = true
 | []=>by simp [leDs]
 | x :: xs=>by simp [leDs,xc (xs:=xs)]
theorem vY:∀ {xs ys:List PyData},wtOs (xs ++ ys) = wtOs xs + wtOs ys
 | [],ys=>by simp [wtOs]
 | x :: xs,ys=>by
  show wtO x + 2 + wtOs (xs ++ ys) = wtO x + 2 + wtOs xs + wtOs ys
  rw [vY]; omega
theorem sW:∀ {xs:List PyData} (n:Nat),wtOs (xs.take n) <= wtOs xs
 | _,0=>Nat.zero_le _
 | [],_ + 1=>Nat.le_refl _
 | x :: xs,n + 1=>by
  show wtO x + 2 + wtOs (xs.take n) <= wtO x + 2 + wtOs xs
  have:=sW (xs:=xs) n
  omega
theorem sX:∀ {xs:List PyData} (n:Nat),wtOs (xs.drop n) <= wtOs xs
 | _,0=>Nat.le_refl _
 | [],_ + 1=>Nat.le_refl _
 | x :: xs,n + 1=>by
  show wtOs (xs.drop n) <= wtO x + 2 + wtOs xs
  have:=sX (xs:=xs) n
  omega
def Bg:Int:=2 ^ 1000
mutual
theorem showable_le {B:Int} (hB:B <= Bg):∀ {d:PyData},leD B d = true -> d.showable = true
 | .int i,z=>by
  simp only [leD,Bool.and_eq_true,decide_eq_true_eq] at z
  have hb:Bg = 2 ^ 1000:=rfl
  show decide (i.natAbs.log2 < 1920) = true
  refine decide_eq_true ?_
  by_cases h0:i.natAbs = 0
  ·rw [h0]; decide
  ·rw [Nat.log2_lt h0]
   have h1:(i.natAbs:Int) <= Bg:=by omega
   have h2:i.natAbs <= 2 ^ 1000:=by rw [hb] at h1; exact_mod_cast h1
   exact Nat.lt_of_le_of_lt h2 (Nat.pow_lt_pow_right (by decide) (by decide))
 | .list xs,z=>showableAll_le hB (xs:=xs) z
 | .tuple xs,z=>showableAll_le hB (xs:=xs) z
 | .dict kvs,z=>showableKv_le hB (kvs:=kvs) z
 | .none,_=>rfl
 | .bool _,_=>rfl
 | .str _,_=>rfl
theorem showableAll_le {B:Int} (hB:B <= Bg):∀ {xs:List PyData},leDs B xs = true -> PyData.showableAll xs = true
 | [],_=>rfl
 | x :: xs,z=>by
  have z':=Bool.and_eq_true_iff.mp (show (leD B x && leDs B xs) = true from z)
  show (x.showable && PyData.showableAll xs) = true
  rw [showable_le hB z'.1,showableAll_le hB z'.2]; rfl
theorem showableKv_le {B:Int} (hB:B <= Bg):∀ {kvs:List (PyData × PyData)},leDk B kvs = true -> PyData.showableKv kvs = true
 | [],_=>rfl
 | (k,v) :: r,z=>by
  have z':=Bool.and_eq_true_iff.mp (show (leD B k && leD B v && leDk B r) = true from z)
  have z'':=Bool.and_eq_true_iff.mp z'.1
  show (k.showable && v.showable && PyData.showableKv r) = true
  rw [showable_le hB z''.1,showable_le hB z''.2,showableKv_le hB z'.2]; rfl
end
mutual
theorem shown_le:∀ {d:PyData},d.showable = true -> d.shown.length <= wtO d
 | .none,_=>by decide
 | .bool b,_=>by cases b <;> decide
 | .int i,h=>int_text_len_1921 (of_decide_eq_true h)
 | .str x,_=>Nat.le_refl _
 | .list xs,h=>by
  have q:=shown_les (xs:=xs) h
  have l:=listText_len_le (PyData.shownAll xs)
  show (listText (PyData.shownAll xs)).length <= wtOs xs + 3
  omega
 | .tuple xs,h=>by
  have q:=shown_les (xs:=xs) h
  have l:=tupleText_len_le (PyData.shownAll xs)
  show (tupleText (PyData.shownAll xs)).length <= wtOs xs + 3
  omega
 | .dict kvs,h=>by
  have q:=shown_lek (kvs:=kvs) h
  have l:=dictText_len_le (PyData.shownKv kvs)
  show (dictText (PyData.shownKv kvs)).length <= wtOk kvs + 3
  omega
theorem shown_les:∀ {xs:List PyData},PyData.showableAll xs = true -> ((PyData.shownAll xs).map (·.length)).sum + 2 * (PyData.shownAll xs).length <= wtOs xs
 | [],_=>by decide
 | x :: xs,h=>by
  have h':(x.showable && PyData.showableAll xs) = true:=h
  rw [Bool.and_eq_true] at h'
  have q1:=shown_le (d:=x) h'.1
  have q2:=shown_les (xs:=xs) h'.2
  show (((x.shown :: PyData.shownAll xs).map (·.length)).sum + 2 * (x.shown :: PyData.shownAll xs).length) <= wtO x + 2 + wtOs xs
  rw [List.map_cons,List.sum_cons,List.length_cons]
  omega
theorem shown_lek:∀ {kvs:List (PyData × PyData)},PyData.showableKv kvs = true -> ((PyData.shownKv kvs).map (·.length)).sum + 2 * (PyData.shownKv kvs).length <= wtOk kvs
 | [],_=>by decide
 | (k,v) :: r,h=>by
  have h':(k.showable && v.showable && PyData.showableKv r) = true:=h
  rw [Bool.and_eq_true,Bool.and_eq_true] at h'
  have q1:=shown_le (d:=k) h'.1.1
  have q2:=shown_le (d:=v) h'.1.2
  have q3:=shown_lek (kvs:=r) h'.2
  have e:(k.shown ++ ": " ++ v.shown).length = k.shown.length + 2 + v.shown.length:=by
   rw [strLen_append,strLen_append]; rfl
  show ((((k.shown ++ ": " ++ v.shown) :: PyData.shownKv r).map (·.length)).sum + 2 * ((k.shown ++ ": " ++ v.shown) :: PyData.shownKv r).length) <= wtO k + wtO v + 4 + wtOk r
  rw [List.map_cons,List.sum_cons,List.length_cons,e]
  omega
end
structure GdS (n k w:Nat) (ds:List PyData):Prop where
 le:leDs (10 ^ 30 + n) ds = true
 dp:PyData.depthAll ds <= k
 wt:wtOs ds <= w
structure GdD (n k w:Nat) (d:PyData):Prop where
 le:leD (10 ^ 30 + n) d = true
 dp:d.depth <= k
 wt:wtO d <= w
theorem qi {B:Int} {a b:List PyData} (ha:leDs B a = true) (hb:leDs B b = true):leDs B (a ++ b) = true:=xc.mpr fun x hx=>(List.mem_append.mp hx).elim (xc.mp ha x) (xc.mp hb x)
theorem yh {k:Nat}:∀ {xs:List PyData},PyData.depthAll xs <= k ↔ ∀ x ∈ xs,x.depth <= k
 | []=>by simp [PyData.depthAll]
 | x :: xs=>by
  show max x.depth (PyData.depthAll xs) <= k ↔ _
  rw [Nat.max_le,yh (xs:=xs)]
  simp
theorem GdS.append {n k w w':Nat} {a b:List PyData} (ha:GdS n k w a) (hb:GdS n k w' b):GdS n k (w + w') (a ++ b) :=
 ⟨qi ha.le hb.le,yh.mpr fun x hx=>(List.mem_append.mp hx).elim (yh.mp ha.dp x) (yh.mp hb.dp x),by rw [vY]; have:=ha.wt; have:=hb.wt; omega⟩
theorem GdS.sub {n k w:Nat} {a b:List PyData} (ha:GdS n k w a) (h:∀ x ∈ b,x ∈ a) (hw:wtOs b <= wtOs a):GdS n k w b :=
 ⟨xc.mpr fun x hx=>xc.mp ha.le x (h x hx),yh.mpr fun x hx=>yh.mp ha.dp x (h x hx),Nat.le_trans hw ha.wt⟩
theorem GdD.one {n k w:Nat} {d:PyData} (h:GdD n k w d):GdS n k (w + 2) [d]:=⟨by show (leD _ d && true) = true; rw [h.le]; rfl,by show max d.depth 0 <= k; have:=h.dp; omega,by show wtO d + 2 + 0 <= w + 2; have:=h.wt; omega⟩
theorem GdS.tup {n k w:Nat} {ds:List PyData} (h:GdS n k w ds):GdD n (k + 1) (w + 3) (.tuple ds):=⟨h.le,Nat.succ_le_succ h.dp,Nat.add_le_add_right h.wt 3⟩
theorem GdS.lst {n k w:Nat} {ds:List PyData} (h:GdS n k w ds):GdD n (k + 1) (w + 3) (.list ds):=⟨h.le,Nat.succ_le_succ h.dp,Nat.add_le_add_right h.wt 3⟩
theorem GdS.mono {n n' k k' w w':Nat} {ds:List PyData} (h:GdS n k w ds) (h1:n <= n') (h2:k <= k') (h3:w <= w'):GdS n' k' w' ds:=⟨leDs_mono (by omega) h.le,Nat.le_trans h.dp h2,Nat.le_trans h.wt h3⟩
theorem GdD.mono {n n' k k' w w':Nat} {d:PyData} (h:GdD n k w d) (h1:n <= n') (h2:k <= k') (h3:w <= w'):GdD n' k' w' d:=⟨leD_mono (by omega) h.le,Nat.le_trans h.dp h2,Nat.le_trans h.wt h3⟩
def cutD (xs:List PyData) (lo hi:Option Int):List PyData:=(xs.drop (HT.sIx xs.length 0 lo)).take (HT.sIx xs.length xs.length hi - HT.sIx xs.length 0 lo)
theorem Ods.cut {K:FG7} {m:List Addr} {H:Hp} {xs:List V} {ds:List PyData} {lo hi:Option Int} (h:Ods K m H xs ds):Ods K m H (cutV xs lo hi) (cutD ds lo hi):=by
 unfold cutV cutD
 rw [h.length]
 exact (h.drop _).take _
theorem GdS.cut {n k w:Nat} {ds:List PyData} {lo hi:Option Int} (h:GdS n k w ds):GdS n k w (cutD ds lo hi):=by
 unfold cutD
 exact h.sub (fun x hx=>List.mem_of_mem_drop (List.mem_of_mem_take hx)) (Nat.le_trans (sW _) (sX _))
section
variable {K:FG7} {m:List Addr} {H:Hp} {x:V}
theorem Od.inv_tup {ds:List PyData} (h:Od K m H x (.tuple ds)):∃ a xs,x = .ref a /\ SqT K H a xs /\ Ods K m H xs ds:=by
 cases h with
 | tup h1 h2=>exact ⟨_,_,rfl,h1,h2⟩
end
def qj (P:Program) (w:World) (K:FG7) (mg:Str -> Option Value) (base:Heap) (C:Addr) (k:Nat) (m:Str) (ps:List Str) (sp:Sp):Prop :=
 ∃ (f:Addr) (fd:FuncData),FnOk P w K mg base CX0 k f fd ps sp /\ w5 K fd ps [] /\ Meth K C m f
def tN (P:Program) (w:World) (K:FG7) (mg:Str -> Option Value) (base:Heap) (C:Addr) (k:Nat) (ps:List Str) (sp:Sp):Prop :=
 ∃ (j:Nat) (f:Addr) (fd:FuncData),j + 1 = k /\ FnOk P w K mg base CX0 j f fd ps sp /\ w5 K fd ps [] /\ Mk K C f
section
variable {P:Program} {w:World} {K:FG7} {mg:Str -> Option Value} {base:Heap} {C:Addr} {j k:Nat} {m:Str} {ps:List Str} {sp:Sp}
theorem qj.mono (c:qj P w K mg base C j m ps sp) (h:j <= k):qj P w K mg base C k m ps sp:=by
 obtain ⟨f,fd,F,b,mt⟩:=c
 exact ⟨f,fd,F.mono h,b,mt⟩
theorem tN.mono (c:tN P w K mg base C j ps sp) (h:j <= k):tN P w K mg base C k ps sp:=by
 obtain ⟨i,f,fd,e,F,b,mt⟩:=c
 exact ⟨k - 1,f,fd,by omega,F.mono (by omega),b,mt⟩
end
structure CTxt (K:FG7) (mg:Str -> Option Value) (C:Addr):Prop where
 cl:Cls K C
 n1:vC K C "depth"
 n2:vC K C "gates"
 n3:vC K C "out_lines"
 n4:vC K C "ups"
 n5:vC K C "tokens"
 n6:vC K C "came_out"
 n7:vC K C "given"
 mgC:mg "Counter" = some (.ref C)
section
variable {X:Cx} {K:FG7}
def FrT (H:Hp) (r:Addr) (xs:List V):Prop:=∃ o:Obj,H r = some (.frz o (.tup xs)) /\ o.cls = .type "tuple" /\ o.dict = none
theorem FrT.sqT {H:Hp} {r:Addr} {xs:List V} (h:FrT H r xs):SqT K H r xs:=by
 obtain ⟨o,e,_⟩:=h
 exact .inl (.inr ⟨o,e⟩)
end
structure Call72 where
 hand:Int
 box:Int
 deed:Deed
 begun:Int
 ended:Int
 answer:Int
instance:Inhabited Call72:=⟨⟨0,0,⟨0,none,none⟩,0,0,0⟩⟩
def Call72.vs (c:Call72) (rd:Addr):List V:=[.int c.hand,.int c.box,.ref rd,.int c.begun,.int c.ended,.int c.answer]
def yz (K:FG7) (H:Hp) (x:V) (c:Call72):Prop:=∃ r rd,x = .ref r /\ SqT K H r (c.vs rd) /\ SqT K H rd c.deed.vs
def zw (K:FG7) (H:Hp) (x:V) (cs:List Call72):Prop:=∃ r xs,x = .ref r /\ SqT K H r xs /\ AllR (yz K H) xs cs
theorem Grow.call72 {m:List Addr} {H H':Hp} (g:Grow m H H') {K:FG7} {x:V} {c:Call72} (h:yz K H x c):yz K H' x c:=by
 obtain ⟨r,rd,e,h1,h2⟩:=h
 exact ⟨r,rd,e,g.sqT h1,g.sqT h2⟩
theorem Grow.callsR {m:List Addr} {H H':Hp} (g:Grow m H H') {K:FG7} {xs:List V} {cs:List Call72} (h:AllR (yz K H) xs cs):AllR (yz K H') xs cs:=h.imp fun _ _ z=>g.call72 z
theorem Grow.calls72 {m:List Addr} {H H':Hp} (g:Grow m H H') {K:FG7} {x:V} {cs:List Call72} (h:zw K H x cs):zw K H' x cs:=by
 obtain ⟨r,xs,e,h1,h2⟩:=h
 exact ⟨r,xs,e,g.sqT h1,g.callsR h2⟩
structure CallOk72 (m:Nat) (c:Call72):Prop where
 h0:0 <= c.hand
 h1:c.hand <= 15
 b0:0 <= c.box
 b1:c.box < m
 d:c.deed.Ok
 t0:0 <= c.begun
 t1:c.begun <= c.ended
def uo (b:Int) (cs:List Call72):Nat:=cs.countP fun c=>decide (c.box = b)
structure Calls72 (m:Nat) (cs:List Call72):Prop where
 len:cs.length <= 40
 ok:∀ c ∈ cs,CallOk72 m c
 few:∀ b:Int,uo b cs <= 8
def cg (cs:List Call72) (k:Nat):Call72:=cs.getD k default
theorem yw {cs:List Call72} {k:Nat} {c:Call72} (h:cs[k]? = some c):cg cs k = c:=by unfold cg; rw [List.getD_eq_getElem?_getD,h]; rfl
theorem sY {cs:List Call72} {k:Nat} (h:k < cs.length):cg cs k ∈ cs:=by
 have:=List.getElem?_eq_getElem h
 rw [yw this]; exact List.getElem_mem h
def an72 (cs:List Call72):List Int -> List Nat -> Bool
 | _,[]=>true
 | vs,k :: r=>if vs.getD (cg cs k).box.toNat 0 = (cg cs k).answer then an72 cs (vs.set (cg cs k).box.toNat ((cg cs k).deed.mk' (cg cs k).answer)) r else false
theorem yi {cs:List Call72} {vs:List Int} {k:Nat} {r:List Nat}:an72 cs vs (k :: r) = if vs.getD (cg cs k).box.toNat 0 = (cg cs k).answer then an72 cs (vs.set (cg cs k).box.toNat ((cg cs k).deed.mk' (cg cs k).answer)) r else false:=rfl
theorem yx {α:Type} {l:List α} {j:Nat} {x d:α} (h:j < l.length):(l.set j x).getD j d = x:=by rw [List.getD_eq_getElem?_getD,List.getElem?_set_self h]; rfl
theorem yW {α:Type} {l:List α} {i j:Nat} {x d:α} (h:i ≠ j):(l.set i x).getD j d = l.getD j d:=by rw [List.getD_eq_getElem?_getD,List.getD_eq_getElem?_getD,List.getElem?_set_ne h]
def y0 (n:Nat) (d:PyData) (ns:List Nat):Prop:=d = .tuple (ns.map fun k:Nat=>PyData.int (k:Int)) /\ ns.Perm (List.range n)
theorem xU:∀ {a b:List Nat},(a.map fun k:Nat=>PyData.int (k:Int)) = b.map (fun k:Nat=>PyData.int (k:Int)) -> a = b
 | [],[],_=>rfl
 | [],_ :: _,h=>by cases h
 | _ :: _,[],h=>by cases h
 | x :: a,y :: b,h=>by
  obtain ⟨h1,h2⟩:=List.cons.inj h
  have:x = y:=by injection h1 with h1; omega
  rw [this,xU h2]
theorem y0.uniq {n:Nat} {d:PyData} {ns ms:List Nat} (h:y0 n d ns) (h':y0 n d ms):ns = ms:=by
 have:=h.1.symm.trans h'.1
 injection this with this
 exact xU this
def Fl72 (d:PyData):Prop:=∀ ds,d = .tuple ds -> ds.length < 64 /\ ∀ e ∈ ds,∀ kvs,e ≠ .dict kvs
def y8 (K:FG7) (H:Hp) (x:V) (ns:List Nat):Prop:=∃ r,x = .ref r /\ SqT K H r (zH ns)
def Tg (K:FG7) (H:Hp) (x:V) (ns:List Nat):Prop:=∃ r,x = .ref r /\ SqL K H r (zH ns)
theorem yK {ns:List Nat} {i:Nat} {x:V} (h:(zH ns)[i]? = some x):∃ k,ns[i]? = some k /\ x = .int k:=by
 unfold zH at h
 rw [List.getElem?_map] at h
 obtain ⟨k,hk,e⟩:=Option.map_eq_some_iff.mp h
 exact ⟨k,hk,e.symm⟩
theorem YE {ns:List Nat} {i k:Nat} (h:ns[i]? = some k):ns.drop i = k :: ns.drop (i + 1):=by
 obtain ⟨hlt,e⟩:=List.getElem?_eq_some_iff.mp h
 rw [List.drop_eq_getElem_cons hlt,e]
theorem y8.grow {K:FG7} {H H':Hp} {x:V} {ns:List Nat} {m:List Addr} (h:y8 K H x ns) (g:Grow m H H'):y8 K H' x ns:=by
 obtain ⟨r,e,s⟩:=h
 exact ⟨r,e,g.sqT s⟩
theorem jq {K:FG7} {m:List Addr} {H:Hp}:∀ {xs:List V} {ns:List Nat},Ods K m H xs (ns.map fun k:Nat=>PyData.int (k:Int)) -> xs = zH ns
 | _,[],.nil=>rfl
 | _,k :: ns,.cons (.int _) t=>by rw [jq t]; rfl
theorem VY {K:FG7} {m:List Addr} {H:Hp} {x:V} {d:PyData} {ns:List Nat} (e:d = .tuple (ns.map fun k:Nat=>PyData.int (k:Int))) (h:Od K m H x d):y8 K H x ns:=by
 subst e
 obtain ⟨r,xs,rfl,hs,os⟩:=h.inv_tup
 exact ⟨r,rfl,by rw [← jq os]; exact hs⟩
section
variable {K:FG7} {a:Addr} {xs:List V} {k:Nat} {te:TE} {Q:VK} {σ:L2.St} {H:Hp}
theorem yj (Pv:Nat -> List V -> Hp -> Prop) (h0:Pv 0 [] H) (hl:∀ i ys H',Pv i ys H' -> SqT K H' a xs)
  (hs:∀ i x ys H',xs[i]? = some x -> Pv i ys H' -> te (σ.set k (some x)) H' fun y H5=>ys.length < sizeLine /\ Pv (i + 1) (ys ++ [y]) H5)
  (hd:∀ ys H',Pv xs.length ys H' -> ∀ l,H' l = none -> Q (.ref l) (upd H' l (.lst ys))):wc (Itt K a) σ H (x9 k) rY te Q :=
 Zf (fun _=>true) Pv h0 hl (fun _ _ _ _ h=>h) (fun i x ys H' hx p _=>hs i x ys H' hx p) (fun _ _ _ _ _ _ z=>nomatch z) hd
end
theorem sZ (n:Nat):(List.replicate n true).all id = true:=by rw [List.all_eq_true]; intro x hx; rw [(List.mem_replicate.mp hx).2]; rfl
theorem lt72 {n:Nat} (h:n <= 5000):n < sizeLine:=Nat.lt_of_le_of_lt h (by decide)
theorem le72 {n:Nat} (h:n <= 5000):n <= sizeLine:=Nat.le_trans h (by decide)
theorem Grow.shrinkL {H H':Hp} {m:List Addr} (h:∀ a ∈ m,H a = none) (g:Grow m H H'):Grow [] H H' :=
 ⟨fun b o _ q=>g.keep b o (fun z=>by rw [h b z] at q; cases q) q,g.tup,g.frz⟩
theorem Wv {b:Int} {cs:List Call72} {c:Call72}:uo b (cs ++ [c]) = uo b cs + (if c.box = b then 1 else 0):=by
 unfold uo
 rw [List.countP_append,List.countP_cons,List.countP_nil]
 by_cases h:c.box = b
 ·rw [if_pos h,decide_eq_true h]; rfl
 ·rw [if_neg h,decide_eq_false h]; rfl
def Th (H:Hp) (zs:List V) (nss:List (List Nat)):Prop:=AllR (fun z ns=>∃ a,z = .ref a /\ H a = some (.lst (zH ns))) zs nss
structure Bx72 (H:Hp) (as:List Addr) (nss:List (List Nat)):Prop where
 len:nss.length = as.length
 at_:∀ (j:Nat) (a:Addr),as[j]? = some a -> H a = some (.lst (zH (nss.getD j [])))
theorem Bx72.ls {H:Hp} {as:List Addr} {nss:List (List Nat)} (h:Bx72 H as nss):Th H (as.map V.ref) nss:=by
 refine AllR.of_get (by rw [List.length_map,h.len]) fun i x hx=>?_
 rw [List.getElem?_map] at hx
 obtain ⟨a,ha,rfl⟩:=Option.map_eq_some_iff.mp hx
 have hi:i < nss.length:=by rw [h.len]; exact (List.getElem?_eq_some_iff.mp ha).1
 refine ⟨nss[i],List.getElem?_eq_getElem hi,a,rfl,?_⟩
 rw [h.at_ i a ha,List.getD_eq_getElem?_getD,List.getElem?_eq_getElem hi]; rfl
def Ww:PyData -> Bool
 | .tuple _=>true
 | _=>false
theorem YF {K:FG7} (d:PyData):PySem.W.kitOne K (.type (tyD d)) (.type "tuple") = some (Ww d):=by cases d <;> rfl
def tO:PyData -> Bool
 | .int _=>true
 | _=>false
def Ti:PyData -> Bool
 | .bool _=>true
 | _=>false
theorem YG {d:PyData} (h:Ww d = false) (n:Nat):¬ ∃ ns,y0 n d ns:=by
 rintro ⟨ns,e,_⟩
 rw [e] at h; cases h
theorem Wx {K:FG7} {m:List Addr} {H:Hp} {x:V} {d:PyData} (h:Od K m H x d) (ht:Ww d = true):∃ r xs ds,x = .ref r /\ d = .tuple ds /\ SqT K H r xs /\ Ods K m H xs ds:=by
 cases h <;> first | exact ⟨_,_,_,rfl,rfl,by assumption,by assumption⟩ | cases ht
theorem VZ {K:FG7} {m:List Addr} {H:Hp} {x:V} {d:PyData} (h:Od K m H x d) (hd:∀ kvs,d ≠ .dict kvs):∃ t,TyV K H x t /\ PySem.W.kitOne K (.type t) (.type "int") = some (tO d || Ti d) /\ PySem.W.kitOne K (.type t) (.type "bool") = some (Ti d) /\ uz x = tO d:=by
 cases h with
 | non=>exact ⟨"NoneType",rfl,rfl,rfl,rfl⟩
 | bl b=>exact ⟨"bool",rfl,rfl,rfl,rfl⟩
 | int i=>exact ⟨"int",rfl,rfl,rfl,rfl⟩
 | str y=>exact ⟨"str",rfl,rfl,rfl,rfl⟩
 | tup hs _=>exact ⟨"tuple",.inl ⟨rfl,_,hs⟩,rfl,rfl,rfl⟩
 | lst hs _ _ _=>exact ⟨"list",.inr (.inl ⟨rfl,_,SqL.of hs⟩),rfl,rfl,rfl⟩
 | dct=>exact absurd rfl (hd _)
theorem Vu:∀ {ds:List PyData},ds.all tO = true -> ∃ zs:List Int,ds = zs.map PyData.int
 | [],_=>⟨[],rfl⟩
 | d :: ds,h=>by
  rw [List.all_cons,Bool.and_eq_true] at h
  obtain ⟨zs,e⟩:=Vu h.2
  cases d with
  | int i=>exact ⟨i :: zs,by rw [e]; rfl⟩
  | _=>cases h.1
theorem uG {K:FG7} {m:List Addr} {H:Hp}:∀ {xs:List V} {zs:List Int},Ods K m H xs (zs.map PyData.int) -> xs = zs.map V.int
 | _,[],.nil=>rfl
 | _,k :: ns,.cons (.int _) t=>by rw [uG t]; rfl
theorem YH {n:Nat} {ds:List PyData} (h:∃ ns,y0 n (.tuple ds) ns):ds.all tO = true:=by
 obtain ⟨ns,e,_⟩:=h
 injection e with e
 rw [e,List.all_map,List.all_eq_true]
 intro k _; rfl
theorem Zo (n:Nat):((List.range n).map fun k:Nat=>(k:Int)).Pairwise (· <= ·):=by
 rw [List.pairwise_map]
 exact (List.pairwise_lt_range (n:=n)).imp fun h=>by omega
theorem s8 {n:Nat} {zs ms:List Int} (hp:ms.Perm zs) (hs:ms.Pairwise (· <= ·)):ms = ((List.range n).map fun k:Nat=>(k:Int)) ↔ ∃ ns,y0 n (.tuple (zs.map PyData.int)) ns:=by
 constructor
 ·intro e
  have hz:zs.Perm ((List.range n).map fun k:Nat=>(k:Int)):=by rw [← e]; exact hp.symm
  have h0:∀ z ∈ zs,0 <= z:=fun z hz'=>by
   obtain ⟨k,_,rfl⟩:=List.mem_map.mp (hz.mem_iff.mp hz')
   exact Int.natCast_nonneg k
  have ez:(zs.map Int.toNat).map (fun k:Nat=>(k:Int)) = zs:=by
   rw [List.map_map]
   conv=>rhs; rw [← List.map_id zs]
   exact List.map_congr_left fun z hz'=>Int.toNat_of_nonneg (h0 z hz')
  refine ⟨zs.map Int.toNat,?_,?_⟩
  ·rw [show (zs.map PyData.int) = ((zs.map Int.toNat).map (fun k:Nat=>(k:Int))).map PyData.int by rw [ez],List.map_map]; rfl
  ·have:=hz.map Int.toNat
   rw [List.map_map,show (Int.toNat ∘ fun k:Nat=>(k:Int)) = id from funext fun k=>Int.toNat_natCast k,List.map_id] at this
   exact this
 ·rintro ⟨ns,e,hn⟩
  injection e with e
  have ez:zs = ns.map fun k:Nat=>(k:Int):=by
   have:zs.map PyData.int = (ns.map fun k:Nat=>(k:Int)).map PyData.int:=by rw [e,List.map_map]; rfl
   exact List.map_inj_right (fun _ _ h=>by injection h) |>.mp this
  refine YB (hp.trans ?_) hs (Zo n)
  rw [ez]
  exact hn.map _
theorem vq:∀ ms:List Int,(ms.map V.int).all vD = true
 | []=>rfl
 | _ :: ms=>by rw [List.map_cons,List.all_cons,vq ms]; rfl
theorem zY (ns:List Nat):zH ns = (ns.map fun k:Nat=>(k:Int)).map V.int:=by unfold zH; rw [List.map_map]; rfl
theorem jr (ns:List Nat):(zH ns).all vD = true:=by rw [zY]; exact vq _
def wV (K:FG7):Sp:=sp2 fun x y H Q=>∃ b c,zr K H x b /\ yz K H y c /\ CallOk72 b.length c /\ ∀ H',Grow [] H H' -> Q (.bl true) H'
def tP (K:FG7):Sp:=sp2 fun x y H Q=>∃ b cs,zr K H x b /\ 1 <= b.length /\ b.length <= 16 /\ zw K H y cs /\ Calls72 b.length cs /\ ∀ H',Grow [] H H' -> Q (.bl true) H'
def s9 (K:FG7):Sp:=sp2 fun x y H Q=>∃ b cs,zr K H x b /\ 1 <= b.length /\ b.length <= 16 /\ zw K H y cs /\ Calls72 b.length cs /\ ∀ H',Grow [] H H' -> Q .non H'
def uH (K:FG7):Sp:=sp2 fun x y H Q=>∃ (d:PyData) (m:List Addr) (n:Nat),Od K m H x d /\ Fl72 d /\ Tg K H y (List.range n) /\ ∀ b H',Grow [] H H' -> (b = true ↔ ∃ ns,y0 n d ns) -> Q (.bl b) H'
def ju (K:FG7):Sp:=sp3 fun x y z H Q=>∃ b cs ns,zr K H x b /\ zw K H y cs /\ y8 K H z ns /\ (∀ c ∈ cs,CallOk72 b.length c) /\ (∀ k ∈ ns,k < cs.length) /\ ∀ H',Grow [] H H' -> Q (.bl (an72 cs b ns)) H'
theorem wo {H:Hp} {p r:Addr} (pp:Pot H p) (h:H r = none):r ∉ [p]:=fun z=>by
 rw [List.mem_singleton.mp z] at h
 obtain ⟨_,_,e,_⟩:=pp
 rw [e] at h; cases h
def YI (K:FG7):Sp:=sp2 fun x y H Q=>∃ a ns k,x = .ref a /\ y = .int k /\ Scr K H a ns /\ 0 <= k /\ ∀ n:Int,(n = 0 \/ n ∈ ns) -> Q (.int n) H
def N27 (n:Int):Prop:=-(10 ^ 27) <= n /\ n <= 10 ^ 27
def kc72:List Call72 -> Bool
 | []=>true
 | c :: r=>!(r.any fun e=>decide (e.ended < c.begun)) && kc72 r
def pl72:List Int -> List Call72 -> Option (List Int)
 | vs,[]=>some vs
 | vs,c :: r=>if vs.getD c.box.toNat 0 = c.answer then pl72 (vs.set c.box.toNat (c.deed.mk' c.answer)) r else none
theorem Tj {cs:List Call72}:∀ {ns:List Nat} {vs:List Int},an72 cs vs ns = (pl72 vs (ns.map (cg cs))).isSome
 | [],_=>rfl
 | k :: r,vs=>by
  rw [yi]
  show _ = (if vs.getD (cg cs k).box.toNat 0 = (cg cs k).answer then pl72 (vs.set (cg cs k).box.toNat ((cg cs k).deed.mk' (cg cs k).answer)) (r.map (cg cs)) else none).isSome
  split
  ·exact Tj
  ·rfl
theorem YJ {c:Call72}:∀ {cs:List Call72},kc72 cs = true -> (∀ e ∈ cs,e.begun <= c.ended) -> kc72 (cs ++ [c]) = true
 | [],_,_=>rfl
 | e :: r,h,hb=>by
  have h':(!(r.any fun x=>decide (x.ended < e.begun)) && kc72 r) = true:=h
  rw [Bool.and_eq_true,Bool.not_eq_true'] at h'
  show (!((r ++ [c]).any fun x=>decide (x.ended < e.begun)) && kc72 (r ++ [c])) = true
  rw [List.any_append,h'.1,YJ h'.2 fun x hx=>hb x (List.mem_cons_of_mem _ hx)]
  have:=hb e (List.mem_cons_self ..)
  rw [List.any_cons,decide_eq_false (by omega)]; rfl
theorem qk {c:Call72}:∀ {cs:List Call72} {vs ws:List Int},pl72 vs cs = some ws -> ws.getD c.box.toNat 0 = c.answer -> pl72 vs (cs ++ [c]) = some (ws.set c.box.toNat (c.deed.mk' c.answer))
 | [],vs,ws,h,ha=>by
  cases h
  show (if vs.getD c.box.toNat 0 = c.answer then _ else none) = _
  rw [if_pos ha]; rfl
 | e :: r,vs,ws,h,ha=>by
  have h':(if vs.getD e.box.toNat 0 = e.answer then pl72 (vs.set e.box.toNat (e.deed.mk' e.answer)) r else none) = some ws:=h
  show (if vs.getD e.box.toNat 0 = e.answer then pl72 (vs.set e.box.toNat (e.deed.mk' e.answer)) (r ++ [c]) else none) = _
  by_cases hv:vs.getD e.box.toNat 0 = e.answer
  ·rw [if_pos hv] at h' ⊢
   exact qk h' ha
  ·rw [if_neg hv] at h'; cases h'
structure Cb72 (B:Int) (c:Call72):Prop where
 hand:-B <= c.hand /\ c.hand <= B
 box:-B <= c.box /\ c.box <= B
 deed:c.deed.Bd B
 begun:-B <= c.begun /\ c.begun <= B
 ended:-B <= c.ended /\ c.ended <= B
 answer:-B <= c.answer /\ c.answer <= B
structure Hist72 (n:Nat) (b:List Int) (cs:List Call72):Prop where
 bl:b.length = n
 bb:∀ v ∈ b,N27 v
 ok:Calls72 n cs
 bd:∀ c ∈ cs,Cb72 (10 ^ 29) c
 kc:kc72 cs = true
 pl:(pl72 b cs).isSome = true
theorem Wy {b:Int} {cs ds:List Call72} (h:cs.Perm ds):uo b cs = uo b ds:=h.countP_eq _
theorem Calls72.perm {m:Nat} {cs ds:List Call72} (h:Calls72 m cs) (p:ds.Perm cs):Calls72 m ds:=⟨by rw [p.length_eq]; exact h.len,fun c hc=>h.ok c (p.mem_iff.mp hc),fun b=>by rw [Wy p]; exact h.few b⟩
theorem Tk {cs:List Call72}:(List.range cs.length).map (cg cs) = cs:=by
 refine List.ext_getElem (by rw [List.length_map,List.length_range]) fun i h1 h2=>?_
 rw [List.getElem_map,List.getElem_range]
 exact yw (List.getElem?_eq_getElem h2)
theorem Grow.shrinkTo {H H':Hp} {m m':List Addr} (h:∀ a ∈ m,a ∈ m' \/ H a = none) (g:Grow m H H'):Grow m' H H' :=
 ⟨fun b o hb q=>g.keep b o (fun z=>by rcases h b z with h | h; exact hb h; rw [h] at q; cases q) q,g.tup,g.frz⟩
theorem V0 (n:Nat):(List.replicate n 8).sum = 8 * n:=by
 induction n with
 | zero=>rfl
 | succ n ih=>rw [List.replicate_succ,List.sum_cons,ih]; omega
theorem YK:∀ {l:List Nat} {j x:Nat},l[j]? = some x -> 0 < x -> (l.set j (x - 1)).sum + 1 = l.sum
 | [],_,_,h,_=>by cases h
 | a :: l,0,x,h,h0=>by
  have e:a = x:=Option.some.inj h
  subst e
  show a - 1 + l.sum + 1 = a + l.sum
  omega
 | a :: l,j + 1,x,h,h0=>by
  have:=YK (l:=l) (j:=j) h h0
  show a + (l.set j (x - 1)).sum + 1 = a + l.sum
  omega
structure HI72 (n i:Nat) (b vs:List Int) (rs:List Nat) (cs:List Call72) (mo sc:Int):Prop where
 vl:vs.length = n
 rl:rs.length = n
 cl:cs.length = i
 pl:pl72 b cs = some vs
 kc:kc72 cs = true
 ok:∀ c ∈ cs,CallOk72 n c
 rm:∀ j,j < n -> rs.getD j 0 + uo j cs = 8
 sm:rs.sum + i = 8 * n
 vb:∀ v ∈ vs,-(10 ^ 27 + i * (10 ^ 27 + 6)) <= v /\ v <= 10 ^ 27 + i * (10 ^ 27 + 6)
 bd:∀ c ∈ cs,Cb72 (10 ^ 29) c
 m0:0 <= mo
 m1:mo <= 2 * i
 bg:∀ c ∈ cs,c.begun <= mo * sc
theorem HI72.start {n:Nat} {b:List Int} {sc:Int} (bl:b.length = n) (bb:∀ v ∈ b,N27 v):HI72 n 0 b b (List.replicate n 8) [] 0 sc:=by
 refine ⟨bl,List.length_replicate,rfl,rfl,rfl,(fun _ h=>nomatch h),fun j hj=>?_,(by rw [V0]; rfl),fun v hv=>?_,(fun _ h=>nomatch h),(by decide),(by decide),(fun _ h=>nomatch h)⟩
 ·rw [List.getD_eq_getElem?_getD,List.getElem?_replicate,if_pos hj]; rfl
 ·have:=bb v hv
  unfold N27 at this
  omega
theorem HI72.next {n i:Nat} {b vs:List Int} {rs:List Nat} {cs:List Call72} {mo sc:Int} (h:HI72 n i b vs rs cs mo sc) {bx x:Nat} {t ha be en:Int} {d:Deed} (i40:i < 40) (n6:n <= 6)
  (hx:rs[bx]? = some x) (x0:0 < x) (t0:0 <= t) (t1:t <= 2) (s0:1 <= sc) (s1:sc <= 10 ^ 24 + 7) (h0:0 <= ha) (h1:ha <= 15) (od:d.Ok) (bd:d.Bd (10 ^ 27 + 6)) (e0:0 <= be) (e1:be <= (mo + t) * sc) (e2:(mo + t) * sc <= en) (e3:en <= (mo + t + 3) * sc) :
  HI72 n (i + 1) b (vs.set bx (d.mk' (vs.getD bx 0))) (rs.set bx (x - 1)) (cs ++ [⟨ha,bx,d,be,en,vs.getD bx 0⟩]) (mo + t) sc:=by
 have hbx:bx < n:=by rw [← h.rl]; exact (List.getElem?_eq_some_iff.mp hx).1
 have hv:vs.getD bx 0 ∈ vs:=by
  have hb:bx < vs.length:=by rw [h.vl]; exact hbx
  rw [List.getD_eq_getElem?_getD,List.getElem?_eq_getElem hb]; exact List.getElem_mem hb
 have vb:=h.vb _ hv
 have mm:mo * sc <= (mo + t) * sc:=Int.mul_le_mul_of_nonneg_right (by omega) (by omega)
 have m1:=h.m1
 have m0:=h.m0
 have big:(mo + t + 3) * sc <= 10 ^ 27:=by
  have:(mo + t + 3) * sc <= 90 * (10 ^ 24 + 7):=Int.mul_le_mul (by omega) s1 (by omega) (by decide)
  exact Int.le_trans this (by decide)
 have C0:(0:Int) <= 10 ^ 27 + i * (10 ^ 27 + 6):=by omega
 have mk:=SA bd (by decide) vb.1 vb.2 C0
 have nb:(⟨ha,bx,d,be,en,vs.getD bx 0⟩:Call72).box.toNat = bx:=Int.toNat_natCast bx
 refine ⟨by rw [List.length_set,h.vl],by rw [List.length_set,h.rl],by rw [List.length_append,List.length_singleton,h.cl],?_,?_,?_,?_,?_,?_,?_,by omega,by omega,?_⟩
 ·have:=qk (c:=⟨ha,bx,d,be,en,vs.getD bx 0⟩) h.pl (by rw [nb])
  rw [this,nb]
 ·exact YJ h.kc fun e he=>by have:=h.bg e he; show e.begun <= en; omega
 ·intro c hc
  rcases List.mem_append.mp hc with hc | hc
  ·exact h.ok c hc
  ·rw [List.mem_singleton.mp hc]
   exact ⟨h0,h1,Int.natCast_nonneg bx,by show (bx:Int) < n; omega,od,e0,by show be <= en; omega⟩
 ·intro j hj
  rw [Wv]
  have r:=h.rm j hj
  by_cases e:j = bx
  ·subst e
   rw [yx (by rw [h.rl]; exact hj),if_pos rfl]
   rw [List.getD_eq_getElem?_getD,hx] at r
   have:x + uo j cs = 8:=r
   omega
  ·rw [yW (fun z=>e z.symm),if_neg (by show ¬ (bx:Int) = j; omega)]
   exact r
 ·have:=YK hx x0
  have:=h.sm
  omega
 ·intro v hv'
  rcases List.mem_or_eq_of_mem_set hv' with hv' | rfl
  ·have:=h.vb v hv'
   push_cast at this ⊢
   omega
  ·push_cast
   omega
 ·intro c hc
  rcases List.mem_append.mp hc with hc | hc
  ·exact h.bd c hc
  ·rw [List.mem_singleton.mp hc]
   refine ⟨?_,?_,?_,?_,?_,?_⟩
   ·show -(10 ^ 29) <= ha /\ ha <= 10 ^ 29; omega
   ·show -(10 ^ 29) <= (bx:Int) /\ (bx:Int) <= 10 ^ 29; omega
   ·exact bd.mono (by decide)
   ·show -(10 ^ 29) <= be /\ be <= 10 ^ 29; omega
   ·show -(10 ^ 29) <= en /\ en <= 10 ^ 29; omega
   ·show -(10 ^ 29) <= vs.getD bx 0 /\ vs.getD bx 0 <= 10 ^ 29; omega
 ·intro c hc
  rcases List.mem_append.mp hc with hc | hc
  ·have:=h.bg c hc; omega
  ·rw [List.mem_singleton.mp hc]; exact e1
theorem Cb72.mono {B C:Int} {c:Call72} (h:Cb72 B c) (hB:B <= C):Cb72 C c:=⟨by have:=h.hand; omega,by have:=h.box; omega,h.deed.mono hB,by have:=h.begun; omega,by have:=h.ended; omega,by have:=h.answer; omega⟩
theorem ql {X:Cx} {K:FG7} {k:Nat} (hK:X.K = K) (hr:Room k X.A):OpR X (compareOp .Eq) (fun x y H Q=>∃ a b xs,x = .ref a /\ y = .ref b /\ SqT K H a xs /\ SqT K H b [] /\ Q (.bl xs.isEmpty) H):=by
 subst hK
 intro pins s σ H x y v u Q I rx ry h
 obtain ⟨a,b,xs,rfl,rfl,ha,hb,q⟩:=h
 cases rx; cases ry
 obtain ⟨us,r1,t1,_⟩:=I.tuple ha
 obtain ⟨ws,r2,t2,_⟩:=I.tuple hb
 have hw:ws.length = 0:=r2.length.symm
 refine SeqAt.eq_tupleAt (e:=fun _=>true) (ym t1) (ym t2) hr.units0 (fun j h1 h2=>absurd h2 (by simp; omega)) ?_
 have e:((List.range (min us.toArray.size ws.toArray.size)).all (fun _=>true) && us.toArray.size == ws.toArray.size) = xs.isEmpty:=by
  rw [List.size_toArray,List.size_toArray,hw,← r1.length]
  cases xs with
  | nil=>rfl
  | cons a r=>simp
 rw [e]
 exact ⟨.bl _,H,I,rfl,q⟩
def V1 (c:Call72):PyData:=.tuple [.int c.hand,.int c.box,qb c.deed,.int c.begun,.int c.ended,.int c.answer]
theorem YL {w:Nat}:∀ {ds:List PyData},(∀ d ∈ ds,wtO d <= w) -> wtOs ds <= ds.length * (w + 2)
 | [],_=>by simp [wtOs]
 | d :: ds,h=>by
  have h1:=h d (List.mem_cons_self ..)
  have h2:=YL (ds:=ds) fun e he=>h e (List.mem_cons_of_mem _ he)
  show wtO d + 2 + wtOs ds <= (ds.length + 1) * (w + 2)
  rw [Nat.succ_mul]; omega
theorem Wz {B:Int} {i:Int} (h:-B <= i /\ i <= B):leD B (.int i) = true:=by
 show (decide (-B <= i) && decide (i <= B)) = true
 rw [decide_eq_true h.1,decide_eq_true h.2]; rfl
def E72 (K:FG7) (p:Addr) (H:Hp) (v:V):Prop:=∃ d,Od K [p] H v d /\ (∀ kvs,d ≠ .dict kvs) /\ GdD 10 2 1935 d
def G72 (K:FG7) (p:Addr) (H:Hp) (v:V):Prop:=∃ d,Od K [p] H v d /\ Fl72 d /\ GdD 10 5 130000 d
section
variable {K:FG7} {p:Addr} {H H':Hp} {v:V}
theorem E72.grow (h:E72 K p H v) (g:Grow [p] H H'):E72 K p H' v:=by
 obtain ⟨d,a,b,c⟩:=h
 exact ⟨d,a.grow g,b,c⟩
theorem G72.grow (h:G72 K p H v) (g:Grow [p] H H'):G72 K p H' v:=by
 obtain ⟨d,a,b,c⟩:=h
 exact ⟨d,a.grow g,b,c⟩
theorem Tl {i:Int} (h:-(10 ^ 20) <= i /\ i <= 10 ^ 20):GdD 10 0 1921 (.int i):=⟨Wz ⟨by omega,by omega⟩,Nat.le_refl _,Nat.le_refl _⟩
theorem E72.int {i:Int} (h:-(10 ^ 20) <= i /\ i <= 10 ^ 20):E72 K p H (.int i):=⟨_,.int i,(fun _ z=>nomatch z),(Tl h).mono (by decide) (by decide) (by decide)⟩
theorem E72.non:E72 K p H .non:=⟨_,.non,(fun _ z=>nomatch z),⟨rfl,Nat.zero_le _,by decide⟩⟩
theorem E72.bl (b:Bool):E72 K p H (.bl b):=⟨_,.bl b,(fun _ z=>nomatch z),⟨rfl,Nat.zero_le _,by cases b <;> decide⟩⟩
theorem YM:∀ k,k < 41 -> (reprText (Str.ofString (toString ((k:Nat):Int)))).length <= 10:=by decide +kernel
theorem E72.num {k:Nat} (h:k < 41):E72 K p H (.str (Str.ofString (toString (k:Int)))):=⟨_,.str _,(fun _ z=>nomatch z),⟨rfl,Nat.zero_le _,Nat.le_trans (YM k h) (by decide)⟩⟩
theorem WA:∀ {vs:List V},(∀ v ∈ vs,E72 K p H v) -> ∃ ds,Ods K [p] H vs ds /\ (∀ d ∈ ds,∀ kvs,d ≠ .dict kvs) /\ ∀ d ∈ ds,GdD 10 2 1935 d
 | [],_=>⟨[],.nil,(fun _ h=>nomatch h),fun _ h=>nomatch h⟩
 | v :: vs,h=>by
  obtain ⟨d,a,b,c⟩:=h v (List.mem_cons_self ..)
  obtain ⟨ds,o,nd,gd⟩:=WA fun w hw=>h w (List.mem_cons_of_mem _ hw)
  refine ⟨d :: ds,.cons a o,fun e he=>?_,fun e he=>?_⟩
  ·rcases List.mem_cons.mp he with rfl | he
   ·exact b
   ·exact nd e he
  ·rcases List.mem_cons.mp he with rfl | he
   ·exact c
   ·exact gd e he
theorem V2 {ds:List PyData} (hl:ds.length < 64) (gd:∀ d ∈ ds,GdD 10 2 1935 d):GdS 10 2 122100 ds:=by
 refine ⟨xc.mpr fun d h=>(gd d h).le,yh.mpr fun d h=>(gd d h).dp,?_⟩
 have:=YL (w:=1935) fun d h=>(gd d h).wt
 have:ds.length * (1935 + 2) <= 63 * (1935 + 2):=Nat.mul_le_mul_right _ (by omega)
 omega
theorem G72.tup {r:Addr} {vs:List V} (h:SqT K H r vs) (hl:vs.length < 64) (he:∀ v ∈ vs,E72 K p H v):G72 K p H (.ref r):=by
 obtain ⟨ds,o,nd,gd⟩:=WA he
 have dl:ds.length < 64:=by rw [← o.length]; exact hl
 refine ⟨.tuple ds,.tup h o,fun es e=>?_,((V2 dl gd).tup).mono (by decide) (by decide) (by decide)⟩
 injection e with e
 rw [← e]
 exact ⟨dl,nd⟩
theorem G72.lst {l:Addr} {vs:List V} (h:H l = some (.lst vs)) (n1:l ∉ [p]) (n2:l ≠ sysModules) (hl:vs.length < 64) (he:∀ v ∈ vs,E72 K p H v):G72 K p H (.ref l):=by
 obtain ⟨ds,o,nd,gd⟩:=WA he
 have dl:ds.length < 64:=by rw [← o.length]; exact hl
 exact ⟨.list ds,.lst h n1 n2 o,(fun _ e=>nomatch e),((V2 dl gd).lst).mono (by decide) (by decide) (by decide)⟩
theorem G72.one {r ro:Addr} {vs:List V} (h:SqT K H r [.ref ro]) (ho:SqT K H ro vs) (hl:vs.length < 64) (he:∀ v ∈ vs,E72 K p H v):G72 K p H (.ref r):=by
 obtain ⟨ds,o,nd,gd⟩:=WA he
 have dl:ds.length < 64:=by rw [← o.length]; exact hl
 refine ⟨.tuple [.tuple ds],.tup h (.cons (.tup ho o) .nil),fun es e=>?_,(((V2 dl gd).tup.one).tup).mono (by decide) (by decide) (by decide)⟩
 injection e with e
 rw [← e]
 exact ⟨(show (1:Nat) < 64 by decide),fun e he kvs z=>by rw [List.mem_singleton.mp he] at z; cases z⟩
end
def I72 (v:V):Prop:=∃ k:Nat,k < 41 /\ v = .int k
theorem I72.e {K:FG7} {p:Addr} {H:Hp} {v:V} (h:I72 v):E72 K p H v:=by
 obtain ⟨k,hk,rfl⟩:=h
 exact E72.int ⟨by omega,by omega⟩
theorem Tm {K:FG7} {p:Addr} {H H':Hp} {xs:List V} (h:∀ v ∈ xs,G72 K p H v) (g:Grow [p] H H'):∀ v ∈ xs,G72 K p H' v:=fun v hv=>(h v hv).grow g
structure S72 (K:FG7) (p:Addr) (H:Hp) (l:Addr) (xs:List V) (n:Nat):Prop where
 at_:H l = some (.lst xs)
 gd:∀ v ∈ xs,G72 K p H v
 ne:l ∉ [p]
 len:xs.length <= n
theorem S72.grow {K:FG7} {p:Addr} {H H':Hp} {l:Addr} {xs:List V} {n:Nat} (h:S72 K p H l xs n) (g:Grow [p] H H'):S72 K p H' l xs n:=⟨g.keep _ _ h.ne h.at_,Tm h.gd g,h.ne,h.len⟩
theorem YN {K:FG7} {m:List Addr} {H:Hp} {r:Addr} {ns:List Nat} (h:SqT K H r (zH ns)):Od K m H (.ref r) (.tuple (ns.map fun k:Nat=>PyData.int (k:Int))):=by
 refine .tup h ?_
 clear h
 induction ns with
 | nil=>exact .nil
 | cons a b ih=>exact .cons (.int _) ih
theorem YO {ns:List Nat} (h:ns.length < 64):Fl72 (.tuple (ns.map fun k:Nat=>PyData.int (k:Int))):=fun ds e=>by
 injection e with e
 rw [← e]
 refine ⟨by rw [List.length_map]; exact h,fun d hd kvs z=>?_⟩
 obtain ⟨k,_,rfl⟩:=List.mem_map.mp hd
 cases z
def xA (t:Nat) (o:List Nat):Prop:=∀ j,t.testBit j = true ↔ j ∈ o
theorem xA.uniq {t u:Nat} {o:List Nat} (h:xA t o) (h':xA u o):t = u :=
 Nat.eq_of_testBit_eq fun j=>by rw [Bool.eq_iff_iff,h j,h' j]
theorem xA.nil:xA 0 []:=fun j=>by simp
theorem xA.or {t n:Nat} {o:List Nat} (h:xA t o):xA (t ||| 2 ^ n) (o ++ [n]):=fun j=>by
 rw [Nat.testBit_or,Bool.or_eq_true,h j,Nat.testBit_two_pow,decide_eq_true_eq,List.mem_append,List.mem_singleton]
 exact or_congr Iff.rfl ⟨fun e=>e.symm,fun e=>e.symm⟩
def mk73 (l:List Nat):Nat:=l.foldl (fun m i=>m ||| 2 ^ i) 0
theorem jv:∀ {l o:List Nat} {t:Nat},xA t o -> xA (l.foldl (fun m i=>m ||| 2 ^ i) t) (o ++ l)
 | [],o,t,h=>by rw [List.append_nil]; exact h
 | i :: l,o,t,h=>by
  have:=jv (l:=l) (h.or (n:=i))
  rw [List.append_assoc] at this; exact this
theorem YQ (l:List Nat):xA (mk73 l) l:=by
 have:=jv (l:=l) xA.nil
 rwa [List.nil_append] at this
theorem YR {l:List Nat} {i:Nat}:mk73 (l ++ [i]) = mk73 l ||| 2 ^ i:=by unfold mk73; rw [List.foldl_append]; rfl
theorem YS:∀ {l:List Nat} {n t:Nat},t < 2 ^ n -> (∀ i ∈ l,i < n) -> l.foldl (fun m i=>m ||| 2 ^ i) t < 2 ^ n
 | [],_,_,h,_=>h
 | i :: l,n,t,h,hl=>YS (l:=l) (Nat.or_lt_two_pow h (Nat.pow_lt_pow_right (by decide) (hl i (List.mem_cons_self ..)))) fun j hj=>hl j (List.mem_cons_of_mem _ hj)
theorem jw:∀ {n:Nat} {l:List Nat},l.length = n -> l.Pairwise (· < ·) -> (l.map fun i=>2 ^ i).sum = mk73 l
 | 0,l,h,_=>by rw [List.length_eq_zero_iff.mp h]; rfl
 | n + 1,l,h,pw=>by
  have hl:l ≠ []:=fun z=>by rw [z] at h; cases h
  have e:=(List.dropLast_concat_getLast hl).symm
  generalize l.dropLast = m at e
  generalize l.getLast hl = i at e
  subst e
  rw [List.length_append] at h
  have pm:=(List.pairwise_append.mp pw)
  rw [List.map_append,List.sum_append,jw (n:=n) (by simpa using h) pm.1,YR]
  have lt:mk73 m < 2 ^ i:=YS (Nat.two_pow_pos i) fun j hj=>pm.2.2 j hj i (by simp)
  show mk73 m + (2 ^ i + 0) = _
  have:=Nat.two_pow_add_eq_or_of_lt lt 1
  rw [Nat.mul_one] at this
  rw [Nat.add_zero,Nat.add_comm,this,Nat.or_comm]
theorem YT {t M:Nat}:M &&& t = M ↔ ∀ j,M.testBit j = true -> t.testBit j = true:=by
 constructor
 ·intro h j hj
  have:(M &&& t).testBit j = true:=by rw [h]; exact hj
  rw [Nat.testBit_and,Bool.and_eq_true] at this
  exact this.2
 ·intro h
  refine Nat.eq_of_testBit_eq fun j=>?_
  rw [Nat.testBit_and]
  cases c:M.testBit j with
  | false=>rfl
  | true=>rw [h j c]; rfl
abbrev En73:=(Nat × List Int) × List Nat
def xB (E:List En73) (k:Nat × List Int) (o:List Nat):List En73:=if (E.any fun e=>decide (e.1 = k)) = true then E.map (fun e=>if e.1 = k then (e.1,o) else e) else E ++ [(k,o)]
def wp (cs:List Call72) (e:En73) (n M:Nat):Bool:=(decide (e.1.1.testBit n = false) && decide (M &&& e.1.1 = M)) && decide (e.1.2.getD (cg cs n).box.toNat 0 = (cg cs n).answer)
def xC (cs:List Call72) (vs:List Int) (n:Nat):List Int:=vs.set (cg cs n).box.toNat ((cg cs n).deed.mk' (cg cs n).answer)
def z9 (cs:List Call72) (e:En73) (F:List En73) (p:Nat × Nat):List En73:=if wp cs e p.1 p.2 = true then xB F (e.1.1 ||| 2 ^ p.1,xC cs e.1.2 p.1) (e.2 ++ [p.1]) else F
def zS (cs:List Call72) (ms:List (Nat × Nat)) (F:List En73) (e:En73):List En73:=ms.foldl (z9 cs e) F
def jx (cs:List Call72) (ms:List (Nat × Nat)) (E:List En73):List En73:=E.foldl (zS cs ms) []
def xL (cs:List Call72) (ms:List (Nat × Nat)) (b:List Int):Nat -> List En73
 | 0=>[((0,b),[])]
 | r + 1=>jx cs ms (xL cs ms b r)
def ra (cs:List Call72) (ms:List (Nat × Nat)) (b:List Int):Option (List Nat):=(xL cs ms b ms.length).head?.map (·.2)
inductive Run73 (cs:List Call72) (ms:List (Nat × Nat)) (b:List Int):List Nat -> List Int -> Prop
 | nil:Run73 cs ms b [] b
 | snoc {o:List Nat} {vs:List Int} {n M:Nat}:Run73 cs ms b o vs -> (n,M) ∈ ms -> n ∉ o -> (∀ j,M.testBit j = true -> j ∈ o) -> vs.getD (cg cs n).box.toNat 0 = (cg cs n).answer -> Run73 cs ms b (o ++ [n]) (xC cs vs n)
section
variable {cs:List Call72} {ms:List (Nat × Nat)} {b:List Int}
theorem Run73.nodup {o:List Nat} {vs:List Int} (h:Run73 cs ms b o vs):o.Nodup:=by
 induction h with
 | nil=>exact List.nodup_nil
 | snoc h hm hn hj ha ih =>
  rw [List.nodup_append]
  exact ⟨ih,by simp,fun x hx y hy z=>hn (by rw [List.mem_singleton] at hy; rw [← hy,← z]; exact hx)⟩
theorem Run73.mem {o:List Nat} {vs:List Int} (h:Run73 cs ms b o vs):∀ n ∈ o,n ∈ ms.map (·.1):=by
 induction h with
 | nil=>exact nofun
 | snoc h hm hn hj ha ih =>
  intro x hx
  rcases List.mem_append.mp hx with z | z
  ·exact ih x z
  ·rw [List.mem_singleton.mp z]; exact List.mem_map.mpr ⟨_,hm,rfl⟩
def qm (cs:List Call72) (ms:List (Nat × Nat)) (b:List Int) (r:Nat) (E:List En73):Prop:=∀ e ∈ E,e.2.length = r /\ xA e.1.1 e.2 /\ Run73 cs ms b e.2 e.1.2
theorem YU {E:List En73} {k:Nat × List Int} {o:List Nat} {e:En73} (h:e ∈ xB E k o):e ∈ E \/ e = (k,o):=by
 unfold xB at h
 split at h
 ·obtain ⟨x,hx,rfl⟩:=List.mem_map.mp h
  by_cases c:x.1 = k
  ·rw [if_pos c,c]; exact .inr rfl
  ·rw [if_neg c]; exact .inl hx
 ·rcases List.mem_append.mp h with z | z
  ·exact .inl z
  ·exact .inr (List.mem_singleton.mp z)
theorem YV {E:List En73} {k k':Nat × List Int} {o:List Nat} (h:k' ∈ E.map (·.1)):k' ∈ (xB E k o).map (·.1):=by
 unfold xB
 split
 ·obtain ⟨x,hx,rfl⟩:=List.mem_map.mp h
  refine List.mem_map.mpr ⟨_,List.mem_map.mpr ⟨x,hx,rfl⟩,?_⟩
  split <;> rfl
 ·rw [List.map_append]; exact List.mem_append_left _ h
theorem up {E:List En73} {k:Nat × List Int} {o:List Nat}:k ∈ (xB E k o).map (·.1):=by
 unfold xB
 split
 ·rename_i h
  obtain ⟨x,hx,hk⟩:=List.any_eq_true.mp h
  refine List.mem_map.mpr ⟨_,List.mem_map.mpr ⟨x,hx,rfl⟩,?_⟩
  rw [if_pos (of_decide_eq_true hk)]; exact of_decide_eq_true hk
 ·rw [List.map_append]; exact List.mem_append_right _ (by simp)
theorem YW {E:List En73} {k:Nat × List Int} {o:List Nat}:(xB E k o).length <= E.length + 1:=by
 unfold xB
 split
 ·rw [List.length_map]; omega
 ·rw [List.length_append]; simp
theorem Zp {e x:En73} {F:List En73} {p:Nat × Nat} (h:x ∈ z9 cs e F p):x ∈ F \/ (wp cs e p.1 p.2 = true /\ x = ((e.1.1 ||| 2 ^ p.1,xC cs e.1.2 p.1),e.2 ++ [p.1])):=by
 unfold z9 at h
 split at h
 ·rename_i c
  rcases YU h with z | z
  ·exact .inl z
  ·exact .inr ⟨c,z⟩
 ·exact .inl h
theorem Zq {e:En73} {F:List En73} {p:Nat × Nat} {k:Nat × List Int} (h:k ∈ F.map (·.1)):k ∈ (z9 cs e F p).map (·.1):=by
 unfold z9
 split
 ·exact YV h
 ·exact h
theorem Zr {e:En73} {F:List En73} {p:Nat × Nat}:(z9 cs e F p).length <= F.length + 1:=by
 unfold z9
 split
 ·exact YW
 ·omega
theorem uI {e x:En73}:∀ {ms:List (Nat × Nat)} {F:List En73},x ∈ zS cs ms F e -> x ∈ F \/ ∃ p ∈ ms,wp cs e p.1 p.2 = true /\ x = ((e.1.1 ||| 2 ^ p.1,xC cs e.1.2 p.1),e.2 ++ [p.1])
 | [],_,h=>.inl h
 | p :: ms,F,h=>by
  rcases uI (ms:=ms) (F:=z9 cs e F p) h with z | ⟨q,hq,z⟩
  ·rcases Zp z with z | z
   ·exact .inl z
   ·exact .inr ⟨p,List.mem_cons_self ..,z⟩
  ·exact .inr ⟨q,List.mem_cons_of_mem _ hq,z⟩
theorem wF {e:En73} {k:Nat × List Int}:∀ {ms:List (Nat × Nat)} {F:List En73},k ∈ F.map (·.1) -> k ∈ (zS cs ms F e).map (·.1)
 | [],_,h=>h
 | p :: ms,F,h=>wF (ms:=ms) (F:=z9 cs e F p) (Zq h)
theorem uJ {e:En73} {p:Nat × Nat} (hm:wp cs e p.1 p.2 = true):∀ {ms:List (Nat × Nat)} {F:List En73},p ∈ ms -> (e.1.1 ||| 2 ^ p.1,xC cs e.1.2 p.1) ∈ (zS cs ms F e).map (·.1)
 | q :: ms,F,h=>by
  show _ ∈ (zS cs ms (z9 cs e F q) e).map (·.1)
  rcases List.mem_cons.mp h with rfl | h
  ·refine wF ?_
   unfold z9
   rw [if_pos hm]
   exact up
  ·exact uJ hm h
theorem wG {e:En73}:∀ {ms:List (Nat × Nat)} {F:List En73},(zS cs ms F e).length <= F.length + ms.length
 | [],_=>Nat.le_refl _
 | p :: ms,F=>by
  have h1:=wG (e:=e) (ms:=ms) (F:=z9 cs e F p)
  have h2:=Zr (cs:=cs) (e:=e) (F:=F) (p:=p)
  show (zS cs ms (z9 cs e F p) e).length <= F.length + (ms.length + 1)
  omega
theorem uK {x:En73}:∀ {E F:List En73},x ∈ E.foldl (zS cs ms) F -> x ∈ F \/ ∃ e ∈ E,∃ p ∈ ms,wp cs e p.1 p.2 = true /\ x = ((e.1.1 ||| 2 ^ p.1,xC cs e.1.2 p.1),e.2 ++ [p.1])
 | [],_,h=>.inl h
 | e :: E,F,h=>by
  rcases uK (E:=E) (F:=zS cs ms F e) h with z | ⟨q,hq,z⟩
  ·rcases uI z with z | z
   ·exact .inl z
   ·exact .inr ⟨e,List.mem_cons_self ..,z⟩
  ·exact .inr ⟨q,List.mem_cons_of_mem _ hq,z⟩
theorem uL {k:Nat × List Int}:∀ {E F:List En73},k ∈ F.map (·.1) -> k ∈ (E.foldl (zS cs ms) F).map (·.1)
 | [],_,h=>h
 | e :: E,F,h=>uL (E:=E) (F:=zS cs ms F e) (wF h)
theorem uM {e:En73} {p:Nat × Nat} (hm:wp cs e p.1 p.2 = true) (hp:p ∈ ms):∀ {E F:List En73},e ∈ E -> (e.1.1 ||| 2 ^ p.1,xC cs e.1.2 p.1) ∈ (E.foldl (zS cs ms) F).map (·.1)
 | x :: E,F,h=>by
  show _ ∈ (E.foldl (zS cs ms) (zS cs ms F x)).map (·.1)
  rcases List.mem_cons.mp h with rfl | h
  ·exact uL (uJ hm hp)
  ·exact uM hm hp h
theorem wH:∀ {E F:List En73},(E.foldl (zS cs ms) F).length <= F.length + E.length * ms.length
 | [],F=>by simp
 | e :: E,F=>by
  have h1:=wH (E:=E) (F:=zS cs ms F e)
  have h2:=wG (cs:=cs) (e:=e) (ms:=ms) (F:=F)
  show (E.foldl (zS cs ms) (zS cs ms F e)).length <= F.length + (E.length + 1) * ms.length
  rw [Nat.add_mul]; omega
theorem re {e:En73} {n M:Nat} (hi:xA e.1.1 e.2):wp cs e n M = true ↔ n ∉ e.2 /\ (∀ j,M.testBit j = true -> j ∈ e.2) /\ e.1.2.getD (cg cs n).box.toNat 0 = (cg cs n).answer:=by
 unfold wp
 rw [Bool.and_eq_true,Bool.and_eq_true,decide_eq_true_eq,decide_eq_true_eq,decide_eq_true_eq,YT]
 have h1:e.1.1.testBit n = false ↔ n ∉ e.2:=by
  rw [← hi n,Bool.not_eq_true]
 have h2:(∀ j,M.testBit j = true -> e.1.1.testBit j = true) ↔ ∀ j,M.testBit j = true -> j ∈ e.2:=forall_congr' fun j=>imp_congr Iff.rfl (hi j)
 rw [h1,h2,and_assoc]
theorem rf {r:Nat} {E:List En73} (h:qm cs ms b r E):qm cs ms b (r + 1) (jx cs ms E):=by
 intro x hx
 rcases uK hx with z | ⟨e,he,p,hp,hm,rfl⟩
 ·cases z
 obtain ⟨h1,h2,h3⟩:=h e he
 obtain ⟨m1,m2,m3⟩:=(re h2).mp hm
 exact ⟨by rw [List.length_append,h1]; rfl,h2.or,.snoc h3 hp m1 m2 m3⟩
theorem xf:∀ r:Nat,qm cs ms b r (xL cs ms b r)
 | 0=>by
  intro e he
  rw [List.mem_singleton.mp he]
  exact ⟨rfl,xA.nil,.nil⟩
 | r + 1=>rf (xf r)
theorem vZ:∀ r:Nat,(xL cs ms b r).length <= ms.length ^ r
 | 0=>Nat.le_refl _
 | r + 1=>by
  have h1:=wH (cs:=cs) (ms:=ms) (E:=xL cs ms b r) (F:=[])
  have h2:=Nat.mul_le_mul_right ms.length (vZ r)
  show (jx cs ms (xL cs ms b r)).length <= ms.length ^ r * ms.length
  exact Nat.le_trans h1 (by simpa using h2)
theorem YX {o:List Nat} {vs:List Int} (h:Run73 cs ms b o vs):∃ t,xA t o /\ (t,vs) ∈ (xL cs ms b o.length).map (·.1):=by
 induction h with
 | nil=>exact ⟨0,xA.nil,by simp [xL]⟩
 | @snoc o vs n M h hm hn hj ha ih =>
  obtain ⟨t,ht,hk⟩:=ih
  obtain ⟨e,he,ek⟩:=List.mem_map.mp hk
  obtain ⟨h1,h2,h3⟩:=xf o.length e he
  have ee:e.1 = (t,vs):=ek
  have emem:∀ j,j ∈ e.2 ↔ j ∈ o:=fun j=>by rw [← h2 j,ee,ht j]
  have may:wp cs e n M = true:=(re h2).mpr ⟨fun z=>hn ((emem n).mp z),fun j z=>(emem j).mpr (hj j z),by rw [ee]; exact ha⟩
  refine ⟨t ||| 2 ^ n,ht.or,?_⟩
  rw [List.length_append]
  have:=uM (cs:=cs) (ms:=ms) (p:=(n,M)) may hm (E:=xL cs ms b o.length) (F:=[]) he
  rw [ee] at this
  exact this
theorem Zs {o:List Nat} (h:ra cs ms b = some o):∃ vs,Run73 cs ms b o vs /\ o.length = ms.length:=by
 unfold ra at h
 obtain ⟨e,he,rfl⟩:=Option.map_eq_some_iff.mp h
 obtain ⟨h1,_,h3⟩:=xf (cs:=cs) (ms:=ms) (b:=b) ms.length e (List.mem_of_mem_head? he)
 exact ⟨_,h3,h1⟩
theorem Zt (h:ra cs ms b = none) {o:List Nat} {vs:List Int} (hr:Run73 cs ms b o vs):o.length ≠ ms.length:=fun z=>by
 obtain ⟨t,_,hk⟩:=YX hr
 rw [z] at hk
 unfold ra at h
 rw [Option.map_eq_none_iff,List.head?_eq_none_iff] at h
 rw [h] at hk
 cases hk
theorem wq:∀ {o ns:List Nat},o.Nodup -> (∀ n ∈ o,n ∈ ns) -> ns.length <= o.length -> o.Perm ns
 | [],ns,_,_,hl=>by
  rw [List.length_eq_zero_iff.mp (Nat.le_zero.mp hl)]
 | a :: o,ns,nd,hm,hl=>by
  have ha:=hm a (List.mem_cons_self ..)
  have pe:=List.perm_cons_erase ha
  obtain ⟨na,nd'⟩:=List.nodup_cons.mp nd
  refine (List.Perm.cons a (wq nd' (fun n hn=>?_) ?_)).trans pe.symm
  ·exact (List.mem_erase_of_ne (fun z=>na (by rw [← z]; exact hn))).mpr (hm n (List.mem_cons_of_mem _ hn))
  ·have:=pe.length_eq
   rw [List.length_cons] at this hl
   omega
theorem Run73.perm {o:List Nat} {vs:List Int} (h:Run73 cs ms b o vs) (hl:o.length = ms.length):o.Perm (ms.map (·.1)):=wq h.nodup h.mem (by rw [List.length_map,hl]; exact Nat.le_refl _)
end
def Tn (cs:List Call72) (ns:List Nat) (n:Nat):List Nat:=ns.filter fun j=>decide ((cg cs j).ended < (cg cs n).begun)
def SO (cs:List Call72) (ns:List Nat):List (Nat × Nat):=ns.map fun n=>(n,mk73 (Tn cs ns n))
abbrev NA73 (cs:List Call72) (a b:Nat):Prop:=¬ (cg cs b).ended < (cg cs a).begun
theorem WB {cs:List Call72} {ms:List (Nat × Nat)} {b:List Int} {o:List Nat} {vs:List Int} (h:Run73 cs ms b o vs):pl72 b (o.map (cg cs)) = some vs:=by
 induction h with
 | nil=>rfl
 | snoc h hm hn hj ha ih =>
  rw [List.map_append]
  exact qk ih ha
theorem WC {cs:List Call72} {ms:List (Nat × Nat)} {b:List Int} {o:List Nat} {vs:List Int} (h:Run73 cs ms b o vs):an72 cs b o = true:=by rw [Tj,WB h]; rfl
abbrev tQ (cs:List Call72) (x:Nat) (k:Nat):Bool:=decide ((cg cs k).box = (x:Int))
def nb73 (cs:List Call72) (x:Nat):List Nat:=(List.range cs.length).filter (tQ cs x)
theorem WD {cs:List Call72} {x:Nat}:(nb73 cs x).length = uo (x:Int) cs:=by
 unfold nb73 uo
 rw [← List.countP_eq_length_filter]
 conv=>rhs; rw [← Tk (cs:=cs),List.countP_map]
 rfl
theorem uN {cs:List Call72} {x:Nat}:∀ {o:List Nat} {vs ws:List Int},(∀ k ∈ o,(cg cs k).box = (x:Int)) -> x < vs.length -> x < ws.length -> vs.getD x 0 = ws.getD x 0 -> an72 cs vs o = an72 cs ws o
 | [],_,_,_,_,_,_=>rfl
 | k :: r,vs,ws,hb,hv,hw,e=>by
  have hk:=hb k (List.mem_cons_self ..)
  have ek:(cg cs k).box.toNat = x:=by rw [hk]; exact Int.toNat_natCast x
  rw [yi,yi,ek,e]
  split
  ·exact uN (fun j hj=>hb j (List.mem_cons_of_mem _ hj)) (by rw [List.length_set]; exact hv) (by rw [List.length_set]; exact hw) (by rw [yx hv,yx hw])
  ·rfl
theorem v3 {cs:List Call72} {x:Nat}:∀ {o:List Nat} {vs:List Int},(∀ k ∈ o,0 <= (cg cs k).box) -> x < vs.length -> an72 cs vs o = true -> an72 cs vs (o.filter (tQ cs x)) = true
 | [],_,_,_,_=>rfl
 | k :: r,vs,hb,hv,h=>by
  rw [yi] at h
  have hk0:=hb k (List.mem_cons_self ..)
  have hr:=fun j hj=>hb j (List.mem_cons_of_mem _ hj)
  by_cases c:vs.getD (cg cs k).box.toNat 0 = (cg cs k).answer
  ·rw [if_pos c] at h
   have ih:=v3 (x:=x) hr (by rw [List.length_set]; exact hv) h
   by_cases hx:(cg cs k).box = (x:Int)
   ·rw [List.filter_cons,if_pos (decide_eq_true hx),yi,if_pos c]; exact ih
   ·rw [List.filter_cons,if_neg (by rw [decide_eq_true_eq]; exact hx)]
    rw [uN (x:=x) (ws:=vs.set (cg cs k).box.toNat ((cg cs k).deed.mk' (cg cs k).answer)) (fun j hj=>of_decide_eq_true (List.mem_filter.mp hj).2) hv (by rw [List.length_set]; exact hv) (by rw [yW (by omega)])]
    exact ih
  ·rw [if_neg c] at h; cases h
def YY (c:Nat):List Nat -> List Nat -> List Nat × List Nat
 | [],tog=>([],tog)
 | x :: own,tog=>if c ∈ x :: own then YY c own (tog ++ [x]) else (x :: own,tog)
def V3 (cs:List Call72) (st:List (List Nat) × List Nat) (c:Nat):List (List Nat) × List Nat :=
 (st.1.set (cg cs c).box.toNat (YY c (st.1.getD (cg cs c).box.toNat []) st.2).1,(YY c (st.1.getD (cg cs c).box.toNat []) st.2).2)
def V4 (cs:List Call72) (srt:List Nat) (os:List (List Nat)):List Nat:=(srt.foldl (V3 cs) (os,[])).2
structure MI73 (cs:List Call72) (os:List (List Nat)) (pre:List Nat) (left:List (List Nat)) (tog:List Nat):Prop where
 len:left.length = os.length
 parts:∀ x < os.length,os.getD x [] = tog.filter (tQ cs x) ++ left.getD x []
 out:∀ c ∈ pre,∀ x < os.length,c ∉ left.getD x []
 pw:tog.Pairwise (NA73 cs)
 far:∀ a ∈ tog,∀ x < os.length,∀ y ∈ left.getD x [],NA73 cs a y
 box:∀ k ∈ tog,0 <= (cg cs k).box /\ (cg cs k).box.toNat < os.length
open PySem
structure ItK (prog:Program) (w:World) (K:Type) [DecidableEq K] where
 is:Heap -> K -> Value -> Prop
 hash:K -> Int
 draws:K -> Nat
 inj:∀ {h:Heap} {v:Value} {x y:K},is h x v -> is h y v -> x = y
 keeps:∀ {h h':Heap} {k:K} {v:Value} {d:Addr} {o:Obj} {es ep},is h k v -> h.get? d = some o -> o.data = .dict es ep -> Heap.SameBut d h h' -> is h' k v
 pyHash:∀ {A:Around} {E:VS7} {s:Shared} {k:K} {v:Value} {Q:Int -> Shared -> Prop},A.units < cLine -> is s.heap k v -> Q (hash k) { s with toks:=s.toks + draws k } -> wpAny (model prog w) A (PySem.pyHash v) Q E s
 eqBool:∀ {A:Around} {E:VS7} {s:Shared} {x y:K} {a b:Value} {Q:Bool -> Shared -> Prop},A.units < cLine -> is s.heap x a -> is s.heap y b -> Q (decide (x = y)) s -> wpAny (model prog w) A (PySem.eqBool a b) Q E s
 quiet:∀ {A:Around} {E:VS7} {s:Shared} {k:K} {v:Value} {Q:Bool -> Shared -> Prop},is s.heap k v -> Q true s -> wpAny (model prog w) A (eqIsQuiet 7 v) Q E s
def YZ (prog:Program) (w:World):ItK prog w Int where
 is:=fun _ k v=>(intKind prog w).is k v = true
 hash:=(intKind prog w).hash
 draws:=fun _=>1
 inj:=fun h1 h2=>(intKind prog w).inj _ _ _ h1 h2
 keeps:=fun h _ _ _=>h
 pyHash:=fun _ h q=>(intKind prog w).pyHash h q
 eqBool:=fun _ h1 h2 q=>(intKind prog w).eqBool h1 h2 q
 quiet:=fun h q=>by rw [eqIsQuiet_byValue _ ((intKind prog w).byValue _ _ h)]; exact wpAny_pure q
section
variable {prog:Program} {w:World} {A:Around} {E:VS7} {s:Shared}
theorem To {K:Type} [DecidableEq K] {knd:KeyKind prog w K} {ks:List K} {a:Addr} {Q:Bool -> Shared -> Prop} (hk:IsTupleKey knd s.heap ks a) (h:Q true s):wpAny (model prog w) A (eqIsQuiet 7 (.ref a)) Q E s:=by
 have hT:=hk.typeIs
 obtain ⟨o,items,n,ho,_,hd,hi⟩:=hk
 unfold eqIsQuiet
 refine wpAny_bind (wpAny_specialOf hT F.slot_tuple_eq.lookup ?_)
 show wpAny _ _ (isInstance (.ref a) (.type "tuple") >>= _) _ _ s
 refine wpAny_bind (wpAny_isInstance hT isSubtype_tuple_tuple ?_)
 simp only [Bool.not_true,Bool.false_eq_true,if_false]
 refine wpAny_bind (wpAny_seqItems ho hd ?_)
 refine wpAny_bind ?_
 show wpAny _ _ (forIn items _ _) _ _ s
 rw [← Array.forIn_toList]
 refine wpAny_forIn_list _ (fun rest r s'=>r.1 = none /\ s' = s /\ ∀ v ∈ rest,carriedByValue v = true) _ ?_ ?_ _ _ ⟨rfl,rfl,hi.byValue⟩
 ·rintro v rest r s' ⟨hr,rfl,hall⟩
  rw [eqIsQuiet_byValue _ (hall v List.mem_cons_self)]
  refine wpAny_bind (wpAny_pure ?_)
  simp only [Bool.not_true,Bool.false_eq_true,if_false]
  exact wpAny_pure ⟨rfl,rfl,fun u hu'=>hall u (List.mem_cons_of_mem _ hu')⟩
 ·rintro ⟨r1,r2⟩ s' ⟨hr,rfl,_⟩
  simp only at hr
  subst hr
  exact wpAny_pure h
end
def SQ (prog:Program) (w:World):ItK prog w (List Int) where
 is:=fun h k v=>∃ a,v = .ref a /\ IsTupleKey (intKind prog w) h k a
 hash:=tupleKeyHash (intKind prog w)
 draws:=fun ks=>ks.length + 1
 inj:=fun ⟨a,e,h1⟩ ⟨b,e',h2⟩=>by subst e; cases e'; exact h1.inj h2
 keeps:=fun ⟨a,e,h1⟩ ho hd hs=>⟨a,e,h1.keeps ho hd hs⟩
 pyHash:=fun hu ⟨a,e,h1⟩ q=>by subst e; exact wpAny_pyHash_tuple hu h1 q
 eqBool:=fun hu ⟨a,e,h1⟩ ⟨b,e',h2⟩ q=>by subst e e'; exact wpAny_eqBool_tuple hu h1 h2 q
 quiet:=fun ⟨a,e,h1⟩ q=>by subst e; exact To h1 q
section
variable {prog:Program} {w:World} {K1 K2:Type} [DecidableEq K1] [DecidableEq K2] {k1:ItK prog w K1} {k2:ItK prog w K2}
def IsPr (k1:ItK prog w K1) (k2:ItK prog w K2) (h:Heap) (k:K1 × K2) (a:Addr):Prop :=
 ∃ o u v n,h.get? a = some o /\ o.cls = .type "tuple" /\ o.data = .seq #[u,v] n /\ k1.is h k.1 u /\ k2.is h k.2 v
theorem IsPr.typeIs {s:Shared} {k:K1 × K2} {a:Addr} (x:IsPr k1 k2 s.heap k a):s.TypeIs (.ref a) "tuple":=let ⟨o,_,_,_,ho,hc,_⟩:=x; ⟨o,ho,hc⟩
theorem IsPr.inj {h:Heap} {a:Addr} {x y:K1 × K2} (hx:IsPr k1 k2 h x a) (hy:IsPr k1 k2 h y a):x = y:=by
 obtain ⟨o,u,v,n,ho,_,hd,hu,hv⟩:=hx
 obtain ⟨o',u',v',n',ho',_,hd',hu',hv'⟩:=hy
 obtain rfl:o = o':=Option.some.inj (ho.symm.trans ho')
 rw [hd] at hd'
 injection hd' with h1 _
 have h1':=congrArg Array.toList h1
 simp only [List.cons.injEq,and_true] at h1'
 obtain ⟨rfl,rfl⟩:=h1'
 exact Prod.ext (k1.inj hu hu') (k2.inj hv hv')
theorem IsPr.keeps {h h':Heap} {k:K1 × K2} {a d:Addr} {o:Obj} {es ep} (x:IsPr k1 k2 h k a) (ho:h.get? d = some o) (hd:o.data = .dict es ep) (hs:Heap.SameBut d h h'):IsPr k1 k2 h' k a:=by
 obtain ⟨o',u,v,n,ho',hc,hd',hu,hv⟩:=x
 have hne:a ≠ d:=by
  rintro rfl
  obtain rfl:o' = o:=Option.some.inj (ho'.symm.trans ho)
  rw [hd] at hd'; exact nomatch hd'
 exact ⟨o',u,v,n,(hs.2 a hne).trans ho',hc,hd',k1.keeps hu ho hd hs,k2.keeps hv ho hd hs⟩
def Y0 (k1:ItK prog w K1) (k2:ItK prog w K2) (k:K1 × K2):Int:=reduceHash (Builtin.Tuple.tupleHashOf [k1.hash k.1,k2.hash k.2])
variable {A:Around} {E:VS7} {s:Shared}
theorem Y1 {k:K1 × K2} {a:Addr} {Q:Int -> Shared -> Prop} (hu:A.units + 1 < cLine) (hk:IsPr k1 k2 s.heap k a) (h:Q (Y0 k1 k2 k) { s with toks:=s.toks + (k1.draws k.1 + k2.draws k.2 + 1) }) :
  wpAny (model prog w) A (pyHash (.ref a)) Q E s:=by
 have hT:=hk.typeIs
 obtain ⟨o,u,v,n,ho,_,hd,iu,iv⟩:=hk
 unfold pyHash
 first | unfold pyHashByItsType | skip
 first | refine wpAny_bind (wpAny_cRoomFor_or (.inr (by omega)) ?_) | skip
 refine wpAny_bind (wpAny_specialOf hT F.slot_tuple_hash.lookup ?_)
 show wpAny _ _ (if (some (Value.builtin "tuple.__hash__") == some Value.none) = true then _ else _) Q E s
 rw [if_neg (by rw [beq_builtin_none]; exact Bool.false_ne_true)]
 refine wpAny_bind (wpAny_specialOf hT F.slot_tuple_hash.lookup ?_)
 show wpAny _ _ (callSpecialIfBoundUnlessNone? (.ref a) "__hash__" _ >>= _) Q E s
 refine wpAny_bind (wpAny_callSpecialIfBoundUnlessNone?_slot hT F.slot_tuple_hash (wpAny_call_entry F.slot_tuple_hash hT F.entry_tuple_hash ?_ (F.args_tuple_hash_1 _)))
 show wpAny _ _ (Builtin.Tuple.tupleItemsOf (.ref a) >>= _) _ _ s
 refine wpAny_bind (wpAny_tupleItemsOf ho hd ?_)
 refine wpAny_bind ?_
 rw [← Array.forIn_toList]
 have hu':A.in1.units < cLine:=hu
 refine wpAny_forIn_list _
  (fun rest (b:Array Int) s'=>(rest = [u,v] /\ b.toList = [] /\ s' = s) \/ (rest = [v] /\ b.toList = [k1.hash k.1] /\ s' = { s with toks:=s.toks + k1.draws k.1 }) \/ (rest = [] /\ b.toList = [k1.hash k.1,k2.hash k.2] /\ s' = { s with toks:=s.toks + (k1.draws k.1 + k2.draws k.2) }))
  _ ?_ ?_ _ _ (.inl ⟨rfl,rfl,rfl⟩)
 ·rintro x rest b s' (⟨e,hb,rfl⟩ | ⟨e,hb,rfl⟩ | ⟨e,_⟩)
  ·cases e
   refine wpAny_bind (k1.pyHash hu' iu ?_)
   first
    | exact wpAny_pure (.inr (.inl ⟨rfl,by simp [hb],rfl⟩))
    | exact wpAny_bind (wpAny_pure (wpAny_pure (.inr (.inl ⟨rfl,by simp [hb],rfl⟩))))
  ·cases e
   refine wpAny_bind (k2.pyHash hu' iv ?_)
   first
    | exact wpAny_pure (.inr (.inr ⟨rfl,by simp [hb],by simp [Nat.add_assoc]⟩))
    | exact wpAny_bind (wpAny_pure (wpAny_pure (.inr (.inr ⟨rfl,by simp [hb],by simp [Nat.add_assoc]⟩))))
  ·cases e
 ·rintro b s' (⟨e,_⟩ | ⟨e,_⟩ | ⟨_,hb,rfl⟩)
  ·cases e
  ·cases e
  show wpAny _ _ (retInt (Builtin.Tuple.tupleHashOf b.toList)) _ _ _
  rw [hb]
  refine wpAny_ret_mkInt ?_
  show wpAny _ _ (if (decide (-(2:Int) ^ 63 <= Builtin.Tuple.tupleHashOf [k1.hash k.1,k2.hash k.2]) && decide (Builtin.Tuple.tupleHashOf [k1.hash k.1,k2.hash k.2] < 2 ^ 63)) = true then _ else _) Q E _
  unfold Y0 reduceHash at h
  by_cases hr:(decide (-(2:Int) ^ 63 <= Builtin.Tuple.tupleHashOf [k1.hash k.1,k2.hash k.2]) && decide (Builtin.Tuple.tupleHashOf [k1.hash k.1,k2.hash k.2] < 2 ^ 63)) = true
  ·rw [if_pos hr]
   rw [if_pos hr] at h
   exact wpAny_pure (by simpa [Nat.add_assoc] using h)
  ·rw [if_neg hr]
   rw [if_neg hr] at h
   exact wpAny_bind (wpAny_rule (wpAny_pure (by simpa [Nat.add_assoc] using h)))
theorem Zu {x y:K1 × K2} {a b:Addr} {P:Fin -> Shared -> Prop} (hu:A.units < cLine) (hx:IsPr k1 k2 s.heap x a) (hy:IsPr k1 k2 s.heap y b) (h:P (.done (.ret (.bool (decide (x = y))))) s) :
  wpAny (model prog w) A (Builtin.«tuple.__eq__» ⟨[.ref a,.ref b],[]⟩) P E s:=by
 have hTb:=hy.typeIs
 obtain ⟨oa,u,v,na,hoa,_,hda,iu,iv⟩:=hx
 obtain ⟨ob,u',v',nb,hob,_,hdb,iu',iv'⟩:=hy
 show wpAny _ _ (isInstance (.ref b) (.type "tuple") >>= _) _ _ s
 refine wpAny_bind (wpAny_isInstance hTb isSubtype_tuple_tuple ?_)
 simp only [Bool.not_true,Bool.false_eq_true,if_false]
 refine wpAny_bind (wpAny_tupleItemsOf hoa hda ?_)
 refine wpAny_bind (wpAny_tupleItemsOf hob hdb ?_)
 refine wpAny_bind ?_
 have ed:decide (x = y) = (decide (x.1 = y.1) && decide (x.2 = y.2)):=by
  rw [Bool.eq_iff_iff]; simp [Prod.ext_iff]
 refine wpAny_forIn_list _
  (fun rest r s'=>r.1 = none /\ s' = s /\ ((rest = [(u,u'),(v,v')]) \/ (rest = [(v,v')] /\ x.1 = y.1) \/ (rest = [] /\ x = y)))
  _ ?_ ?_ _ _ ⟨rfl,rfl,.inl rfl⟩
 ·rintro ⟨p,q⟩ rest r s' ⟨hr,rfl,(e | ⟨e,e1⟩ | ⟨e,_⟩)⟩
  ·cases e
   refine wpAny_bind (k1.eqBool hu iu iu' ?_)
   by_cases hk:x.1 = y.1
   ·rw [decide_eq_true hk]
    simp only [Bool.not_true,Bool.false_eq_true,if_false]
    refine wpAny_pure ?_
    simp [hk]
   ·rw [decide_eq_false hk]
    simp only [Bool.not_false,if_true]
    rw [ed,decide_eq_false hk,Bool.false_and] at h
    exact wpAny_bind (wpAny_pure (wpAny_pure (wpAny_pure h)))
  ·cases e
   refine wpAny_bind (k2.eqBool hu iv iv' ?_)
   by_cases hk:x.2 = y.2
   ·rw [decide_eq_true hk]
    simp only [Bool.not_true,Bool.false_eq_true,if_false]
    refine wpAny_pure ?_
    simp [Prod.ext e1 hk]
   ·rw [decide_eq_false hk]
    simp only [Bool.not_false,if_true]
    rw [ed,decide_eq_false hk,Bool.and_false] at h
    exact wpAny_bind (wpAny_pure (wpAny_pure (wpAny_pure h)))
  ·cases e
 ·rintro ⟨r1,r2⟩ s' ⟨hr,rfl,(e | ⟨e,e1⟩ | ⟨_,e⟩)⟩
  ·cases e
  ·cases e
  simp only at hr
  subst hr
  refine wpAny_pure ?_
  show P (.done (.ret (.bool ((#[u,v]:Array Value).size == (#[u',v']:Array Value).size)))) s'
  rw [decide_eq_true e] at h
  exact h
theorem Tp {x y:K1 × K2} {a b:Addr} {Q:Bool -> Shared -> Prop} (hu:A.units + 1 < cLine) (hx:IsPr k1 k2 s.heap x a) (hy:IsPr k1 k2 s.heap y b) (h:Q (decide (x = y)) s) :
  wpAny (model prog w) A (eqBool (.ref a) (.ref b)) Q E s:=by
 unfold eqBool
 try with_reducible refine wpAny_holding ?_
 show wpAny _ _ (if (Value.ref a == Value.ref b) = true then _ else _) Q E s
 by_cases hab:(Value.ref a == Value.ref b) = true
 ·rw [if_pos hab]
  have e:a = b:=by have:=eq_of_beq hab; injection this
  subst e
  obtain rfl:=hx.inj hy
  exact wpAny_bind (wpAny_rule (wpAny_pure (by simpa using h)))
 ·rw [if_neg hab]
  exact wpAny_bind (wpAny_richCompare_same_room (op:=.Eq) hx.typeIs hy.typeIs F.slot_tuple_eq
   (wpAny_call_entry F.slot_tuple_eq hx.typeIs F.entry_tuple_eq (Zu hu hx hy ⟨_,rfl,(fun e=>nomatch e),wpAny_truthy_bool h⟩) (F.args_tuple_eq_2 _ _)) (by omega))
theorem tR {k:K1 × K2} {a:Addr} {Q:Bool -> Shared -> Prop} (hk:IsPr k1 k2 s.heap k a) (h:Q true s):wpAny (model prog w) A (eqIsQuiet 8 (.ref a)) Q E s:=by
 have hT:=hk.typeIs
 obtain ⟨o,u,v,n,ho,_,hd,iu,iv⟩:=hk
 unfold eqIsQuiet
 refine wpAny_bind (wpAny_specialOf hT F.slot_tuple_eq.lookup ?_)
 show wpAny _ _ (isInstance (.ref a) (.type "tuple") >>= _) _ _ s
 refine wpAny_bind (wpAny_isInstance hT isSubtype_tuple_tuple ?_)
 simp only [Bool.not_true,Bool.false_eq_true,if_false]
 refine wpAny_bind (wpAny_seqItems ho hd ?_)
 refine wpAny_bind ?_
 show wpAny _ _ (forIn #[u,v] _ _) _ _ s
 rw [← Array.forIn_toList]
 refine wpAny_forIn_list _ (fun rest r s'=>r.1 = none /\ s' = s /\ (rest = [u,v] \/ rest = [v] \/ rest = [])) _ ?_ ?_ _ _ ⟨rfl,rfl,.inl rfl⟩
 ·rintro x rest r s' ⟨hr,rfl,(e | e | e)⟩
  ·cases e
   refine wpAny_bind (k1.quiet iu ?_)
   simp only [Bool.not_true,Bool.false_eq_true,if_false]
   refine wpAny_pure ?_
   simp
  ·cases e
   refine wpAny_bind (k2.quiet iv ?_)
   simp only [Bool.not_true,Bool.false_eq_true,if_false]
   refine wpAny_pure ?_
   simp
  ·cases e
 ·rintro ⟨r1,r2⟩ s' ⟨hr,rfl,_⟩
  simp only at hr
  subst hr
  exact wpAny_pure h
end
def wW {prog:Program} {w:World} {K1 K2:Type} [DecidableEq K1] [DecidableEq K2] (k1:ItK prog w K1) (k2:ItK prog w K2):HeapKind prog w (K1 × K2) where
 is:=IsPr k1 k2
 hash:=Y0 k1 k2
 draws:=fun k=>k1.draws k.1 + k2.draws k.2 + 1
 room:=fun A=>A.units + 1 < cLine
 inj:=fun hx hy=>hx.inj hy
 keeps:=fun x ho hd hs=>x.keeps ho hd hs
 pyHash:=fun hu hk h=>Y1 hu hk h
 eqBool:=fun hu hx hy h=>Tp hu hx hy h
 quiet:=fun hk h=>tR hk h
def Trc (h:Heap) (e T:Addr) (cls:Value):Prop :=
 ∃ oe vs oT ts,h.get? e = some oe /\ oe.cls = cls /\ oe.data = .fields vs /\ vs[1]? = some (.ref T) /\ T ≠ e /\ h.get? T = some oT /\ oT.data = .fields ts /\ ts[3]? = some .none /\ vs[2]? = some .none
structure Lft (fr:List Addr) (e T0 T:Addr) (cls:Value) (h h':Heap):Prop where
 keep:∀ b o,b ∉ fr -> b ≠ e -> b ≠ T0 -> h.get? b = some o -> h'.get? b = some o
 slot:∀ b o,b ∈ fr -> b ≠ e -> b ≠ T0 -> h.get? b = some o -> ∃ sl,h'.get? b = some { o with slots:=sl }
 new:h.get? T = none
 trc:Trc h' e T cls
def CX1 (P:Program) (w:World):CXT:=fun outer H s E e s'=>∃ (a T C:Addr) (H':Hp),e = .ref a /\ s'.os = s.os /\ AllBare s'.gens /\ Un (frs outer) [] H H' s.heap s'.heap /\ HOk P w H' s'.heap ∧
 Trc s'.heap a T (.ref C) /\ H' a = none /\ H' T = none /\ s.heap.get? a = none /\ s.heap.get? T = none /\ E e (some C) H'
theorem zP.at {P:Program} {w:World} {H:Hp} {h:Heap} {a:Addr} {o:HO} (x:zP P w H h a o):∃ ob,h.get? a = some ob:=by
 induction o with
 | lst xs=>obtain ⟨z,its,n,r,e⟩:=x; exact ⟨_,e⟩
 | tup xs=>obtain ⟨z,its,r,ob,e,c⟩:=x; exact ⟨_,e⟩
 | dK kvs=>obtain ⟨z,y,vs,r,ob,es,ep,e,c⟩:=x; exact ⟨_,e⟩
 | dT kvs=>obtain ⟨z,y,xs,r,ob,es,ep,e,c⟩:=x; exact ⟨_,e⟩
 | set S n=>obtain ⟨ob,es,ep,t,e,c⟩:=x; exact ⟨_,e⟩
 | ins C dx fs=>obtain ⟨d,z,ne,e,_⟩:=x; exact ⟨_,e⟩
 | own y=>exact x
 | xd fs=>obtain ⟨mA,⟨od,es,ep,e,c⟩,r⟩:=x; exact ⟨_,e⟩
 | rng lo hi=>obtain ⟨t,u,v,e⟩:=x; exact ⟨_,e⟩
 | frz ob u ih=>exact ⟨_,x.1⟩
 | tbl ps=>exact ⟨_,x⟩
 | met f y=>exact ⟨_,x⟩
 | ext φ=>exact x.2.1
section
variable {P:Program} {w:World} {K:FG7} {mg:Str -> Option Value} {base:Heap} {N:List Str} {qual:Str} {scope:Scope} {f:Addr} {cd:Value} {A:Around} {outer:List Env} {s0:Shared} {H0:Hp} {E:XK}
 {pins:List (Addr × Obj)} {σ:L2.St} {H:Hp} {s:Shared}
end
abbrev veM:List Value:=[.type "ValueError",.type "Exception",.type "BaseException",.type "object"]
def ExcC (K:FG7) (mg:Str -> Option Value) (x:Str) (C:Addr):Prop:=∀ h:Heap,K.In h -> OwnCls x C veM "ValueError.__new__" mg h
structure ApX (X:Cx) (pins:List (Addr × Obj)) (H:Hp) (a T:Addr):Prop where
 s0:∀ b o,X.s₀.heap.get? b = some o -> b ≠ a /\ b ≠ T
 loc:X.env.locals ≠ a /\ X.env.locals ≠ T
 cel:∀ x c,X.env.cells.lookup x = some c -> c ≠ a /\ c ≠ T
 pin:∀ p ∈ X.pn ++ pins,p.1 ≠ a /\ p.1 ≠ T
 ha:H a = none
 hT:H T = none
theorem ApX.of {X:Cx} {pins:List (Addr × Obj)} {σ:L2.St} {H H':Hp} {s:Shared} {a T:Addr} (I:Inv X pins σ H s) (hx:X.ex = []) (na:s.heap.get? a = none) (nT:s.heap.get? T = none) (ha:H' a = none) (hT:H' T = none):ApX X pins H' a T:=by
 have ne:∀ b o,s.heap.get? b = some o -> b ≠ a /\ b ≠ T:=fun b o hb=>⟨fun z=>(by rw [z,na] at hb; cases hb),fun z=>(by rw [z,nT] at hb; cases hb)⟩
 refine ⟨fun b o hb=>?_,?_,fun x c hc=>?_,fun p hp=>ne _ _ (I.pin p hp).1,ha,hT⟩
 ·obtain ⟨o',h1⟩:=I.base.there b o hb (by rw [hx]; simp)
  exact ne b o' h1
 ·obtain ⟨m,⟨o,es,ep,ho,_⟩,_⟩:=I.loc
  exact ne _ _ ho
 ·obtain ⟨v,hv⟩:=I.cell x c hc
  obtain ⟨o,ho,_⟩:=hv
  exact ne _ _ ho
theorem Inv.leftK {X:Cx} {pins:List (Addr × Obj)} {σ:L2.St} {H:Hp} {s:Shared} {a T0:Addr} {h2:Heap} (I:Inv X pins σ H s) (hx:X.ex = []) (ap:ApX X pins H a T0)
  (lk:∀ b o,b ∉ frs X.stack -> b ≠ a -> b ≠ T0 -> s.heap.get? b = some o -> h2.get? b = some o) (ls:∀ b o,b ∈ frs X.stack -> b ≠ a -> b ≠ T0 -> s.heap.get? b = some o -> ∃ sl,h2.get? b = some { o with slots:=sl }):Inv X pins σ H { s with heap:=h2 }:=by
 have stk:∀ b,b ∈ frs X.stack -> b = X.env.locals \/ b ∈ X.fs:=fun b hb=>List.mem_cons.mp (I.stkSub b hb)
 have any:∀ b o,b ≠ a -> b ≠ T0 -> s.heap.get? b = some o -> ∃ sl,h2.get? b = some { o with slots:=sl }:=fun b o n1 n2 ho=>by
  by_cases z:b ∈ frs X.stack
  ·exact ls b o z n1 n2 ho
  ·exact ⟨o.slots,lk b o z n1 n2 ho⟩
 have cellK:∀ x c,X.env.cells.lookup x = some c -> ∀ v,s.heap.IsCell c v -> h2.IsCell c v:=fun x c e v ⟨o,ho,hd⟩=>by
  obtain ⟨n1,n2⟩:=ap.cel x c e
  obtain ⟨sl,h1⟩:=any c o n1 n2 ho
  exact ⟨_,h1,hd⟩
 refine ⟨I.ok,I.os,I.bare,⟨fun b o hb hn hf hx'=>?_,fun b o hb hn hf hx'=>?_,I.base.free,fun b o hb hx'=>?_,I.base.tups,I.base.frzs,I.base.tbls⟩,?_,fun x c hc=>?_,I.free,I.freeC,fun p hp=>?_,fun b u q=>?_,I.len⟩
 ·obtain ⟨n1,n2⟩:=ap.s0 b o hb
  refine lk b o (fun z=>?_) n1 n2 (I.base.keep b o hb hn hf hx')
  rcases stk b z with z | z
  ·exact absurd (Nat.lt_of_lt_of_le (Heap.lt_size hb) I.ok.above) (by rw [z]; exact Nat.lt_irrefl _)
  ·exact hf z
 ·obtain ⟨n1,n2⟩:=ap.s0 b o hb
  obtain ⟨sl,h1⟩:=I.base.slot b o hb hn hf hx'
  obtain ⟨sl',h3⟩:=any b _ n1 n2 h1
  exact ⟨sl',h3⟩
 ·obtain ⟨n1,n2⟩:=ap.s0 b o hb
  obtain ⟨o',h1⟩:=I.base.there b o hb hx'
  obtain ⟨sl,h3⟩:=any b o' n1 n2 h1
  exact ⟨_,h3⟩
 ·obtain ⟨m,⟨o,es,ep,ho,r⟩,hl⟩:=I.loc
  obtain ⟨sl,h1⟩:=any _ o ap.loc.1 ap.loc.2 ho
  refine ⟨m,⟨_,es,ep,h1,r⟩,fun i x v e1 e2 e3=>?_⟩
  obtain ⟨u,ru,lk⟩:=hl i x v e1 e2 e3
  refine ⟨u,ru,?_⟩
  rcases lk with lk | ⟨k1,c,k2,k3⟩
  ·exact .inl lk
  ·exact .inr ⟨k1,c,k2,cellK x c k2 _ k3⟩
 ·obtain ⟨v,hv⟩:=I.cell x c hc
  exact ⟨v,cellK x c hc v hv⟩
 ·obtain ⟨p1,p2,p3,p4,p5⟩:=I.pin p hp
  obtain ⟨n1,n2⟩:=ap.pin p hp
  refine ⟨lk _ _ (fun z=>?_) n1 n2 p1,p2,p3,p4,p5⟩
  rcases stk _ z with z | z
  ·exact p3 z
  ·exact p4 z
 ·refine (I.hok b u q).stay (fun c v hc r=>?_) (fun _ r=>r) fun _ _ r=>r
  have hn:H c ≠ none:=by
   rcases hc with rfl | hc
   ·rw [q]; exact fun z=>nomatch z
   ·rw [hc]; exact fun z=>nomatch z
  exact lk c v (fun z=>hn (I.stkFree c z)) (fun z=>hn (by rw [z]; exact ap.ha)) (fun z=>hn (by rw [z]; exact ap.hT)) r
theorem Inv.left {X:Cx} {pins:List (Addr × Obj)} {σ:L2.St} {H:Hp} {s:Shared} {a T0 T:Addr} {cls:Value} {h2:Heap} (I:Inv X pins σ H s) (hx:X.ex = []) (ap:ApX X pins H a T0)
  (l:Lft (frs X.stack) a T0 T cls s.heap h2):Inv X pins σ H { s with heap:=h2 }:=Inv.leftK I hx ap l.keep l.slot
open PySem.W in
/-- an exception class as the text's constants show it -/
theorem excC_of {K:FG7} {mg:Str -> Option Value} {x:Str} {C:Addr} (b:mg x = some (.ref C)) (q:PySem.W.excIn K C veM "ValueError.__new__" = true):ExcC K mg x C:=by
 intro h X
 refine ⟨b,?_⟩
 unfold PySem.W.excIn at q
 cases ho:K.lookup C with
 | none=>rw [ho] at q; cases q
 | some ob =>
  rw [ho] at q
  obtain ⟨oc,od,oda,osl⟩:=ob
  split at q
  ·rename_i dd cd sl e
   obtain ⟨rfl,rfl,rfl,rfl⟩:=Obj.mk.inj (Option.some.inj e)
   split at q
   ·rename_i C' bm k0 k1 k2 k3 n k5 hm hs
    simp only [Bool.and_eq_true,beq_iff_eq,Bool.not_eq_true'] at q
    obtain ⟨⟨⟨⟨⟨rfl,rfl⟩,hdel⟩,ht⟩,hok⟩,hni⟩:=q
    obtain ⟨nm,bs,mro,ns,qn,hd,sn,sub,ab,col,del⟩:=cd
    dsimp only at hm hdel hok hni
    subst hm hdel
    obtain ⟨l⟩:=osl
    have hl:l = [k0,k1,k2,k3,some (.builtin "ValueError.__new__"),k5]:=hs
    subst hl
    exact ⟨bm,ns,nm,qn,bs,hd,sn,sub,ab,col,od,k0,k1,k2,k3,k5,_,X _ _ ho,.of_isNs (PySem.W.isNs_of_in X hok),PySem.W.nsMap_none_of_in X hok hni,PySem.W.tail_of_in X ht⟩
   ·cases q
  ·cases q
def tS (P:Program) (w:World) (K:FG7) (mg:Str -> Option Value) (base:Heap) (C:Addr) (k:Nat) (m:Str) (ps:List Str) (sp:Sp):Prop :=
 ∃ (f:Addr) (fd:FuncData),FnOk P w K mg base (CX1 P w) k f fd ps sp /\ w5 K fd ps [] /\ Meth K C m f
def qp (P:Program) (w:World) (K:FG7) (mg:Str -> Option Value) (base:Heap) (k:Nat) (x:Str) (ps:List Str) (sp:Sp):Prop :=
 ∃ (f:Addr) (fd:FuncData),FnOk P w K mg base (CX1 P w) k f fd ps sp /\ w5 K fd ps [] /\ PySem.W.keepIn K (.ref f) = true /\ mg x = some (.ref f)
section
variable {P:Program} {w:World} {K:FG7} {mg:Str -> Option Value} {base:Heap} {C:Addr} {j k:Nat} {m x:Str} {ps:List Str} {sp:Sp}
theorem tS.mono (c:tS P w K mg base C j m ps sp) (h:j <= k):tS P w K mg base C k m ps sp:=by
 obtain ⟨f,fd,F,b,mt⟩:=c
 exact ⟨f,fd,F.mono h,b,mt⟩
theorem qp.mono (c:qp P w K mg base j x ps sp) (h:j <= k):qp P w K mg base k x ps sp:=by
 obtain ⟨f,fd,F,b,mt⟩:=c
 exact ⟨f,fd,F.mono h,b,mt⟩
end
open PySem PySem.Spec PyProof.Rows L2 PySem.W
open PySem.Builtin PySem.Builtin.ObjectAttr PySem.Builtin.Getset_descriptor in
theorem exc_class_get {prog:Program} {w:World} {A:Around} {s:Shared} {K:FG7} {a C:Addr} {o:Obj} {R:Result -> Shared -> Prop} {tp:Value} (X:K.In s.heap) (hx:s.heap.get? a = some o) (hc:o.cls = .ref C) (hm:PySem.W.mroIn K C (.type "object") = some true)
  (h:R (.ok (.ret (.ref C))) s):codeAny (model prog w) A (.call (.builtin "getset_descriptor.__get__") ⟨[.builtin "object.__class__",.ref a,tp],[]⟩) R s:=by
 obtain ⟨hh,g,dr,t,os⟩:=s
 have L0:Looks (model prog w) hh (typeOf (.ref a)) (.ref C):=hc ▸ (Looks.ld hx).andThen .now
 have L1:=looks_mroIn (M:=model prog w) X hm
 refine codeAny_call_builtin KF.slot_gs.plain KF.entry_gs (KF.slot_gs.check _ _ _ _ _ _ _ _ KF.type_class (KF.args_gs _ _ _) ?_)
 unfold Builtin.«getset_descriptor.__get__» descrGet
 rw [dga_obj]
 refine wpAny_bind (wpAny_pure ?_)
 unfold descrGetter descrCheckInstance descrNameAndClass isInstance
 simp only [KF.owner_class]
 repeat lk
 refine ⟨Code.quiet_builtin _ (by decide +kernel),codeAny_builtin KF.entry_class ?_⟩
 unfold Builtin.«object.__class__» shownTypeOf
 repeat lk
 exact h
section
variable {prog:Program} {w:World} {A:Around} {E:VS7} {K:FG7} {a C:Addr} {o:Obj} {h:Heap} {g:Array GenState} {d:Drawn} {t:Nat} {os:OsState}
theorem Y2 {tk:Tok} {Q:PySem.Fin -> Shared -> Prop} (X:K.In h) (hx:h.get? a = some o) (hc:o.cls = .ref C) (ha:findIn K (.ref C) "__class__" = some (some (.builtin "object.__class__"))) (hm:PySem.W.mroIn K C (.type "object") = some true)
  (hq:Q (.done (.ret (.ref C))) ⟨h,g,d,t,os⟩):wpAny (model prog w) A (Builtin.«object.__getattribute__» ⟨[.ref a,.str "__class__" tk],[]⟩) Q E ⟨h,g,d,t,os⟩:=by
 have L0:Looks (model prog w) h (typeOf (.ref a)) (.ref C):=hc ▸ (Looks.ld hx).andThen .now
 have L1:=looks_findIn (M:=model prog w) X ha
 have f5:=PySem.F.typeOf_object_class
 have f6:=PySem.F.slot_gs_get.lookup
 have f7:=PySem.F.slot_gs_set.lookup
 repeat (any_goals (first | assumption | with_reducible refine L0.at ?_ | with_reducible refine L1.at ?_ | (with_reducible refine wpAny_loadPart_at hx ?_; rw [hc]) | wp_step))
 refine exc_class_get X hx hc hm ?_
 repeat (any_goals (first | assumption | wp_step))
end
structure ExcK (K:FG7) (C:Addr):Prop where
 ga:findIn K (.ref C) "__getattribute__" = some (some (.builtin "BaseException.__getattribute__"))
 gt:findIn K (.ref C) "__getattr__" = some none
 cl:findIn K (.ref C) "__class__" = some (some (.builtin "object.__class__"))
 ob:mroIn K C (.type "object") = some true
 be:mroIn K C (.type "BaseException") = some true
def ExO (a C:Addr):HO:=.ext fun h=>∃ o,h.get? a = some o /\ o.cls = .ref C /\ ∃ vs,o.data = .fields vs /\ vs[2]? = some .none
theorem ExO.cl {h:Heap} {a C:Addr} (p:∃ o,h.get? a = some o /\ o.cls = .ref C /\ ∃ vs,o.data = .fields vs /\ vs[2]? = some .none):∃ o,h.get? a = some o /\ o.cls = .ref C:=p.imp fun _ z=>⟨z.1,z.2.1⟩
end L3
namespace L2
open PySem PySem.Spec PyProof.Rows
end L2
namespace L2
open PySem PySem.Spec PyProof.Rows
end L2
namespace L2
open PySem PySem.Spec PyProof.Rows
end L2
namespace L2
open PySem PySem.Spec PyProof.Rows
end L2
namespace L2
open PySem PySem.Spec PyProof.Rows
end L2
namespace L2
open PySem PySem.Spec PyProof.Rows
end L2
namespace L2
open PySem PySem.Spec PyProof.Rows
section
variable {κ:Type} [DecidableEq κ]
def valV (kvs:List (κ × V)) (k:κ):Option V:=(kvs.find? fun kv=>decide (kv.1 = k)).map (·.2)
def putK (kvs:List (κ × V)) (k:κ) (v:V):List (κ × V) :=
 if (kvs.any fun kv=>decide (kv.1 = k)) = true then kvs.map (fun kv=>if kv.1 = k then (kv.1,v) else kv) else kvs ++ [(k,v)]
def Tq (kvs:List (κ × V)) (k:κ):List (κ × V):=kvs.filter fun kv=>decide (kv.1 ≠ k)
theorem ya {p:κ × V} {r:List (κ × V)} {k:κ} (e:p.1 = k):valV (p :: r) k = some p.2:=by simp [valV,List.find?_cons,e]
theorem zZ {p:κ × V} {r:List (κ × V)} {k:κ} (e:¬ p.1 = k):valV (p :: r) k = valV r k:=by simp [valV,List.find?_cons,e]
theorem yX (k:κ):∀ kvs:List (κ × V),(kvs.any fun kv=>decide (kv.1 = k)) = (valV kvs k).isSome
 | []=>rfl
 | p :: r=>by
  rw [List.any_cons]
  by_cases e:p.1 = k
  ·simp only [ya e,decide_eq_true e,Bool.true_or,Option.isSome_some]
  ·rw [zZ e,decide_eq_false e,Bool.false_or]; exact yX k r
theorem jy (k j:κ) (y:V):∀ kvs:List (κ × V),valV (kvs.map fun kv=>if kv.1 = k then (kv.1,y) else kv) j = (valV kvs j).map fun x=>if j = k then y else x
 | []=>rfl
 | p :: r=>by
  have ih:=jy k j y r
  rw [List.map_cons]
  by_cases h:p.1 = k
  ·rw [if_pos h]
   by_cases e:p.1 = j
   ·rw [ya (p:=(p.1,y)) e,ya e,Option.map_some,if_pos (e.symm.trans h)]
   ·rw [zZ (p:=(p.1,y)) e,zZ e,ih]
  ·rw [if_neg h]
   by_cases e:p.1 = j
   ·rw [ya (p:=p) e,ya e,Option.map_some,if_neg (fun z=>h (e.trans z))]
   ·rw [zZ (p:=p) e,zZ e,ih]
theorem rg (k j:κ) (y:V):∀ kvs:List (κ × V),valV kvs k = none -> valV (kvs ++ [(k,y)]) j = if j = k then some y else valV kvs j
 | [],_=>by
  by_cases e:k = j
  ·rw [if_pos e.symm]; exact ya (p:=(k,y)) e
  ·rw [if_neg (fun z=>e z.symm)]; exact zZ (p:=(k,y)) e
 | p :: r,hn=>by
  rw [List.cons_append]
  have hk:¬ p.1 = k:=fun z=>by rw [ya z] at hn; cases hn
  rw [zZ hk] at hn
  have ih:=rg k j y r hn
  by_cases e:p.1 = j
  ·rw [ya e,ya e,if_neg (fun z=>hk (e.trans z))]
  ·rw [zZ e,zZ e,ih]
theorem yJ (kvs:List (κ × V)) (k j:κ) (y:V):valV (putK kvs k y) j = if j = k then some y else valV kvs j:=by
 unfold putK
 by_cases a:(kvs.any fun kv=>decide (kv.1 = k)) = true
 ·rw [if_pos a,jy]
  rw [yX] at a
  by_cases e:j = k
  ·obtain ⟨x,hx⟩:=Option.isSome_iff_exists.mp a
   rw [if_pos e,e,hx,Option.map_some,if_pos rfl]
  ·rw [if_neg e]
   cases valV kvs j with
   | none=>rfl
   | some x=>rw [Option.map_some,if_neg e]
 ·rw [if_neg a]
  refine rg k j y kvs ?_
  rw [yX] at a
  cases q:valV kvs k with
  | none=>rfl
  | some x=>rw [q] at a; exact (a rfl).elim
theorem yy (kvs:List (κ × V)) (k:κ) (v:V):(putK kvs k v).length <= kvs.length + 1:=by
 unfold putK
 split
 ·rw [List.length_map]; omega
 ·rw [List.length_append,List.length_cons,List.length_nil]; omega
theorem jz {kvs:List (κ × V)} {k:κ} (v:V) (h:valV kvs k = none):putK kvs k v = kvs ++ [(k,v)]:=by
 unfold putK
 rw [yX,h]
 exact if_neg (by decide)
theorem RelO.isSome_eq {o:Option V} {u:Option Value} (r:RelO o u):o.isSome = u.isSome:=by
 cases o with
 | none=>cases u with
  | none=>rfl
  | some _=>exact (show False from r).elim
 | some _=>cases u with
  | none=>exact (show False from r).elim
  | some _=>rfl
theorem RelO.getD {o:Option V} {u:Option Value} {d:V} {d':Value} (r:RelO o u) (rd:RelV d d'):RelV (o.getD d) (u.getD d'):=by
 cases o with
 | none=>cases u with
  | none=>exact rd
  | some _=>exact (show False from r).elim
 | some _=>cases u with
  | none=>exact (show False from r).elim
  | some _=>exact r
theorem KV.val {kvs:List (κ × V)} {vs:List (κ × Value)} (r:KV kvs vs) (k:κ):RelO (valV kvs k) (valueAt vs k):=by
 unfold KV at r
 induction r with
 | nil=>exact True.intro
 | @cons p q ps qs h t ih =>
  obtain ⟨h1,h2⟩:=h
  by_cases e:p.1 = k
  ·have e':q.1 = k:=h1.symm.trans e
   have b:valueAt (q :: qs) k = some q.2:=by simp [valueAt,List.find?_cons,e']
   rw [ya e,b]; exact h2
  ·have e':¬ q.1 = k:=fun z=>e (h1.trans z)
   have b:valueAt (q :: qs) k = valueAt qs k:=by simp [valueAt,List.find?_cons,e']
   rw [zZ e,b]; exact ih
theorem KV.any {kvs:List (κ × V)} {vs:List (κ × Value)} (r:KV kvs vs) (k:κ):(kvs.any fun kv=>decide (kv.1 = k)) = vs.any fun kv=>decide (kv.1 = k):=by
 unfold KV at r
 induction r with
 | nil=>rfl
 | cons h t ih=>rw [List.any_cons,List.any_cons,ih,h.1]
theorem KV.repl {kvs:List (κ × V)} {vs:List (κ × Value)} (r:KV kvs vs) (k:κ) {y:V} {u:Value} (ry:RelV y u) :
  KV (kvs.map fun kv=>if kv.1 = k then (kv.1,y) else kv) (vs.map fun kv=>if kv.1 = k then (kv.1,u) else kv):=by
 unfold KV at r ⊢
 induction r with
 | nil=>exact .nil
 | @cons p q ps qs h t ih =>
  rw [List.map_cons,List.map_cons]
  refine .cons ?_ ih
  obtain ⟨h1,h2⟩:=h
  by_cases e:p.1 = k
  ·rw [if_pos e,if_pos (h1.symm.trans e)]; exact ⟨h1,ry⟩
  ·rw [if_neg e,if_neg (fun z=>e (h1.trans z))]; exact ⟨h1,h2⟩
theorem KV.put {kvs:List (κ × V)} {vs:List (κ × Value)} (r:KV kvs vs) (k:κ) {y:V} {u:Value} (ry:RelV y u):KV (putK kvs k y) (stored vs k u):=by
 unfold putK stored
 rw [r.any k]
 by_cases e:(vs.any fun kv=>decide (kv.1 = k)) = true
 ·rw [if_pos e,if_pos e]; exact r.repl k ry
 ·rw [if_neg e,if_neg e]; exact Paired.snoc r ⟨rfl,ry⟩
theorem KV.drop {kvs:List (κ × V)} {vs:List (κ × Value)} (r:KV kvs vs) (k:κ):KV (Tq kvs k) (without vs k):=by
 unfold KV at r ⊢
 unfold Tq without
 induction r with
 | nil=>exact .nil
 | @cons p q ps qs h t ih =>
  obtain ⟨h1,h2⟩:=h
  rw [List.filter_cons,List.filter_cons]
  by_cases e:p.1 = k
  ·have a:¬ decide (p.1 ≠ k) = true:=by simp [e]
   have b:¬ decide (q.1 ≠ k) = true:=by simp [h1.symm.trans e]
   rw [if_neg a,if_neg b]; exact ih
  ·have e':¬ q.1 = k:=fun z=>e (h1.trans z)
   have a:decide (p.1 ≠ k) = true:=by simp [e]
   have b:decide (q.1 ≠ k) = true:=by simp [e']
   rw [if_pos a,if_pos b]; exact .cons ⟨h1,h2⟩ ih
theorem KV.keys {kvs:List (κ × V)} {vs:List (κ × Value)} (r:KV kvs vs):kvs.map (·.1) = vs.map (·.1):=by
 unfold KV at r
 induction r with
 | nil=>rfl
 | cons h t ih=>rw [List.map_cons,List.map_cons,ih,h.1]
theorem KV.length {kvs:List (κ × V)} {vs:List (κ × Value)} (r:KV kvs vs):kvs.length = vs.length:=Paired.length r
end
theorem V5 {P:Program} {w:World} {k:Key} {u:Value} (r:RelV (kV k) u):(z7 P w).is k u = true:=by
 cases k with
 | inl i=>obtain ⟨t,e⟩:=(show ∃ t,u = Value.int i t from r); subst e; exact rU P w i t
 | inr x=>obtain ⟨t,e⟩:=(show ∃ t,u = Value.str x t from r); subst e; exact rV P w x t
theorem rh {P:Program} {w:World}:∀ {ks:List Key} {us:List Value},Vals (ks.map kV) us -> ItemsAre (z7 P w) ks us
 | [],_,r=>by rw [List.map_nil] at r; cases r; exact .nil
 | k :: ks,_,r=>by
  rw [List.map_cons] at r
  cases r with
  | cons h t=>exact .cons (V5 h) (rh t)
abbrev KT (H:Hp):List (List Key × V) -> List (List Key × Addr × Value) -> Prop:=Paired fun p q=>p.1 = q.1 /\ H q.2.1 = some (.tup (p.1.map kV)) /\ RelV p.2 q.2.2
theorem KT.val {H:Hp} {kvs:List (List Key × V)} {xs:List (List Key × Addr × Value)} (r:KT H kvs xs) (k:List Key):RelO (valV kvs k) ((atKey xs k).map (·.2)):=by
 induction r with
 | nil=>exact True.intro
 | @cons p q ps qs h t ih =>
  obtain ⟨h1,_,h2⟩:=h
  by_cases e:p.1 = k
  ·have e':q.1 = k:=h1.symm.trans e
   have b:atKey (q :: qs) k = some q.2:=by simp [atKey,List.find?_cons,e']
   rw [ya e,b]; exact h2
  ·have e':¬ q.1 = k:=fun z=>e (h1.trans z)
   have b:atKey (q :: qs) k = atKey qs k:=by simp [atKey,List.find?_cons,e']
   rw [zZ e,b]; exact ih
theorem KT.repl {H:Hp} {kvs:List (List Key × V)} {xs:List (List Key × Addr × Value)} (r:KT H kvs xs) (k:List Key) {y:V} {u:Value} (ry:RelV y u) :
  KT H (kvs.map fun kv=>if kv.1 = k then (kv.1,y) else kv) (xs.map (putAt k u)):=by
 induction r with
 | nil=>exact .nil
 | @cons p q ps qs h t ih =>
  rw [List.map_cons,List.map_cons]
  refine .cons ?_ ih
  obtain ⟨h1,h2,h3⟩:=h
  unfold putAt
  by_cases e:p.1 = k
  ·rw [if_pos e,if_pos (h1.symm.trans e)]; exact ⟨h1,h2,ry⟩
  ·rw [if_neg e,if_neg (fun z=>e (h1.trans z))]; exact ⟨h1,h2,h3⟩
theorem KT.put {H:Hp} {kvs:List (List Key × V)} {xs:List (List Key × Addr × Value)} (r:KT H kvs xs) (k:List Key) {b:Addr} {y:V} {u:Value} (hb:H b = some (.tup (k.map kV))) (ry:RelV y u) :
  KT H (putK kvs k y) (storedH xs k b u):=by
 have e:(kvs.any fun kv=>decide (kv.1 = k)) = (atKey xs k).isSome:=by
  rw [yX,(r.val k).isSome_eq,Option.isSome_map]
 unfold putK storedH
 rw [e]
 by_cases q:(atKey xs k).isSome = true
 ·rw [if_pos q,if_pos q]; exact r.repl k ry
 ·rw [if_neg q,if_neg q]; exact Paired.snoc r ⟨rfl,hb,ry⟩
theorem KT.keeps {H H':Hp} {kvs:List (List Key × V)} {xs:List (List Key × Addr × Value)} (r:KT H kvs xs) (ht:∀ b ys,H b = some (.tup ys) -> H' b = some (.tup ys)):KT H' kvs xs :=
 Paired.mapP r fun _ _ z=>⟨z.1,ht _ _ z.2.1,z.2.2⟩
section
variable {P:Program} {w:World} {H:Hp} {h:Heap} {a:Addr}
theorem Ts {u:HO} (ok:HOk P w H h) (e:Rd H a u):zP P w H h a u:=e.ok ok
theorem V6 {kvs:List (Key × V)} (ok:HOk P w H h) (e:Rd H a (.dK kvs)):kvs.length <= sizeLine /\ (a == sysModules) = false /\ ∃ vs,KV kvs vs /\ h.DictOf (z7 P w) a vs :=
 show zP P w H h a (.dK kvs) from Ts ok e
theorem SR {kvs:List (Key × V)} (ok:HOk P w H h) (e:H a = some (.dK kvs)):kvs.length <= sizeLine /\ (a == sysModules) = false /\ ∃ vs,KV kvs vs /\ h.DictOf (z7 P w) a vs:=V6 ok (.inl e)
theorem Y3 {ks:List Key} (ok:HOk P w H h) (e:H a = some (.tup (ks.map kV))):(tupleKind (z7 P w)).is h ks a:=by
 obtain ⟨_,its,r,o,h1,h2,n,h3⟩:=(show zP P w H h a (.tup (ks.map kV)) from ok a _ e)
 exact ⟨o,its.toArray,n,h1,h2,h3,by simpa using rh r⟩
theorem V7 {kvs:List (List Key × V)} (ok:HOk P w H h) (e:Rd H a (.dT kvs)):kvs.length <= sizeLine /\ (a == sysModules) = false ∧
  ∃ xs,KT H kvs xs /\ h.DictOfH (tupleKind (z7 P w)) a xs:=by
 obtain ⟨z,y,xs,r,o,es,ep,h1,h2,h3,h4,h5⟩:=(show zP P w H h a (.dT kvs) from Ts ok e)
 refine ⟨z,y,xs,r,o,es,ep,h1,h2,h3,h4,fun x hx=>?_,h5⟩
 have all:∀ {l:List (List Key × V)} {m:List (List Key × Addr × Value)},KT H l m -> ∀ x ∈ m,(tupleKind (z7 P w)).is h x.1 x.2.1:=by
  intro l m q
  induction q with
  | nil=>intro x hx; exact nomatch hx
  | @cons p q ps qs hq t ih =>
   intro x hx
   rcases List.mem_cons.mp hx with e | hx
   ·subst e
    exact Y3 ok (by rw [← hq.1]; exact hq.2.1)
   ·exact ih x hx
 exact all r x hx
theorem SS {kvs:List (List Key × V)} (ok:HOk P w H h) (e:H a = some (.dT kvs)):kvs.length <= sizeLine /\ (a == sysModules) = false ∧
  ∃ xs,KT H kvs xs /\ h.DictOfH (tupleKind (z7 P w)) a xs:=V7 ok (.inl e)
end
def DGet (H:Hp) (a:Addr) (y:V) (r:Option V):Prop :=
 (∃ kvs k,Rd H a (.dK kvs) /\ y = kV k /\ r = valV kvs k) \/ ∃ kvs k b,Rd H a (.dT kvs) /\ y = .ref b /\ H b = some (.tup (k.map kV)) /\ r = valV kvs k
def DPut (H:Hp) (a:Addr) (y v:V) (H':Hp):Prop :=
 (∃ kvs k,H a = some (.dK kvs) /\ y = kV k /\ kvs.length < sizeLine /\ H' = upd H a (.dK (putK kvs k v))) ∨
 ∃ kvs k b,H a = some (.dT kvs) /\ y = .ref b /\ H b = some (.tup (k.map kV)) /\ kvs.length < sizeLine /\ H' = upd H a (.dT (putK kvs k v))
theorem DGet.k {H:Hp} {a:Addr} {kvs:List (Key × V)} {k:Key} (e:H a = some (.dK kvs)):DGet H a (kV k) (valV kvs k):=.inl ⟨kvs,k,.inl e,rfl,rfl⟩
theorem DGet.t {H:Hp} {a b:Addr} {kvs:List (List Key × V)} {k:List Key} (e:H a = some (.dT kvs)) (eb:H b = some (.tup (k.map kV))):DGet H a (.ref b) (valV kvs k):=.inr ⟨kvs,k,b,.inl e,rfl,eb,rfl⟩
theorem DPut.k {H:Hp} {a:Addr} {kvs:List (Key × V)} {k:Key} {v:V} (e:H a = some (.dK kvs)) (hl:kvs.length < sizeLine):DPut H a (kV k) v (upd H a (.dK (putK kvs k v))):=.inl ⟨kvs,k,e,rfl,hl,rfl⟩
theorem DPut.t {H:Hp} {a b:Addr} {kvs:List (List Key × V)} {k:List Key} {v:V} (e:H a = some (.dT kvs)) (eb:H b = some (.tup (k.map kV))) (hl:kvs.length < sizeLine) :
  DPut H a (.ref b) v (upd H a (.dT (putK kvs k v))):=.inr ⟨kvs,k,b,e,rfl,eb,hl,rfl⟩
section
variable {X:Cx} {pins:List (Addr × Obj)} {σ:St} {H:Hp} {s:Shared} {a:Addr} {y v:V} {u r:Value} {o:Option V} {A:Around} {E:VS7}
theorem Inv.big (I:Inv X pins σ H s):sysModules < s.heap.objs.size:=by
 have h:mainGlobals < s.heap.objs.size:=(I.mod.glob.keeps I.bk).lt
 exact Nat.lt_trans (by decide) h
theorem v4 {h':Heap} {t':Nat} {ob:HO} (I:Inv X pins σ H s) (mu:Mut (H a)) (hs:Heap.SameBut a s.heap h') (he:∃ q,h'.get? a = some q) (new:zP X.prog X.w (upd H a ob) h' a ob) :
  Inv X pins σ (upd H a ob) { s with heap:=h',toks:=t' } :=
 I.write (x:=a) (e:=a) mu (.inl rfl) (fun b q hb z=>(hs.2 b hb).trans z) he new
theorem Tt {P:Program} {w:World} {H':Hp} {h':Heap} {kvs:List (Key × V)} {vs:List (Key × Value)} (z:kvs.length <= sizeLine) (hd:(a == sysModules) = false) (rel:KV kvs vs) (dd:h'.DictOf (z7 P w) a vs) :
  zP P w H' h' a (.dK kvs):=⟨z,hd,vs,rel,dd⟩
theorem Y4 {H':Hp} {Q:Unit -> Shared -> Prop} (hu:A.units + 1 < cLine) (I:Inv X pins σ H s) (g:DPut H a y v H') (ry:RelV y u) (rv:RelV v r) (h:∀ s',Inv X pins σ H' s' -> Q () s') :
  wpAny (model X.prog X.w) A (setItem (.ref a) u r) Q E s:=by
 rcases g with ⟨kvs,k,e,ey,l,eH⟩ | ⟨kvs,k,b,e,ey,eb,l,eH⟩
 ·subst ey eH
  obtain ⟨z,hd,vs,rel,dd⟩:=SR I.hok e
  have hz:vs.length <= sizeLine:=by rw [← rel.length]; exact z
  have hl:(putK kvs k v).length <= sizeLine:=by have:=yy kvs k v; omega
  refine wpAny_setItem_pairs (hsz:=hz) (V5 ry) dd fun h' dd' hs=>h _ ?_
  have he:∃ q,h'.get? a = some q:=let ⟨q,_,_,hq,_⟩:=dd'; ⟨q,hq⟩
  exact v4 I (by rw [e]; exact True.intro) hs he (Tt hl hd (rel.put k rv) dd')
 ·subst ey eH
  cases (show u = Value.ref b from ry)
  obtain ⟨z,hd,xs,rel,dd⟩:=SS I.hok e
  have hz:xs.length <= sizeLine:=by rw [← Paired.length rel]; exact z
  have hl:(putK kvs k v).length <= sizeLine:=by have:=yy kvs k v; omega
  refine wpAny_setItem_heap (hsz:=hz) (tupleKind_room_in1 hu) (Y3 I.hok eb) dd fun h' dd' hs=>h _ ?_
  obtain ⟨q,es,ep,hq,h2,h3,h4,_,h5⟩:=dd'
  refine v4 I (by rw [e]; exact True.intro) hs ⟨q,hq⟩ ⟨hl,hd,_,(rel.put k eb rv).keeps fun c ys ec=>?_,q,es,ep,hq,h2,h3,h4,h5⟩
  rw [zv (Sa ec e (fun z=>nomatch z))]
  exact ec
end
def ST (td ty tv:TE):TS:=fun D σ H=>tv σ H fun v H1=>td σ H1 fun x H2=>ty σ H2 fun y H3=>∃ a H4,x = .ref a /\ DPut H3 a y v H4 /\ D.nx σ H4
section
variable {X:Cx} {o i e value:Expr} {pos pos' tpos:Pos} {td ty tv:TE}
theorem Y5 (hu:X.A.units + 1 < cLine) (ho:PE X o td) (hi:PE X i ty) (hv:PE X value tv) (hs:swapsWith value (some (.Subscript o i pos')) pos.line X.env = pure false) :
  PS X (.Assign [.Subscript o i pos'] value pos) (ST td ty tv):=by
 intro pins s σ H D I h
 refine wpAny_Assign_Subscript (thn (hv pins s σ H _ I h) fun r s1 ⟨v,H1,I1,rv,q1⟩=>thn (ho pins s1 σ H1 _ I1 q1) fun u s2 ⟨x,H2,I2,rx,q2⟩=>thn (hi pins s2 σ H2 _ I2 q2) fun iv s3 ⟨y,H3,I3,ry,a,H4,ex,g,q3⟩=>?_) hs
 subst ex
 obtain rfl:u = Value.ref a:=rx
 exact Y4 hu I3 g ry rv fun s4 I4=>⟨σ,H4,I4,q3⟩
end
theorem WE {P:Program} {w:World} {H:Hp} (h:Heap) (hb:sysModules < h.objs.size):zP P w H (h.push { cls:=.type "dict",data:=.dict #[] }) h.objs.size (.dK []) :=
 ⟨Nat.zero_le _,beq_eq_false_iff_ne.mpr (Ne.symm (Nat.ne_of_lt hb)),[],.nil,Heap.DictOf.new h⟩
def Tu:TE:=fun _ H Q=>∀ p,H p = none -> Q (.ref p) (upd H p (.dK []))
section
variable {X:Cx} {pos:Pos}
theorem jA:PE X (.Dict [] [] pos) Tu:=fun pins s σ H Q I h =>
 wpAny_Dict_empty ⟨.ref s.heap.objs.size,_,I.laid (a:=s.heap.objs.size) (o:=.dK []) (t':=s.toks) (fun _ _ q=>Heap.get?_push_of_some _ q) (Nat.le_refl _) (WE s.heap I.big),rfl,h _ (I.hok.fresh (Nat.le_refl _))⟩
end
structure M1 (X:Cx) (o:Expr) (m:Str) (apos:Pos) (e:Expr) (cpos:Pos):Prop where
 base:attributeBase o m X.env (eval o X.env) = eval o X.env
 few:((backTo cpos (starEach [e] X.env)).all (fun x=>!x.1) && (backToKw cpos (keywordEach [] X.env)).all (fun x=>x.1.isSome)
  && decide (([e]:List Expr).length + ([]:List Keyword).length + (if ([]:List Keyword).isEmpty then 0 else 1) < 30)) = true
 line:(apos.endLine == cpos.line) = true
 trees:backTo cpos (starEach [e] X.env) = [(false,eval e X.env)]
structure M2 (X:Cx) (o:Expr) (m:Str) (apos:Pos) (e f:Expr) (cpos:Pos):Prop where
 base:attributeBase o m X.env (eval o X.env) = eval o X.env
 few:((backTo cpos (starEach [e,f] X.env)).all (fun x=>!x.1) && (backToKw cpos (keywordEach [] X.env)).all (fun x=>x.1.isSome)
  && decide (([e,f]:List Expr).length + ([]:List Keyword).length + (if ([]:List Keyword).isEmpty then 0 else 1) < 30)) = true
 line:(apos.endLine == cpos.line) = true
 trees:backTo cpos (starEach [e,f] X.env) = [(false,eval e X.env),(false,eval f X.env)]
def IsD (H:Hp) (a:Addr):Prop:=(∃ kvs,Rd H a (.dK kvs)) \/ ∃ kvs,Rd H a (.dT kvs)
theorem Tv {X:Cx} {pins:List (Addr × Obj)} {σ:St} {H:Hp} {s:Shared} {a:Addr} (I:Inv X pins σ H s) (d:IsD H a) :
  s.TypeIs (.ref a) "dict" /\ (∀ b,Value.ref a = .ref b -> ∃ ob,s.heap.get? b = some ob /\ ob.dict = none) /\ (a == sysModules) = false:=by
 rcases d with ⟨kvs,e⟩ | ⟨kvs,e⟩
 ·obtain ⟨_,hd,vs,_,dd⟩:=V6 I.hok e
  refine ⟨dd.typeIs,fun b q=>?_,hd⟩
  cases q
  obtain ⟨ob,_,_,h1,h2,_⟩:=dd
  exact ⟨ob,h1,h2.2.1⟩
 ·obtain ⟨_,hd,xs,_,dd⟩:=V7 I.hok e
  refine ⟨dd.typeIs,fun b q=>?_,hd⟩
  cases q
  obtain ⟨ob,_,_,h1,h2,_⟩:=dd
  exact ⟨ob,h1,h2.2.1⟩
section
variable {X:Cx} {pins:List (Addr × Obj)} {σ:St} {H:Hp} {s:Shared} {a:Addr} {y d:V} {u r:Value} {o:Option V} {A:Around} {E:VS7}
theorem Tw {Q:VS7} (hu:A.units + 1 < cLine) (I:Inv X pins σ H s) (g:DGet H a y o) (ry:RelV y u) (rd:RelV d r) (h:∀ w' s',Inv X pins σ H s' -> RelV (o.getD d) w' -> Q w' s') :
  wpAny (model X.prog X.w) A (call (.builtin "dict.get") [.ref a,u,r]) Q E s:=by
 rcases g with ⟨kvs,k,e,ey,l⟩ | ⟨kvs,k,b,e,ey,eb,l⟩
 ·subst ey
  obtain ⟨z,hd,vs,rel,dd⟩:=V6 I.hok e
  refine call_meetsIn PySem.F.slot_dict_get dd.typeIs PySem.F.entry_dict_get (PySem.F.args_dict_get_3 _ _ _) (meets_dict_get_default (z7 X.prog X.w) a (V5 ry) hd r) ⟨_,dd.mapOf,h _ _ (I.tok _) ?_⟩
  rw [l]
  exact (rel.val k).getD rd
 ·subst ey
  cases (show u = Value.ref b from ry)
  obtain ⟨z,hd,xs,rel,dd⟩:=V7 I.hok e
  refine call_meetsIn PySem.F.slot_dict_get dd.typeIs PySem.F.entry_dict_get (PySem.F.args_dict_get_3 _ _ _) (meetsH_dict_get_default (tupleKind (z7 X.prog X.w)) a b hd r) ⟨tupleKind_room_in1 hu,k,xs,Y3 I.hok eb,dd,h _ _ (I.tok _) ?_⟩
  rw [l]
  exact (rel.val k).getD rd
end
def Tx (td ty tx:TE):TE:=fun σ H Q=>td σ H fun x H1=>∃ a,x = .ref a /\ IsD H1 a /\ ty σ H1 fun y H2=>tx σ H2 fun z H3=>∃ o,DGet H3 a y o /\ Q (o.getD z) H3
section
variable {X:Cx} {o e f:Expr} {apos cpos:Pos} {td ty tx:TE}
theorem WF (hu:X.A.units + 1 < cLine) (ho:PE X o td) (he:PE X e ty) (hf:PE X f tx) (m:M2 X o "get" apos e f cpos):PE X (.Call (.Attribute o "get" apos) [e,f] [] cpos) (Tx td ty tx):=by
 intro pins s σ H Q I h
 refine wpAny_Call_method m.base m.few m.line PySem.F.plainAttrs_dict PySem.F.slot_dict_get PySem.F.type_dict_get (thn (ho pins s σ H _ I h) fun u s1 ⟨x,H1,I1,rx,a,ex,d,q1⟩=>?_)
 subst ex
 obtain rfl:u = Value.ref a:=rx
 obtain ⟨t1,t2,_⟩:=Tv I1 d
 refine ⟨t1,t2,?_⟩
 rw [m.trees]
 refine Calls.callWith_builtin rfl (Calls.evalArgs_plain (Calls.spliced_cons (thn (he pins s1 σ H1 _ I1 q1) fun iv s2 ⟨y,H2,I2,ry,q2⟩ =>
  Calls.spliced_cons (thn (hf pins s2 σ H2 _ I2 q2) fun fv s3 ⟨z,H3,I3,rz,ov,g,q3⟩=>Calls.spliced_nil ?_))))
 exact Tw hu I3 g ry rz fun w' s4 I4 rw'=>⟨_,H3,I4,rw',q3⟩
end
end L2
namespace Att
open PySem PySem.W PySem.Calls PyProof.Rows
end Att
namespace L2
open PySem PySem.Spec PyProof.Rows
section
variable {κ:Type} [DecidableEq κ]
theorem WG {kvs:List (κ × V)} {k:κ} (h:valV kvs k = none):¬ k ∈ kvs.map (·.1):=by
 intro m
 obtain ⟨p,hp,e⟩:=List.mem_map.mp m
 have q:(kvs.any fun kv=>decide (kv.1 = k)) = true:=List.any_eq_true.mpr ⟨p,hp,decide_eq_true e⟩
 rw [yX,h] at q
 exact absurd q (by simp)
theorem Y6:∀ {l:List κ} {k:κ},l.Nodup -> ¬ k ∈ l -> (l ++ [k]).Nodup
 | [],k,_,_=>by simp
 | a :: r,k,h,hk=>by
  obtain ⟨h1,h2⟩:=List.nodup_cons.mp h
  show (a :: (r ++ [k])).Nodup
  refine List.nodup_cons.mpr ⟨fun m=>?_,Y6 h2 fun m=>hk (List.mem_cons.mpr (Or.inr m))⟩
  rcases List.mem_append.mp m with q | q
  ·exact h1 q
  ·exact hk (List.mem_cons.mpr (Or.inl (List.mem_singleton.mp q).symm))
theorem V8 {kvs:List (κ × V)} {k:κ} (v:V) (hn:(kvs.map (·.1)).Nodup) (h:valV kvs k = none):((putK kvs k v).map (·.1)).Nodup:=by
 rw [jz v h,List.map_append]
 exact Y6 hn (WG h)
end
end L2
namespace L3
open PySem PySem.Spec PyProof.Rows L2
open PySem PySem.Spec PyProof.Rows L2 PySem.W
def yT (es:Array DictEntry) (d:Addr) (ep:Nat) (h:Heap):Prop:=∃ o,h.get? d = some o /\ o.ExactDict /\ o.data = .dict es ep
section
variable {prog:Program} {w:World} {A:Around} {E:VS7} {s:Shared} {es:Array DictEntry} {d it:Addr} {ep i:Nat}
theorem yT.typeIs (h:yT es d ep s.heap):s.TypeIs (.ref d) "dict":=let ⟨o,ho,hc,_⟩:=h; ⟨o,ho,hc.1⟩
theorem yT.keep {h h':Heap} (x:yT es d ep h) (e:∀ o,h.get? d = some o -> h'.get? d = some o):yT es d ep h':=let ⟨o,ho,r⟩:=x; ⟨o,e o ho,r⟩
theorem WH {Q:VS7} (hd:(d == sysModules) = false) (hm:yT es d ep s.heap)
  (hQ:Q (.ref s.heap.objs.size) { s with heap:=s.heap.push { cls:=.type "dict_keyiterator",data:=.fields #[.ref d,.int 0 0,.int es.size 0,.int ep 0] } }) :
  wpAny (model prog w) A (pyIter (.ref d)) Q E s:=by
 obtain ⟨o,ho,hc,hdat⟩:=id hm
 have hT:s.TypeIs (.ref d) "dict":=hm.typeIs
 refine wpAny_pyIter_slot hT PySem.F.slot_dict_iter (wpAny_call_entry PySem.F.slot_dict_iter hT PySem.F.entry_dict_iter ?_ (PySem.F.args_dict_iter_1 _))
 unfold Builtin.«dict.__iter__»
 refine wpAny_bind ?_
 unfold Builtin.Dict.dictSlotNone
 refine wpAny_bind (wpAny_notOrdered_dict hT ?_)
 show wpAny _ _ (pure (Value.ref d)) _ _ s
 refine wpAny_pure ?_
 show wpAny _ _ (Builtin.Dict.showsAll d >>= _) _ _ s
 unfold Builtin.Dict.showsAll
 rw [if_neg (by rw [hd]; exact Bool.false_ne_true)]
 refine wpAny_bind (wpAny_pure ?_)
 refine wpAny_bind (wpAny_dictEntries ho hdat ?_)
 refine wpAny_bind (wpAny_dictEpoch ho hdat ?_)
 refine wpAny_bind (wpAny_newObj_type (wpAny_pure ⟨_,rfl,"dict_keyiterator",_,⟨_,Heap.get?_push_size _ rfl,rfl⟩,PySem.F.slot_dict_keyiterator_next.lookup,?_⟩))
 simpa [rawInt] using hQ
theorem WI {Q:Option Value -> Shared -> Prop} (hit:s.heap.IsKeyIter it d i es.size ep) (hm:yT es d ep s.heap) (hlt:i < es.size)
  (hQ:∀ h',h'.IsKeyIter it d (i + 1) es.size ep -> Heap.SameBut it s.heap h' -> Q (some es[i].key) { s with heap:=h' }) :
  wpAny (model prog w) A (pyNext (.ref it)) Q E s:=by
 obtain ⟨o,ho,hc,hd⟩:=id hit
 obtain ⟨od,hod,hcd,hdd⟩:=id hm
 unfold pyNext
 refine wpAny_bind (wpAny_attempt (wpAny_callSpecial?_slot (name:=Str.ofString "__next__") hit.typeIs PySem.F.slot_dict_keyiterator_next
  (wpAny_call_entry PySem.F.slot_dict_keyiterator_next hit.typeIs PySem.F.entry_dict_keyiterator_next ?_ (PySem.F.args_dict_keyiterator_next_1 _))))
 refine wpAny_bind (wpAny_pure ?_)
 refine wpAny_bind ?_
 refine wpAny_bind ?_
 first | refine wpAny_bind (wpAny_typeNameOfWhole_keyiter hit.typeIs (wpAny_pure ?_)) | refine wpAny_bind (wpAny_typeNameOf_keyiter hit.typeIs (wpAny_pure ?_))
 refine wpAny_bind (wpAny_fieldsOf ho hd ?_)
 have hown:Builtin.Dict_items.ownsTuple "dict_keyiterator" = false:=by decide
 simp only [hown,Bool.false_eq_true,if_false]
 show wpAny _ _ (if (Value.ref d == Value.none) = true then _ else _) _ _ s
 rw [if_neg (show ¬ ((Value.ref d == Value.none) = true) from Bool.false_ne_true)]
 refine wpAny_bind (wpAny_pure ?_)
 refine wpAny_bind (wpAny_dictEntries hod hdd ?_)
 rw [if_neg (by simp)]
 refine wpAny_bind (wpAny_pure ?_)
 refine wpAny_bind (wpAny_dictEpoch hod hdd ?_)
 rw [if_neg (by simp)]
 refine wpAny_pure ?_
 simp only [show ¬ ((i:Int) < 0) from by omega,if_false,Int.toNat_natCast,Array.getElem?_eq_getElem hlt]
 refine wpAny_bind ?_
 first | refine wpAny_bind (wpAny_typeNameOfWhole_keyiter hit.typeIs (wpAny_pure ?_)) | refine wpAny_bind (wpAny_typeNameOf_keyiter hit.typeIs (wpAny_pure ?_))
 refine wpAny_bind (wpAny_isOneOf_keyiter hit.typeIs ?_)
 show wpAny _ _ (setField (.ref it) 1 (rawInt ((i:Int) + 1)) >>= _) _ _ s
 refine wpAny_bind (wpAny_setField ho hd (by simp) ?_)
 have hit':(s.heap.update it (Obj.mapFields (·.setIfInBounds 1 (rawInt ((i:Int) + 1))))).IsKeyIter it d (i + 1) es.size ep :=
  ⟨_,Heap.get?_update_self _ ho (Obj.isFreed_of_fields (Obj.data_mapFields hd _)),(Obj.cls_mapFields ..).trans hc,by rw [Obj.data_mapFields hd]; simp [rawInt]⟩
 refine wpAny_bind (wpAny_holding ?_)
 refine wpAny_bind (wpAny_isOneOf_keyiter (s:={ s with heap:=s.heap.update it (Obj.mapFields (·.setIfInBounds 1 (rawInt ((i:Int) + 1)))) }) hit'.typeIs ?_)
 show wpAny _ _ (pure es[i].key) _ _ _
 exact wpAny_pure (wpAny_pure ⟨_,rfl,wpAny_pure (hQ _ hit' (Heap.SameBut.update ..))⟩)
theorem V9 {Q:Option Value -> Shared -> Prop} (hh:A.handled = none) (hit:s.heap.IsKeyIter it d es.size es.size ep) (hm:yT es d ep s.heap)
  (hQ:∀ h',Heap.ExtBut it s.heap h' -> Q none { s with heap:=h' }):wpAny (model prog w) A (pyNext (.ref it)) Q E s:=by
 obtain ⟨o,ho,hc,hd⟩:=id hit
 obtain ⟨od,hod,hcd,hdd⟩:=id hm
 unfold pyNext
 refine wpAny_bind (wpAny_attempt (wpAny_callSpecial?_slot (name:=Str.ofString "__next__") hit.typeIs PySem.F.slot_dict_keyiterator_next
  (wpAny_call_entry PySem.F.slot_dict_keyiterator_next hit.typeIs PySem.F.entry_dict_keyiterator_next ?_ (PySem.F.args_dict_keyiterator_next_1 _))))
 refine wpAny_bind (wpAny_pure ?_)
 refine wpAny_bind ?_
 refine wpAny_bind ?_
 first | refine wpAny_bind (wpAny_typeNameOfWhole_keyiter hit.typeIs (wpAny_pure ?_)) | refine wpAny_bind (wpAny_typeNameOf_keyiter hit.typeIs (wpAny_pure ?_))
 refine wpAny_bind (wpAny_fieldsOf ho hd ?_)
 have hown:Builtin.Dict_items.ownsTuple "dict_keyiterator" = false:=by decide
 simp only [hown,Bool.false_eq_true,if_false]
 show wpAny _ _ (if (Value.ref d == Value.none) = true then _ else _) _ _ s
 rw [if_neg (show ¬ ((Value.ref d == Value.none) = true) from Bool.false_ne_true)]
 refine wpAny_bind (wpAny_pure ?_)
 refine wpAny_bind (wpAny_dictEntries hod hdd ?_)
 rw [if_neg (by simp)]
 refine wpAny_bind (wpAny_pure ?_)
 refine wpAny_bind (wpAny_dictEpoch hod hdd ?_)
 rw [if_neg (by simp)]
 refine wpAny_pure ?_
 simp only [show ¬ ((es.size:Int) < 0) from by omega,if_false,Int.toNat_natCast,Array.getElem?_eq_none (Nat.le_refl es.size)]
 refine wpAny_bind ?_
 first | refine wpAny_bind (wpAny_typeNameOfWhole_keyiter hit.typeIs (wpAny_pure ?_)) | refine wpAny_bind (wpAny_typeNameOf_keyiter hit.typeIs (wpAny_pure ?_))
 show wpAny _ _ (setField (.ref it) 0 .none >>= _) _ _ s
 refine wpAny_bind (wpAny_setField ho hd (by simp) ?_)
 show wpAny _ _ (newExc (.type "StopIteration") [] >>= _) _ _ _
 refine wpAny_bind ?_
 simp only [newExc,newTuple]
 refine wpAny_bind (wpAny_newObj_type ?_ (by size_fits))
 refine wpAny_bind (m:=firstArgMember _ _) (wpAny_of_eq (a:=Value.none) (by first | rfl | (simp only [firstArgMember]; rfl)) ?_)
 refine wpAny_newObj_type ?_ (by size_fits)
 simp only [raiseNew]
 refine wpAny_bind (wpAny_handled ?_)
 rw [show A.in1.handled = none from hh]
 refine wpAny_bind (wpAny_pure (wpAny_throw ?_))
 refine wpAny_bind (wpAny_isInstance (T:="StopIteration") (b:=true) ⟨_,Heap.get?_push_size _ rfl,rfl⟩ isSubtype_stop ?_)
 exact wpAny_pure (hQ _ (((Heap.SameBut.update ..).extBut.push _).push _))
end
def yF (a b:List Int):List Int:=a.map fun i=>b.getD i.toNat 0
theorem Y7 {a b:List Int}:(yF a b).length = a.length:=by unfold yF; rw [List.length_map]
theorem Y8 {S:Nat} {a b:List Int} (ha:Rng S a) (hb:Rng S b) (hl:b.length = S):Rng S (yF a b):=by
 intro x hx
 obtain ⟨i,hi,rfl⟩:=List.mem_map.mp hx
 have h1:=ha i hi
 have h2:i.toNat < b.length:=by omega
 refine hb _ ?_
 rw [List.getD_eq_getElem?_getD,List.getElem?_eq_getElem h2,Option.getD_some]
 exact List.getElem_mem h2
def Y9 (tab:List (List Int)) (i j:Int):Int:=(tab.getD i.toNat []).getD j.toNat 0
def misT (tab:List (List Int)) (i j l:Nat):Prop:=Y9 tab (Y9 tab i j) l ≠ Y9 tab i (Y9 tab j l)
def uO (tab:List (List Int)) (i j l:Nat):Prop:=(i < tab.length /\ j < tab.length /\ l < tab.length) /\ misT tab i j l ∧
 ∀ i' j' l':Nat,i' < tab.length -> j' < tab.length -> l' < tab.length -> (i' < i \/ (i' = i /\ (j' < j \/ (j' = j /\ l' < l)))) -> ¬ misT tab i' j' l'
theorem uO.eq {tab:List (List Int)} {i j l i' j' l':Nat} (a:uO tab i j l) (b:uO tab i' j' l'):i = i' /\ j = j' /\ l = l':=by
 have h1:¬ (i' < i \/ (i' = i /\ (j' < j \/ (j' = j /\ l' < l)))):=fun z=>a.2.2 i' j' l' b.1.1 b.1.2.1 b.1.2.2 z b.2.1
 have h2:¬ (i < i' \/ (i = i' /\ (j < j' \/ (j = j' /\ l < l')))):=fun z=>b.2.2 i j l a.1.1 a.1.2.1 a.1.2.2 z a.2.1
 omega
def Zv (K:FG7) (H:Hp) (tab:List (List Int)) (y:V):Prop :=
 (y = .non /\ ∀ i j l:Nat,i < tab.length -> j < tab.length -> l < tab.length -> ¬ misT tab i j l) \/ ∃ i j l:Nat,uO tab i j l /\ zr K H y [(i:Int),(j:Int),(l:Int)]
def FamD (H:Hp) (x:V) (fam:List (List Int)):Prop:=∃ l kvs,x = .ref l /\ H l = some (.dT kvs) /\ kvs.map (·.1) = fam.map (List.map Sum.inl)
def brkD:Option (Nat × Nat × Nat) -> PyData
 | none=>.none
 | some t=>Ze [(t.1:Int),(t.2.1:Int),(t.2.2:Int)]
def BrkO (tab:List (List Int)):Option (Nat × Nat × Nat) -> Prop
 | none=>∀ i j l:Nat,i < tab.length -> j < tab.length -> l < tab.length -> ¬ misT tab i j l
 | some t=>uO tab t.1 t.2.1 t.2.2
theorem BrkO.eq {tab:List (List Int)} {o o':Option (Nat × Nat × Nat)} (a:BrkO tab o) (b:BrkO tab o'):o = o':=by
 cases o with
 | none=>cases o' with
  | none=>rfl
  | some t=>exact absurd b.2.1 (a _ _ _ b.1.1 b.1.2.1 b.1.2.2)
 | some t=>cases o' with
  | none=>exact absurd a.2.1 (b _ _ _ a.1.1 a.1.2.1 a.1.2.2)
  | some t' =>
   obtain ⟨i,j,l⟩:=t
   obtain ⟨i',j',l'⟩:=t'
   obtain ⟨e1,e2,e3⟩:=uO.eq a b
   rw [show i = i' from e1,show j = j' from e2,show l = l' from e3]
theorem Zv.o {K:FG7} {H:Hp} {tab:List (List Int)} {y:V} (h:Zv K H tab y):∃ o,BrkO tab o /\ Dat K H y (brkD o) /\ ((o = none /\ y = .non) \/ ∃ a,y = .ref a):=by
 rcases h with ⟨rfl,h⟩ | ⟨i,j,l,h,hb⟩
 ·exact ⟨none,h,.non,.inl ⟨rfl,rfl⟩⟩
 ·exact ⟨some (i,j,l),h,hb.dat,.inr (let ⟨a,e,_⟩:=hb; ⟨a,e⟩)⟩
theorem Zv.grow {K:FG7} {m:List Addr} {H H':Hp} {tab:List (List Int)} {y:V} (h:Zv K H tab y) (g:Grow m H H'):Zv K H' tab y:=by
 rcases h with h | ⟨i,j,l,h,hb⟩
 ·exact .inl h
 ·exact .inr ⟨i,j,l,h,g.board hb⟩
def TabG (K:FG7) (H:Hp) (y:V) (tab:List (List Int)):Prop:=wS K H y tab /\ 1 <= tab.length /\ tab.length <= 60 /\ Wo tab.length tab.length tab
def qr (K:FG7) (H:Hp) (z:V):Prop:=∃ t y1 y2 tab,z = .ref t /\ SqT K H t [y1,y2] /\ TabG K H y1 tab /\ Zv K H tab y2
theorem qr.grow {K:FG7} {m:List Addr} {H H':Hp} {z:V} (h:qr K H z) (g:Grow m H H'):qr K H' z:=by
 obtain ⟨t,y1,y2,tab,e,h1,⟨h2,h3⟩,h4⟩:=h
 exact ⟨t,y1,y2,tab,e,g.sqT h1,⟨g.rows h2,h3⟩,h4.grow g⟩
open PySem PySem.Spec PyProof.Rows L2 HT
section
variable {prog:Program} {w:World} {A:Around} {E:VS7} {s:Shared}
theorem tT {Q:List Value -> Shared -> Prop} {r:Addr} {a b c:Int} {t u v:Tok} {n:Nat} (hh:A.handled = none) (hr:IsRange s.heap r a b c t u v) (hsmall:Builtin.Range.small a b c = true)
  (hn:Builtin.Range.rangeSize a b c = n) (hlen:n <= 2 ^ 24)
  (hQ:∀ (h':Heap) tk acc',(∀ b o,s.heap.get? b = some o -> h'.get? b = some o) -> ItemsOf (fun i v=>∃ t,v = .int (a + i * c) t) acc' n -> Q acc'.toList { s with heap:=h',toks:=tk }) :
  wpAny (model prog w) A (collect (.ref r)) Q E s:=by
 unfold collect
 refine wpAny_bind (wpAny_runValue (codeAny_builtin F.entry_proto_collect ?_))
 rw [Around.under_plainId F.plain_proto_collect _]
 show wpAny _ A.in1 (newList [] >>= fun l=>again (.builtin "list.__iadd__" ⟨[l,.ref r],[]⟩)) _ _ s
 refine wpAny_bind (wpAny_newObj_type ?_)
 refine wpAny_pure ⟨plainId_quiet F.plain_list_iadd _,codeAny_builtin F.entry_list_iadd ?_⟩
 rw [Around.under_plainId F.plain_list_iadd _]
 show wpAny _ A.in1 (Builtin.List.listExtendWith (.ref s.heap.objs.size) (.ref r) (.ref s.heap.objs.size)) _ _ _
 have hS:(s.heap.push { cls:=.type "list",data:=.seq ([]:List Value).toArray }).get? s.heap.objs.size = some { cls:=.type "list",data:=.seq ([]:List Value).toArray }:=Heap.get?_push_size _ rfl
 have hr':IsRange (s.heap.push { cls:=.type "list",data:=.seq ([]:List Value).toArray }) r a b c t u v:=Heap.get?_push_of_some _ hr
 have fin:∀ (h':Heap) tk acc' c',(∀ b o,s.heap.get? b = some o -> h'.get? b = some o) -> h'.get? s.heap.objs.size = some { cls:=.type "list",dict:=none,data:=.seq acc' c',slots:=#[] } -> ItemsOf (fun i v=>∃ t,v = .int (a + i * c) t) acc' n →
   wpAny (model prog w) A (load s.heap.objs.size >>= fun o=>match o.data with | .seq xs _=>pure xs.toList | _=>unsupported "internal:collect") Q E { s with heap:=h',toks:=tk }:=fun h' tk acc' c' hk hS' hacc =>
  wpAny_bind (wpAny_load hS' (wpAny_pure (hQ h' tk acc' hk hacc)))
 refine wpAny_mono (wpAny_extend_range (R:=fun r' s'=>∃ (h':Heap) (tk:Nat) (acc':Array Value) (c':Nat),r' = .ok (.ret (.ref s.heap.objs.size)) /\ s' = { s with heap:=h',toks:=tk } /\ (∀ b o,s.heap.get? b = some o -> h'.get? b = some o) /\ h'.get? s.heap.objs.size = some { cls:=.type "list",dict:=none,data:=.seq acc' c',slots:=#[] } /\ ItemsOf (fun i v=>∃ t,v = .int (a + i * c) t) acc' n) (s:={ s with heap:=s.heap.push { cls:=.type "list",data:=.seq ([]:List Value).toArray } }) (A:=A) hh hr' hsmall hn hlen s.heap.objs.size _ _ hS fun h' tk acc' c' hk hS hacc =>
  ⟨h',tk,acc',c',rfl,rfl,fun b o e=>hk b o (Nat.ne_of_lt (Heap.lt_size e)) (Heap.get?_push_of_some _ e),hS,hacc⟩) (fun fn s' h=>?_) (fun e s' h=>?_)
 ·cases fn with
  | done f =>
   obtain ⟨h',tk,acc',c',e,rfl,hf,hl,hS'⟩:=h
   cases e
   exact fin h' tk acc' c' hf hl hS'
  | again c =>
   refine ⟨h.1,codeAny_mono h.2 fun r s'' hr=>?_⟩
   obtain ⟨h',tk,acc',c',e,rfl,hf,hl,hS'⟩:=hr
   subst e
   exact fin h' tk acc' c' hf hl hS'
 ·obtain ⟨h',tk,acc',c',e,_⟩:=h
  cases e
theorem w6 {Q:VS7} {r:Addr} {a b c:Int} {t u v:Tok} {n:Nat} (hh:A.handled = none) (hr:IsRange s.heap r a b c t u v) (hsmall:Builtin.Range.small a b c = true)
  (hn:Builtin.Range.rangeSize a b c = n) (hlen:n <= 2 ^ 24) (hsz:n <= sizeLine)
  (hQ:∀ (h':Heap) tk acc',(∀ b o,s.heap.get? b = some o -> h'.get? b = some o) -> ItemsOf (fun i v=>∃ t,v = .int (a + i * c) t) acc' n -> Q (.ref h'.objs.size) { s with heap:=h'.push { cls:=.type "tuple",data:=.seq acc' },toks:=tk }) :
  wpAny (model prog w) A (call (.type "tuple") [.ref r]) Q E s:=by
 refine callType_codes (Q₁:=fun obj s₁=>s₁.TypeIs obj "tuple" /\ Q obj s₁) F.called_tuple (F.typeCall_tuple_1 _) F.entry_object_init ?_ fun obj s₁ h₁=>?_
 ·refine codeAny_of_tree ?_
  show wpAny _ A.in1.in1 (do checkBuiltinCall "tuple.__new__" ⟨[.type "tuple",.ref r],[]⟩; again (.builtin "tuple.__new__" ⟨[.type "tuple",.ref r],[]⟩)) _ _ s
  refine wpAny_bind (wpAny_of_eq (F.newCall_tuple_1 _) (wpAny_pure ⟨plainId_quiet F.plain_tuple_new _,codeAny_builtin F.entry_tuple_new ?_⟩))
  rw [Around.under_plainId F.plain_tuple_new _]
  have hsub:=sub_tuple_self
  have hinit:=init_tuple_lookup
  have hmh:=madeHere_tuple
  have hTI:s.TypeIs (.ref r) "range":=⟨_,hr,rfl⟩
  wp_walk using wpAny_typeOf hTI,tT (A:=A.in1.in1) hh hr hsmall hn hlen
  intro h' tk acc hf hacc
  show wpAny _ _ (Builtin.Tuple.tupleExact acc.toList.toArray >>= fun v=>ret v) _ _ _
  unfold Builtin.Tuple.tupleExact
  refine wpAny_bind (wpAny_newObj_type ?_ (by show acc.toList.toArray.size <= sizeLine; simp only [Array.toArray_toList]; rw [hacc.1]; exact hsz))
  refine wpAny_pure ⟨⟨_,Heap.get?_push_size _ rfl,rfl⟩,?_⟩
  have e:acc.toList.toArray = acc:=by simp
  rw [e]
  exact hQ h' tk acc hf hacc
 ·exact ⟨h₁.1,F.args_object_init_2 obj _,object_init_meets F.called_tuple.init.lookup F.called_tuple.made (by decide) prog w A.in1 _ s₁ ⟨h₁.1,rfl,h₁.2⟩⟩
end
theorem Zw:∀ (m:Nat) (l:List Value) (j:Nat),l.length = m -> (∀ i v,l[i]? = some v -> ∃ t,v = Value.int ((j + i:Nat):Int) t) -> Vals ((List.range' j m).map fun i:Nat=>V.int i) l:=by
 intro m
 induction m with
 | zero =>
  intro l j hl _
  rw [List.length_eq_zero_iff.mp hl]
  exact .nil
 | succ m ih =>
  intro l j hl hv
  match l,hl,hv with
  | x :: l,hl,hv =>
   refine .cons ?_ (ih l (j + 1) (by simpa using hl) fun i v h=>?_)
   ·obtain ⟨t,e⟩:=hv 0 x rfl
    exact ⟨t,e⟩
   ·obtain ⟨t,e⟩:=hv (i + 1) v (by simpa using h)
    exact ⟨t,by rw [e,show j + (i + 1) = j + 1 + i by omega]⟩
section
variable {X:Cx} {a:Expr} {ta:TA} {p p2 pos pos2:Pos}
def SU (ta:TA):TE:=fun σ H Q=>ta σ H fun vs H1=>∃ n:Nat,vs = [.int n] /\ n <= 1000 /\ ∀ l,H1 l = none -> Q (.ref l) (upd H1 l (.tup ((List.range n).map fun i:Nat=>V.int i)))
theorem v7 (hc:X.calm = true) (hgl:Gl X "tuple") (hml:X.mg "tuple" = none) (hgr:Gl X "range") (hmr:X.mg "range" = none) (ha:PA X [a] ta)
  (hs:starEach [a] X.env = [(false,eval a X.env)]:=by rfl) (hs2:starEach [(.Call (.Name "range" p2) [a] [] pos2:Expr)] X.env = [(false,eval (.Call (.Name "range" p2) [a] [] pos2) X.env)]:=by rfl) :
  PE X (.Call (.Name "tuple" p) [.Call (.Name "range" p2) [a] [] pos2] [] pos) (SU ta):=by
 intro pins s σ H Q I h
 refine wpAny_Call_Name_kw (xO I hgl hml ye (PyProof.Rows.callWith_type1 ?_ hs2 rfl))
 rw [hs2]
 show wpAny _ _ (spliced [(false,eval (.Call (.Name "range" p2) [a] [] pos2) X.env)]) _ _ s
 refine Calls.spliced_cons ?_
 refine Call_ (xO I hgr hmr boot_range (PyProof.Rows.callWith_type1 (thn (ha pos2 pins s σ H _ I h) fun us s1 ⟨vs,H1,I1,r1,q1⟩=>?_) hs rfl))
 obtain ⟨n,e,hn,q⟩:=q1
 subst e
 obtain ⟨u,rfl,e1⟩:=wa r1
 obtain ⟨t,rfl⟩:=e1
 refine call_range_1 (Calls.spliced_nil ?_)
 have I2:Inv X pins σ H1 { s1 with heap:=s1.heap.push { cls:=.type "range",data:=.fields #[.int 0 s1.toks,.int n t,.int 1 (s1.toks + 1)] },toks:=s1.toks + 1 + 1 }:=I1.kept fun b o e=>Heap.get?_push_of_some _ e
 refine w6 (n:=n) (I.ok.hd hc) (IsRange.new ..) (small_one (by omega) (by omega) (by omega) (by omega)) (by rw [rangeSize_one]; split <;> omega) (by omega) (Nat.le_of_lt (xz hn)) fun h' tk acc hk hacc=>?_
 have hvr:Vals ((List.range n).map fun i:Nat=>V.int i) acc.toList:=by
  have hlen:acc.toList.length = n:=by rw [Array.length_toList]; exact hacc.1
  rw [List.range_eq_range']
  refine Zw n acc.toList 0 hlen fun i v h=>?_
  obtain ⟨t,e⟩:=hacc.2 i v (by rw [← h]; exact (Array.getElem?_toList).symm)
  exact ⟨t,by rw [e]; congr 1; omega⟩
 have I3:Inv X pins σ H1 { s1 with heap:=h',toks:=tk }:=I2.kept (t':=tk) hk
 refine ⟨.ref h'.objs.size,_,I3.laid (t':=tk) (o:=.tup ((List.range n).map fun i:Nat=>V.int i)) (fun b o e=>Heap.get?_push_of_some _ e) (Nat.le_refl _) ⟨by rw [List.length_map,List.length_range]; exact Nat.le_of_lt (xz hn),acc.toList,hvr,by simpa using IsTup.new _ _⟩,rfl,q _ (I3.hok.fresh (Nat.le_refl _))⟩
end
theorem nd1 {α:Type} {a:α}:[a].Nodup:=List.nodup_cons.mpr ⟨(fun z=>nomatch z),List.nodup_nil⟩
def idL (S:Nat):List Int:=(List.range S).map fun i:Nat=>(i:Int)
abbrev FW:=List (List Int × List Int)
def zO (f:FW):List (List Int):=f.map (·.1)
def yH (f:FW) (d:List Int):Option (List Int):=(f.find? fun p=>decide (p.1 = d)).map (·.2)
theorem v8 {d:List Int}:∀ {f:FW},d ∈ zO f -> ∃ w,yH f d = some w
 | [],h=>by cases h
 | p :: f,h=>by
  by_cases e:p.1 = d
  ·exact ⟨p.2,by simp [yH,List.find?_cons,e]⟩
  ·have:d ∈ zO f:=by
    rcases List.mem_cons.mp h with h | h
    ·exact absurd h.symm e
    ·exact h
   obtain ⟨w,hw⟩:=v8 this
   exact ⟨w,by simpa [yH,List.find?_cons,e] using hw⟩
theorem rj {d w:List Int}:∀ {f:FW},yH f d = some w -> (d,w) ∈ f
 | [],h=>by cases h
 | p :: f,h=>by
  by_cases e:p.1 = d
  ·have h':p.2 = w:=by simpa [yH,List.find?_cons,e] using h
   exact List.mem_cons.mpr (.inl (by rw [← e,← h']))
  ·exact List.mem_cons.mpr (.inr (rj (by simpa [yH,List.find?_cons,e] using h)))
theorem Zx {f:FW} {d w:List Int} (h:yH f d = some w):d ∈ zO f:=List.mem_map.mpr ⟨_,rj h,rfl⟩
theorem qt {f:FW} {d:List Int} (h:¬ (yH f d).isSome = true):d ∉ zO f:=fun z=>by
 obtain ⟨w,hw⟩:=v8 z
 rw [hw] at h; exact h rfl
def qu (d:List Int) (fm:FW × List (List Int)) (n:Nat) (m:List Int):FW × List (List Int) :=
 if (yH fm.1 (yF d m)).isSome = true then fm else (fm.1 ++ [(yF d m,(yH fm.1 d).getD [] ++ [(n:Int)])],fm.2 ++ [yF d m])
def fRow (ms:List (List Int)) (d:List Int):Nat -> FW × List (List Int) -> FW × List (List Int)
 | 0,fm=>fm
 | i + 1,fm=>qu d (fRow ms d i fm) i (ms.getD i [])
def uq (ms last:List (List Int)):Nat -> FW × List (List Int) -> FW × List (List Int)
 | 0,fm=>fm
 | j + 1,fm=>fRow ms (last.getD j []) ms.length (uq ms last j fm)
inductive FamR (ms:List (List Int)):FW -> List (List Int) -> FW -> Prop
 | done {f:FW} {last:List (List Int)}:last = [] \/ 60 < f.length -> FamR ms f last f
 | step {f r:FW} {last:List (List Int)}:last ≠ [] -> f.length <= 60 -> FamR ms (uq ms last last.length (f,[])).1 (uq ms last last.length (f,[])).2 r -> FamR ms f last r
theorem FamR.eq {ms:List (List Int)} {f r:FW} {last:List (List Int)} (a:FamR ms f last r):∀ {r'},FamR ms f last r' -> r = r':=by
 induction a with
 | done h =>
  intro r' b
  cases b with
  | done _=>rfl
  | step h1 h2 _ =>
   rcases h with h | h
   ·exact absurd h h1
   ·omega
 | step h1 h2 _ ih =>
  intro r' b
  cases b with
  | done h =>
   rcases h with h | h
   ·exact absurd h h1
   ·omega
  | step _ _ c=>exact ih c
inductive Word (ms:List (List Int)) (S:Nat):List Int -> Prop
 | id:Word ms S (idL S)
 | more {d m:List Int}:Word ms S d -> m ∈ ms -> Word ms S (yF d m)
def Mks (ms:List (List Int)) (S:Nat):Prop:=∀ m ∈ ms,m.length = S /\ Rng S m
def Dd (S:Nat) (d:List Int):Prop:=d.length = S /\ Rng S d
theorem Ty (S:Nat):Dd S (idL S):=by
 refine ⟨by unfold idL; rw [List.length_map,List.length_range],fun v hv=>?_⟩
 obtain ⟨i,hi,rfl⟩:=List.mem_map.mp hv
 have:=List.mem_range.mp hi
 omega
theorem WJ {S:Nat} {a b:List Int} (ha:Dd S a) (hb:Dd S b):Dd S (yF a b):=⟨Y7.trans ha.1,Y8 ha.2 hb.2 hb.1⟩
theorem Word.dd {ms:List (List Int)} {S:Nat} (hm:Mks ms S) {d:List Int} (h:Word ms S d):Dd S d:=by
 induction h with
 | id=>exact Ty S
 | more _ h ih=>exact WJ ih (hm _ h)
theorem Ua {S:Nat} {i:Int} (h0:0 <= i) (h1:i < S):(idL S).getD i.toNat 0 = i:=by
 have:i.toNat < S:=by omega
 unfold idL
 rw [List.getD_eq_getElem?_getD,List.getElem?_map,List.getElem?_range this]
 show ((i.toNat:Nat):Int) = i
 omega
theorem WK {S:Nat} {a:List Int} (ha:Dd S a):yF a (idL S) = a:=by
 unfold yF
 conv=>rhs; rw [← List.map_id a]
 refine List.map_congr_left fun i hi=>?_
 obtain ⟨h0,h1⟩:=ha.2 i hi
 exact Ua h0 h1
theorem qv {S:Nat} {a b c:List Int} (ha:Dd S a) (hb:b.length = S):yF a (yF b c) = yF (yF a b) c:=by
 unfold yF
 rw [List.map_map]
 refine List.map_congr_left fun i hi=>?_
 obtain ⟨h0,h1⟩:=ha.2 i hi
 have hi':i.toNat < b.length:=by omega
 show (b.map fun i=>c.getD i.toNat 0).getD i.toNat 0 = c.getD (b.getD i.toNat 0).toNat 0
 rw [List.getD_eq_getElem?_getD,List.getElem?_map,List.getElem?_eq_getElem hi',List.getD_eq_getElem?_getD (l:=b),List.getElem?_eq_getElem hi']
 rfl
theorem Word.mul {ms:List (List Int)} {S:Nat} (hm:Mks ms S) {a b:List Int} (ha:Word ms S a) (hb:Word ms S b):Word ms S (yF a b):=by
 induction hb with
 | id=>rw [WK (ha.dd hm)]; exact ha
 | more h1 h2 ih=>rw [qv (ha.dd hm) (h1.dd hm).1]; exact .more ih h2
def Ex (fm fm':FW × List (List Int)):Prop:=∃ g:FW,fm'.1 = fm.1 ++ g /\ fm'.2 = fm.2 ++ zO g
theorem Ex.refl (fm:FW × List (List Int)):Ex fm fm:=⟨[],by rw [List.append_nil],by show _ = _ ++ []; rw [List.append_nil]⟩
theorem Ex.trans {a b c:FW × List (List Int)} (h:Ex a b) (k:Ex b c):Ex a c:=by
 obtain ⟨g,h1,h2⟩:=h
 obtain ⟨g',k1,k2⟩:=k
 exact ⟨g ++ g',by rw [k1,h1,List.append_assoc],by rw [k2,h2,List.append_assoc]; unfold zO; rw [List.map_append]⟩
theorem Ex.keys {a b:FW × List (List Int)} (h:Ex a b) {d:List Int} (hd:d ∈ zO a.1):d ∈ zO b.1:=by
 obtain ⟨g,h1,_⟩:=h
 unfold zO at *
 rw [h1,List.map_append]
 exact List.mem_append.mpr (.inl hd)
theorem jB {d m:List Int} {fm:FW × List (List Int)} {n:Nat}:Ex fm (qu d fm n m):=by
 unfold qu
 split
 ·exact Ex.refl fm
 ·exact ⟨[_],rfl,rfl⟩
theorem qw {ms:List (List Int)} {d:List Int} {fm:FW × List (List Int)}:∀ i,Ex fm (fRow ms d i fm)
 | 0=>Ex.refl fm
 | i + 1=>(qw i).trans jB
theorem jC {ms last:List (List Int)} {fm:FW × List (List Int)}:∀ j,Ex fm (uq ms last j fm)
 | 0=>Ex.refl fm
 | j + 1=>(jC j).trans (qw _)
theorem WL {d m:List Int} {fm:FW × List (List Int)} {n:Nat}:yF d m ∈ zO (qu d fm n m).1:=by
 unfold qu
 split
 ·rename_i h
  obtain ⟨w,hw⟩:=Option.isSome_iff_exists.mp h
  exact Zx hw
 ·unfold zO; rw [List.map_append]; exact List.mem_append.mpr (.inr (List.mem_singleton.mpr rfl))
theorem Xa {ms:List (List Int)} {d:List Int} {fm:FW × List (List Int)}:∀ i,∀ k < i,yF d (ms.getD k []) ∈ zO (fRow ms d i fm).1
 | 0,_,h=>by cases h
 | i + 1,k,h=>by
  by_cases e:k = i
  ·rw [e]; exact WL
  ·exact jB.keys (Xa i k (by omega))
theorem jD {ms last:List (List Int)} {fm:FW × List (List Int)}:∀ j,∀ k < j,∀ i < ms.length,yF (last.getD k []) (ms.getD i []) ∈ zO (uq ms last j fm).1
 | 0,_,h,_,_=>by cases h
 | j + 1,k,h,i,hi=>by
  by_cases e:k = j
  ·rw [e]; exact Xa _ i hi
  ·exact (qw _).keys (jD j k (by omega) i hi)
structure GoodF (ms:List (List Int)) (S:Nat) (f:FW):Prop where
 nd:(zO f).Nodup
 wd:∀ d ∈ zO f,Word ms S d
theorem Zy {ms:List (List Int)} {S:Nat} {d m:List Int} {fm:FW × List (List Int)} {n:Nat} (h:GoodF ms S fm.1) (hd:Word ms S d) (hm:m ∈ ms):GoodF ms S (qu d fm n m).1:=by
 unfold qu
 split
 ·exact h
 ·rename_i c
  have hn:=qt c
  refine ⟨?_,fun z hz=>?_⟩
  ·show (zO (fm.1 ++ [_])).Nodup
   unfold zO at hn ⊢
   rw [List.map_append]
   refine List.nodup_append.mpr ⟨h.nd,nd1,fun a ha b hb e=>?_⟩
   rw [e,List.mem_singleton.mp hb] at ha
   exact hn ha
  ·unfold zO at hz
   rw [List.map_append] at hz
   rcases List.mem_append.mp hz with hz | hz
   ·exact h.wd z hz
   ·rw [List.mem_singleton.mp hz]; exact .more hd hm
theorem jE {ms:List (List Int)} {i:Nat} (h:i < ms.length):ms.getD i [] ∈ ms:=by
 rw [List.getD_eq_getElem?_getD,List.getElem?_eq_getElem h]; exact List.getElem_mem h
theorem rk {ms:List (List Int)} {S:Nat} {d:List Int} {fm:FW × List (List Int)} (h:GoodF ms S fm.1) (hd:Word ms S d):∀ i,i <= ms.length -> GoodF ms S (fRow ms d i fm).1
 | 0,_=>h
 | i + 1,hi=>Zy (rk h hd i (by omega)) hd (jE (by omega))
theorem uP {ms last:List (List Int)} {S:Nat} {fm:FW × List (List Int)} (h:GoodF ms S fm.1) (hd:∀ d ∈ last,Word ms S d):∀ j,j <= last.length -> GoodF ms S (uq ms last j fm).1
 | 0,_=>h
 | j + 1,hj=>rk (uP h hd j (by omega)) (hd _ (jE (by omega))) _ (Nat.le_refl _)
structure LI (ms:List (List Int)) (S:Nat) (f:FW) (last:List (List Int)):Prop where
 good:GoodF ms S f
 idk:idL S ∈ zO f
 sub:∀ d ∈ last,d ∈ zO f
 len:last.length <= f.length
 cl:∀ d ∈ zO f,d ∉ last -> ∀ m ∈ ms,yF d m ∈ zO f
 hd:f.head? = some (idL S,[])
theorem LI.init (ms:List (List Int)) (S:Nat):LI ms S [(idL S,[])] [idL S] where
 good:=⟨nd1,fun d hd=>by rw [List.mem_singleton.mp hd]; exact .id⟩
 idk:=List.mem_singleton.mpr rfl
 sub:=fun d hd=>hd
 len:=Nat.le_refl _
 cl:=fun d hd hn=>absurd hd hn
 hd:=rfl
theorem jF {l:List (List Int)} {d:List Int} (h:d ∈ l):∃ k < l.length,l.getD k [] = d:=by
 obtain ⟨k,hk,e⟩:=List.mem_iff_getElem.mp h
 exact ⟨k,hk,by rw [List.getD_eq_getElem?_getD,List.getElem?_eq_getElem hk]; exact e⟩
theorem LI.pass {ms last:List (List Int)} {S:Nat} {f:FW} (h:LI ms S f last):LI ms S (uq ms last last.length (f,[])).1 (uq ms last last.length (f,[])).2:=by
 have hE:Ex (f,[]) (uq ms last last.length (f,[])):=jC _
 have hI:=fun k hk i hi=>jD (ms:=ms) (last:=last) (fm:=(f,[])) last.length k hk i hi
 have hG:=uP (last:=last) (fm:=(f,[])) h.good (fun d hd=>h.good.wd d (h.sub d hd)) last.length (Nat.le_refl _)
 revert hE hI hG
 generalize uq ms last last.length (f,[]) = fm
 intro hE hI hG
 obtain ⟨g,e1,e2⟩:=id hE
 rw [List.nil_append] at e2
 have ek:zO fm.1 = zO f ++ zO g:=by rw [e1]; unfold zO; rw [List.map_append]
 refine ⟨hG,hE.keys h.idk,fun d hd=>?_,?_,fun d hd hn m hm=>?_,?_⟩
 ·rw [ek]; rw [e2] at hd; exact List.mem_append.mpr (.inr hd)
 ·rw [e2,e1,List.length_append]; unfold zO; rw [List.length_map]; omega
 ·rw [ek] at hd
  rcases List.mem_append.mp hd with hd | hd
  ·by_cases w:d ∈ last
   ·obtain ⟨k,hk,rfl⟩:=jF w
    obtain ⟨i,hi,rfl⟩:=jF hm
    exact hI k hk i hi
   ·exact hE.keys (h.cl d hd w m hm)
  ·rw [e2] at hn; exact absurd hd hn
 ·rw [e1,List.head?_append,h.hd]; rfl
structure FamOk (ms:List (List Int)) (S:Nat) (r:FW):Prop where
 good:GoodF ms S r
 idk:idL S ∈ zO r
 cl:r.length <= 60 -> ∀ d ∈ zO r,∀ m ∈ ms,yF d m ∈ zO r
 hd:r.head? = some (idL S,[])
theorem FamR.ok {ms last:List (List Int)} {S:Nat} {f r:FW} (a:FamR ms f last r) (h:LI ms S f last):FamOk ms S r:=by
 induction a with
 | done c =>
  refine ⟨h.good,h.idk,fun hl d hd m hm=>?_,h.hd⟩
  rcases c with rfl | c
  ·exact h.cl d hd (fun z=>by cases z) m hm
  ·omega
 | step _ _ _ ih=>exact ih h.pass
def FamL (ms:List (List Int)) (S:Nat) (r:FW):Prop:=FamR ms [(idL S,[])] [idL S] r
theorem FamL.ok {ms:List (List Int)} {S:Nat} {r:FW} (h:FamL ms S r):FamOk ms S r:=FamR.ok h (LI.init ms S)
def Few (ms:List (List Int)) (S:Nat):Prop:=∃ l:List (List Int),l.length <= 60 /\ ∀ d,Word ms S d -> d ∈ l
theorem FamOk.all {ms:List (List Int)} {S:Nat} {r:FW} (h:FamOk ms S r) (hl:r.length <= 60) {d:List Int} (hd:Word ms S d):d ∈ zO r:=by
 induction hd with
 | id=>exact h.idk
 | more _ hm ih=>exact h.cl hl _ ih _ hm
theorem FamOk.few {ms:List (List Int)} {S:Nat} {r:FW} (h:FamOk ms S r) (hl:r.length <= 60):Few ms S:=⟨zO r,by unfold zO; rw [List.length_map]; exact hl,fun _ hd=>h.all hl hd⟩
theorem tU:∀ {l l':List (List Int)},l.Nodup -> (∀ x ∈ l,x ∈ l') -> l.length <= l'.length
 | [],_,_,_=>Nat.zero_le _
 | a :: l,l',hn,h=>by
  have ha:a ∈ l':=h a (List.mem_cons.mpr (.inl rfl))
  obtain ⟨h1,h2⟩:=List.nodup_cons.mp hn
  have:=tU (l:=l) (l':=l'.erase a) h2 fun x hx=>(List.mem_erase_of_ne (fun e=>h1 (by rw [← e]; exact hx))).mpr (h x (List.mem_cons.mpr (.inr hx)))
  rw [List.length_erase_of_mem ha] at this
  have:0 < l'.length:=List.length_pos_of_mem ha
  rw [List.length_cons]; omega
theorem FamOk.le {ms:List (List Int)} {S:Nat} {r:FW} (h:FamOk ms S r) (hf:Few ms S):r.length <= 60:=by
 obtain ⟨l,hl,hw⟩:=hf
 have:=tU h.good.nd fun d hd=>hw d (h.good.wd d hd)
 unfold zO at this
 rw [List.length_map] at this
 omega
def KeyB (H:Hp) (y:V) (row:List Int):Prop:=∃ b,y = .ref b /\ H b = some (.tup (row.map V.int))
theorem KeyB.board {K:FG7} {H:Hp} {y:V} {row:List Int} (h:KeyB H y row):zr K H y row:=let ⟨b,e,hb⟩:=h; ⟨b,e,SqT.of hb⟩
theorem KeyB.grow {m:List Addr} {H H':Hp} {y:V} {row:List Int} (h:KeyB H y row) (g:Grow m H H'):KeyB H' y row:=let ⟨b,e,hb⟩:=h; ⟨b,e,g.tup _ _ hb⟩
def kI (d:List Int):List Key:=d.map Sum.inl
theorem Vv:∀ {a b:List Int},kI a = kI b -> a = b
 | [],[],_=>rfl
 | [],_ :: _,e=>by cases e
 | _ :: _,[],e=>by cases e
 | x :: a,y :: b,e=>by
  unfold kI at e
  rw [List.map_cons,List.map_cons] at e
  injection e with e1 e2
  rw [Sum.inl.inj e1,Vv e2]
def KvF (K:FG7) (H:Hp):List (List Key × V) -> FW -> Prop
 | [],[]=>True
 | p :: kvs,q :: f=>(p.1 = kI q.1 /\ zr K H p.2 q.2) /\ KvF K H kvs f
 | _,_=>False
section
variable {K:FG7} {H H':Hp} {m:List Addr}
theorem KvF.len:∀ {kvs:List (List Key × V)} {f:FW},KvF K H kvs f -> kvs.length = f.length
 | [],[],_=>rfl
 | _ :: _,_ :: _,h=>by rw [List.length_cons,List.length_cons,KvF.len h.2]
 | [],_ :: _,h=>h.elim
 | _ :: _,[],h=>h.elim
theorem KvF.keys:∀ {kvs:List (List Key × V)} {f:FW},KvF K H kvs f -> kvs.map (·.1) = (zO f).map (List.map Sum.inl)
 | [],[],_=>rfl
 | p :: kvs,q :: f,h=>by
  show p.1 :: kvs.map (·.1) = q.1.map Sum.inl :: (zO f).map (List.map Sum.inl)
  rw [KvF.keys h.2,h.1.1]; rfl
 | [],_ :: _,h=>h.elim
 | _ :: _,[],h=>h.elim
theorem KvF.grow (g:Grow m H H'):∀ {kvs:List (List Key × V)} {f:FW},KvF K H kvs f -> KvF K H' kvs f
 | [],[],_=>trivial
 | _ :: _,_ :: _,h=>⟨⟨h.1.1,g.board h.1.2⟩,KvF.grow g h.2⟩
 | [],_ :: _,h=>h.elim
 | _ :: _,[],h=>h.elim
theorem KvF.app:∀ {kvs:List (List Key × V)} {f:FW} {kvs':List (List Key × V)} {f':FW},KvF K H kvs f -> KvF K H kvs' f' -> KvF K H (kvs ++ kvs') (f ++ f')
 | [],[],_,_,_,k=>k
 | _ :: _,_ :: _,_,_,h,k=>⟨h.1,KvF.app h.2 k⟩
 | [],_ :: _,_,_,h,_=>h.elim
 | _ :: _,[],_,_,h,_=>h.elim
theorem KvF.val (d:List Int):∀ {kvs:List (List Key × V)} {f:FW},KvF K H kvs f -> (∃ v w,valV kvs (kI d) = some v /\ yH f d = some w /\ zr K H v w) \/ (valV kvs (kI d) = none /\ yH f d = none)
 | [],[],_=>.inr ⟨rfl,rfl⟩
 | p :: kvs,q :: f,h=>by
  by_cases e:q.1 = d
  ·exact .inl ⟨p.2,q.2,ya (by rw [h.1.1,e]),by simp [yH,List.find?_cons,e],h.1.2⟩
  ·have e':¬ p.1 = kI d:=fun z=>e (Vv (h.1.1.symm.trans z))
   have ew:yH (q :: f) d = yH f d:=by simp [yH,List.find?_cons,e]
   rw [zZ e',ew]
   exact KvF.val d h.2
 | [],_ :: _,h=>h.elim
 | _ :: _,[],h=>h.elim
end
theorem Mks.take {ms:List (List Int)} {S n:Nat} (h:Mks ms S):Mks (ms.take n) S:=fun m hm=>h m (List.mem_of_mem_take hm)
def FamW (K:FG7) (H:Hp) (y:V) (f:FW):Prop:=∃ l kvs,y = .ref l /\ H l = some (.dT kvs) /\ KvF K H kvs f
theorem FamW.d {K:FG7} {H:Hp} {y:V} {f:FW} (h:FamW K H y f):FamD H y (zO f):=let ⟨l,kvs,e,hl,hk⟩:=h; ⟨l,kvs,e,hl,hk.keys⟩
def DRaw (prog:Program) (w:World) (Hb:Hp) (h:Heap) (D:Addr) (o:Obj) (kvs:List (List Key × V)):Prop :=
 kvs.length <= sizeLine /\ (D == sysModules) = false /\ ∃ xs:List (List Key × Addr × Value),KT Hb kvs xs /\ ∃ es ep,h.get? D = some o /\ o.ExactDict /\ o.data = .dict es ep /\ es.toList = xs.map (entryOfKey (tupleKind (z7 prog w))) /\ (xs.map (·.1)).Nodup
theorem DRaw.at {prog:Program} {w:World} {Hb:Hp} {h h':Heap} {D:Addr} {o:Obj} {kvs:List (List Key × V)} (r:DRaw prog w Hb h D o kvs) (e:h'.get? D = some o):DRaw prog w Hb h' D o kvs :=
 let ⟨z,y,xs,k,es,ep,_,h2,h3,h4,h5⟩:=r; ⟨z,y,xs,k,es,ep,e,h2,h3,h4,h5⟩
theorem DRaw.obj {prog:Program} {w:World} {Hb H':Hp} {h:Heap} {D:Addr} {o:Obj} {kvs:List (List Key × V)} (r:DRaw prog w Hb h D o kvs) (hk:∀ b xs,Hb b = some (.tup xs) -> H' b = some (.tup xs)):zP prog w H' h D (.dT kvs) :=
 let ⟨z,y,xs,k,es,ep,h1,h2,h3,h4,h5⟩:=r; ⟨z,y,xs,k.keeps hk,o,es,ep,h1,h2,h3,h4,h5⟩
theorem DRaw.nocell {prog:Program} {w:World} {Hb:Hp} {h:Heap} {D:Addr} {o:Obj} {kvs:List (List Key × V)} (r:DRaw prog w Hb h D o kvs) (v:Option Value):o.data ≠ .cell v:=by
 obtain ⟨_,_,_,_,es,ep,_,_,h3,_⟩:=r
 rw [h3]; intro z; cases z
section
variable {prog:Program} {w:World} {A:Around} {E:VS7} {s:Shared} {es:Array DictEntry} {d it r:Addr} {ep i:Nat} {ok ov:Value}
theorem WM {Q:VS7} (lo:(d == sysModules) = false) (hm:yT es d ep s.heap) (q:Q (.ref s.heap.objs.size) { s with heap:=s.heap.push { cls:=.type "dict_items",data:=.fields #[.ref d] } }) :
  wpAny (model prog w) A (call (.builtin "dict.items") [.ref d]) Q E s:=by
 have hT:s.TypeIs (.ref d) "dict":=hm.typeIs
 refine wpAny_call_entry PySem.F.slot_dict_items hT PySem.F.entry_dict_items ?_ (PySem.F.args_dict_items_1 _)
 unfold Builtin.«dict.items»
 refine wpAny_bind ?_
 unfold Builtin.Dict.noArgs
 refine wpAny_bind (wpAny_notOrdered_dict hT (show wpAny _ _ (pure d) _ _ s from wpAny_pure ?_))
 show wpAny _ _ (Builtin.Dict.showsAll d >>= _) _ _ s
 unfold Builtin.Dict.showsAll
 rw [if_neg (by rw [lo]; exact Bool.false_ne_true)]
 exact wpAny_bind (wpAny_pure (wpAny_bind (wpAny_newObj_type (wpAny_pure ⟨_,rfl,q⟩))))
theorem WN {Q:VS7} (hv:s.heap.IsItemsView r d) (hm:yT es d ep s.heap)
  (hQ:Q (.ref s.heap.objs.size) { s with heap:=s.heap.push { cls:=.type "dict_itemiterator",data:=.fields #[.none,.bool false,.ref d,.int 0 0,.int es.size 0,.int ep 0,.none,.none] } }) :
  wpAny (model prog w) A (pyIter (.ref r)) Q E s:=by
 obtain ⟨o1,h1,c1,d1⟩:=id hv
 obtain ⟨o,ho,hc,hdat⟩:=id hm
 refine wpAny_pyIter_slot hv.typeIs PySem.F.slot_dict_items_iter (wpAny_call_entry PySem.F.slot_dict_items_iter hv.typeIs PySem.F.entry_dict_items_iter ?_ (PySem.F.args_dict_items_iter_1 _))
 unfold Builtin.«dict_items.__iter__»
 refine wpAny_bind (wpAny_pure (wpAny_bind ?_))
 unfold Builtin.Dict_items.dictOf
 refine wpAny_bind (wpAny_field h1 d1 (x:=.ref d) rfl (wpAny_pure (wpAny_bind ?_)))
 unfold Builtin.Dict_items.newIterator
 refine wpAny_bind (wpAny_dictEntries ho hdat (wpAny_bind (wpAny_dictEpoch ho hdat ?_)))
 have own:Builtin.Dict_items.ownsTuple "dict_itemiterator" = true:=by decide
 simp only [own,if_true]
 refine wpAny_newObj_type (wpAny_pure ⟨_,rfl,"dict_itemiterator",_,⟨_,Heap.get?_push_size _ rfl,rfl⟩,PySem.F.slot_dict_itemiterator_next.lookup,?_⟩)
  (by simp only [sizeOk,Builtin.Dict_items.ownedTupleFields,List.size_toArray,List.length_append,List.length_cons,List.length_nil,sizeLine_eq]; omega)
 simpa [rawInt,Builtin.Dict_items.ownedTupleFields] using hQ
theorem WO {Q:Option Value -> Shared -> Prop} (hit:IsItemIter s.heap it d i es.size ep ok ov) (hm:yT es d ep s.heap) (hlt:i < es.size)
  (hQ:∀ h',IsItemIterOut h' it d (i + 1) es.size ep es[i].key es[i].val s.heap.objs.size -> h'.get? s.heap.objs.size = some { cls:=.type "tuple",data:=.seq #[es[i].key,es[i].val] } →
   (∀ b o,b ≠ it -> s.heap.get? b = some o -> h'.get? b = some o) -> Q (some (.ref s.heap.objs.size)) { s with heap:=h' }) :
  wpAny (model prog w) A (pyNext (.ref it)) Q E s:=by
 obtain ⟨hp,g,dr,tk,os⟩:=s
 obtain ⟨od,hod,hcd,hdd⟩:=id hm
 have hT:Shared.TypeIs ⟨hp,g,dr,tk,os⟩ (.ref it) "dict_itemiterator":=⟨_,hit,rfl⟩
 unfold pyNext
 refine wpAny_bind (wpAny_attempt (wpAny_callSpecial?_slot (name:=Str.ofString "__next__") hT PySem.F.slot_dict_itemiterator_next
  (wpAny_call_entry PySem.F.slot_dict_itemiterator_next hT PySem.F.entry_dict_itemiterator_next ?_ (PySem.F.args_dict_itemiterator_next_1 _))))
 refine wpAny_bind (wpAny_pure (wpAny_bind (wpAny_bind ?_)))
 first | refine wpAny_bind (wpAny_typeNameOfWhole_itemiter hT (wpAny_pure ?_)) | refine wpAny_bind (wpAny_typeNameOf_itemiter hT (wpAny_pure ?_))
 refine wpAny_bind (wpAny_fieldsOf hit rfl ?_)
 have own:Builtin.Dict_items.ownsTuple "dict_itemiterator" = true:=by decide
 simp only [own,if_true]
 show wpAny _ _ (if (Value.ref d == Value.none) = true then _ else _) _ _ _
 rw [if_neg (show ¬ ((Value.ref d == Value.none) = true) from Bool.false_ne_true)]
 refine wpAny_bind (wpAny_pure (wpAny_bind (wpAny_dictEntries hod hdd ?_)))
 rw [if_neg (by simp)]
 refine wpAny_bind (wpAny_pure (wpAny_bind (wpAny_dictEpoch hod hdd ?_)))
 rw [if_neg (by simp)]
 refine wpAny_pure ?_
 simp only [show ¬ ((i:Int) < 0) from by omega,if_false,Int.toNat_natCast,Array.getElem?_eq_getElem hlt]
 refine wpAny_bind ?_
 first | refine wpAny_bind (wpAny_typeNameOfWhole_itemiter hT (wpAny_pure ?_)) | refine wpAny_bind (wpAny_typeNameOf_itemiter hT (wpAny_pure ?_))
 refine wpAny_bind (wpAny_isOneOf_itemiter hT ?_)
 show wpAny _ _ (setField (.ref it) 3 (rawInt ((i:Int) + 1)) >>= _) _ _ ⟨hp,g,dr,tk,os⟩
 refine wpAny_bind (wpAny_setField_rec hit (by simp) fun h1 he1 hs1=>?_)
 replace hs1:Heap.SameBut it hp h1:=hs1
 replace he1:IsItemIter h1 it d (i + 1) es.size ep ok ov:=by
  have e:((i + 1:Nat):Int) = (i:Int) + 1:=by omega
  unfold IsItemIter; rw [e]; simpa [rawInt] using he1
 have hT1:Shared.TypeIs ⟨h1,g,dr,tk,os⟩ (.ref it) "dict_itemiterator":=⟨_,he1,rfl⟩
 refine wpAny_bind (wpAny_holding (wpAny_bind (wpAny_isOneOf_itemiter hT1 (wpAny_bind (wpAny_isOneOf_itemiter hT1 ?_)))))
 show wpAny _ _ (Builtin.Dict_items.pairFromOwner (.ref it) 6 es[i].key es[i].val) _ _ ⟨h1,g,dr,tk,os⟩
 unfold Builtin.Dict_items.pairFromOwner
 refine wpAny_bind (wpAny_newTuple ?_)
 have he2:IsItemIter (h1.push { cls:=.type "tuple",data:=.seq #[es[i].key,es[i].val] }) it d (i + 1) es.size ep ok ov:=Heap.get?_push_of_some _ he1
 generalize hh2:h1.push { cls:=.type "tuple",data:=.seq #[es[i].key,es[i].val] } = h2 at he2
 have hz1:h1.objs.size = hp.objs.size:=hs1.1
 have hil:it < hp.objs.size:=Heap.lt_size hit
 have ht2:h2.get? hp.objs.size = some { cls:=.type "tuple",data:=.seq #[es[i].key,es[i].val] }:=by rw [← hh2,← hz1]; exact Heap.get?_push_size _ rfl
 have hk2:∀ b o,b ≠ it -> hp.get? b = some o -> h2.get? b = some o:=fun b o hb e=>by rw [← hh2]; exact Heap.get?_push_of_some _ (hs1.extBut b o hb e)
 show wpAny _ _ (Builtin.Dict_items.ownedTupleIsFree (.ref it) >>= _) _ _ ⟨h2,g,dr,tk,os⟩
 rw [hz1]
 clear hh2 he1 hs1 hT1 hz1 h1
 refine wpAny_bind ?_
 unfold Builtin.Dict_items.ownedTupleIsFree
 refine wpAny_bind (wpAny_field he2 rfl (x:=.none) rfl (wpAny_pure ?_))
 simp only [if_true]
 refine wpAny_bind (wpAny_field he2 rfl (x:=ok) rfl (wpAny_bind (wpAny_field he2 rfl (x:=ov) rfl ?_)))
 refine wpAny_bind (wpAny_setField_rec he2 (by simp) fun h3 he3 hs3=>?_)
 replace hs3:Heap.SameBut it h2 h3:=hs3
 replace he3:IsItemIter h3 it d (i + 1) es.size ep es[i].key ov:=he3
 refine wpAny_bind (wpAny_setField_rec he3 (by simp) fun h4 he4 hs4=>?_)
 replace hs4:Heap.SameBut it h3 h4:=hs4
 replace he4:IsItemIter h4 it d (i + 1) es.size ep es[i].key es[i].val:=he4
 refine wpAny_bind (wpAny_setField_rec he4 (by simp) fun h5 he5 hs5=>?_)
 replace hs5:Heap.SameBut it h4 h5:=hs5
 replace he5:IsItemIterOut h5 it d (i + 1) es.size ep es[i].key es[i].val hp.objs.size:=he5
 refine wpAny_bind (wpAny_setField_rec he5 (by simp) fun h6 he6 hs6=>?_)
 replace hs6:Heap.SameBut it h5 h6:=hs6
 replace he6:IsItemIterOut h6 it d (i + 1) es.size ep es[i].key es[i].val hp.objs.size:=he6
 have keep:∀ b o,b ≠ it -> h2.get? b = some o -> h6.get? b = some o:=fun b o hb e=>hs6.extBut b o hb (hs5.extBut b o hb (hs4.extBut b o hb (hs3.extBut b o hb e)))
 exact wpAny_bind (wpAny_letGo (wpAny_pure (wpAny_pure ⟨_,rfl,wpAny_pure (hQ h6 he6 (keep _ _ (Nat.ne_of_gt hil) ht2) fun b o hb e=>keep b o hb (hk2 b o hb e))⟩)))
theorem Ub {Q:Option Value -> Shared -> Prop} (hh:A.handled = none) (hit:IsItemIter s.heap it d es.size es.size ep ok ov) (hm:yT es d ep s.heap)
  (hQ:∀ h',Heap.ExtBut it s.heap h' -> Q none { s with heap:=h' }):wpAny (model prog w) A (pyNext (.ref it)) Q E s:=by
 obtain ⟨od,hod,hcd,hdd⟩:=id hm
 have hT:s.TypeIs (.ref it) "dict_itemiterator":=⟨_,hit,rfl⟩
 unfold pyNext
 refine wpAny_bind (wpAny_attempt (wpAny_callSpecial?_slot (name:=Str.ofString "__next__") hT PySem.F.slot_dict_itemiterator_next
  (wpAny_call_entry PySem.F.slot_dict_itemiterator_next hT PySem.F.entry_dict_itemiterator_next ?_ (PySem.F.args_dict_itemiterator_next_1 _))))
 refine wpAny_bind (wpAny_pure (wpAny_bind (wpAny_bind ?_)))
 first | refine wpAny_bind (wpAny_typeNameOfWhole_itemiter hT (wpAny_pure ?_)) | refine wpAny_bind (wpAny_typeNameOf_itemiter hT (wpAny_pure ?_))
 refine wpAny_bind (wpAny_fieldsOf hit rfl ?_)
 have own:Builtin.Dict_items.ownsTuple "dict_itemiterator" = true:=by decide
 simp only [own,if_true]
 show wpAny _ _ (if (Value.ref d == Value.none) = true then _ else _) _ _ s
 rw [if_neg (show ¬ ((Value.ref d == Value.none) = true) from Bool.false_ne_true)]
 refine wpAny_bind (wpAny_pure (wpAny_bind (wpAny_dictEntries hod hdd ?_)))
 rw [if_neg (by simp)]
 refine wpAny_bind (wpAny_pure (wpAny_bind (wpAny_dictEpoch hod hdd ?_)))
 rw [if_neg (by simp)]
 refine wpAny_pure ?_
 simp only [show ¬ ((es.size:Int) < 0) from by omega,if_false,Int.toNat_natCast,Array.getElem?_eq_none (Nat.le_refl es.size)]
 refine wpAny_bind ?_
 first | refine wpAny_bind (wpAny_typeNameOfWhole_itemiter hT (wpAny_pure ?_)) | refine wpAny_bind (wpAny_typeNameOf_itemiter hT (wpAny_pure ?_))
 show wpAny _ _ (setField (.ref it) 2 .none >>= _) _ _ s
 refine wpAny_bind (wpAny_setField hit rfl (by simp) ?_)
 show wpAny _ _ (newExc (.type "StopIteration") [] >>= _) _ _ _
 refine wpAny_bind ?_
 simp only [newExc,newTuple]
 refine wpAny_bind (wpAny_newObj_type ?_ (by size_fits))
 refine wpAny_bind (m:=firstArgMember _ _) (wpAny_of_eq (a:=Value.none) (by first | rfl | (simp only [firstArgMember]; rfl)) ?_)
 refine wpAny_newObj_type ?_ (by size_fits)
 simp only [raiseNew]
 refine wpAny_bind (wpAny_handled ?_)
 rw [show A.in1.handled = none from hh]
 refine wpAny_bind (wpAny_pure (wpAny_throw ?_))
 refine wpAny_bind (wpAny_isInstance (T:="StopIteration") (b:=true) ⟨_,Heap.get?_push_size _ rfl,rfl⟩ isSubtype_stop ?_)
 exact wpAny_pure (hQ _ (((Heap.SameBut.update ..).extBut.push _).push _))
end
theorem Zz:entryFor table "dict_itemiterator.__iter__" = some Builtin.«dict_keyiterator.__iter__»:=entryFor_alias (id':="dict_keyiterator.__iter__") (by kernel_rfl) rfl (by decide +kernel) (by kernel_rfl)
theorem rn {α β:Type} {R:α -> β -> Prop}:∀ {as:List α} {bs:List β} {i:Nat} {b:β},Paired R as bs -> bs[i]? = some b -> ∃ a,as[i]? = some a /\ R a b
 | _,_,0,_,.cons r _,e=>⟨_,rfl,by cases Option.some.inj e; exact r⟩
 | _,_,i + 1,_,.cons _ t,e=>rn (i:=i) t e
def misH (ds tab:List (List Int)) (i j:Nat):Prop:=ds.getD (Y9 tab i j).toNat [] ≠ yF (ds.getD i []) (ds.getD j [])
def uQ (R:Nat) (ds tab:List (List Int)) (i j:Nat):Prop:=(i < R /\ j < R) /\ misH ds tab i j /\ ∀ i' j':Nat,i' < R -> j' < R -> (i' < i \/ (i' = i /\ j' < j)) -> ¬ misH ds tab i' j'
theorem uQ.eq {R:Nat} {ds tab:List (List Int)} {i j i' j':Nat} (a:uQ R ds tab i j) (b:uQ R ds tab i' j'):i = i' /\ j = j':=by
 have h1:¬ (i' < i \/ (i' = i /\ j' < j)):=fun z=>a.2.2 i' j' b.1.1 b.1.2 z b.2.1
 have h2:¬ (i < i' \/ (i = i' /\ j < j')):=fun z=>b.2.2 i j a.1.1 a.1.2 z a.2.1
 omega
def ZA (K:FG7) (H:Hp) (R:Nat) (ds tab:List (List Int)) (y:V):Prop :=
 (y = .non /\ ∀ i j:Nat,i < R -> j < R -> ¬ misH ds tab i j) \/ ∃ i j:Nat,uQ R ds tab i j /\ zr K H y [(i:Int),(j:Int)]
structure DT (K:FG7) (H:Hp) (R M:Nat) (ds tab:List (List Int)) (x y:V):Prop where
 hx:wS K H x ds
 hy:wS K H y tab
 r1:1 <= R
 r60:R <= 60
 m1:1 <= M
 m5:M <= 5
 hD:Wo R M ds
 hT:Wo R R tab
theorem DT.grow {K:FG7} {m:List Addr} {H H':Hp} {R M:Nat} {ds tab:List (List Int)} {x y:V} (h:DT K H R M ds tab x y) (g:Grow m H H'):DT K H' R M ds tab x y :=
 ⟨g.rows h.hx,g.rows h.hy,h.r1,h.r60,h.m1,h.m5,h.hD,h.hT⟩
def hldD:Option (Nat × Nat) -> PyData
 | none=>.none
 | some t=>Ze [(t.1:Int),(t.2:Int)]
def HldO (R:Nat) (ds tab:List (List Int)):Option (Nat × Nat) -> Prop
 | none=>∀ i j:Nat,i < R -> j < R -> ¬ misH ds tab i j
 | some t=>uQ R ds tab t.1 t.2
theorem HldO.eq {R:Nat} {ds tab:List (List Int)} {o o':Option (Nat × Nat)} (a:HldO R ds tab o) (b:HldO R ds tab o'):o = o':=by
 cases o with
 | none=>cases o' with
  | none=>rfl
  | some t=>exact absurd b.2.1 (a _ _ b.1.1 b.1.2)
 | some t=>cases o' with
  | none=>exact absurd a.2.1 (b _ _ a.1.1 a.1.2)
  | some t' =>
   obtain ⟨i,j⟩:=t
   obtain ⟨i',j'⟩:=t'
   obtain ⟨e1,e2⟩:=uQ.eq a b
   rw [show i = i' from e1,show j = j' from e2]
theorem ZA.o {K:FG7} {H:Hp} {R:Nat} {ds tab:List (List Int)} {y:V} (h:ZA K H R ds tab y):∃ o,HldO R ds tab o /\ Dat K H y (hldD o) /\ ((o = none /\ y = .non) \/ ∃ a,y = .ref a):=by
 rcases h with ⟨rfl,h⟩ | ⟨i,j,h,hb⟩
 ·exact ⟨none,h,.non,.inl ⟨rfl,rfl⟩⟩
 ·exact ⟨some (i,j),h,hb.dat,.inr (let ⟨a,e,_⟩:=hb; ⟨a,e⟩)⟩
theorem ZA.grow {K:FG7} {m:List Addr} {H H':Hp} {R:Nat} {ds tab:List (List Int)} {y:V} (h:ZA K H R ds tab y) (g:Grow m H H'):ZA K H' R ds tab y:=by
 rcases h with h | ⟨i,j,h,hb⟩
 ·exact .inl h
 ·exact .inr ⟨i,j,h,g.board hb⟩
theorem FamOk.closed {ms:List (List Int)} {S:Nat} {r:FW} (h:FamOk ms S r) (hM:Mks ms S) (hl:r.length <= 60) {a b:List Int} (ha:a ∈ zO r) (hb:b ∈ zO r):yF a b ∈ zO r :=
 h.all hl ((h.good.wd a ha).mul hM (h.good.wd b hb))
structure SomeAt (K:FG7) (H:Hp) (p lf:Addr) (S:Nat) (rows:List (List Int)):Prop where
 l:∃ zs,H lf = some (.lst zs) /\ AllR (zr K H) zs rows
 np:lf ∉ [p]
 r1:1 <= rows.length
 r60:rows.length <= 60
 ok:Mks rows S
 cl:∀ a ∈ rows,∀ b ∈ rows,yF a b ∈ rows
theorem SomeAt.of {K:FG7} {H:Hp} {p lf:Addr} {S:Nat} {rows ms:List (List Int)} {zs:List V} {f:FW} (hF:FamL ms S f) (hM:Mks ms S) (hf:Few ms S) (hl:H lf = some (.lst zs)) (np:lf ∉ [p]) (hz:AllR (zr K H) zs rows) (pm:rows.Perm (zO f)):SomeAt K H p lf S rows:=by
 have hO:=hF.ok
 have h60:=hO.le hf
 have lk:rows.length = f.length:=by rw [pm.length_eq]; unfold zO; rw [List.length_map]
 refine ⟨⟨zs,hl,hz⟩,np,?_,by omega,fun d hd=>(hO.good.wd d (pm.mem_iff.mp hd)).dd hM,fun a ha b hb=>pm.mem_iff.mpr (hO.closed hM h60 (pm.mem_iff.mp ha) (pm.mem_iff.mp hb))⟩
 have:0 < rows.length:=List.length_pos_of_mem (pm.mem_iff.mpr hO.idk)
 omega
def Xb (K:FG7) (H:Hp) (z:V):Prop:=∃ t y1 y2 y3 R M ds tab,z = .ref t /\ SqT K H t [y1,y2,y3] /\ DT K H R M ds tab y1 y2 /\ ZA K H R ds tab y3
theorem Xb.grow {K:FG7} {m:List Addr} {H H':Hp} {z:V} (h:Xb K H z) (g:Grow m H H'):Xb K H' z:=by
 obtain ⟨t,y1,y2,y3,R,M,ds,tab,e,h1,h2,h3⟩:=h
 exact ⟨t,y1,y2,y3,R,M,ds,tab,e,g.sqT h1,h2.grow g,h3.grow g⟩
section
variable {prog:Program} {w:World} {A:Around} {E:VS7} {s:Shared} {es:Array DictEntry} {d it r:Addr} {ep i:Nat}
theorem WP {Q:VS7} (lo:(d == sysModules) = false) (hm:yT es d ep s.heap) (q:Q (.ref s.heap.objs.size) { s with heap:=s.heap.push { cls:=.type "dict_values",data:=.fields #[.ref d] } }) :
  wpAny (model prog w) A (call (.builtin "dict.values") [.ref d]) Q E s:=by
 have hT:s.TypeIs (.ref d) "dict":=hm.typeIs
 refine wpAny_call_entry PySem.F.slot_dict_values hT PySem.F.entry_dict_values ?_ (PySem.F.args_dict_values_1 _)
 unfold Builtin.«dict.values»
 refine wpAny_bind ?_
 unfold Builtin.Dict.noArgs
 refine wpAny_bind (wpAny_notOrdered_dict hT (show wpAny _ _ (pure d) _ _ s from wpAny_pure ?_))
 show wpAny _ _ (Builtin.Dict.showsAll d >>= _) _ _ s
 unfold Builtin.Dict.showsAll
 rw [if_neg (by rw [lo]; exact Bool.false_ne_true)]
 exact wpAny_bind (wpAny_pure (wpAny_bind (wpAny_newObj_type (wpAny_pure ⟨_,rfl,q⟩))))
theorem WQ {Q:VS7} (hv:s.heap.IsValuesView r d) (hm:yT es d ep s.heap)
  (hQ:Q (.ref s.heap.objs.size) { s with heap:=s.heap.push { cls:=.type "dict_valueiterator",data:=.fields #[.ref d,.int 0 0,.int es.size 0,.int ep 0] } }) :
  wpAny (model prog w) A (pyIter (.ref r)) Q E s:=by
 obtain ⟨ov,hov,hcv,hdv⟩:=id hv
 obtain ⟨o,ho,hc,hdat⟩:=id hm
 refine wpAny_pyIter_slot hv.typeIs PySem.F.slot_dict_values_iter (wpAny_call_entry PySem.F.slot_dict_values_iter hv.typeIs PySem.F.entry_dict_values_iter ?_ (PySem.F.args_dict_values_iter_1 _))
 unfold Builtin.«dict_values.__iter__»
 refine wpAny_bind (wpAny_pure (wpAny_bind ?_))
 unfold Builtin.Dict_items.dictOf
 refine wpAny_bind (wpAny_field hov hdv (x:=.ref d) rfl (wpAny_pure (wpAny_bind ?_)))
 unfold Builtin.Dict_items.newIterator
 refine wpAny_bind (wpAny_dictEntries ho hdat (wpAny_bind (wpAny_dictEpoch ho hdat ?_)))
 have own:Builtin.Dict_items.ownsTuple "dict_valueiterator" = false:=by decide
 simp only [own,Bool.false_eq_true,if_false]
 refine wpAny_newObj_type (wpAny_pure ⟨_,rfl,"dict_valueiterator",_,⟨_,Heap.get?_push_size _ rfl,rfl⟩,PySem.F.slot_dict_valueiterator_next.lookup,?_⟩)
 simpa [rawInt] using hQ
theorem WR {Q:Option Value -> Shared -> Prop} (hit:s.heap.IsValIter it d i es.size ep) (hm:yT es d ep s.heap) (hlt:i < es.size)
  (hQ:∀ h',h'.IsValIter it d (i + 1) es.size ep -> Heap.SameBut it s.heap h' -> Q (some es[i].val) { s with heap:=h' }) :
  wpAny (model prog w) A (pyNext (.ref it)) Q E s:=by
 obtain ⟨o,ho,hc,hd⟩:=id hit
 obtain ⟨od,hod,hcd,hdd⟩:=id hm
 unfold pyNext
 refine wpAny_bind (wpAny_attempt (wpAny_callSpecial?_slot (name:=Str.ofString "__next__") hit.typeIs PySem.F.slot_dict_valueiterator_next
  (wpAny_call_entry PySem.F.slot_dict_valueiterator_next hit.typeIs PySem.F.entry_dict_valueiterator_next ?_ (PySem.F.args_dict_valueiterator_next_1 _))))
 refine wpAny_bind (wpAny_pure ?_)
 refine wpAny_bind ?_
 refine wpAny_bind ?_
 first | refine wpAny_bind (wpAny_typeNameOfWhole_valiter hit.typeIs (wpAny_pure ?_)) | refine wpAny_bind (wpAny_typeNameOf_valiter hit.typeIs (wpAny_pure ?_))
 refine wpAny_bind (wpAny_fieldsOf ho hd ?_)
 have hown:Builtin.Dict_items.ownsTuple "dict_valueiterator" = false:=by decide
 simp only [hown,Bool.false_eq_true,if_false]
 show wpAny _ _ (if (Value.ref d == Value.none) = true then _ else _) _ _ s
 rw [if_neg (show ¬ ((Value.ref d == Value.none) = true) from Bool.false_ne_true)]
 refine wpAny_bind (wpAny_pure ?_)
 refine wpAny_bind (wpAny_dictEntries hod hdd ?_)
 rw [if_neg (by simp)]
 refine wpAny_bind (wpAny_pure ?_)
 refine wpAny_bind (wpAny_dictEpoch hod hdd ?_)
 rw [if_neg (by simp)]
 refine wpAny_pure ?_
 simp only [show ¬ ((i:Int) < 0) from by omega,if_false,Int.toNat_natCast,Array.getElem?_eq_getElem hlt]
 refine wpAny_bind ?_
 first | refine wpAny_bind (wpAny_typeNameOfWhole_valiter hit.typeIs (wpAny_pure ?_)) | refine wpAny_bind (wpAny_typeNameOf_valiter hit.typeIs (wpAny_pure ?_))
 refine wpAny_bind (wpAny_isOneOf_valiter hit.typeIs ?_)
 show wpAny _ _ (setField (.ref it) 1 (rawInt ((i:Int) + 1)) >>= _) _ _ s
 refine wpAny_bind (wpAny_setField ho hd (by simp) ?_)
 have hit':(s.heap.update it (Obj.mapFields (·.setIfInBounds 1 (rawInt ((i:Int) + 1))))).IsValIter it d (i + 1) es.size ep :=
  ⟨_,Heap.get?_update_self _ ho (Obj.isFreed_of_fields (Obj.data_mapFields hd _)),(Obj.cls_mapFields ..).trans hc,by rw [Obj.data_mapFields hd]; simp [rawInt]⟩
 refine wpAny_bind (wpAny_holding ?_)
 refine wpAny_bind (wpAny_isOneOf_valiter (s:={ s with heap:=s.heap.update it (Obj.mapFields (·.setIfInBounds 1 (rawInt ((i:Int) + 1)))) }) hit'.typeIs ?_)
 refine wpAny_bind (wpAny_isOneOf_valiter (s:={ s with heap:=s.heap.update it (Obj.mapFields (·.setIfInBounds 1 (rawInt ((i:Int) + 1)))) }) hit'.typeIs ?_)
 show wpAny _ _ (pure es[i].val) _ _ _
 exact wpAny_pure (wpAny_pure ⟨_,rfl,wpAny_pure (hQ _ hit' (Heap.SameBut.update ..))⟩)
theorem Uc {Q:Option Value -> Shared -> Prop} (hh:A.handled = none) (hit:s.heap.IsValIter it d es.size es.size ep) (hm:yT es d ep s.heap)
  (hQ:∀ h',Heap.ExtBut it s.heap h' -> Q none { s with heap:=h' }):wpAny (model prog w) A (pyNext (.ref it)) Q E s:=by
 obtain ⟨o,ho,hc,hd⟩:=id hit
 obtain ⟨od,hod,hcd,hdd⟩:=id hm
 unfold pyNext
 refine wpAny_bind (wpAny_attempt (wpAny_callSpecial?_slot (name:=Str.ofString "__next__") hit.typeIs PySem.F.slot_dict_valueiterator_next
  (wpAny_call_entry PySem.F.slot_dict_valueiterator_next hit.typeIs PySem.F.entry_dict_valueiterator_next ?_ (PySem.F.args_dict_valueiterator_next_1 _))))
 refine wpAny_bind (wpAny_pure ?_)
 refine wpAny_bind ?_
 refine wpAny_bind ?_
 first | refine wpAny_bind (wpAny_typeNameOfWhole_valiter hit.typeIs (wpAny_pure ?_)) | refine wpAny_bind (wpAny_typeNameOf_valiter hit.typeIs (wpAny_pure ?_))
 refine wpAny_bind (wpAny_fieldsOf ho hd ?_)
 have hown:Builtin.Dict_items.ownsTuple "dict_valueiterator" = false:=by decide
 simp only [hown,Bool.false_eq_true,if_false]
 show wpAny _ _ (if (Value.ref d == Value.none) = true then _ else _) _ _ s
 rw [if_neg (show ¬ ((Value.ref d == Value.none) = true) from Bool.false_ne_true)]
 refine wpAny_bind (wpAny_pure ?_)
 refine wpAny_bind (wpAny_dictEntries hod hdd ?_)
 rw [if_neg (by simp)]
 refine wpAny_bind (wpAny_pure ?_)
 refine wpAny_bind (wpAny_dictEpoch hod hdd ?_)
 rw [if_neg (by simp)]
 refine wpAny_pure ?_
 simp only [show ¬ ((es.size:Int) < 0) from by omega,if_false,Int.toNat_natCast,Array.getElem?_eq_none (Nat.le_refl es.size)]
 refine wpAny_bind ?_
 first | refine wpAny_bind (wpAny_typeNameOfWhole_valiter hit.typeIs (wpAny_pure ?_)) | refine wpAny_bind (wpAny_typeNameOf_valiter hit.typeIs (wpAny_pure ?_))
 show wpAny _ _ (setField (.ref it) 0 .none >>= _) _ _ s
 refine wpAny_bind (wpAny_setField ho hd (by simp) ?_)
 show wpAny _ _ (newExc (.type "StopIteration") [] >>= _) _ _ _
 refine wpAny_bind ?_
 simp only [newExc,newTuple]
 refine wpAny_bind (wpAny_newObj_type ?_ (by size_fits))
 refine wpAny_bind (m:=firstArgMember _ _) (wpAny_of_eq (a:=Value.none) (by first | rfl | (simp only [firstArgMember]; rfl)) ?_)
 refine wpAny_newObj_type ?_ (by size_fits)
 simp only [raiseNew]
 refine wpAny_bind (wpAny_handled ?_)
 rw [show A.in1.handled = none from hh]
 refine wpAny_bind (wpAny_pure (wpAny_throw ?_))
 refine wpAny_bind (wpAny_isInstance (T:="StopIteration") (b:=true) ⟨_,Heap.get?_push_size _ rfl,rfl⟩ isSubtype_stop ?_)
 exact wpAny_pure (hQ _ (((Heap.SameBut.update ..).extBut.push _).push _))
theorem Xc (hh:A.handled = none) (I d:Addr) (hne:d ≠ I) (es:Array DictEntry) (ep:Nat) :
  Walks prog w A I [I,d] [I] es.size (fun i v=>∃ h:i < es.size,v = es[i].val) (fun i h=>h.IsValIter I d i es.size ep /\ yT es d ep h) where
 sub:=fun b hb=>by simp at hb; simp [hb]
 frame:=fun _ _ _ st hk=>⟨st.1.at fun o e=>hk I (by simp) o e,st.2.keep fun o e=>hk d (by simp) o e⟩
 item:=fun i s Q E hi st hQ=>by
  refine WR st.1 st.2 hi fun h' hit' hs'=>?_
  exact hQ _ h' s.toks ⟨hi,rfl⟩ ⟨hit',st.2.keep fun o e=>hs'.extBut d o hne e⟩ fun b o hb e=>hs'.extBut b o (fun h=>hb (by simp [h])) e
 done:=fun s Q E st hQ=>Uc hh st.1 st.2 fun h' he'=>hQ h' s.toks fun b o hb e=>he' b o (fun h=>hb (by simp [h])) e
 self:=fun _ _ _ _ st hQ=>wpAny_pyIter_valiter st.1 hQ
theorem Ud:KdlSrc prog w "dict_values" r d es.size (fun i v=>∃ h:i < es.size,v = es[i].val) (fun h=>h.IsValuesView r d /\ yT es d ep h) where
 type:=fun _ hm=>hm.1.typeIs
 there:=fun _ hm=>⟨let ⟨_,ho,_⟩:=hm.1; Heap.lt_size ho,let ⟨_,ho,_⟩:=hm.2; Heap.lt_size ho⟩
 keep:=fun _ _ hm hk=>⟨let ⟨o,ho,x⟩:=hm.1; ⟨o,hk r (.inl rfl) o ho,x⟩,hm.2.keep fun o e=>hk d (.inr rfl) o e⟩
 notList:=by decide
 notTuple:=by decide
 hint:=fun _ _ _ _ hm hq=>kdl_hint_values hm.1.typeIs hq
 iter:=fun _ _ hh hm=>⟨_,_,(fun _ _ hq=>WQ hm.1 hm.2 hq),Xc hh _ d (let ⟨_,ho,_⟩:=hm.2; Nat.ne_of_lt (Heap.lt_size ho)) es ep,⟨⟨_,Heap.get?_push_size _ rfl,rfl,rfl⟩,hm.2.keep fun o e=>Heap.get?_push_of_some _ e⟩⟩
end
structure Pt (κ:Type) [DecidableEq κ] where
 it:(P:Program) -> (w:World) -> ItK P w κ
 at_:FG7 -> Hp -> κ -> V -> Prop
 rel:∀ {X:Cx} {pins:List (Addr × Obj)} {σ:L2.St} {H:Hp} {s:Shared} {k:κ} {v:V} {u:Value},Inv X pins σ H s -> at_ X.K H k v -> RelV v u -> (it X.prog X.w).is s.heap k u
 grow:∀ {m:List Addr} {H H':Hp} {K:FG7} {k:κ} {v:V},Grow m H H' -> at_ K H k v -> at_ K H' k v
theorem Xd {P:Program} {w:World} {i:Int} {t:Tok}:(intKind P w).is i (.int i t) = true:=by simp [intKind,Value.isInt]
theorem v9 {P:Program} {w:World}:∀ {ks:List Int} {us:List Value},Vals (ks.map V.int) us -> ItemsAre (intKind P w) ks us
 | [],_,r=>by rw [List.map_nil] at r; cases r; exact .nil
 | k :: ks,_,r=>by
  rw [List.map_cons] at r
  cases r with
  | cons h t=>obtain ⟨tk,e⟩:=(show ∃ t,_ = Value.int k t from h); subst e; exact .cons Xd (v9 t)
def ptI:Pt Int where
 it:=YZ
 at_:=fun _ _ k v=>v = .int k
 rel:=fun _ e r=>by
  subst e
  obtain ⟨t,e⟩:=(show ∃ t,_ = Value.int _ t from r)
  subst e
  exact Xd
 grow:=fun _ e=>e
def ptT:Pt (List Int) where
 it:=SQ
 at_:=fun K H k v=>∃ r,v = .ref r /\ SqT K H r (k.map V.int)
 rel:=fun {X pins σ H s k v u} I z rv=>by
  obtain ⟨r,e,h⟩:=z
  subst e
  obtain rfl:u = Value.ref r:=rv
  obtain ⟨its,rs,p,_⟩:=I.tuple h
  obtain ⟨o,h1,h2,n,h3⟩:=p
  exact ⟨r,rfl,o,its.toArray,n,h1,h2,h3,by simpa using v9 rs⟩
 grow:=fun g ⟨r,e,h⟩=>⟨r,e,g.sqT h⟩
section
variable {κ1 κ2:Type} [DecidableEq κ1] [DecidableEq κ2]
def KAt (p1:Pt κ1) (p2:Pt κ2) (K:FG7) (H:Hp) (k:κ1 × κ2) (b:Addr):Prop:=∃ v1 v2,SqT K H b [v1,v2] /\ p1.at_ K H k.1 v1 /\ p2.at_ K H k.2 v2
abbrev PR:List ((κ1 × κ2) × Addr × V) -> List ((κ1 × κ2) × Addr × Value) -> Prop:=Paired fun p q=>p.1 = q.1 /\ p.2.1 = q.2.1 /\ RelV p.2.2 q.2.2
def NDat (p1:Pt κ1) (p2:Pt κ2) (P:Program) (w:World) (h:Heap) (a:Addr) (kvs:List ((κ1 × κ2) × Addr × V)):Prop :=
 (a == sysModules) = false /\ ∃ xs:List ((κ1 × κ2) × Addr × Value),PR kvs xs /\ ∃ o es ep,h.get? a = some o /\ o.ExactDict /\ o.data = .dict es ep /\ es.toList = xs.map (entryOfKey (wW (p1.it P w) (p2.it P w))) /\ (xs.map (·.1)).Nodup
def ndO (p1:Pt κ1) (p2:Pt κ2) (P:Program) (w:World) (a:Addr) (kvs:List ((κ1 × κ2) × Addr × V)):HO:=.ext fun h=>NDat p1 p2 P w h a kvs
def NDc (p1:Pt κ1) (p2:Pt κ2) (K:FG7) (H:Hp) (kvs:List ((κ1 × κ2) × Addr × V)):Prop:=∀ x ∈ kvs,KAt p1 p2 K H x.1 x.2.1
def prV (x:(κ1 × κ2) × Addr × V):(κ1 × κ2) × V:=(x.1,x.2.2)
def z6 (kvs:List ((κ1 × κ2) × Addr × V)) (k:κ1 × κ2) (b:Addr) (v:V):List ((κ1 × κ2) × Addr × V) :=
 if (kvs.any fun x=>decide (x.1 = k)) = true then kvs.map (fun x=>if x.1 = k then (x.1,x.2.1,v) else x) else kvs ++ [(k,b,v)]
variable {p1:Pt κ1} {p2:Pt κ2} {P:Program} {w:World} {K:FG7} {H H':Hp} {h h':Heap} {a b:Addr} {kvs:List ((κ1 × κ2) × Addr × V)} {k:κ1 × κ2} {v:V}
theorem KAt.grow {m:List Addr} (g:Grow m H H') (x:KAt p1 p2 K H k b):KAt p1 p2 K H' k b:=by
 obtain ⟨v1,v2,h1,h2,h3⟩:=x
 exact ⟨v1,v2,g.sqT h1,p1.grow g h2,p2.grow g h3⟩
theorem NDc.grow {m:List Addr} (g:Grow m H H') (x:NDc p1 p2 K H kvs):NDc p1 p2 K H' kvs:=fun y hy=>(x y hy).grow g
theorem ZB:(z6 kvs k b v).map prV = putK (kvs.map prV) k v:=by
 unfold z6 putK
 have e:((kvs.map prV).any fun kv=>decide (kv.1 = k)) = kvs.any fun x=>decide (x.1 = k):=by rw [List.any_map]; rfl
 rw [e]
 split
 ·rw [List.map_map,List.map_map]
  refine List.map_congr_left fun x _=>?_
  show prV (if x.1 = k then (x.1,x.2.1,v) else x) = if x.1 = k then (x.1,v) else prV x
  split <;> rfl
 ·rw [List.map_append]; rfl
theorem NDc.store (x:NDc p1 p2 K H kvs) (hk:KAt p1 p2 K H k b):NDc p1 p2 K H (z6 kvs k b v):=by
 intro y hy
 unfold z6 at hy
 split at hy
 ·obtain ⟨z,hz,rfl⟩:=List.mem_map.mp hy
  by_cases c:z.1 = k
  ·rw [if_pos c]; exact x z hz
  ·rw [if_neg c]; exact x z hz
 ·rcases List.mem_append.mp hy with z | z
  ·exact x y z
  ·rw [List.mem_singleton.mp z]; exact hk
theorem NDat.ok (z:NDat p1 p2 P w h a kvs) {P':Program} {w':World}:zP P' w' H h a (ndO p1 p2 P w a kvs):=by
 obtain ⟨lo,xs,r,o,es,ep,g,hx,hd,he,nd⟩:=z
 refine ⟨⟨lo,xs,r,o,es,ep,g,hx,hd,he,nd⟩,⟨o,g⟩,?_⟩
 rintro h1 h2 ⟨lo',xs',r',o',es',ep',g',t⟩ kp
 exact ⟨lo',xs',r',o',es',ep',kp o' g',t⟩
theorem NDat.new (h:Heap) (hb:sysModules < h.objs.size):NDat p1 p2 P w (h.push { cls:=.type "dict",data:=.dict #[] }) h.objs.size ([]:List ((κ1 × κ2) × Addr × V)) :=
 ⟨beq_eq_false_iff_ne.mpr (Ne.symm (Nat.ne_of_lt hb)),[],.nil,_,#[],0,Heap.get?_push_size _ rfl,⟨rfl,rfl,rfl⟩,rfl,rfl,List.nodup_nil⟩
theorem PR.val {xs:List ((κ1 × κ2) × Addr × Value)} (r:PR kvs xs) (k:κ1 × κ2):RelO (valV (kvs.map prV) k) ((atKey xs k).map (·.2)):=by
 induction r with
 | nil=>exact True.intro
 | @cons p q ps qs h t ih =>
  obtain ⟨h1,_,h2⟩:=h
  rw [List.map_cons]
  by_cases e:p.1 = k
  ·have e':q.1 = k:=h1.symm.trans e
   have b:atKey (q :: qs) k = some q.2:=by simp [atKey,List.find?_cons,e']
   rw [ya (p:=prV p) e,b]; exact h2
  ·have e':¬ q.1 = k:=fun z=>e (h1.trans z)
   have b:atKey (q :: qs) k = atKey qs k:=by simp [atKey,List.find?_cons,e']
   rw [zZ (p:=prV p) e,b]; exact ih
theorem PR.any {xs:List ((κ1 × κ2) × Addr × Value)} (r:PR kvs xs) (k:κ1 × κ2):(kvs.any fun x=>decide (x.1 = k)) = (atKey xs k).isSome:=by
 have h:=(r.val k).isSome_eq
 rw [Option.isSome_map] at h
 rw [← h,← yX,List.any_map]; rfl
theorem PR.repl {xs:List ((κ1 × κ2) × Addr × Value)} (r:PR kvs xs) (k:κ1 × κ2) {u:Value} (ru:RelV v u):PR (kvs.map fun x=>if x.1 = k then (x.1,x.2.1,v) else x) (xs.map (putAt k u)):=by
 induction r with
 | nil=>exact .nil
 | @cons p q ps qs h t ih =>
  rw [List.map_cons,List.map_cons]
  refine .cons ?_ ih
  obtain ⟨h1,h2,h3⟩:=h
  unfold putAt
  by_cases c:p.1 = k
  ·rw [if_pos c,if_pos (h1.symm.trans c)]; exact ⟨h1,h2,ru⟩
  ·rw [if_neg c,if_neg (fun z=>c (h1.trans z))]; exact ⟨h1,h2,h3⟩
theorem PR.put {xs:List ((κ1 × κ2) × Addr × Value)} (r:PR kvs xs) (k:κ1 × κ2) {u:Value} (ru:RelV v u):PR (z6 kvs k b v) (storedH xs k b u):=by
 have e:=r.any k
 unfold z6 storedH
 rw [e]
 split
 ·exact r.repl k ru
 ·exact Paired.snoc r ⟨rfl,rfl,ru⟩
end
section
variable {κ1 κ2:Type} [DecidableEq κ1] [DecidableEq κ2] {p1:Pt κ1} {p2:Pt κ2} {kvs:List ((κ1 × κ2) × Addr × V)} {k:κ1 × κ2} {v:V}
variable {X:Cx} {pins:List (Addr × Obj)} {σ:L2.St} {H:Hp} {s:Shared} {a b:Addr} {A:Around} {E:VS7}
theorem KAt.is (I:Inv X pins σ H s) (x:KAt p1 p2 X.K H k b):(wW (p1.it X.prog X.w) (p2.it X.prog X.w)).is s.heap k b:=by
 obtain ⟨v1,v2,h,h1,h2⟩:=x
 obtain ⟨its,rs,p,_⟩:=I.tuple h
 obtain ⟨o,g1,g2,n,g3⟩:=p
 cases rs with
 | cons r1 t =>
  cases t with
  | cons r2 t =>
   cases t
   exact ⟨o,_,_,n,g1,g2,g3,p1.rel I h1 r1,p2.rel I h2 r2⟩
theorem Ue (I:Inv X pins σ H s) (e:Rd H a (ndO p1 p2 X.prog X.w a kvs)) (c:NDc p1 p2 X.K H kvs):(a == sysModules) = false /\ ∃ xs,PR kvs xs /\ s.heap.DictOfH (wW (p1.it X.prog X.w) (p2.it X.prog X.w)) a xs:=by
 obtain ⟨⟨lo,xs,r,o,es,ep,g,hx,hd,he,nd⟩,_⟩:=(show zP X.prog X.w H s.heap a (ndO p1 p2 X.prog X.w a kvs) from e.ok I.hok)
 refine ⟨lo,xs,r,o,es,ep,g,hx,hd,he,fun x hx=>?_,nd⟩
 have all:∀ {l:List ((κ1 × κ2) × Addr × V)} {m:List ((κ1 × κ2) × Addr × Value)},PR l m -> NDc p1 p2 X.K H l -> ∀ x ∈ m,(wW (p1.it X.prog X.w) (p2.it X.prog X.w)).is s.heap x.1 x.2.1:=by
  intro l m q
  induction q with
  | nil=>intro _ x hx; exact nomatch hx
  | @cons p q ps qs hq t ih =>
   intro c x hx
   rcases List.mem_cons.mp hx with e | hx
   ·subst e
    rw [← hq.1,← hq.2.1]
    exact (c p (List.mem_cons_self ..)).is I
   ·exact ih (fun y hy=>c y (List.mem_cons_of_mem _ hy)) x hx
 exact all r c x hx
theorem Vw {A:Around} {P:Program} {w:World} {k1:ItK P w κ1} {k2:ItK P w κ2} (hu:A.units + 2 < cLine):(wW k1 k2).room A.in1:=hu
theorem n_in {Q:VS7} (hu:A.units + 2 < cLine) (I:Inv X pins σ H s) (e:Rd H a (ndO p1 p2 X.prog X.w a kvs)) (c:NDc p1 p2 X.K H kvs) (hk:KAt p1 p2 X.K H k b) (h:∀ s',Inv X pins σ H s' -> Q (.bool (valV (kvs.map prV) k).isSome) s') :
  wpAny (model X.prog X.w) A (compareOp .In (.ref b) (.ref a)) Q E s:=by
 obtain ⟨lo,xs,rel,dd⟩:=Ue I e c
 refine wpAny_in_heap (Vw hu) (hk.is I) lo dd ?_
 have q:=(rel.val k).isSome_eq
 rw [Option.isSome_map] at q
 rw [← q]
 exact h _ (I.tok _)
theorem Xe {Q:Unit -> Shared -> Prop} {u:Value} (hu:A.units + 2 < cLine) (I:Inv X pins σ H s) (e:H a = some (ndO p1 p2 X.prog X.w a kvs)) (c:NDc p1 p2 X.K H kvs) (hk:KAt p1 p2 X.K H k b) (hl:kvs.length < sizeLine) (ru:RelV v u)
  (h:∀ s',Inv X pins σ (upd H a (ndO p1 p2 X.prog X.w a (z6 kvs k b v))) s' -> Q () s') :
  wpAny (model X.prog X.w) A (setItem (.ref a) (.ref b) u) Q E s:=by
 obtain ⟨lo,xs,rel,dd⟩:=Ue I (.inl e) c
 have hz:xs.length <= sizeLine:=by rw [← Paired.length rel]; exact Nat.le_of_lt hl
 refine wpAny_setItem_heap (hsz:=hz) (Vw hu) (hk.is I) dd fun h' dd' hs=>h _ ?_
 obtain ⟨q,es,ep,hq,h2,h3,h4,_,h5⟩:=dd'
 refine v4 I (by rw [e]; exact True.intro) hs ⟨q,hq⟩ (NDat.ok ⟨lo,_,rel.put k ru,q,es,ep,hq,h2,h3,h4,h5⟩)
end
section
variable {κ1 κ2:Type} [DecidableEq κ1] [DecidableEq κ2]
def Tz (p1:Pt κ1) (p2:Pt κ2) (P:Program) (w:World):TE:=fun _ H Q=>∀ a,H a = none -> Q (.ref a) (upd H a (ndO p1 p2 P w a []))
def SV (p1:Pt κ1) (p2:Pt κ2) (P:Program) (w:World) (K:FG7) (ty td:TE):TE:=fun σ H Q=>ty σ H fun y H1=>td σ H1 fun x H2=>∃ a kvs k b,x = .ref a /\ y = .ref b /\ Rd H2 a (ndO p1 p2 P w a kvs) /\ NDc p1 p2 K H2 kvs /\ KAt p1 p2 K H2 k b /\ Q (.bl (valV (kvs.map prV) k).isSome) H2
def TB (p1:Pt κ1) (p2:Pt κ2) (P:Program) (w:World) (K:FG7) (td ty tv:TE):TS:=fun D σ H=>tv σ H fun v H1=>td σ H1 fun x H2=>ty σ H2 fun y H3 =>
 ∃ a kvs k b,x = .ref a /\ y = .ref b /\ H3 a = some (ndO p1 p2 P w a kvs) /\ NDc p1 p2 K H3 kvs /\ KAt p1 p2 K H3 k b /\ kvs.length < sizeLine /\ D.nx σ (upd H3 a (ndO p1 p2 P w a (z6 kvs k b v)))
def Uf (p1:Pt κ1) (p2:Pt κ2) (P:Program) (w:World) (K:FG7) (tk tv:TE):TE:=fun σ H Q=>∀ p,H p = none -> tk σ (upd H p (ndO p1 p2 P w p [])) fun y H1=>tv σ H1 fun v H2=>H2 p = some (ndO p1 p2 P w p []) /\ ∃ b k,y = .ref b /\ KAt p1 p2 K H2 k b /\ Q (.ref p) (upd H2 p (ndO p1 p2 P w p [(k,b,v)]))
variable {p1:Pt κ1} {p2:Pt κ2} {X:Cx} {P:Program} {w:World} {K:FG7} {o i e value:Expr} {pos pos':Pos} {td ty tv tk:TE} {k v:Expr}
theorem tV (p1:Pt κ1) (p2:Pt κ2) (hP:X.prog = P) (hw:X.w = w):PE X (.Dict [] [] pos) (Tz p1 p2 P w):=by
 subst hP hw
 exact fun pins s σ H Q I h =>
  wpAny_Dict_empty ⟨.ref s.heap.objs.size,_,I.laid (a:=s.heap.objs.size) (o:=ndO p1 p2 X.prog X.w s.heap.objs.size []) (t':=s.toks) (fun _ _ q=>Heap.get?_push_of_some _ q) (Nat.le_refl _) (NDat.new s.heap I.big).ok,rfl,h _ (I.hok.fresh (Nat.le_refl _))⟩
theorem Ug (hP:X.prog = P) (hw:X.w = w) (hK:X.K = K) (hu:X.A.units + 2 < cLine) (hi:PE X i ty) (ho:PE X o td):PC X .In i o (SV p1 p2 P w K ty td):=by
 subst hP hw hK
 intro pins s σ H Q I h
 refine thn (hi pins s σ H _ I h) fun iv s1 ⟨y,H1,I1,ry,q1⟩=>thn (ho pins s1 σ H1 _ I1 q1) fun u s2 ⟨x,H2,I2,rx,a,kvs,k,b,ex,ey,hr,hc,hk,q2⟩=>?_
 subst ex ey
 obtain rfl:u = Value.ref a:=rx
 obtain rfl:iv = Value.ref b:=ry
 exact n_in hu I2 hr hc hk fun s3 I3=>⟨.bl _,H2,I3,rfl,q2⟩
theorem jG (hP:X.prog = P) (hw:X.w = w) (hK:X.K = K) (hu:X.A.units + 2 < cLine) (ho:PE X o td) (hi:PE X i ty) (hv:PE X value tv) (hs:swapsWith value (some (.Subscript o i pos')) pos.line X.env = pure false) :
  PS X (.Assign [.Subscript o i pos'] value pos) (TB p1 p2 P w K td ty tv):=by
 subst hP hw hK
 intro pins s σ H D I h
 refine wpAny_Assign_Subscript (thn (hv pins s σ H _ I h) fun r s1 ⟨v,H1,I1,rv,q1⟩=>thn (ho pins s1 σ H1 _ I1 q1) fun u s2 ⟨x,H2,I2,rx,q2⟩=>thn (hi pins s2 σ H2 _ I2 q2) fun iv s3 ⟨y,H3,I3,ry,a,kvs,k,b,ex,ey,hr,hc,hk,hl,q3⟩=>?_) hs
 subst ex ey
 obtain rfl:u = Value.ref a:=rx
 obtain rfl:iv = Value.ref b:=ry
 exact Xe hu I3 hr hc hk hl rv fun s4 I4=>⟨σ,_,I4,q3⟩
theorem Xf (hP:X.prog = P) (hw:X.w = w) (hK:X.K = K) (hu:X.A.units + 2 < cLine) (hk:PE X k tk) (hv:PE X v tv):PE X (.Dict [some k] [v] pos) (Uf p1 p2 P w K tk tv):=by
 subst hP hw hK
 intro pins s σ H Q I q
 have hn:=I.hok.fresh (Nat.le_refl s.heap.objs.size)
 have I1:=I.laid (a:=s.heap.objs.size) (o:=ndO p1 p2 X.prog X.w s.heap.objs.size []) (h':=s.heap.push { cls:=.type "dict",data:=.dict #[] }) (t':=s.toks) (fun _ _ q=>Heap.get?_push_of_some _ q) (Nat.le_refl _) (NDat.new s.heap I.big).ok
 rw [arm_eval_Dict,zip_pairTrees [some k] [v] X.env pos rfl rfl,dictDisplay_pairs (pairTrees [some k] [v] X.env pos) (by intro z; cases z) (show 1 < 17 by decide)]
 refine wpAny_bind (wpAny_standAt (wpAny_bind ?_))
 unfold subDict
 refine wpAny_bind (wpAny_alloc ?_)
 refine wpAny_bind (wpAny_holding ?_)
 rw [if_pos (show (pairTrees [some k] [v] X.env pos).length <= 15 from (show 1 <= 15 by decide))]
 refine wpAny_bind (pairTrees_cons_walk (thn (hk pins _ σ _ _ I1 (q _ hn)) fun kv s1 ⟨y,H1,I2,ry,q1⟩=>thn (hv pins s1 σ H1 _ I2 q1) fun vv s2 ⟨vV,H2,I3,rv,e,b,ks,ey,eb,q2⟩=>pairTrees_nil_walk ?_))
 subst ey
 cases (show kv = Value.ref b from ry)
 obtain ⟨lo,xs,rel,dd⟩:=Ue I3 (.inl e) nofun
 cases rel
 refine wpAny_holding ?_
 rw [List.forIn_cons]
 refine wpAny_bind (wpAny_bind (wpAny_bind (wpAny_dictSet_heap (hsz:=Nat.zero_le _) (show (wW (p1.it X.prog X.w) (p2.it X.prog X.w)).room X.A from Nat.lt_of_succ_lt hu) (eb.is I3) dd fun h' dd' hs=>wpAny_pure ?_)))
 show wpAny _ _ (forIn [] _ _) _ _ _
 rw [List.forIn_nil]
 first
  | refine wpAny_pure (wpAny_pure (wpAny_pure (wpAny_pure ⟨.ref s.heap.objs.size,_,?_,rfl,q2⟩)))
  | refine wpAny_pure (wpAny_pure (wpAny_pure ⟨.ref s.heap.objs.size,_,?_,rfl,q2⟩))
 obtain ⟨qo,es,ep,hq,h2,h3,h4,_,h5⟩:=dd'
 exact v4 I3 (by rw [e]; exact True.intro) hs ⟨qo,hq⟩ (NDat.ok ⟨lo,_,PR.put .nil ks rv,qo,es,ep,hq,h2,h3,h4,h5⟩)
end
abbrev EnR:List (V × V) -> List DictEntry -> Prop:=Paired fun (p:V × V) (e:DictEntry)=>RelV p.1 e.key /\ RelV p.2 e.val
structure WkE (a:Addr) (u:HO) (kvs:List (V × V)):Prop where
 lo:∀ {P:Program} {w:World} {H:Hp} {h:Heap},zP P w H h a u -> (a == sysModules) = false /\ ∃ o es ep,h.get? a = some o /\ o.ExactDict /\ o.data = .dict es ep /\ EnR kvs es.toList
 any:∀ {P:Program} {w:World} {H H':Hp} {h:Heap},zP P w H h a u -> zP P w H' h a u
 mu:Mut (some u)
theorem Xg {k:Key} {v:Value} (h:rT k v = true):RelV (kV k) v:=by
 rcases zT h with ⟨i,t,rfl,rfl⟩ | ⟨x,t,rfl,rfl⟩
 ·exact ⟨t,rfl⟩
 ·exact ⟨t,rfl⟩
theorem TC {P:Program} {w:World}:∀ {kvs:List (Key × V)} {vs:List (Key × Value)} {es:List DictEntry},KV kvs vs -> Pairs (z7 P w) es vs -> EnR (kvs.map fun p=>(kV p.1,p.2)) es
 | _,_,_,.nil,.nil=>.nil
 | p :: _,q :: _,e :: _,.cons r t,.cons h1 h2 t2=>.cons ⟨(show RelV (kV p.1) e.key by rw [r.1]; exact Xg h1),(show RelV p.2 e.val by rw [h2]; exact r.2)⟩ (TC t t2)
theorem TD (a:Addr) (kvs:List (Key × V)):WkE a (HO.dK kvs) (kvs.map fun p=>(kV p.1,p.2)) where
 lo:=fun x=>by
  obtain ⟨z,hd,vs,rel,o,es,ep,g,hx,hdat,_,hp,_⟩:=x
  exact ⟨hd,o,es,ep,g,hx,hdat,TC rel hp⟩
 any:=fun x=>x
 mu:=trivial
section
variable {κ1 κ2:Type} [DecidableEq κ1] [DecidableEq κ2] {p1:Pt κ1} {p2:Pt κ2}
theorem TF {P:Program} {w:World} {k1:ItK P w κ1} {k2:ItK P w κ2}:∀ {kvs:List ((κ1 × κ2) × Addr × V)} {xs:List ((κ1 × κ2) × Addr × Value)},PR kvs xs -> EnR (kvs.map fun x=>(V.ref x.2.1,x.2.2)) (xs.map (entryOfKey (wW k1 k2)))
 | _,_,.nil=>.nil
 | p :: _,q :: _,.cons r t=>.cons ⟨(show RelV (V.ref p.2.1) (Value.ref q.2.1) by rw [r.2.1]; rfl),r.2.2⟩ (TF t)
theorem TH (P:Program) (w:World) (a:Addr) (kvs:List ((κ1 × κ2) × Addr × V)):WkE a (ndO p1 p2 P w a kvs) (kvs.map fun x=>(V.ref x.2.1,x.2.2)) where
 lo:=fun x=>by
  obtain ⟨⟨lo,xs,r,o,es,ep,g,hx,hd,he,nd⟩,_⟩:=x
  exact ⟨lo,o,es,ep,g,hx,hd,by rw [he]; exact TF r⟩
 any:=fun x=>x
 mu:=trivial
end
theorem Vx {kvs:List (V × V)} {es:Array DictEntry} {i:Nat} (r:EnR kvs es.toList) (hi:i < es.size):∃ p,kvs[i]? = some p /\ RelV p.1 es[i].key /\ RelV p.2 es[i].val:=by
 have e:es.toList[i]? = some es[i]:=by rw [Array.getElem?_toList,Array.getElem?_eq_getElem hi]
 obtain ⟨p,hp,h⟩:=rn r e
 exact ⟨p,hp,h⟩
theorem WT {P:Program} {w:World} {H:Hp} {h:Heap} {a:Addr} {o:Obj} {u:HO} {kvs:List (V × V)} {es:Array DictEntry} {ep:Nat} (W:WkE a u kvs) (x:zP P w H h a (.frz o u)) (hd:o.data = .dict es ep):h.get? a = some o /\ EnR kvs es.toList:=by
 obtain ⟨g,y⟩:=x
 obtain ⟨_,o',es',ep',g',_,hd',r⟩:=W.lo y
 rw [g] at g'
 cases g'
 rw [hd] at hd'
 injection hd' with e1 _
 subst e1
 exact ⟨g,r⟩
def ItI (a:Addr) (o:Obj) (u:HO) (kvs:List (V × V)):It :=
 ⟨fun i H=>i < kvs.length /\ H a = some (.frz o u),fun i H x H'=>∃ T p,H T = none /\ x = .ref T /\ kvs[i]? = some p /\ H' = upd H T (.tup [p.1,p.2]),fun i H=>i = kvs.length /\ H a = some (.frz o u)⟩
def ItJ (a:Addr) (o:Obj) (u:HO) (kvs:List (V × V)):It :=
 ⟨fun i H=>i < kvs.length /\ H a = some (.frz o u),fun i H x H'=>H' = H /\ ∃ p,kvs[i]? = some p /\ x = p.1,fun i H=>i = kvs.length /\ H a = some (.frz o u)⟩
theorem TJ {P:Program} {w:World} {K:FG7} {elts:List Expr} {kt:Nat} {pt:Pos} (a it:Addr) (o:Obj) (u:HO) (es:Array DictEntry) (ep:Nat) (kvs:List (V × V)) (W:WkE a u kvs) (hx:o.ExactDict) (hd:o.data = .dict es ep) (hes:es.size = kvs.length) :
  Turn P w K (.Tuple elts kt pt) (ItI a o u kvs) [it] it (fun i h=>∃ ok ov,IsItemIter h it a i es.size ep ok ov) where
 mem:=by simp
 obj:=fun i h st b hb=>by
  have e:b = it:=by simpa using hb
  subst e
  obtain ⟨ok,ov,st⟩:=st
  exact ⟨_,st,fun v z=>by cases z⟩
 keep:=fun i h h' st k=>by
  obtain ⟨ok,ov,st⟩:=st
  exact ⟨ok,ov,k it (by simp) _ st⟩
 item:=by
  intro X hP hw hK hc i pins s σ H E I hf st hg
  subst hP hw hK
  obtain ⟨ok,ov,st⟩:=st
  obtain ⟨hi,hH⟩:=hg
  obtain ⟨g,r⟩:=WT W (I.hok a _ hH) hd
  have hie:i < es.size:=by omega
  obtain ⟨p,hp,r1,r2⟩:=Vx r hie
  refine WO st ⟨o,g,hx,hd⟩ hie fun h1 hout hT hk=>?_
  refine ⟨_,rfl,wpAny_letOwnedTupleGo_items (s:={ s with heap:=h1 }) hout fun h2 he2 hs2=>?_⟩
  have eT:s.heap.objs.size ≠ it:=Nat.ne_of_gt (Heap.lt_size st)
  have hk2:∀ b o,b ∉ [it] -> s.heap.get? b = some o -> h2.get? b = some o:=fun b o hb q=>by
   have n1:b ≠ it:=fun z=>hb (by simp [z])
   exact (hs2.2 b n1).trans (hk b o n1 q)
  have hT2:h2.get? s.heap.objs.size = some { cls:=.type "tuple",data:=.seq #[es[i].key,es[i].val] }:=(hs2.2 _ eT).trans hT
  have hn:H s.heap.objs.size = none:=I.hok.fresh (Nat.le_refl _)
  have I2:Inv X pins σ (upd H s.heap.objs.size (.tup [p.1,p.2])) { s with heap:=h2,toks:=s.toks }:=jo (s:=s) I hk2 hf (Nat.le_refl _) ⟨by show 2 <= sizeLine; decide,[es[i].key,es[i].val],.cons r1 (.cons r2 .nil),_,hT2,rfl,0,rfl⟩
  refine ⟨.ref s.heap.objs.size,_,I2,rfl,⟨_,p,hn,rfl,hp,rfl⟩,⟨_,_,he2⟩,fun b hb=>?_⟩
  have e:b = it:=by simpa using hb
  subst e
  rw [zv (Ne.symm eT)]
  exact (hf b (by simp)).1
 done:=by
  intro X hP hw hK hc i pins s σ H E I hf st hg
  subst hP hw hK
  obtain ⟨ok,ov,st⟩:=st
  obtain ⟨hi,hH⟩:=hg
  obtain ⟨g,r⟩:=WT W (I.hok a _ hH) hd
  have ei:i = es.size:=by omega
  subst ei
  exact Ub (I.ok.hd hc) st ⟨o,g,hx,hd⟩ fun h' eb=>⟨rfl,qe (fp:=[it]) (t':=s.toks) I (fun b o hb q=>eb b o (fun z=>hb (by simp [z])) q) hf⟩
 self:=fun _ _ _ _ _ st h=>by
  obtain ⟨ok,ov,st⟩:=st
  have hT:Shared.TypeIs _ (.ref it) "dict_itemiterator":=⟨_,st,rfl⟩
  refine wpAny_pyIter_slot hT PySem.F.slot_dict_itemiterator_iter (wpAny_call_entry PySem.F.slot_dict_itemiterator_iter hT Zz ?_ (PySem.F.args_dict_itemiterator_iter_1 _))
  show wpAny _ _ (ret (.ref it)) _ _ _
  exact wpAny_pure ⟨_,rfl,"dict_itemiterator",_,hT,PySem.F.slot_dict_itemiterator_next.lookup,h⟩
theorem TK {P:Program} {w:World} {K:FG7} {tg:Expr} (a it:Addr) (o:Obj) (u:HO) (es:Array DictEntry) (ep:Nat) (kvs:List (V × V)) (W:WkE a u kvs) (hx:o.ExactDict) (hd:o.data = .dict es ep) (hes:es.size = kvs.length) :
  Turn P w K tg (ItJ a o u kvs) [it] it (fun i h=>h.IsKeyIter it a i es.size ep) where
 mem:=by simp
 obj:=fun i h st b hb=>by
  have e:b = it:=by simpa using hb
  subst e
  obtain ⟨o,e,c,d⟩:=st
  exact ⟨o,e,fun v z=>by rw [d] at z; cases z⟩
 keep:=fun i h h' st k=>st.at fun o e=>k it (by simp) o e
 item:=by
  intro X hP hw hK hc i pins s σ H E I hf st hg
  subst hP hw hK
  obtain ⟨hi,hH⟩:=hg
  obtain ⟨g,r⟩:=WT W (I.hok a _ hH) hd
  have hie:i < es.size:=by omega
  obtain ⟨p,hp,r1,r2⟩:=Vx r hie
  obtain ⟨f0,f1,f2,f3,f4,f5⟩:=hf it (by simp)
  refine WI st ⟨o,g,hx,hd⟩ hie fun h' st' sb=>?_
  have I1:Inv X pins σ H { s with heap:=h' }:=I.turned (t':=s.toks) (fun b o hb e=>(sb.2 b hb).trans e) f0 f1 f3 f4 f5
  obtain ⟨oi,e,c,d⟩:=id st'
  exact ⟨_,rfl,X9 (s:={ s with heap:=h' }) e c d (by decide) ⟨p.1,H,I1,r1,⟨rfl,p,hp,rfl⟩,st',fun b hb=>(hf b hb).1⟩⟩
 done:=by
  intro X hP hw hK hc i pins s σ H E I hf st hg
  subst hP hw hK
  obtain ⟨hi,hH⟩:=hg
  obtain ⟨g,r⟩:=WT W (I.hok a _ hH) hd
  obtain ⟨f0,f1,f2,f3,f4,f5⟩:=hf it (by simp)
  have ei:i = es.size:=by omega
  subst ei
  exact V9 (I.ok.hd hc) st ⟨o,g,hx,hd⟩ fun h' eb=>⟨rfl,I.turned (t':=s.toks) (fun b o hb e=>eb b o hb e) f0 f1 f3 f4 f5⟩
 self:=fun _ _ _ _ _ st h=>wpAny_pyIter_keyiter st h
theorem Grow.frzE {m:List Addr} {H:Hp} {d:Addr} {u:HO} {o:Obj} (h:H d = some u) (mu:Mut (some u)) (hm:d ∈ m):Grow m H (upd H d (.frz o u)) :=
 ⟨fun b v hb q=>by rw [zv (show b ≠ d from fun z=>hb (by rw [z]; exact hm))]; exact q,fun b zs q=>by rw [zv (fun z=>by subst z; rw [h] at q; cases q; exact mu)]; exact q,fun b u v q=>by rw [zv (fun z=>by subst z; rw [h] at q; cases q; exact mu)]; exact q⟩
section
variable {X:Cx} {elts:List Expr} {kt:Nat} {pt:Pos} {tg:Expr}
def WkOf (H1:Hp) (a:Addr) (u:HO) (kvs:List (V × V)) (R:Obj -> Hp -> Prop):Prop:=WkE a u kvs /\ Rd H1 a u /\ ∀ o H',H' a = some (.frz o u) -> Grow [a] H1 H' -> (∀ b,b ≠ a -> H' b = H1 b) -> R o H'
theorem qz {pins:List (Addr × Obj)} {σ:L2.St} {H1:Hp} {s1:Shared} {a:Addr} {u:HO} {kvs:List (V × V)} {R:Obj -> Hp -> Prop} {G:Prop} (I1:Inv X pins σ H1 s1) (h:WkOf H1 a u kvs R)
  (key:∀ (H2:Hp) (ob:Obj) (es:Array DictEntry) (ep:Nat),Inv X pins σ H2 s1 -> WkE a u kvs -> H2 a = some (.frz ob u) -> (a == sysModules) = false -> s1.heap.get? a = some ob -> ob.ExactDict -> ob.data = .dict es ep -> es.size = kvs.length -> EnR kvs es.toList -> R ob H2 -> G):G:=by
 obtain ⟨W,hrd,q⟩:=h
 rcases hrd with ha | ⟨ob,ha⟩
 ·have ok1:=I1.hok a _ ha
  obtain ⟨lo,ob,es,ep,g,hx,hd,r⟩:=W.lo ok1
  have I2:Inv X pins σ (upd H1 a (.frz ob u)) { s1 with heap:=s1.heap,toks:=s1.toks }:=v4 I1 (by rw [ha]; exact W.mu) (Heap.SameBut.refl ..) ⟨ob,g⟩ ⟨g,W.any ok1⟩
  have hl:es.size = kvs.length:=by rw [← Array.length_toList]; exact (Paired.length r).symm
  exact key _ ob es ep I2 W zb lo g hx hd hl r (q ob _ zb (Grow.frzE ha W.mu (by simp)) fun b hb=>zv hb)
 ·have ok1:=I1.hok a _ ha
  obtain ⟨g,y⟩:=ok1
  obtain ⟨lo,ob',es,ep,g',hx,hd,r⟩:=W.lo y
  rw [g] at g'
  cases g'
  have hl:es.size = kvs.length:=by rw [← Array.length_toList]; exact (Paired.length r).symm
  exact key _ ob es ep I1 W ha lo g hx hd hl r (q ob _ ha (Grow.refl _ _) fun _ _=>rfl)
def iItI (tl:TE):TI:=fun σ H R=>tl σ H fun x H1=>∃ a u kvs,x = .ref a /\ WkOf H1 a u kvs (fun o H'=>R (ItI a o u kvs) H')
def iItJ (tl:TE):TI:=fun σ H R=>tl σ H fun x H1=>∃ a u kvs,x = .ref a /\ WkOf H1 a u kvs (fun o H'=>R (ItJ a o u kvs) H')
theorem Xh {o:Expr} {to:TE} {apos cpos:Pos} (ho:PE X o to)
  (hbase:attributeBase o "items" X.env (eval o X.env) = eval o X.env:=by rfl) (hline:(apos.endLine == cpos.line) = true:=by rfl) :
  PI X (.Tuple elts kt pt) (.Call (.Attribute o "items" apos) [] [] cpos) (iItI to):=by
 intro pins s σ H R I h
 refine wpAny_Call_method0_late hbase hline (thn (ho pins s σ H _ I h) fun v s1 ⟨x,H1,I1,r1,a,u,kvs,ex,hw⟩=>?_)
 subst ex
 obtain rfl:v = Value.ref a:=r1
 refine qz I1 hw fun H2 ob es ep I2 W hH lo g hx hd hl r hR=>?_
 have em:yT es a ep s1.heap:=⟨ob,g,hx,hd⟩
 refine ⟨"dict","dict.items",PySem.F.plainAttrs_dict,PySem.F.slot_dict_items,PySem.F.type_dict_items,em.typeIs,fun b e=>by cases e; exact ⟨ob,g,hx.2.1⟩,Calls.callWith_builtin rfl (PySem.evalArgs_none (WM lo em ?_))⟩
 have em':yT es a ep (s1.heap.push { cls:=.type "dict_items",data:=.fields #[.ref a] }):=em.keep fun o e=>Heap.get?_push_of_some _ e
 have I3:Inv X pins σ H2 { s1 with heap:=s1.heap.push { cls:=.type "dict_items",data:=.fields #[.ref a] } }:=I2.kept (t':=s1.toks) fun b o e=>Heap.get?_push_of_some _ e
 refine WN (s:={ s1 with heap:=s1.heap.push { cls:=.type "dict_items",data:=.fields #[.ref a] } }) ⟨_,Heap.get?_push_size _ rfl,rfl,rfl⟩ em' ?_
 refine ⟨_,[_],_,_,H2,rfl,I3.kept (t':=s1.toks) fun b o e=>Heap.get?_push_of_some _ e,TJ a _ ob u es ep kvs W hx hd hl,⟨_,_,Heap.get?_push_size _ rfl⟩,fun b hb=>?_,hR⟩
 have e:=List.mem_singleton.mp hb
 subst e
 exact I3.fpOk (Nat.le_refl _) (I3.hok.fresh (Nat.le_refl _))
theorem Uh {l:Expr} {tl:TE} (hl:PE X l tl):PI X tg l (iItJ tl):=by
 intro pins s σ H R I h
 refine thn (hl pins s σ H _ I h) fun v s1 ⟨x,H1,I1,r1,a,u,kvs,ex,hw⟩=>?_
 subst ex
 obtain rfl:v = Value.ref a:=r1
 refine qz I1 hw fun H2 ob es ep I2 W hH lo g hx hd hl r hR=>?_
 refine WH lo ⟨ob,g,hx,hd⟩ ?_
 refine ⟨s1.heap.objs.size,[s1.heap.objs.size],_,_,H2,rfl,I2.kept (t':=s1.toks) fun b o e=>Heap.get?_push_of_some _ e,TK a _ ob u es ep kvs W hx hd hl,⟨_,Heap.get?_push_size _ rfl,rfl,rfl⟩,fun b hb=>?_,hR⟩
 have e:b = s1.heap.objs.size:=by simpa using hb
 subst e
 exact I2.fpOk (Nat.le_refl _) (I2.hok.fresh (Nat.le_refl _))
end
theorem TL {a:Addr} {o:Obj} {u:HO} {kvs:List (V × V)} {g:TG} {tb:TS} {D:Ends} {σ:L2.St} {H:Hp} (Pv:Nat -> L2.St -> Hp -> Prop) (h0:Pv 0 σ H) (hl:∀ i σ H,i <= kvs.length -> Pv i σ H -> H a = some (.frz o u))
  (hs:∀ i p T σ H,kvs[i]? = some p -> H T = none -> Pv i σ H -> g (.ref T) σ (upd H T (.tup [p.1,p.2])) fun σ2 H2=>tb { D with nx:=Pv (i + 1),ct:=Pv (i + 1),bk:=D.nx } σ2 H2) (hd:∀ σ H,Pv kvs.length σ H -> D.nx σ H) :
  ∃ W:Nat -> Nat -> L2.St -> Hp -> Prop,(∃ m,W 0 m σ H) /\ ∀ i m σ H,W i m σ H →
   ((ItI a o u kvs).stop i H /\ D.nx σ H) \/ ((ItI a o u kvs).go i H /\ ∃ N:L2.St -> Hp -> Prop,(∀ σ' H',N σ' H' -> ∃ m',m' < m /\ W (i + 1) m' σ' H') /\ ∀ x H',(ItI a o u kvs).yld i H x H' -> g x σ H' fun σ2 H2=>tb { D with nx:=N,ct:=N,bk:=D.nx } σ2 H2):=by
 refine ⟨fun i m σ H=>m = kvs.length - i /\ i <= kvs.length /\ Pv i σ H,⟨kvs.length,by simp,Nat.zero_le _,h0⟩,?_⟩
 rintro i m σ H ⟨rfl,hi,p⟩
 have q:=hl i σ H hi p
 by_cases hlt:i < kvs.length
 ·refine .inr ⟨⟨hlt,q⟩,Pv (i + 1),fun σ' H' p'=>⟨kvs.length - (i + 1),by omega,rfl,hlt,p'⟩,fun x H' y=>?_⟩
  obtain ⟨T,pk,hT,rfl,hp,rfl⟩:=y
  exact hs i pk T σ H hp hT p
 ·have e:i = kvs.length:=by omega
  exact .inl ⟨⟨e,q⟩,hd σ H (e ▸ p)⟩
theorem SW {a:Addr} {o:Obj} {u:HO} {kvs:List (V × V)} {g:TG} {tb:TS} {D:Ends} {σ:L2.St} {H:Hp} (Pv:Nat -> L2.St -> Hp -> Prop) (h0:Pv 0 σ H) (hl:∀ i σ H,i <= kvs.length -> Pv i σ H -> H a = some (.frz o u))
  (hs:∀ i p σ H,kvs[i]? = some p -> Pv i σ H -> g p.1 σ H fun σ2 H2=>tb { D with nx:=Pv (i + 1),ct:=Pv (i + 1),bk:=D.nx } σ2 H2) (hd:∀ σ H,Pv kvs.length σ H -> D.nx σ H) :
  ∃ W:Nat -> Nat -> L2.St -> Hp -> Prop,(∃ m,W 0 m σ H) /\ ∀ i m σ H,W i m σ H →
   ((ItJ a o u kvs).stop i H /\ D.nx σ H) \/ ((ItJ a o u kvs).go i H /\ ∃ N:L2.St -> Hp -> Prop,(∀ σ' H',N σ' H' -> ∃ m',m' < m /\ W (i + 1) m' σ' H') /\ ∀ x H',(ItJ a o u kvs).yld i H x H' -> g x σ H' fun σ2 H2=>tb { D with nx:=N,ct:=N,bk:=D.nx } σ2 H2):=by
 refine ⟨fun i m σ H=>m = kvs.length - i /\ i <= kvs.length /\ Pv i σ H,⟨kvs.length,by simp,Nat.zero_le _,h0⟩,?_⟩
 rintro i m σ H ⟨rfl,hi,p⟩
 have q:=hl i σ H hi p
 by_cases hlt:i < kvs.length
 ·refine .inr ⟨⟨hlt,q⟩,Pv (i + 1),fun σ' H' p'=>⟨kvs.length - (i + 1),by omega,rfl,hlt,p'⟩,fun x H' y=>?_⟩
  obtain ⟨rfl,pk,hp,rfl⟩:=y
  exact hs i pk σ _ hp p
 ·have e:i = kvs.length:=by omega
  exact .inl ⟨⟨e,q⟩,hd σ H (e ▸ p)⟩
theorem Xi:∀ {kvs:List (V × V)} {es:List DictEntry},EnR kvs es -> Vals (kvs.map (·.2)) (es.map (·.val))
 | _,_,.nil=>.nil
 | _,_,.cons h t=>.cons h.2 (Xi t)
section
variable {X:Cx} {o:Expr} {to:TE} {p pos apos cpos:Pos}
def Xj (to:TE):TE:=fun σ H Q=>to σ H fun x H1=>∃ a u kvs,x = V.ref a /\ kvs.length <= sizeLine /\ WkOf H1 a u kvs (fun _ H'=>∀ l,H' l = none -> Q (.ref l) (upd H' l (.lst (kvs.map (·.2)))))
theorem qA {k:Nat} (hr:Room k X.A) (hgl:Gl X "list") (hmt:X.mg "list" = none) (ho:PE X o to)
  (hbase:attributeBase o "values" X.env (eval o X.env) = eval o X.env:=by rfl) (hline:(apos.endLine == cpos.line) = true:=by rfl)
  (hs2:starEach [(.Call (.Attribute o "values" apos) [] [] cpos:Expr)] X.env = [(false,eval (.Call (.Attribute o "values" apos) [] [] cpos) X.env)]:=by rfl) :
  PE X (.Call (.Name "list" p) [.Call (.Attribute o "values" apos) [] [] cpos] [] pos) (Xj to):=by
 intro pins s σ H Q I h
 refine wpAny_Call_Name_kw (xO I hgl hmt sM (PyProof.Rows.callWith_type1 ?_ hs2 rfl))
 rw [hs2]
 show wpAny _ _ (spliced [(false,eval (.Call (.Attribute o "values" apos) [] [] cpos) X.env)]) _ _ s
 refine Calls.spliced_cons ?_
 refine wpAny_Call_method0_late hbase hline (thn (ho pins s σ H _ I h) fun v s1 ⟨x,H1,I1,r1,a,u,kvs,ex,hz,hw⟩=>?_)
 subst ex
 obtain rfl:v = Value.ref a:=r1
 refine qz I1 hw fun H2 ob es ep I2 W hH lo g hx hd hl r hR=>?_
 have em:yT es a ep s1.heap:=⟨ob,g,hx,hd⟩
 refine ⟨"dict","dict.values",PySem.F.plainAttrs_dict,PySem.F.slot_dict_values,PySem.F.type_dict_values,em.typeIs,fun b e=>by cases e; exact ⟨ob,g,hx.2.1⟩,Calls.callWith_builtin rfl (PySem.evalArgs_none (WP lo em (Calls.spliced_nil ?_)))⟩
 have em':yT es a ep (s1.heap.push { cls:=.type "dict_values",data:=.fields #[.ref a] }):=em.keep fun o e=>Heap.get?_push_of_some _ e
 have I3:Inv X pins σ H2 { s1 with heap:=s1.heap.push { cls:=.type "dict_values",data:=.fields #[.ref a] } }:=I2.kept (t':=s1.toks) fun b o e=>Heap.get?_push_of_some _ e
 refine kdl_call (s:={ s1 with heap:=s1.heap.push { cls:=.type "dict_values",data:=.fields #[.ref a] } }) (Ud (es:=es) (ep:=ep) (d:=a) (r:=s1.heap.objs.size)) hr.hd ⟨⟨_,Heap.get?_push_size _ rfl,rfl,rfl⟩,em'⟩ (by rw [hl]; exact hz) fun h' tk acc' c' kp e hI=>?_
 have hacc:acc'.toList = es.toList.map (·.val):=by
  apply List.ext_getElem
  ·rw [Array.length_toList,hI.1,List.length_map,Array.length_toList]
  ·intro j h1 h2
   rw [Array.length_toList] at h1
   obtain ⟨hj,ev⟩:=hI.2 j acc'[j] (Array.getElem?_eq_getElem h1)
   rw [Array.getElem_toList,ev,List.getElem_map,Array.getElem_toList]
 refine ⟨.ref _,_,I3.laid (t':=tk) kp (Nat.le_refl _) (show zP X.prog X.w _ h' _ (.lst (kvs.map (·.2))) from ⟨by rw [List.length_map]; exact hz,acc'.toList,c',by rw [hacc]; exact Xi r,by rw [Array.toArray_toList]; exact e⟩),rfl,hR _ (I3.hok.fresh (Nat.le_refl _))⟩
end
theorem Room.u173 {k:Nat} {A:Around} (r:Room k A):A.units + 1 < cLine:=by have:=r.un; omega
theorem Room.u2 {k:Nat} {A:Around} (r:Room k A):A.units + 2 < cLine:=by have:=r.un; omega
def x0R (k:Nat) (rows:List (List Int)) (s l:Nat):Nat:=wfN k s l (fstI rows s (nN k s l))
def x1R (k:Nat) (rows:List (List Int)) (s l:Nat):Nat:=wfN k s l (1 - fstI rows s (nN k s l))
def outR (k s l b:Nat):Nat:=wfN k s l (figI k s ((b % 2 ^ k:Nat):Int))
theorem TM {k s l m:Nat} {w:Int} (k4:k <= 4) (s1:1 <= s) (sk:s <= k) (hl:l < 2 ^ k) (hm:m < 2 ^ k) (hw:w = 0 \/ w = 1) (h:∀ t:Nat,1 <= t -> t <= k -> t ≠ s -> figI k t l = figI k t m):wfN k s l w = wfN k s m w:=by
 have A:=wfF k4 s1 sk hl hw
 have B:=wfF k4 s1 sk hm hw
 refine tK k4 A.lt B.lt fun t t1 tk=>?_
 by_cases c:t = s
 ·rw [c,A.at_,B.at_]
 ·rw [A.off t tk c,B.off t tk c,h t t1 tk c]
theorem TN {k s l m:Nat} (s1:1 <= s) (sk:s <= k) (h:∀ t:Nat,1 <= t -> t <= k -> t ≠ s -> figI k t l = figI k t m):nN k s l = nN k s m:=by
 rw [Vt (e:=m) (x:=m) s1 sk (fun u u1 u2=>h u u1 (by omega) (by omega)) fun u u1 u2=>h u (by omega) u2 (by omega)]
 exact (Vt (e:=m) (x:=m) s1 sk (fun u _ _=>rfl) fun u _ _=>rfl).symm
section
variable {k:Nat} {rows:List (List Int)}
theorem TQ {s l m:Nat} (k4:k <= 4) (hs:tJ k rows) (s1:1 <= s) (sk:s <= k) (hl:l < 2 ^ k) (hm:m < 2 ^ k) (h:∀ t:Nat,1 <= t -> t <= k -> t ≠ s -> figI k t l = figI k t m) :
  x0R k rows s l = x0R k rows s m /\ x1R k rows s l = x1R k rows s m:=by
 have e:=TN s1 sk h
 have f:=Td k4 hs s1 sk hm
 unfold x0R x1R
 rw [e]
 exact ⟨TM k4 s1 sk hl hm f h,TM k4 s1 sk hl hm (by omega) h⟩
structure XF (k:Nat) (rows:List (List Int)) (s l:Nat):Prop where
 lt0:x0R k rows s l < 2 ^ k
 lt1:x1R k rows s l < 2 ^ k
 ne:x0R k rows s l ≠ x1R k rows s l
 or:l = x0R k rows s l \/ l = x1R k rows s l
 off0:∀ t:Nat,t <= k -> t ≠ s -> figI k t (x0R k rows s l) = figI k t l
 off1:∀ t:Nat,t <= k -> t ≠ s -> figI k t (x1R k rows s l) = figI k t l
theorem xF {s l:Nat} (k4:k <= 4) (hs:tJ k rows) (s1:1 <= s) (sk:s <= k) (hl:l < 2 ^ k):XF k rows s l:=by
 have f:=Td k4 hs s1 sk hl
 have A:=wfF k4 s1 sk hl f
 have B:=wfF k4 s1 sk hl (show 1 - fstI rows s (nN k s l) = 0 \/ 1 - fstI rows s (nN k s l) = 1 by omega)
 have g:=Tc (l:=l) k4 sk hl
 refine ⟨A.lt,B.lt,fun e=>?_,?_,A.off,B.off⟩
 ·have e':wfN k s l (fstI rows s (nN k s l)) = wfN k s l (1 - fstI rows s (nN k s l)):=e
  have a:=A.at_
  rw [e',B.at_] at a
  omega
 ·by_cases c:figI k s l = fstI rows s (nN k s l)
  ·refine .inl (tK k4 hl A.lt fun t t1 tk=>?_)
   by_cases d:t = s
   ·rw [d]; exact c.trans A.at_.symm
   ·exact (A.off t tk d).symm
  ·refine .inr (tK k4 hl B.lt fun t t1 tk=>?_)
   by_cases d:t = s
   ·rw [d,show figI k s (x1R k rows s l) = 1 - fstI rows s (nN k s l) from B.at_]; omega
   ·exact (B.off t tk d).symm
theorem Xk {b:Nat}:b % 2 ^ k < 2 ^ k:=Nat.mod_lt _ (Nat.two_pow_pos k)
theorem outF {s l b:Nat} (k4:k <= 4) (s1:1 <= s) (sk:s <= k) (hl:l < 2 ^ k):WfF k s l (figI k s ((b % 2 ^ k:Nat):Int)):=wfF k4 s1 sk hl (Tc k4 sk Xk)
def TR:Option Deed -> Option Deed -> Option Deed
 | some d,some e=>some (UX d e)
 | some d,none=>some d
 | none,o=>o
def lvR (k:Nat) (rows:List (List Int)) (ks:List Ask):Nat -> Nat -> Nat -> Option Deed
 | 0,l,b=>(ks.find? fun a=>decide (a.hand = (l:Int) /\ a.box = (b:Int))).map (·.deed)
 | s + 1,l,b=>if figI k ((s + 1:Nat):Int) l = figI k ((s + 1:Nat):Int) ((b % 2 ^ k:Nat):Int) then TR (lvR k rows ks s (x0R k rows (s + 1) l) b) (lvR k rows ks s (x1R k rows (s + 1) l) b) else none
def arrR (k:Nat) (rows:List (List Int)) (ks:List Ask):Nat -> Nat -> Nat -> List Ask
 | 0,l,b=>ks.filter fun a=>decide (a.hand = (l:Int) /\ a.box = (b:Int))
 | s + 1,l,b=>if figI k ((s + 1:Nat):Int) l = figI k ((s + 1:Nat):Int) ((b % 2 ^ k:Nat):Int) then arrR k rows ks s (x0R k rows (s + 1) l) b ++ arrR k rows ks s (x1R k rows (s + 1) l) b else []
def runR (v:Int) (as:List Ask):Int:=as.foldl (fun v a=>a.deed.mk' v) v
structure RndOk (k m:Nat) (ks:List Ask):Prop where
 nd:(ks.map (·.hand)).Nodup
 hand:∀ a ∈ ks,0 <= a.hand /\ a.hand < 2 ^ k
 box:∀ a ∈ ks,0 <= a.box /\ a.box < m
 ok:∀ a ∈ ks,a.deed.Ok
structure LvF (k:Nat) (rows:List (List Int)) (ks:List Ask) (s l b:Nat):Prop where
 non:lvR k rows ks s l b = none ↔ arrR k rows ks s l b = []
 run:∀ d,lvR k rows ks s l b = some d -> d.Ok /\ ∀ v,d.mk' v = runR v (arrR k rows ks s l b)
theorem TU {ks:List Ask} (k4:k <= 4) (hs:tJ k rows) {s l b:Nat} (sk:s + 1 <= k) (hl:l < 2 ^ k) (h:lvR k rows ks (s + 1) l b ≠ none):∃ x,x < 2 ^ k /\ outR k (s + 1) x b = l /\ lvR k rows ks s x b ≠ none:=by
 by_cases c:figI k ((s + 1:Nat):Int) l = figI k ((s + 1:Nat):Int) ((b % 2 ^ k:Nat):Int)
 ·have e2:lvR k rows ks (s + 1) l b = TR (lvR k rows ks s (x0R k rows (s + 1) l) b) (lvR k rows ks s (x1R k rows (s + 1) l) b):=if_pos c
  have X:=xF k4 hs (show 1 <= s + 1 by omega) sk hl
  have back:∀ x:Nat,x < 2 ^ k -> (∀ t:Nat,t <= k -> t ≠ s + 1 -> figI k t x = figI k t l) -> outR k (s + 1) x b = l:=by
   intro x hx ho
   have W:=outF (b:=b) k4 (show 1 <= s + 1 by omega) sk hx
   refine tK k4 W.lt hl fun t t1 tk=>?_
   by_cases d:t = s + 1
   ·rw [d]; exact W.at_.trans c.symm
   ·exact (W.off t tk d).trans (ho t tk d)
  cases h0:lvR k rows ks s (x0R k rows (s + 1) l) b with
  | some d=>exact ⟨_,X.lt0,back _ X.lt0 X.off0,by rw [h0]; exact fun z=>nomatch z⟩
  | none =>
   refine ⟨_,X.lt1,back _ X.lt1 X.off1,fun z=>h ?_⟩
   rw [e2,h0,z]; rfl
 ·exact absurd (if_neg c) h
def stvR (k:Nat) (rows:List (List Int)) (ks:List Ask) (bd:Nat -> Int):Nat -> Nat -> Nat -> Int
 | 0,_,b=>bd b
 | n + 1,l,b=>match lvR k rows ks (k - n - 1) (x0R k rows (k - n) l) b,lvR k rows ks (k - n - 1) (x1R k rows (k - n) l) b with
  | some d,some _=>if l = x1R k rows (k - n) l then d.mk' (stvR k rows ks bd n (outR k (k - n) l b) b) else stvR k rows ks bd n (outR k (k - n) l b) b
  | _,_=>stvR k rows ks bd n (outR k (k - n) l b) b
end
def keyR (l b:Nat):List Key:=[.inl (l:Int),.inl (b:Int)]
theorem xH {l b l' b':Nat} (h:keyR l b = keyR l' b'):l = l' /\ b = b':=by
 unfold keyR at h
 injection h with h1 h2
 injection h2 with h2 _
 injection h1 with h1
 injection h2 with h2
 exact ⟨by omega,by omega⟩
structure TabR {α:Type} (kvs:List (List Key × V)) (n m:Nat) (f:Nat -> Nat -> Option α) (R:V -> α -> Prop):Prop where
 keys:∀ p ∈ kvs,∃ l b x,p.1 = keyR l b /\ l < n /\ b < m /\ f l b = some x /\ R p.2 x
 nd:(kvs.map (·.1)).Nodup
 all:∀ l b,l < n -> b < m -> f l b ≠ none -> (valV kvs (keyR l b)).isSome = true
theorem qB {kvs:List (List Key × V)} {k:List Key} {v:V} (h:valV kvs k = some v):(k,v) ∈ kvs:=by
 unfold valV at h
 cases e:kvs.find? fun kv=>decide (kv.1 = k) with
 | none=>rw [e] at h; cases h
 | some p =>
  rw [e] at h
  have h2:p.2 = v:=Option.some.inj h
  have h0:decide (p.1 = k) = true:=by have z:=List.find?_some e; exact z
  have h1:=of_decide_eq_true h0
  have h3:=List.mem_of_find?_eq_some e
  rw [← h2,← h1]; exact h3
theorem TabR.val {α:Type} {kvs:List (List Key × V)} {n m:Nat} {f:Nat -> Nat -> Option α} {R:V -> α -> Prop} (t:TabR kvs n m f R) {l b:Nat} (hl:l < n) (hb:b < m) :
  match f l b with | some x=>∃ v,valV kvs (keyR l b) = some v /\ R v x | none=>valV kvs (keyR l b) = none:=by
 cases hv:valV kvs (keyR l b) with
 | some v =>
  obtain ⟨l',b',x,e,_,_,hf,hR⟩:=t.keys _ (qB hv)
  obtain ⟨rfl,rfl⟩:=xH e
  rw [hf]
  exact ⟨v,rfl,hR⟩
 | none =>
  cases hf:f l b with
  | none=>rfl
  | some x =>
   have:=t.all l b hl hb (by rw [hf]; exact fun z=>nomatch z)
   rw [hv] at this; cases this
theorem tW {kvs:List (List Key × V)} {k:List Key} {v:V}:∀ p ∈ putK kvs k v,p = (k,v) \/ (p ∈ kvs /\ p.1 ≠ k):=by
 intro p hp
 unfold putK at hp
 split at hp
 ·obtain ⟨q,hq,rfl⟩:=List.mem_map.mp hp
  by_cases c:q.1 = k
  ·left; rw [if_pos c]; exact Prod.ext c rfl
  ·right; rw [if_neg c]; exact ⟨hq,c⟩
 ·rename_i h
  rcases List.mem_append.mp hp with z | z
  ·by_cases c:p.1 = k
   ·exfalso; exact h (List.any_eq_true.mpr ⟨p,z,decide_eq_true c⟩)
   ·exact .inr ⟨z,c⟩
  ·exact .inl (List.mem_singleton.mp z)
theorem Xl {kvs:List (List Key × V)} {k:List Key} {v:V} (h:(kvs.map (·.1)).Nodup):((putK kvs k v).map (·.1)).Nodup:=by
 cases e:valV kvs k with
 | none=>exact V8 v h e
 | some u =>
  have:(putK kvs k v).map (·.1) = kvs.map (·.1):=by
   unfold putK
   rw [if_pos (by rw [yX,e]; rfl),List.map_map]
   refine List.map_congr_left fun p _=>?_
   show (if p.1 = k then (p.1,v) else p).1 = p.1
   split <;> rfl
  rw [this]; exact h
theorem TabR.put {α:Type} {kvs:List (List Key × V)} {n m:Nat} {f g:Nat -> Nat -> Option α} {R:V -> α -> Prop} (t:TabR kvs n m f R) {l b:Nat} {v:V} {x:α} (hl:l < n) (hb:b < m) (hR:R v x) (hx:g l b = some x) (hg:∀ l' b',¬ (l' = l /\ b' = b) -> g l' b' = f l' b'):TabR (putK kvs (keyR l b) v) n m g R where
 keys:=fun p hp=>by
  rcases tW p hp with rfl | ⟨hm,hne⟩
  ·exact ⟨l,b,x,rfl,hl,hb,hx,hR⟩
  ·obtain ⟨l',b',y,e,h1,h2,h3,h4⟩:=t.keys p hm
   refine ⟨l',b',y,e,h1,h2,?_,h4⟩
   rw [hg l' b' fun z=>hne (by rw [e,z.1,z.2])]; exact h3
 nd:=Xl t.nd
 all:=fun l' b' h1 h2 h3=>by
  rw [yJ]
  by_cases c:keyR l' b' = keyR l b
  ·rw [if_pos c]; rfl
  ·rw [if_neg c]
   refine t.all l' b' h1 h2 ?_
   rw [← hg l' b' fun z=>c (by rw [z.1,z.2])]; exact h3
theorem TabR.nil {α:Type} {n m:Nat} {R:V -> α -> Prop}:TabR [] n m (fun _ _=>(none:Option α)) R:=⟨(fun _ h=>nomatch h),List.nodup_nil,fun _ _ _ _ h=>absurd rfl h⟩
theorem TabR.imp {α:Type} {kvs:List (List Key × V)} {n m:Nat} {f:Nat -> Nat -> Option α} {R R':V -> α -> Prop} (t:TabR kvs n m f R) (h:∀ v x,R v x -> R' v x):TabR kvs n m f R' :=
 ⟨fun p hp=>by obtain ⟨l,b,x,e,h1,h2,h3,h4⟩:=t.keys p hp; exact ⟨l,b,x,e,h1,h2,h3,h _ _ h4⟩,t.nd,t.all⟩
def TV {α:Type} (H:Hp) (d:Addr) (n m:Nat) (f:Nat -> Nat -> Option α) (R:V -> α -> Prop):Prop:=∃ kvs,Rd H d (.dT kvs) /\ TabR kvs n m f R /\ kvs.length <= 16
def LvAt (K:FG7) (H:Hp) (k m:Nat) (rows:List (List Int)) (ks:List Ask) (s:Nat) (d:Addr):Prop:=TV H d (2 ^ k) m (lvR k rows ks s) (yu K H)
def kpR (k:Nat) (rows:List (List Int)) (ks:List Ask) (s l b:Nat):Option Deed:=match lvR k rows ks (s - 1) (x0R k rows s l) b,lvR k rows ks (s - 1) (x1R k rows s l) b with
 | some d,some _=>some d
 | _,_=>none
def KpAt (K:FG7) (H:Hp) (k m:Nat) (rows:List (List Int)) (ks:List Ask) (s:Nat) (d:Addr):Prop :=
 ∃ kvs,Rd H d (.dT kvs) /\ kvs.length <= 16 /\ (∀ p ∈ kvs,∃ l b x,p.1 = keyR (nN k s l) b /\ l < 2 ^ k /\ b < m /\ kpR k rows ks s l b = some x /\ yu K H p.2 x) /\ (kvs.map (·.1)).Nodup ∧
  ∀ l b,l < 2 ^ k -> b < m -> kpR k rows ks s l b ≠ none -> (valV kvs (keyR (nN k s l) b)).isSome = true
theorem Rd.growR {m:List Addr} {H H':Hp} {d:Addr} {u:HO} (g:Grow m H H') (hm:d ∉ m \/ ∃ o,H d = some (.frz o u)) (h:Rd H d u):Rd H' d u:=by
 rcases hm with hm | ⟨o,ho⟩
 ·rcases h with h | ⟨o,h⟩
  ·exact .inl (g.keep _ _ hm h)
  ·exact .inr ⟨o,g.frz _ _ _ h⟩
 ·exact .inr ⟨o,g.frz _ _ _ ho⟩
theorem LvAt.grow {K:FG7} {m':List Addr} {H H':Hp} {k m:Nat} {rows:List (List Int)} {ks:List Ask} {s:Nat} {d:Addr} (g:Grow m' H H') (hm:d ∉ m') (h:LvAt K H k m rows ks s d):LvAt K H' k m rows ks s d:=by
 obtain ⟨kvs,h1,h2,h3⟩:=h
 exact ⟨kvs,Rd.growR g (.inl hm) h1,h2.imp fun v x hv=>g.deed hv,h3⟩
theorem KpAt.grow {K:FG7} {m':List Addr} {H H':Hp} {k m:Nat} {rows:List (List Int)} {ks:List Ask} {s:Nat} {d:Addr} (g:Grow m' H H') (hm:d ∉ m') (h:KpAt K H k m rows ks s d):KpAt K H' k m rows ks s d:=by
 obtain ⟨kvs,h1,h2,h3,h4,h5⟩:=h
 exact ⟨kvs,Rd.growR g (.inl hm) h1,h2,fun p hp=>by obtain ⟨l,b,x,e,a1,a2,a3,a4⟩:=h3 p hp; exact ⟨l,b,x,e,a1,a2,a3,g.deed a4⟩,h4,h5⟩
theorem ZC:∀ k:Fin 5,∀ s:Fin 5,1 <= s.val -> s.val <= k.val -> ∀ l:Fin 16,l.val < 2 ^ k.val -> ∀ t:Fin 5,1 <= t.val -> t.val <= k.val -> t.val ≠ s.val -> figI k.val t.val (xN k.val s.val l.val) = figI k.val t.val l.val:=by decide +kernel
theorem Xm {k:Nat} {rows:List (List Int)} {ks:List Ask} {s l l' b:Nat} (k4:k <= 4) (hs:tJ k rows) (s1:1 <= s) (sk:s <= k) (hl:l < 2 ^ k) (hl':l' < 2 ^ k) (e:nN k s l = nN k s l'):kpR k rows ks s l b = kpR k rows ks s l' b:=by
 have key:x0R k rows s l = x0R k rows s l' /\ x1R k rows s l = x1R k rows s l':=by
  refine TQ k4 hs s1 sk hl hl' fun t t1 tk hne=>?_
  rcases twoF k4 s1 sk hl' hl e.symm with rfl | rfl
  ·rfl
  ·have p:=Zh k4
   have:=ZC ⟨k,by omega⟩ ⟨s,by omega⟩ s1 sk ⟨l',by omega⟩ hl' ⟨t,by omega⟩ t1 tk (by simpa using hne)
   exact this
 unfold kpR
 rw [key.1,key.2]
structure Beh (K:FG7) (H:Hp) (k m:Nat) (rows:List (List Int)) (ks:List Ask) (st:Nat) (kvs:List (List Key × V)) (i:Nat) (bk kk:List (List Key × V)):Prop where
 b1:∀ p ∈ bk,∃ l b x,p.1 = keyR l b /\ l < 2 ^ k /\ b < m /\ lvR k rows ks st l b = some x /\ yu K H p.2 x
 b2:(bk.map (·.1)).Nodup
 b3:∀ j l b v,j < i -> kvs[j]? = some (keyR l b,v) -> (valV bk (keyR (outR k st l b) b)).isSome = true
 bl:bk.length <= i
 k1:∀ p ∈ kk,∃ l b x,p.1 = keyR (nN k st l) b /\ l < 2 ^ k /\ b < m /\ kpR k rows ks st l b = some x /\ yu K H p.2 x
 k2:(kk.map (·.1)).Nodup
 k3:∀ j l b v,j < i -> kvs[j]? = some (keyR l b,v) -> kpR k rows ks st l b ≠ none -> (valV kk (keyR (nN k st l) b)).isSome = true
 kl:kk.length <= i
section
variable {K:FG7} {H H':Hp} {k m:Nat} {rows:List (List Int)} {ks:List Ask} {st:Nat} {kvs:List (List Key × V)} {i:Nat} {bk kk:List (List Key × V)}
theorem Beh.grow {m':List Addr} (g:Grow m' H H') (B:Beh K H k m rows ks st kvs i bk kk):Beh K H' k m rows ks st kvs i bk kk :=
 ⟨fun p hp=>by obtain ⟨l,b,x,e,h1,h2,h3,h4⟩:=B.b1 p hp; exact ⟨l,b,x,e,h1,h2,h3,g.deed h4⟩,B.b2,B.b3,B.bl,fun p hp=>by obtain ⟨l,b,x,e,h1,h2,h3,h4⟩:=B.k1 p hp; exact ⟨l,b,x,e,h1,h2,h3,g.deed h4⟩,B.k2,B.k3,B.kl⟩
theorem Beh.nil:Beh K H k m rows ks st kvs 0 [] []:=⟨(fun _ h=>nomatch h),List.nodup_nil,(fun _ _ _ _ h=>absurd h (Nat.not_lt_zero _)),Nat.le_refl _,(fun _ h=>nomatch h),List.nodup_nil,(fun _ _ _ _ h=>absurd h (Nat.not_lt_zero _)),Nat.le_refl _⟩
theorem uR {bk:List (List Key × V)} {k j:List Key} {v:V} (h:(valV bk j).isSome = true):(valV (putK bk k v) j).isSome = true:=by
 rw [yJ]
 split
 ·rfl
 ·exact h
theorem ua {bk:List (List Key × V)} {k:List Key} {v:V}:(valV (putK bk k v) k).isSome = true:=by rw [yJ,if_pos rfl]; rfl
theorem Beh.one {l b:Nat} {v w:V} {x:Deed} (B:Beh K H k m rows ks st kvs i bk kk) (hp:kvs[i]? = some (keyR l b,v)) (ho:outR k st l b < 2 ^ k) (hb:b < m) (hx:lvR k rows ks st (outR k st l b) b = some x) (hd:yu K H w x) (hk:kpR k rows ks st l b = none) :
  Beh K H k m rows ks st kvs (i + 1) (putK bk (keyR (outR k st l b) b) w) kk where
 b1:=fun p hp'=>by
  rcases tW p hp' with rfl | ⟨hm,_⟩
  ·exact ⟨_,b,x,rfl,ho,hb,hx,hd⟩
  ·exact B.b1 p hm
 b2:=Xl B.b2
 b3:=fun j l' b' v' hj hj'=>by
  by_cases c:j < i
  ·exact uR (B.b3 j l' b' v' c hj')
  ·have e:j = i:=by omega
   rw [e,hp] at hj'
   obtain ⟨rfl,rfl⟩:=xH (congrArg Prod.fst (Option.some.inj hj'))
   exact ua
 bl:=Nat.le_trans (yy ..) (Nat.succ_le_succ B.bl)
 k1:=B.k1
 k2:=B.k2
 k3:=fun j l' b' v' hj hj' hne=>by
  by_cases c:j < i
  ·exact B.k3 j l' b' v' c hj' hne
  ·have e:j = i:=by omega
   rw [e,hp] at hj'
   obtain ⟨rfl,rfl⟩:=xH (congrArg Prod.fst (Option.some.inj hj'))
   exact absurd hk hne
 kl:=Nat.le_succ_of_le B.kl
theorem tX {kvs:List (List Key × V)} {k:List Key} (h:(valV kvs k).isSome = true):∃ j v,kvs[j]? = some (k,v) /\ j < kvs.length:=by
 obtain ⟨v,hv⟩:=Option.isSome_iff_exists.mp h
 obtain ⟨j,hj,e⟩:=List.getElem_of_mem (qB hv)
 exact ⟨j,v,by rw [List.getElem?_eq_getElem hj,e],hj⟩
theorem Beh.done {b0 k0:Addr} (k4:k <= 4) (hs:tJ k rows) (s1:1 <= st) (sk:st <= k) (tab:TabR kvs (2 ^ k) m (lvR k rows ks (st - 1)) (yu K H)) (kl:kvs.length <= 16) (B:Beh K H k m rows ks st kvs kvs.length bk kk) (hB:H b0 = some (.dT bk)) (hK:H k0 = some (.dT kk)) :
  LvAt K H k m rows ks st b0 /\ KpAt K H k m rows ks st k0:=by
 have es:st = st - 1 + 1:=by omega
 refine ⟨⟨bk,.inl hB,⟨B.b1,B.b2,fun l b hl hb hne=>?_⟩,Nat.le_trans B.bl kl⟩,kk,.inl hK,Nat.le_trans B.kl kl,B.k1,B.k2,fun l b hl hb hne=>?_⟩
 ·rw [es] at hne
  obtain ⟨x,hx,hox,hxn⟩:=TU k4 hs (by omega) hl hne
  obtain ⟨j,v,hj,hjl⟩:=tX (tab.all x b hx hb hxn)
  have:=B.b3 j x b v hjl hj
  rw [← es] at hox
  rw [hox] at this; exact this
 ·have X:=xF (rows:=rows) k4 hs s1 sk hl
  have nx:nN k st (x0R k rows st l) = nN k st l:=TN s1 sk fun t _ tk hne=>X.off0 t tk hne
  have h0:lvR k rows ks (st - 1) (x0R k rows st l) b ≠ none:=by
   intro z
   unfold kpR at hne
   rw [z] at hne
   exact hne rfl
  obtain ⟨j,v,hj,hjl⟩:=tX (tab.all _ b X.lt0 hb h0)
  have:=B.k3 j _ b v hjl hj (by rw [Xm k4 hs s1 sk X.lt0 hl nx]; exact hne)
  rw [nx] at this; exact this
end
structure NetR (K:FG7) (H:Hp) (k m:Nat) (rows:List (List Int)) (ks:List Ask) (ds kps:List Addr):Prop where
 lv:∀ s d,ds[s]? = some d -> LvAt K H k m rows ks s d
 kp:∀ s d,kps[s]? = some d -> KpAt K H k m rows ks (s + 1) d
 nd:(ds ++ kps).Nodup
theorem NetR.grow {K:FG7} {H H':Hp} {m':List Addr} {k m:Nat} {rows:List (List Int)} {ks:List Ask} {ds kps:List Addr} (g:Grow m' H H') (hm:∀ d ∈ ds ++ kps,d ∉ m') (N:NetR K H k m rows ks ds kps):NetR K H' k m rows ks ds kps :=
 ⟨fun s d h=>(N.lv s d h).grow g (hm d (List.mem_append_left _ (List.mem_of_getElem? h))),fun s d h=>(N.kp s d h).grow g (hm d (List.mem_append_right _ (List.mem_of_getElem? h))),N.nd⟩
structure PTab {α:Type} (kvs:List (List Key × V)) (n m:Nat) (f:Nat -> Nat -> Option α) (R:V -> α -> Prop) (i:Nat) (tk:List (List Key × V)):Prop where
 p1:∀ p ∈ tk,∃ l b x,p.1 = keyR l b /\ l < n /\ b < m /\ f l b = some x /\ R p.2 x
 p2:(tk.map (·.1)).Nodup
 p3:∀ j l b v,j < i -> kvs[j]? = some (keyR l b,v) -> (valV tk (keyR l b)).isSome = true
 p4:tk.length <= i
theorem PTab.nil {α:Type} {kvs:List (List Key × V)} {n m:Nat} {f:Nat -> Nat -> Option α} {R:V -> α -> Prop}:PTab kvs n m f R 0 []:=⟨(fun _ h=>nomatch h),List.nodup_nil,(fun _ _ _ _ h=>absurd h (Nat.not_lt_zero _)),Nat.le_refl _⟩
theorem PTab.step {α:Type} {kvs:List (List Key × V)} {n m:Nat} {f:Nat -> Nat -> Option α} {R:V -> α -> Prop} {i:Nat} {tk:List (List Key × V)} {l b:Nat} {v w:V} {x:α} (P:PTab kvs n m f R i tk) (hp:kvs[i]? = some (keyR l b,v)) (hl:l < n) (hb:b < m) (hx:f l b = some x) (hR:R w x):PTab kvs n m f R (i + 1) (putK tk (keyR l b) w) where
 p1:=fun p hp'=>by
  rcases tW p hp' with rfl | ⟨hm,_⟩
  ·exact ⟨l,b,x,rfl,hl,hb,hx,hR⟩
  ·exact P.p1 p hm
 p2:=Xl P.p2
 p3:=fun j l' b' v' hj hj'=>by
  by_cases c:j < i
  ·exact uR (P.p3 j l' b' v' c hj')
  ·have e:j = i:=by omega
   rw [e,hp] at hj'
   obtain ⟨rfl,rfl⟩:=xH (congrArg Prod.fst (Option.some.inj hj'))
   exact ua
 p4:=Nat.le_trans (yy ..) (Nat.succ_le_succ P.p4)
theorem PTab.done {α β:Type} {kvs:List (List Key × V)} {n m:Nat} {f:Nat -> Nat -> Option α} {R:V -> α -> Prop} {f':Nat -> Nat -> Option β} {R':V -> β -> Prop} {tk:List (List Key × V)} (P:PTab kvs n m f R kvs.length tk) (T:TabR kvs n m f' R') (h:∀ l b,l < n -> b < m -> f l b ≠ none -> f' l b ≠ none):TabR tk n m f R :=
 ⟨P.p1,P.p2,fun l b hl hb hne=>by
  obtain ⟨j,v,hj,hjl⟩:=tX (T.all l b hl hb (h l b hl hb hne))
  exact P.p3 j l b v hjl hj⟩
def anF (k:Nat) (rows:List (List Int)) (ks:List Ask) (bd:Nat -> Int) (s l b:Nat):Option Int:=(lvR k rows ks s l b).map fun _=>stvR k rows ks bd (k - s) l b
def AnAt (H:Hp) (k m:Nat) (rows:List (List Int)) (ks:List Ask) (bd:Nat -> Int) (s:Nat) (d:Addr):Prop:=TV H d (2 ^ k) m (anF k rows ks bd s) (fun v x=>v = .int x)
section
variable {K:FG7} {H:Hp} {k m:Nat} {rows:List (List Int)} {ks:List Ask} {bd:Nat -> Int} {s:Nat} {d:Addr}
theorem AnAt.grow {m':List Addr} {H':Hp} (g:Grow m' H H') (hm:d ∉ m') (h:AnAt H k m rows ks bd s d):AnAt H' k m rows ks bd s d:=by
 obtain ⟨kvs,h1,h2,h3⟩:=h
 exact ⟨kvs,Rd.growR g (.inl hm) h1,h2,h3⟩
theorem KpAt.val {st l b:Nat} {kvs:List (List Key × V)} (k4:k <= 4) (hs:tJ k rows) (s1:1 <= st) (sk:st <= k) (hl:l < 2 ^ k) (hb:b < m)
  (h3:∀ p ∈ kvs,∃ l b x,p.1 = keyR (nN k st l) b /\ l < 2 ^ k /\ b < m /\ kpR k rows ks st l b = some x /\ yu K H p.2 x)
  (h5:∀ l b,l < 2 ^ k -> b < m -> kpR k rows ks st l b ≠ none -> (valV kvs (keyR (nN k st l) b)).isSome = true) :
  match kpR k rows ks st l b with | some x=>∃ v,valV kvs (keyR (nN k st l) b) = some v /\ yu K H v x | none=>valV kvs (keyR (nN k st l) b) = none:=by
 have sound:∀ v,valV kvs (keyR (nN k st l) b) = some v -> ∃ x,kpR k rows ks st l b = some x /\ yu K H v x:=fun v hv=>by
  obtain ⟨l',b',x,e,h1,h2,h4,h6⟩:=h3 _ (qB hv)
  obtain ⟨e1,rfl⟩:=xH e
  exact ⟨x,(Xm k4 hs s1 sk hl h1 e1).trans h4,h6⟩
 cases hv:valV kvs (keyR (nN k st l) b) with
 | some v =>
  obtain ⟨x,e,hd⟩:=sound v hv
  rw [e]
  exact ⟨v,rfl,hd⟩
 | none =>
  cases hk:kpR k rows ks st l b with
  | none=>rfl
  | some x =>
   have:=h5 l b hl hb (by rw [hk]; exact fun z=>nomatch z)
   rw [hv] at this; cases this
def finR (k:Nat) (rows:List (List Int)) (ks:List Ask) (bd:Nat -> Int) (j:Nat):Int:=match lvR k rows ks k (j % 2 ^ k) j with
 | some d=>d.mk' (bd j)
 | none=>bd j
def bdF (b:List Int) (j:Nat):Int:=b.getD j 0
def finL (k:Nat) (rows:List (List Int)) (ks:List Ask) (b:List Int):List Int:=(List.range b.length).map (finR k rows ks (bdF b))
end
structure VI (kvs:List (List Key × V)) (b:List Int) (fin:Nat -> Int) (i:Nat) (w:List Int):Prop where
 len:w.length = b.length
 or:∀ j,j < b.length -> w[j]? = some (bdF b j) \/ w[j]? = some (fin j)
 dn:∀ i' l c v,i' < i -> kvs[i']? = some (keyR l c,v) -> c < b.length -> w[c]? = some (fin c)
theorem Ui {b:List Int} {j:Nat} (h:j < b.length):b[j]? = some (bdF b j):=by
 unfold bdF; rw [List.getD_eq_getElem?_getD,List.getElem?_eq_getElem h]; rfl
theorem VI.nil {kvs:List (List Key × V)} {b:List Int} {fin:Nat -> Int}:VI kvs b fin 0 b:=⟨rfl,fun _ h=>.inl (Ui h),fun _ _ _ _ h=>absurd h (Nat.not_lt_zero _)⟩
theorem VI.step {kvs:List (List Key × V)} {b:List Int} {fin:Nat -> Int} {i l c:Nat} {w:List Int} {v:V} (h:VI kvs b fin i w) (hp:kvs[i]? = some (keyR l c,v)) (hc:c < b.length):VI kvs b fin (i + 1) (w.set c (fin c)):=by
 have hw:c < w.length:=by rw [h.len]; exact hc
 refine ⟨by rw [List.length_set]; exact h.len,fun j hj=>?_,fun i' l' c' v' hi hp' hc'=>?_⟩
 ·by_cases e:c = j
  ·subst e; exact .inr (List.getElem?_set_self hw)
  ·rw [List.getElem?_set_ne e]; exact h.or j hj
 ·by_cases e:c = c'
  ·subst e; exact List.getElem?_set_self hw
  ·rw [List.getElem?_set_ne e]
   by_cases hii:i' < i
   ·exact h.dn i' l' c' v' hii hp' hc'
   ·have:i' = i:=by omega
    rw [this,hp] at hp'
    exact absurd (xH (congrArg Prod.fst (Option.some.inj hp'))).2 e
theorem VI.done {kvs:List (List Key × V)} {k:Nat} {rows:List (List Int)} {ks:List Ask} {b w:List Int} {R:V -> Deed -> Prop} (h:VI kvs b (finR k rows ks (bdF b)) kvs.length w) (T:TabR kvs (2 ^ k) b.length (lvR k rows ks k) R):w = finL k rows ks b:=by
 have el:(finL k rows ks b).length = b.length:=by unfold finL; rw [List.length_map,List.length_range]
 have gf:∀ j,j < b.length -> (finL k rows ks b)[j]? = some (finR k rows ks (bdF b) j):=fun j hj=>by
  unfold finL; rw [List.getElem?_map,List.getElem?_range hj]; rfl
 refine List.ext_getElem? fun j=>?_
 by_cases hj:j < b.length
 ·rw [gf j hj]
  cases hl:lvR k rows ks k (j % 2 ^ k) j with
  | none =>
   have e:finR k rows ks (bdF b) j = bdF b j:=by unfold finR; rw [hl]
   rcases h.or j hj with z | z
   ·rw [z,e]
   ·exact z
  | some d =>
   obtain ⟨i',v,hp,hi⟩:=tX (T.all (j % 2 ^ k) j (Xk (k:=k) (b:=j)) hj (by rw [hl]; exact fun z=>nomatch z))
   exact h.dn i' _ j v hi hp hj
 ·rw [List.getElem?_eq_none (by rw [h.len]; omega),List.getElem?_eq_none (by omega)]
theorem NetR.walk {K:FG7} {H H':Hp} {k m:Nat} {rows:List (List Int)} {ks:List Ask} {ds kps:List Addr} {s:Nat} {d:Addr} (N:NetR K H k m rows ks ds kps) (hd:ds[s]? = some d) (g:Grow [d] H H') (L:LvAt K H' k m rows ks s d):NetR K H' k m rows ks ds kps:=by
 have nd:=List.nodup_append.mp N.nd
 refine ⟨fun s' d' h=>?_,fun s' d' h=>?_,N.nd⟩
 ·by_cases c:d' = d
  ·subst c
   have e:s' = s:=by
    obtain ⟨h1,h2⟩:=List.getElem?_eq_some_iff.mp h
    obtain ⟨h3,h4⟩:=List.getElem?_eq_some_iff.mp hd
    exact (List.getElem_inj nd.1).mp (h2.trans h4.symm)
   rw [e]; exact L
  ·exact (N.lv s' d' h).grow g (by simpa using c)
 ·exact (N.kp s' d' h).grow g (by simpa using fun z=>nd.2.2 d (List.mem_of_getElem? hd) d' (List.mem_of_getElem? h) z.symm)
def TW (ps:List (Key × V)):List (Key × V):=ps.foldl (fun d p=>putK d p.1 p.2) []
def atB (j:Nat) (as:List Ask):List Ask:=as.filter fun a=>decide (a.box = (j:Int))
def AnsD (b:List Int) (as:List Ask) (tk:List (Key × V)):Prop:=tk.length <= as.length /\ ∀ a ∈ as,∃ a' pre post,a' ∈ as /\ a'.hand = a.hand /\ as = pre ++ [a'] ++ post /\ valV tk (.inl a.hand) = some (.int (runR (bdF b a'.box.toNat) (atB a'.box.toNat pre)))
theorem AnsD.nil {b:List Int}:AnsD b [] []:=⟨Nat.le_refl _,fun _ h=>nomatch h⟩
theorem AnsD.snoc {b:List Int} {as:List Ask} {tk:List (Key × V)} {a:Ask} (h:AnsD b as tk):AnsD b (as ++ [a]) (putK tk (.inl a.hand) (.int (runR (bdF b a.box.toNat) (atB a.box.toNat as)))):=by
 refine ⟨?_,fun x hx=>?_⟩
 ·have:=yy tk (Sum.inl a.hand) (V.int (runR (bdF b a.box.toNat) (atB a.box.toNat as)))
  rw [List.length_append]
  have h1:=h.1
  exact Nat.le_trans this (Nat.succ_le_succ h1)
 ·by_cases c:x.hand = a.hand
  ·refine ⟨a,as,[],by simp,c.symm,by simp,?_⟩
   rw [yJ,if_pos (by rw [c])]
  ·rcases List.mem_append.mp hx with hx | hx
   ·obtain ⟨a',pre,post,h1,h2,h3,h4⟩:=h.2 x hx
    refine ⟨a',pre,post ++ [a],List.mem_append_left _ h1,h2,by rw [h3,List.append_assoc],?_⟩
    rw [yJ,if_neg (fun z=>c (Sum.inl.inj z))]; exact h4
   ·exact absurd (by rw [List.mem_singleton.mp hx]) c
theorem xV {key:Key}:∀ {ps d:List (Key × V)},(∀ p ∈ ps,p.1 ≠ key) -> valV (ps.foldl (fun d p=>putK d p.1 p.2) d) key = valV d key
 | [],d,_=>rfl
 | p :: ps,d,h=>by
  rw [List.foldl_cons,xV fun q hq=>h q (by simp [hq]),yJ,if_neg (fun z=>h p (by simp) z.symm)]
theorem ub {p:Key × V}:∀ {ps d:List (Key × V)},(ps.map (·.1)).Nodup -> p ∈ ps -> valV (ps.foldl (fun d p=>putK d p.1 p.2) d) p.1 = some p.2
 | q :: ps,d,nd,h=>by
  rw [List.map_cons,List.nodup_cons] at nd
  rw [List.foldl_cons]
  rcases List.mem_cons.mp h with rfl | h
  ·rw [xV fun x hx z=>nd.1 (List.mem_map.mpr ⟨x,hx,z⟩),yJ,if_pos rfl]
  ·exact ub nd.2 h
def ByAt (K:FG7) (H:Hp) (ks:List Ask) (ps:List (Key × V)):Prop:=ps.length = ks.length /\ ∀ (i:Nat) (a:Ask),ks[i]? = some a -> ∃ t dv,ps[i]? = some (.inl a.hand,.ref t) /\ H t = some (.tup [.int a.box,dv]) /\ yu K H dv a.deed
theorem ByAt.grow {K:FG7} {H H':Hp} {m:List Addr} {ks:List Ask} {ps:List (Key × V)} (g:Grow m H H') (h:ByAt K H ks ps):ByAt K H' ks ps :=
 ⟨h.1,fun i a ha=>by obtain ⟨t,dv,h1,h2,h3⟩:=h.2 i a ha; exact ⟨t,dv,h1,g.tup _ _ h2,g.deed h3⟩⟩
theorem ByAt.keys {K:FG7} {H:Hp} {ks:List Ask} {ps:List (Key × V)} (h:ByAt K H ks ps):ps.map (·.1) = ks.map fun a=>Sum.inl a.hand:=by
 refine List.ext_getElem? fun i=>?_
 rw [List.getElem?_map,List.getElem?_map]
 by_cases c:i < ks.length
 ·obtain ⟨t,dv,h1,_⟩:=h.2 i ks[i] (List.getElem?_eq_getElem c)
  rw [h1,List.getElem?_eq_getElem c]; rfl
 ·rw [List.getElem?_eq_none (by rw [h.1]; omega),List.getElem?_eq_none (by omega)]; rfl
theorem ByAt.some {K:FG7} {H:Hp} {ks:List Ask} {ps:List (Key × V)} (h:ByAt K H ks ps) (nd:(ks.map (·.hand)).Nodup) {a:Ask} (ha:a ∈ ks):∃ t dv,valV (TW ps) (.inl a.hand) = some (.ref t) /\ H t = some (.tup [.int a.box,dv]) /\ yu K H dv a.deed:=by
 obtain ⟨i,hi,rfl⟩:=List.getElem_of_mem ha
 obtain ⟨t,dv,h1,h2,h3⟩:=h.2 i ks[i] (List.getElem?_eq_getElem hi)
 refine ⟨t,dv,?_,h2,h3⟩
 have nd':(ps.map (·.1)).Nodup:=by
  rw [h.keys]
  have e:(ks.map fun a=>(Sum.inl a.hand:Key)) = (ks.map (·.hand)).map Sum.inl:=by rw [List.map_map]; rfl
  rw [e]
  exact nd.map _ fun x y hxy z=>hxy (Sum.inl.inj z)
 exact ub (p:=(Sum.inl ks[i].hand,.ref t)) nd' (List.mem_of_getElem? h1)
theorem ByAt.none {K:FG7} {H:Hp} {ks:List Ask} {ps:List (Key × V)} (h:ByAt K H ks ps) {i:Int} (hno:∀ a ∈ ks,a.hand ≠ i):valV (TW ps) (.inl i) = none:=by
 refine xV fun p hp z=>?_
 have:p.1 ∈ ps.map (·.1):=List.mem_map.mpr ⟨p,hp,rfl⟩
 rw [h.keys] at this
 obtain ⟨a,ha,e⟩:=List.mem_map.mp this
 exact hno a ha (Sum.inl.inj (e.trans z))
theorem AllA.ins {K:FG7} {H:Hp} {y:V} {a:Ask} (ha:qa K H y a):∀ {xs:List V} {ks:List Ask} {i:Nat},AllA K H xs ks -> AllA K H (xs.take i ++ [y] ++ xs.drop i) (ks.take i ++ [a] ++ ks.drop i)
 | xs,ks,0,h=>⟨ha,h⟩
 | [],[],i + 1,h=>⟨ha,trivial⟩
 | x :: xs,k :: ks,i + 1,h=>⟨h.1,AllA.ins ha (i:=i) h.2⟩
structure RndS (j m:Nat) (ks:List Ask):Prop where
 nd:(ks.map (·.hand)).Nodup
 hand:∀ a ∈ ks,0 <= a.hand /\ a.hand < (j:Int)
 box:∀ a ∈ ks,0 <= a.box /\ a.box < (m:Int)
 ok:∀ a ∈ ks,a.deed.Ok
 sm:∀ a ∈ ks,a.deed.Sm
theorem RndS.nil {j m:Nat}:RndS j m []:=⟨List.nodup_nil,(fun _ h=>nomatch h),(fun _ h=>nomatch h),(fun _ h=>nomatch h),(fun _ h=>nomatch h)⟩
theorem RndS.next {j m:Nat} {ks:List Ask} (h:RndS j m ks):RndS (j + 1) m ks:=⟨h.nd,fun a ha=>by have:=h.hand a ha; omega,h.box,h.ok,h.sm⟩
theorem RndS.ins {j m i:Nat} {ks:List Ask} {a:Ask} (h:RndS j m ks) (h1:a.hand = (j:Int)) (h2:0 <= a.box /\ a.box < (m:Int)) (h3:a.deed.Ok) (h4:a.deed.Sm):RndS (j + 1) m (ks.take i ++ [a] ++ ks.drop i):=by
 have mem:∀ c ∈ ks.take i ++ [a] ++ ks.drop i,c = a \/ c ∈ ks:=fun c hc=>by
  rcases List.mem_append.mp hc with hc | hc
  ·rcases List.mem_append.mp hc with hc | hc
   ·exact .inr (List.mem_of_mem_take hc)
   ·exact .inl (List.mem_singleton.mp hc)
  ·exact .inr (List.mem_of_mem_drop hc)
 have pm:(ks.take i ++ [a] ++ ks.drop i).Perm (a :: ks):=by
  have p1:(ks.take i ++ [a]).Perm (a :: ks.take i):=List.perm_append_singleton a (ks.take i)
  have p2:=p1.append_right (ks.drop i)
  rw [List.cons_append,List.take_append_drop] at p2
  exact p2
 refine ⟨?_,fun c hc=>?_,fun c hc=>?_,fun c hc=>?_,fun c hc=>?_⟩
 ·refine ((pm.map (·.hand)).nodup_iff).mpr ?_
  rw [List.map_cons,List.nodup_cons]
  refine ⟨fun z=>?_,h.nd⟩
  obtain ⟨c,hc,e⟩:=List.mem_map.mp z
  have:=(h.hand c hc).2
  rw [e,h1] at this
  omega
 ·rcases mem c hc with rfl | hc
  ·rw [h1]; omega
  ·have:=h.hand c hc; omega
 ·rcases mem c hc with rfl | hc
  ·exact h2
  ·exact h.box c hc
 ·rcases mem c hc with rfl | hc
  ·exact h3
  ·exact h.ok c hc
 ·rcases mem c hc with rfl | hc
  ·exact h4
  ·exact h.sm c hc
theorem RndS.done {k m:Nat} {ks:List Ask} (h:RndS (2 ^ k) m ks):RndOk k m ks:=by
 have e:((2 ^ k:Nat):Int) = 2 ^ k:=by simp
 refine ⟨h.nd,fun a ha=>?_,h.box,h.ok⟩
 have:=h.hand a ha
 rw [e] at this
 exact this
theorem GoodF.le {ms:List (List Int)} {S:Nat} {f:FW} (h:GoodF ms S f) (hf:Few ms S):f.length <= 60:=by
 obtain ⟨l,hl,hw⟩:=hf
 have:=tU h.nd fun d hd=>hw d (h.wd d hd)
 unfold zO at this
 rw [List.length_map] at this
 omega
structure Fam (S:Nat) (fam:List (List Int)):Prop where
 nd:fam.Nodup
 dd:∀ d ∈ fam,Dd S d
 cl:∀ a ∈ fam,∀ b ∈ fam,yF a b ∈ fam
 hd:fam[0]? = some (idL S)
 l60:fam.length <= 60
theorem FamL.fam {ms:List (List Int)} {S:Nat} {f:FW} (h:FamL ms S f) (hM:Mks ms S) (hf:Few ms S):Fam S (zO f):=by
 have hO:=h.ok
 have h60:=hO.le hf
 refine ⟨hO.good.nd,fun d hd=>(hO.good.wd d hd).dd hM,fun a ha b hb=>hO.closed hM h60 ha hb,?_,by unfold zO; rw [List.length_map]; exact h60⟩
 have:=hO.hd
 cases f with
 | nil=>cases this
 | cons p f=>cases this; rfl
structure MksAt (K:FG7) (H:Hp) (x:V) (ms:List (List Int)) (S:Nat):Prop where
 at':wS K H x ms
 ok:Mks ms S
 s1:1 <= S
 s5:S <= 5
 m1:1 <= ms.length
 m4:ms.length <= 4
 few:Few ms S
theorem MksAt.grow {K:FG7} {m:List Addr} {H H':Hp} {x:V} {ms:List (List Int)} {S:Nat} (h:MksAt K H x ms S) (g:Grow m H H'):MksAt K H' x ms S:=⟨g.rows h.at',h.ok,h.s1,h.s5,h.m1,h.m4,h.few⟩
def Xn (K:FG7) (H:Hp) (x:V) (rows:List (List Int)):Prop:=∃ r xs,x = .ref r /\ SqT K H r xs /\ AllR (KeyB H) xs rows
theorem Xn.rows {K:FG7} {H:Hp} {x:V} {rows:List (List Int)} (h:Xn K H x rows):wS K H x rows:=let ⟨r,xs,e,h1,h2⟩:=h; ⟨r,xs,e,h1,h2.imp fun _ _ z=>z.board⟩
theorem Xn.grow {K:FG7} {m:List Addr} {H H':Hp} {x:V} {rows:List (List Int)} (h:Xn K H x rows) (g:Grow m H H'):Xn K H' x rows:=let ⟨r,xs,e,h1,h2⟩:=h; ⟨r,xs,e,g.sqT h1,h2.imp fun _ _ z=>z.grow g⟩
structure OrdB (n:Nat) (lt:Nat -> Nat -> Bool):Prop where
 tr:∀ {i j k:Nat},lt i j = true -> lt j k = true -> lt i k = true
 as:∀ {i j:Nat},lt i j = true -> lt j i = false
 to:∀ {i j:Nat},i < n -> j < n -> i ≠ j -> lt i j = false -> lt j i = true
structure PmA (n:Nat) (p:Array Nat):Prop where
 sz:p.size = n
 pm:p.toList.Perm (List.range n)
theorem PmA.lt {n:Nat} {p:Array Nat} (h:PmA n p) {i:Nat} (hi:i < n):p.getD i 0 < n:=by
 have hi':i < p.toList.length:=by rw [Array.length_toList,h.sz]; exact hi
 have e:p.getD i 0 = p.toList[i]:=by simp [Array.getD,h.sz,hi]
 rw [e]
 exact List.mem_range.mp (h.pm.mem_iff.mp (List.getElem_mem hi'))
theorem PmA.inj {n:Nat} {p:Array Nat} (h:PmA n p) {i j:Nat} (hi:i < n) (hj:j < n) (hne:i ≠ j):p.getD i 0 ≠ p.getD j 0:=by
 have hi':i < p.toList.length:=by rw [Array.length_toList,h.sz]; exact hi
 have hj':j < p.toList.length:=by rw [Array.length_toList,h.sz]; exact hj
 have e:p.getD i 0 = p.toList[i]:=by simp [Array.getD,h.sz,hi]
 have e':p.getD j 0 = p.toList[j]:=by simp [Array.getD,h.sz,hj]
 rw [e,e']
 intro z
 exact hne ((List.getElem_inj (h.pm.nodup_iff.mpr List.nodup_range)).mp z)
def Ups (lt:Nat -> Nat -> Bool) (p:Array Nat) (k:Nat):Prop:=∀ i j,i < j -> j < k -> lt (p.getD i 0) (p.getD j 0) = true
def Uj (lt:Nat -> Nat -> Bool) (p:Array Nat) (k:Nat):Prop:=∀ i j,i < j -> j < k -> lt (p.getD j 0) (p.getD i 0) = true
section
variable {n:Nat} {lt:Nat -> Nat -> Bool} {cmp:Nat -> Nat -> (Bool -> Shared -> Prop) -> Shared -> Prop} {s:Shared}
theorem Ups.snoc {p:Array Nat} {m:Nat} (o:OrdB n lt) (h1:1 <= m) (u:Ups lt p m) (e:lt (p.getD (m - 1) 0) (p.getD m 0) = true):Ups lt p (m + 1):=by
 intro i j hij hj
 by_cases hjm:j < m
 ·exact u i j hij hjm
 ·obtain rfl:j = m:=by omega
  by_cases hi:i = j - 1
  ·subst hi; exact e
  ·exact o.tr (u i (j - 1) (by omega) (by omega)) e
theorem Uj.snoc {p:Array Nat} {m:Nat} (o:OrdB n lt) (h1:1 <= m) (u:Uj lt p m) (e:lt (p.getD m 0) (p.getD (m - 1) 0) = true):Uj lt p (m + 1):=by
 intro i j hij hj
 by_cases hjm:j < m
 ·exact u i j hij hjm
 ·obtain rfl:j = m:=by omega
  by_cases hi:i = j - 1
  ·subst hi; exact e
  ·exact o.tr e (u i (j - 1) (by omega) (by omega))
end
def ltL:List Int -> List Int -> Bool
 | [],[]=>false
 | [],_ :: _=>true
 | _ :: _,[]=>false
 | a :: as,b :: bs=>if a = b then ltL as bs else decide (a < b)
section
variable {prog:Program} {w:World} {A:Around} {E:VS7} {s:Shared} {b fin:Bool} {Q:Bool -> Shared -> Prop}
structure RowAt (h:Heap) (v:Value) (row:List Int) (x:Addr) (ob:Obj) (its:Array Value) (n:Nat):Prop where
 e:v = .ref x
 g:h.get? x = some ob
 c:ob.cls = .type "tuple"
 d:ob.data = .seq its n
 i:IntsAre its.toList row
def Row1 (h:Heap) (v:Value) (row:List Int):Prop:=∃ x ob its n,RowAt h v row x ob its n
inductive Rows (h:Heap):List Value -> List (List Int) -> Prop
 | nil:Rows h [] []
 | cons {v vs row rows}:Row1 h v row -> Rows h vs rows -> Rows h (v :: vs) (row :: rows)
theorem Rows.len {h:Heap}:∀ {vs rows},Rows h vs rows -> vs.length = rows.length
 | _,_,.nil=>rfl
 | _,_,.cons _ t=>congrArg (· + 1) t.len
theorem Rows.get {h:Heap}:∀ {vs rows} {i:Nat},Rows h vs rows -> i < vs.length -> Row1 h (vs.getD i Value.none) (rows.getD i [])
 | _,_,_,.nil,hi=>absurd hi (by simp)
 | _,_,0,.cons r _,_=>r
 | _,_,i + 1,.cons _ t,hi=>by
  have:=t.get (i:=i) (by simpa using hi)
  exact this
theorem Rows.old {h h':Heap} (k:∀ x ob,h.get? x = some ob -> h'.get? x = some ob):∀ {vs rows},Rows h vs rows -> Rows h' vs rows
 | _,_,.nil=>.nil
 | _,_,.cons ⟨x,ob,its,n,r⟩ t=>.cons ⟨x,ob,its,n,r.e,k _ _ r.g,r.c,r.d,r.i⟩ (t.old k)
theorem Rows.tups {h:Heap}:∀ {vs rows},Rows h vs rows -> (∀ r ∈ rows,r ≠ []) -> ∃ fs,KatTups h vs fs /\ fs.length = vs.length /\ ∀ f ∈ fs,∃ n t,f = Value.int n t
 | _,_,.nil,_=>⟨[],.nil,rfl,fun f hf=>absurd hf (by simp)⟩
 | _,_,.cons ⟨x,ob,its,n,r⟩ t,ne=>by
  rename_i v vs row rows
  obtain ⟨fs,k,l,a⟩:=t.tups fun r hr=>ne r (List.mem_cons_of_mem _ hr)
  have hne:=ne row List.mem_cons_self
  obtain ⟨f,hf,n',t',rfl⟩:∃ f,its[0]? = some f /\ ∃ n t,f = Value.int n t:=by
   have hi:=r.i
   rw [← Array.getElem?_toList]
   revert hi
   generalize its.toList = us
   intro hi
   cases hi with
   | nil=>exact absurd rfl hne
   | cons n t _=>exact ⟨_,rfl,n,t,rfl⟩
  obtain rfl:=r.e
  exact ⟨Value.int n' t' :: fs,.cons r.g r.c r.d hf k,congrArg (· + 1) l,fun f hf=>by
   rcases List.mem_cons.mp hf with rfl | hf
   ·exact ⟨n',t',rfl⟩
   ·exact a f hf⟩
end
def Vy (cs:List Call72):List (List Int):=(List.range cs.length).map fun k=>[(cg cs k).ended,(k:Int)]
open Classical in
noncomputable def srtR73 (cs:List Call72):List (List Int):=if h:∃ l:List (List Int),l.Perm (Vy cs) /\ l.Pairwise (fun x y=>ltL x y = true) then Classical.choose h else []
noncomputable def SX (cs:List Call72):List Nat:=(srtR73 cs).map fun r=>(r.getD 1 0).toNat
def Uk (cs:List Call72):Prop:=∃ l:List (List Int),l.Perm (Vy cs) /\ l.Pairwise (fun x y=>ltL x y = true)
def Vz (cs:List Call72) (b:List Int) (x:Nat):Option (List Nat):=ra cs (SO cs (nb73 cs x)) b
noncomputable def TX (cs:List Call72) (b:List Int):Option (List Nat) :=
 if (List.range b.length).all (fun x=>(Vz cs b x).isSome) = true then some (V4 cs (SX cs) ((List.range b.length).map fun x=>(Vz cs b x).getD [])) else none
def Xo (K:FG7) (H:Hp) (x:(Int × List Int) × Addr × V) (e:En73):Prop:=x.1 = ((e.1.1:Int),e.1.2) /\ y8 K H x.2.2 e.2
abbrev yD (K:FG7) (H:Hp):List ((Int × List Int) × Addr × V) -> List En73 -> Prop:=Paired (Xo K H)
theorem yD.grow {K:FG7} {H H':Hp} {m:List Addr} {kvs:List ((Int × List Int) × Addr × V)} {E:List En73} (g:Grow m H H') (h:yD K H kvs E):yD K H' kvs E:=Paired.mapP h fun _ _ z=>⟨z.1,z.2.grow g⟩
theorem tY {K:FG7} {H:Hp} {x:(Int × List Int) × Addr × V} {e:En73} {t:Nat} {vs:List Int} (h:Xo K H x e):x.1 = ((t:Int),vs) ↔ e.1 = (t,vs):=by
 rw [h.1]
 constructor
 ·intro z
  have z1:=congrArg Prod.fst z
  have z2:=congrArg Prod.snd z
  exact Prod.ext (Int.ofNat.inj z1) z2
 ·intro z
  rw [z]
theorem jH {K:FG7} {H:Hp} {t:Nat} {vs:List Int}:∀ {kvs:List ((Int × List Int) × Addr × V)} {E:List En73},yD K H kvs E -> (kvs.any fun x=>decide (x.1 = ((t:Int),vs))) = E.any fun e=>decide (e.1 = (t,vs))
 | _,_,.nil=>rfl
 | _,_,.cons h r=>by
  rw [List.any_cons,List.any_cons,jH r]
  congr 1
  exact decide_eq_decide.mpr (tY h)
theorem rq {K:FG7} {H:Hp} {t:Nat} {vs:List Int} {v:V} {o:List Nat} (hv:y8 K H v o):∀ {kvs:List ((Int × List Int) × Addr × V)} {E:List En73},yD K H kvs E →
  yD K H (kvs.map fun x=>if x.1 = ((t:Int),vs) then (x.1,x.2.1,v) else x) (E.map fun e=>if e.1 = (t,vs) then (e.1,o) else e)
 | _,_,.nil=>.nil
 | x :: _,e :: _,.cons h r=>by
  refine .cons ?_ (rq hv r)
  dsimp only
  by_cases c:e.1 = (t,vs)
  ·rw [if_pos c,if_pos ((tY h).mpr c)]
   exact ⟨h.1,hv⟩
  ·rw [if_neg c,if_neg (fun z=>c ((tY h).mp z))]
   exact h
theorem yD.store {K:FG7} {H:Hp} {kvs:List ((Int × List Int) × Addr × V)} {E:List En73} {t:Nat} {vs:List Int} {b:Addr} {v:V} {o:List Nat} (h:yD K H kvs E) (hv:y8 K H v o) :
  yD K H (z6 kvs ((t:Int),vs) b v) (xB E (t,vs) o):=by
 unfold z6 xB
 rw [jH h]
 split
 ·exact rq hv h
 ·exact Paired.snoc h ⟨rfl,hv⟩
theorem yD.get {K:FG7} {H:Hp} {kvs:List ((Int × List Int) × Addr × V)} {E:List En73} {i:Nat} {x:(Int × List Int) × Addr × V} (h:yD K H kvs E) (hx:kvs[i]? = some x):∃ e,E[i]? = some e /\ Xo K H x e:=by
 induction h generalizing i with
 | nil=>cases hx
 | @cons y e ys es h t ih =>
  cases i with
  | zero=>cases hx; exact ⟨e,rfl,h⟩
  | succ i=>exact ih hx
def yG (ms:List (Nat × Nat)):List (Key × V):=ms.map fun p=>(Sum.inl (p.1:Int),V.int ((p.2:Nat):Int))
def uS (K:FG7) (H:Hp) (v:V) (o:Option (List Nat)):Prop:=match o with
 | none=>v = .non
 | some ns=>y8 K H v ns
theorem uS.grow {K:FG7} {H H':Hp} {v:V} {o:Option (List Nat)} {m:List Addr} (h:uS K H v o) (g:Grow m H H'):uS K H' v o:=by
 cases o with
 | none=>exact h
 | some ns=>exact y8.grow h g
structure MsOk73 (m:Nat) (cs:List Call72) (ms:List (Nat × Nat)):Prop where
 lt:∀ p ∈ ms,p.1 < cs.length
 c40:cs.length <= 40
 ok:∀ c ∈ cs,CallOk72 m c
 m16:m <= 16
 few:ms.length <= 8
def jI (K:FG7):Sp:=sp2 fun x y H Q=>∃ b cs,zr K H x b /\ zw K H y cs /\ b.length <= 16 /\ Calls72 b.length cs ∧
 ∀ l zs H',Grow [] H H' -> H l = none -> H' l = some (.lst zs) -> Th H' zs ((List.range b.length).map (nb73 cs)) -> Q (.ref l) H'
def rA (K:FG7):Sp:=sp1 fun x H Q=>∃ ns,Tg K H x ns /\ ns.Pairwise (· < ·) /\ (∀ k ∈ ns,k < 40) /\ ∀ H',Grow [] H H' -> Q (.int (mk73 ns:Nat)) H'
def jJ (P:Program) (w:World) (K:FG7):Sp:=sp3 fun x y z H Q=>∃ (cs:List Call72) (m:Nat) (am:Addr) (ms:List (Nat × Nat)) (ar:Addr) (kvs:List ((Int × List Int) × Addr × V)) (E:List En73),
 zw K H x cs /\ y = .ref am /\ Rd H am (.dK (yG ms)) /\ z = .ref ar /\ H ar = some (ndO ptI ptT P w ar kvs) /\ am ≠ ar /\ NDc ptI ptT K H kvs /\ yD K H kvs E /\ MsOk73 m cs ms /\ (∀ e ∈ E,e.1.2.length = m /\ e.2.length <= 40) /\ E.length * ms.length <= sizeLine ∧
 ∀ r kvs' H',H r = none -> Grow [am,ar] H H' -> Rd H' am (.dK (yG ms)) -> H' r = some (ndO ptI ptT P w r kvs') -> NDc ptI ptT K H' kvs' -> yD K H' kvs' (jx cs ms E) -> Q (.ref r) H'
def Xp (K:FG7):Sp:=sp3 fun x y z H Q=>∃ (b:List Int) (cs:List Call72) (am:Addr) (ms:List (Nat × Nat)),zr K H x b /\ zw K H y cs /\ z = .ref am /\ Rd H am (.dK (yG ms)) /\ MsOk73 b.length cs ms ∧
 ∀ v H',Grow [am] H H' -> uS K H' v (ra cs ms b) -> Q v H'
theorem uc:∀ {l l':List Nat},l.Nodup -> (∀ x ∈ l,x ∈ l') -> l.length <= l'.length
 | [],_,_,_=>Nat.zero_le _
 | a :: l,l',nd,hm=>by
  obtain ⟨na,nd'⟩:=List.nodup_cons.mp nd
  have pe:=List.perm_cons_erase (hm a (List.mem_cons_self ..))
  have:=uc (l':=l'.erase a) nd' fun n hn=>(List.mem_erase_of_ne (fun z=>na (by rw [← z]; exact hn))).mpr (hm n (List.mem_cons_of_mem _ hn))
  have e:=pe.length_eq
  rw [List.length_cons] at e ⊢
  omega
theorem SY {ns:List Nat} {n:Nat} (pw:ns.Pairwise (· < ·)) (lt:∀ k ∈ ns,k < n):ns.length <= n:=by
 have nd:ns.Nodup:=pw.imp fun h=>Nat.ne_of_lt h
 have:=uc (l:=ns) (l':=List.range n) nd fun x hx=>List.mem_range.mpr (lt x hx)
 rwa [List.length_range] at this
theorem rB:∀ ns:List Nat,((ns.map fun k:Nat=>(k:Int)).map fun i=>1 * (2:Int) ^ i.toNat).sum = ((ns.map fun i=>2 ^ i).sum:Nat)
 | []=>rfl
 | k :: ns=>by
  rw [List.map_cons,List.map_cons,List.sum_cons,rB ns,List.map_cons,List.sum_cons,Int.toNat_natCast,Int.one_mul,Int.natCast_add,Int.natCast_pow]; rfl
theorem WU {ms:List (Nat × Nat)} {n:Nat} (h:n ∉ ms.map (·.1)):valV (yG ms) (Sum.inl (n:Int)) = none:=by
 have key:∀ ms:List (Nat × Nat),n ∉ ms.map (·.1) -> valV (yG ms) (Sum.inl (n:Int)) = none:=by
  intro ms
  induction ms with
  | nil=>exact fun _=>rfl
  | cons p ms ih =>
   intro h
   rw [List.map_cons,List.mem_cons,not_or] at h
   show valV ((Sum.inl (p.1:Int),V.int ((p.2:Nat):Int)) :: yG ms) _ = none
   rw [zZ (fun z=>h.1 (by injection z with z; omega))]
   exact ih h.2
 exact key ms h
theorem WV {ms:List (Nat × Nat)} {n M:Nat} (h:n ∉ ms.map (·.1)):putK (yG ms) (Sum.inl (n:Int)) (V.int ((M:Nat):Int)) = yG (ms ++ [(n,M)]):=by
 rw [jz _ (WU h)]
 unfold yG
 rw [List.map_append]; rfl
theorem WW {ms:List (Nat × Nat)} {i:Nat} {p:V × V} (h:((yG ms).map fun q=>(kV q.1,q.2))[i]? = some p):∃ q,ms[i]? = some q /\ p = (V.int (q.1:Int),V.int ((q.2:Nat):Int)):=by
 unfold yG at h
 rw [List.map_map,List.getElem?_map] at h
 obtain ⟨q,hq,rfl⟩:=Option.map_eq_some_iff.mp h
 exact ⟨q,hq,rfl⟩
theorem yO {α:Type} {l:List α} {i:Nat} {x:α} (h:l[i]? = some x):l.take (i + 1) = l.take i ++ [x]:=by rw [List.take_succ,h]; rfl
theorem Grow.setK73 {m:List Addr} {H:Hp} {d:Addr} {kvs:List (Key × V)} {o:HO} (h:H d = some (.dK kvs)) (hm:d ∈ m):Grow m H (upd H d o) :=
 ⟨fun b v hb q=>by rw [zv (show b ≠ d from fun z=>hb (by rw [z]; exact hm))]; exact q,fun b zs q=>by rw [zv (fun z=>by subst z; rw [h] at q; cases q)]; exact q,fun b u v q=>by rw [zv (fun z=>by subst z; rw [h] at q; cases q)]; exact q⟩
theorem Grow.setE73 {m:List Addr} {H:Hp} {d:Addr} {φ:Heap -> Prop} {o:HO} (h:H d = some (.ext φ)) (hm:d ∈ m):Grow m H (upd H d o) :=
 ⟨fun b v hb q=>by rw [zv (show b ≠ d from fun z=>hb (by rw [z]; exact hm))]; exact q,fun b zs q=>by rw [zv (fun z=>by subst z; rw [h] at q; cases q)]; exact q,fun b u v q=>by rw [zv (fun z=>by subst z; rw [h] at q; cases q)]; exact q⟩
theorem Xq {cs:List Call72} {i x:Nat}:(List.range (i + 1)).filter (tQ cs x) = (List.range i).filter (tQ cs x) ++ if (cg cs i).box = (x:Int) then [i] else []:=by
 rw [List.range_succ,List.filter_append]
 congr 1
 by_cases c:(cg cs i).box = (x:Int)
 ·rw [if_pos c,List.filter_cons,if_pos (decide_eq_true c)]; rfl
 ·rw [if_neg c,List.filter_cons,if_neg (by rw [decide_eq_true_eq]; exact c)]; rfl
theorem Xr {t n:Nat}:decide (V.int (Builtin.bitAnd ((t:Int) / 2 ^ ((n:Int)).toNat) 1) = V.int 0) = decide (t.testBit n = false):=by
 rw [Wr,show (1:Int) = ((1:Nat):Int) from rfl,Yz,Nat.and_one_is_mod,Nat.testBit_eq_decide_div_mod_eq]
 refine decide_eq_decide.mpr ⟨fun h=>?_,fun h=>?_⟩
 ·injection h with h
  rw [decide_eq_false_iff_not]; omega
 ·rw [decide_eq_false_iff_not] at h
  have:t / 2 ^ n % 2 = 0:=by omega
  rw [this]; rfl
theorem Xs {t M:Nat}:decide (V.int (Builtin.bitAnd (M:Int) (t:Int)) = V.int (M:Int)) = decide (M &&& t = M):=by
 rw [Yz]
 exact decide_eq_decide.mpr ⟨fun h=>by injection h with h; omega,fun h=>by rw [h]⟩
theorem WX {t n:Nat}:Builtin.bitOr (t:Int) (1 * 2 ^ ((n:Int)).toNat) = ((t ||| 2 ^ n:Nat):Int):=by rw [VX,Te]
theorem Xt {vs:List Int} {i:Nat} {v:Int} (h:i < vs.length):(vs.map V.int).take i ++ [V.int v] ++ (vs.map V.int).drop (i + 1) = (vs.set i v).map V.int:=by
 rw [← List.map_take,← List.map_drop,show [V.int v] = [v].map V.int from rfl,← List.map_append,← List.map_append,List.set_eq_take_append_cons_drop,if_pos h,List.append_assoc]; rfl
theorem ZD {cs:List Call72} {ms:List (Nat × Nat)} {E:List En73} {e:En73} {i j:Nat} (hi:i < E.length) (hj:j < ms.length):((ms.take j).foldl (z9 cs e) ((E.take i).foldl (zS cs ms) [])).length < E.length * ms.length:=by
 have h1:=wH (cs:=cs) (ms:=ms) (E:=E.take i) (F:=[])
 have h2:=wG (cs:=cs) (e:=e) (ms:=ms.take j) (F:=(E.take i).foldl (zS cs ms) [])
 have h3:((ms.take j).foldl (z9 cs e) ((E.take i).foldl (zS cs ms) [])).length <= ((E.take i).foldl (zS cs ms) []).length + (ms.take j).length:=h2
 rw [List.length_take] at h1 h3
 have h4:(i + 1) * ms.length <= E.length * ms.length:=Nat.mul_le_mul_right _ hi
 rw [Nat.min_eq_left (by omega)] at h1 h3
 rw [Nat.add_mul] at h4
 simp only [List.length_nil,Nat.zero_add] at h1
 omega
def Sa73 (σ:L2.St) (x y z u a b c:Option V):Prop:=∃ e7 e8 e9 e10 e11 e12 e13 e14 e15 e16:Option V,σ = [x,y,z,u,a,b,c,e7,e8,e9,e10,e11,e12,e13,e14,e15,e16]
structure Om73 (P:Program) (w:World) (K:FG7) (H:Hp) (am ar d:Addr) (o:Obj) (ms:List (Nat × Nat)) (kvs:List ((Int × List Int) × Addr × V)) (F:List En73) (H':Hp):Prop where
 g:Grow [am,ar,d] H H'
 r:H' ar = some (.frz o (ndO ptI ptT P w ar kvs))
 m:Rd H' am (.dK (yG ms))
 d:∃ kvs',H' d = some (ndO ptI ptT P w d kvs') /\ NDc ptI ptT K H' kvs' /\ yD K H' kvs' F
theorem Om73.grow {P:Program} {w:World} {K:FG7} {H H1 H2:Hp} {am ar d:Addr} {o:Obj} {ms:List (Nat × Nat)} {kvs:List ((Int × List Int) × Addr × V)} {F:List En73} (h:Om73 P w K H am ar d o ms kvs F H1) (g:Grow [] H1 H2):Om73 P w K H am ar d o ms kvs F H2:=by
 obtain ⟨kvs',h1,h2,h3⟩:=h.d
 exact ⟨h.g.trans g.wk,g.keep _ _ (by simp) h.r,h.m.imp (fun z=>g.keep _ _ (by simp) z) fun ⟨o,z⟩=>⟨o,g.keep _ _ (by simp) z⟩,kvs',g.keep _ _ (by simp) h1,h2.grow g,h3.grow g⟩
theorem Xu {cs:List Call72} {ms:List (Nat × Nat)} {b:List Int} {o:List Nat} {vs:List Int} (h:Run73 cs ms b o vs):vs.length = b.length:=by
 induction h with
 | nil=>rfl
 | snoc h hm hn hj ha ih=>unfold xC; rw [List.length_set,ih]
theorem WY {cs:List Call72} {ms:List (Nat × Nat)} {b:List Int} {r:Nat} (hr:r <= 40):∀ e ∈ xL cs ms b r,e.1.2.length = b.length /\ e.2.length <= 40:=fun e he=>by
 obtain ⟨h1,_,h3⟩:=xf r e he
 exact ⟨Xu h3,by omega⟩
theorem Xv {n r:Nat} (h:n <= 8) (hr:r <= 8):n ^ r <= sizeLine:=by
 have h1:n ^ r <= 8 ^ r:=Nat.pow_le_pow_left h r
 have h2:8 ^ r <= 8 ^ 8:=Nat.pow_le_pow_right (by decide) hr
 rw [sizeLine_eq]
 exact Nat.le_trans (Nat.le_trans h1 h2) (by decide)
theorem Xw {cs:List Call72} {ms:List (Nat × Nat)} {b:List Int} {r:Nat} (h:ms.length <= 8) (hr:r < ms.length):(xL cs ms b r).length * ms.length <= sizeLine:=by
 have h1:=Nat.mul_le_mul_right ms.length (vZ (cs:=cs) (ms:=ms) (b:=b) r)
 have h2:=Xv h (show r + 1 <= 8 by omega)
 exact Nat.le_trans h1 h2
theorem ZE {cs:List Call72} {ms:List (Nat × Nat)} {b:List Int} (h:ms.length <= 8):(xL cs ms b ms.length).length <= sizeLine:=Nat.le_trans (vZ _) (Xv h h)
section
variable {X:Cx} {K:FG7}
noncomputable def tZ (q:List Int) (h:Heap):Value -> Bool:=fun v=>@decide (∃ a us,v = .ref a /\ IsTup h a us /\ Vals (q.map V.int) us.toList) (Classical.propDecidable _)
theorem uT:∀ {p q:List Int} {us:List Value},Vals (p.map V.int) us -> Vals (q.map V.int) us -> p = q
 | [],[],_,_,_=>rfl
 | [],_ :: _,_,.nil,h=>by cases h
 | _ :: _,[],_,h,.nil=>by cases h
 | a :: p,b :: q,_,.cons h1 t1,.cons h2 t2=>by
  obtain ⟨t,e⟩:=(show ∃ t,_ = Value.int a t from h1)
  obtain ⟨t',e'⟩:=(show ∃ t,_ = Value.int b t from h2)
  rw [e] at e'
  injection e' with e' _
  rw [e',uT t1 t2]
theorem jK {p q:List Int} {h:Heap} {a:Addr} {us:Array Value} (t:IsTup h a us) (r:Vals (p.map V.int) us.toList):tZ q h (.ref a) = decide (p = q):=by
 unfold tZ
 by_cases c:p = q
 ·rw [decide_eq_true c]
  exact @decide_eq_true _ (Classical.propDecidable _) ⟨a,us,rfl,t,c ▸ r⟩
 ·rw [decide_eq_false c]
  refine @decide_eq_false _ (Classical.propDecidable _) ?_
  rintro ⟨b,vs,e,t',r'⟩
  cases e
  obtain ⟨o,e1,_,n,e2⟩:=t
  obtain ⟨o',e1',_,n',e2'⟩:=t'
  rw [e1] at e1'
  cases e1'
  rw [e2] at e2'
  injection e2' with e3 _
  rw [← e3] at r'
  exact c (uT r r')
theorem Xx {A:Around} {pins:List (Addr × Obj)} {σ:L2.St} {H:Hp} {s:Shared} (I:Inv X pins σ H s) {r:Addr} {q:List Int} (hr:A.units < cLine) (hx:SqT X.K H r (q.map V.int)):∀ {ys:List V} {us:List Value} {l:List (List Int)},Vals ys us -> AllR (zr X.K H) ys l →
  (∀ w ∈ us,SeqAt.EqAt A s w (.ref r) (tZ q s.heap w)) /\ us.any (tZ q s.heap) = decide (q ∈ l)
 | [],_,[],.nil,_=>⟨(fun w h=>by cases h),rfl⟩
 | y :: ys,_,p :: l,.cons ry rr,⟨⟨a,e,hs⟩,t⟩=>by
  obtain ⟨h1,h2⟩:=Xx I hr hx rr t
  subst e
  cases ry
  obtain ⟨ws,r1,t1,_⟩:=I.tuple hs
  obtain ⟨vs,r2,t2,_⟩:=I.tuple hx
  have key:tZ q s.heap (.ref a) = decide (p = q):=jK t1 (by simpa using r1)
  refine ⟨fun w hw=>?_,?_⟩
  ·rcases List.mem_cons.mp hw with rfl | hw
   ·rw [key]
    by_cases c:a = r
    ·subst c
     have k2:tZ q s.heap (.ref a) = decide (q = q):=jK t2 (by simpa using r2)
     rw [← key,k2,decide_eq_true rfl]
     exact SeqAt.EqAt.same _
    ·refine SeqAt.EqAt.of_refs c ?_
     have z:=SeqAt.RcAt.tuples (A:=A) (ym t1) (ym t2) hr (Yk r1 r2 sR sR)
     rw [List.size_toArray,List.size_toArray,← r1.length,← r2.length,wD,we] at z
     exact z
   ·exact h1 w hw
  ·rw [List.any_cons,h2,key]
   by_cases c:p = q
   ·subst c; rw [decide_eq_true rfl,decide_eq_true (List.mem_cons_self ..)]; rfl
   ·rw [decide_eq_false c,Bool.false_or]
    by_cases d:q ∈ l
    ·rw [decide_eq_true d,decide_eq_true (List.mem_cons_of_mem _ d)]
    ·rw [decide_eq_false d,decide_eq_false fun z=>(List.mem_cons.mp z).elim (fun w=>c w.symm) d]
def TY (K:FG7):R2:=fun x y H Q=>∃ (r p:Addr) (ys:List V) (q:List Int) (l:List (List Int)),x = .ref r /\ y = .ref p /\ SqT K H r (q.map V.int) /\ SqL K H p ys /\ AllR (zr K H) ys l /\ Q (.bl (decide (q ∈ l))) H
theorem WZ {k:Nat} (hK:X.K = K) (hr:Room k X.A):OpR X (compareOp .In) (TY K):=by
 subst hK
 intro pins s σ H x y v u Q I rx ry h
 obtain ⟨r,p,ys,q,l,rfl,rfl,hx,hq,ha,qq⟩:=h
 cases rx; cases ry
 obtain ⟨its,rv,pl,hz⟩:=I.list hq
 have key:=fun (A:Around) (h:A.units < cLine)=>Xx (A:=A) I h hx rv ha
 refine SeqAt.in_listAt (tZ q s.heap) pl.isList (fun w hw=>(key _ ?_).1 w (by simpa using hw)) ⟨.bl _,H,I,rfl,?_⟩
 ·have:=hr.un; show _ < _; simp; omega
 ·rw [show its.toArray.any (tZ q s.heap) = its.any (tZ q s.heap) by simp,(key X.A (by have:=hr.un; omega)).2]
  exact qq
end
theorem ZF {a b:List Nat} (h:(a.map fun k:Nat=>(k:Int)) = b.map fun k:Nat=>(k:Int)):a = b:=List.map_inj_right (fun _ _ z=>Int.ofNat.inj z) |>.mp h
def Ul (cs:List Call72) (left:List Nat) (v:Int) (k:Nat):Bool:=decide ((cg cs k).answer = v) && !(left.any fun j=>decide ((cg cs j).ended < (cg cs k).begun))
def wo73 (left:List Nat) (k:Nat):List Nat:=left.filter fun j=>!decide (j = k)
def VA (cs:List Call72):Nat -> List Nat -> Int -> Bool
 | _,[],_=>true
 | 0,_ :: _,_=>false
 | n + 1,x :: r,v=>(x :: r).any fun k=>Ul cs (x :: r) v k && VA cs n (wo73 (x :: r) k) ((cg cs k).deed.mk' v)
def xD (cs:List Call72) (left:List Nat) (v:Int):Bool:=VA cs left.length left v
theorem vt:∀ {left:List Nat} {k:Nat},left.Nodup -> k ∈ left -> (wo73 left k).length + 1 = left.length
 | x :: r,k,nd,h=>by
  obtain ⟨nx,nd'⟩:=List.nodup_cons.mp nd
  unfold wo73
  by_cases c:x = k
  ·subst c
   rw [List.filter_cons,if_neg (by simp)]
   have:r.filter (fun j=>!decide (j = x)) = r:=List.filter_eq_self.mpr fun j hj=>by
    have:j ≠ x:=fun z=>nx (by rw [← z]; exact hj)
    simp [this]
   rw [this]; rfl
  ·have hk:k ∈ r:=(List.mem_cons.mp h).resolve_left fun z=>c z.symm
   rw [List.filter_cons,if_pos (by simp [c])]
   have:=vt nd' hk
   unfold wo73 at this
   rw [List.length_cons,List.length_cons]; omega
theorem vw {left:List Nat} {k j:Nat}:j ∈ wo73 left k ↔ j ∈ left /\ j ≠ k:=by
 unfold wo73
 rw [List.mem_filter]
 simp
theorem uU {left:List Nat} {k:Nat} (h:left.Nodup):(wo73 left k).Nodup:=h.sublist List.filter_sublist
def wI (cs:List Call72):Int -> List Nat -> Bool
 | _,[]=>true
 | v,k :: r=>if v = (cg cs k).answer then wI cs ((cg cs k).deed.mk' (cg cs k).answer) r else false
theorem uV {cs:List Call72} {x:Nat}:∀ {o:List Nat} {vs:List Int},(∀ k ∈ o,(cg cs k).box = (x:Int)) -> x < vs.length -> an72 cs vs o = wI cs (vs.getD x 0) o
 | [],_,_,_=>rfl
 | k :: r,vs,hb,hv=>by
  have hk:=hb k (List.mem_cons_self ..)
  have ek:(cg cs k).box.toNat = x:=by rw [hk]; exact Int.toNat_natCast x
  rw [yi,ek]
  show _ = if vs.getD x 0 = (cg cs k).answer then wI cs ((cg cs k).deed.mk' (cg cs k).answer) r else false
  split
  ·rw [uV (fun j hj=>hb j (List.mem_cons_of_mem _ hj)) (by rw [List.length_set]; exact hv),yx hv]
  ·rfl
def Kn73 (P:Program) (w:World) (K:FG7) (cs:List Call72) (dk m:Nat) (H:Hp):Prop :=
 ∃ kvs:List ((List Int × Int) × Addr × V),H dk = some (ndO ptT ptI P w dk kvs) /\ NDc ptT ptI K H kvs /\ (∀ x ∈ kvs,∃ (left:List Nat) (v:Int),x.1 = (left.map (fun k:Nat=>(k:Int)),v) /\ x.2.2 = .bl (xD cs left v)) /\ kvs.length <= m
theorem Kn73.grow {P:Program} {w:World} {K:FG7} {cs:List Call72} {dk m:Nat} {H H':Hp} (h:Kn73 P w K cs dk m H) (g:Grow [] H H'):Kn73 P w K cs dk m H':=by
 obtain ⟨kvs,h1,h2,h3,h4⟩:=h
 exact ⟨kvs,g.keep _ _ (by simp) h1,h2.grow g,h3,h4⟩
theorem Kn73.mono {P:Program} {w:World} {K:FG7} {cs:List Call72} {dk m m':Nat} {H:Hp} (h:Kn73 P w K cs dk m H) (hm:m <= m'):Kn73 P w K cs dk m' H:=by
 obtain ⟨kvs,h1,h2,h3,h4⟩:=h
 exact ⟨kvs,h1,h2,h3,Nat.le_trans h4 hm⟩
def fz73:Nat -> Nat
 | 0=>0
 | n + 1=>1 + (n + 1) * fz73 n
theorem Xy {n:Nat} (h:n <= 8):fz73 n <= 200000:=by
 have key:∀ n:Fin 9,fz73 n.val <= 200000:=by decide +kernel
 exact key ⟨n,by omega⟩
theorem Kn73.put {P:Program} {w:World} {K:FG7} {cs:List Call72} {dk m:Nat} {H:Hp} {kvs:List ((List Int × Int) × Addr × V)} {left:List Nat} {v:Int} {b:Addr} (h1:H dk = some (ndO ptT ptI P w dk kvs)) (h2:NDc ptT ptI K H kvs)
  (h3:∀ x ∈ kvs,∃ (left:List Nat) (v:Int),x.1 = (left.map (fun k:Nat=>(k:Int)),v) /\ x.2.2 = .bl (xD cs left v)) (h4:kvs.length <= m) (hk:KAt ptT ptI K H (left.map (fun k:Nat=>(k:Int)),v) b) :
  Grow [dk] H (upd H dk (ndO ptT ptI P w dk (z6 kvs (left.map (fun k:Nat=>(k:Int)),v) b (.bl (xD cs left v))))) ∧
  NDc ptT ptI K (upd H dk (ndO ptT ptI P w dk (z6 kvs (left.map (fun k:Nat=>(k:Int)),v) b (.bl (xD cs left v))))) (z6 kvs (left.map (fun k:Nat=>(k:Int)),v) b (.bl (xD cs left v))) ∧
  (∀ x ∈ z6 kvs (left.map (fun k:Nat=>(k:Int)),v) b (.bl (xD cs left v)),∃ (left:List Nat) (v:Int),x.1 = (left.map (fun k:Nat=>(k:Int)),v) /\ x.2.2 = .bl (xD cs left v)) ∧
  (z6 kvs (left.map (fun k:Nat=>(k:Int)),v) b (.bl (xD cs left v))).length <= m + 1 /\ valV ((z6 kvs (left.map (fun k:Nat=>(k:Int)),v) b (.bl (xD cs left v))).map prV) (left.map (fun k:Nat=>(k:Int)),v) = some (.bl (xD cs left v)):=by
 have g:Grow [dk] H (upd H dk (ndO ptT ptI P w dk (z6 kvs (left.map (fun k:Nat=>(k:Int)),v) b (.bl (xD cs left v))))):=Grow.setE73 h1 (by simp)
 refine ⟨g,(h2.store hk).grow g,fun x hx=>?_,?_,by rw [ZB,yJ,if_pos rfl]⟩
 ·unfold z6 at hx
  split at hx
  ·obtain ⟨z,hz,rfl⟩:=List.mem_map.mp hx
   by_cases c:z.1 = (left.map (fun k:Nat=>(k:Int)),v)
   ·rw [if_pos c]; exact ⟨left,v,c,rfl⟩
   ·rw [if_neg c]; exact h3 z hz
  ·rcases List.mem_append.mp hx with z | z
   ·exact h3 x z
   ·rw [List.mem_singleton.mp z]; exact ⟨left,v,rfl,rfl⟩
 ·unfold z6
  split
  ·rw [List.length_map]; omega
  ·rw [List.length_append]; show _ + 1 <= _; omega
def Um (K:FG7) (H:Hp) (v:V):Prop:=∃ t vb vc vo b cs,v = .ref t /\ SqT K H t [vb,vc,vo] /\ zr K H vb b /\ 1 <= b.length /\ b.length <= 16 /\ zw K H vc cs /\ Calls72 b.length cs /\ uS K H vo (TX cs b) /\ ((TX cs b).isSome = true -> Uk cs)
theorem Um.grow {K:FG7} {H H':Hp} {v:V} {m:List Addr} (h:Um K H v) (g:Grow m H H'):Um K H' v:=by
 obtain ⟨t,vb,vc,vo,b,cs,rfl,h1,h2,h3,h4,h5,h6,h7,h8⟩:=h
 exact ⟨t,vb,vc,vo,b,cs,rfl,g.sqT h1,g.board h2,h3,h4,g.calls72 h5,h6,h7.grow g,h8⟩
section
variable {bef:Nat -> Nat -> Bool}
def wu (bef:Nat -> Nat -> Bool) (ns:List Nat):List (Nat × Nat):=ns.map fun n=>(n,mk73 (ns.filter fun j=>bef j n))
theorem ud {ns:List Nat}:(wu bef ns).map (·.1) = ns:=by
 unfold wu
 rw [List.map_map]
 conv=>rhs; rw [← List.map_id ns]
 rfl
theorem wv {ns:List Nat}:(wu bef ns).length = ns.length:=List.length_map ..
theorem Xz {cs:List Call72} {ns:List Nat} {b:List Int} {o:List Nat} {vs:List Int} (h:Run73 cs (wu bef ns) b o vs):∀ k ∈ o,∀ j ∈ ns,bef j k = true -> j ∈ o:=by
 induction h with
 | nil=>exact nofun
 | @snoc o vs n M h hm hn hj ha ih =>
  intro k hk j hjn lt
  rcases List.mem_append.mp hk with z | z
  ·exact List.mem_append_left _ (ih k z j hjn lt)
  ·have ek:=List.mem_singleton.mp z
   subst ek
   obtain ⟨n',_,e⟩:=List.mem_map.mp hm
   injection e with e1 e2
   subst e1
   refine List.mem_append_left _ (hj j ?_)
   rw [← e2]
   exact (YQ _ j).mpr (List.mem_filter.mpr ⟨hjn,lt⟩)
theorem W0 {cs:List Call72} {ns:List Nat} {b:List Int} {o:List Nat} {vs:List Int} (h:Run73 cs (wu bef ns) b o vs):o.Pairwise (fun k j=>¬ bef j k = true):=by
 induction h with
 | nil=>exact .nil
 | @snoc o vs n M h hm hn hj ha ih =>
  refine List.pairwise_append.mpr ⟨ih,by simp,fun k hk j hj' lt=>?_⟩
  rw [List.mem_singleton.mp hj'] at lt
  have hns:n ∈ ns:=by
   have:n ∈ (wu bef ns).map (·.1):=List.mem_map.mpr ⟨_,hm,rfl⟩
   rwa [ud] at this
  exact hn (Xz h k hk n hns lt)
theorem uW {cs:List Call72} {ns:List Nat} {b:List Int} (irr:∀ k,bef k k = false):∀ {r p:List Nat} {vs:List Int},(∀ x,x ∈ p ++ r ↔ x ∈ ns) -> (p ++ r).Nodup -> Run73 cs (wu bef ns) b p vs -> r.Pairwise (fun k j=>¬ bef j k = true) -> an72 cs vs r = true →
  ∃ ws,Run73 cs (wu bef ns) b (p ++ r) ws
 | [],p,vs,_,_,h,_,_=>⟨vs,by rw [List.append_nil]; exact h⟩
 | n :: r,p,vs,hm,nd,h,hk,ha=>by
  have hk':=List.pairwise_cons.mp hk
  have hns:n ∈ ns:=(hm n).mp (by simp)
  rw [yi] at ha
  have hv:vs.getD (cg cs n).box.toNat 0 = (cg cs n).answer:=by
   by_cases c:vs.getD (cg cs n).box.toNat 0 = (cg cs n).answer
   ·exact c
   ·rw [if_neg c] at ha; cases ha
  rw [if_pos hv] at ha
  have np:n ∉ p:=fun z=>(List.nodup_append.mp nd).2.2 n z n (by simp) rfl
  have e:p ++ n :: r = (p ++ [n]) ++ r:=by rw [List.append_assoc]; rfl
  rw [e] at hm nd ⊢
  refine uW irr hm nd (.snoc h (List.mem_map.mpr ⟨n,hns,rfl⟩) np (fun j hj=>?_) hv) hk'.2 ha
  obtain ⟨j1,j2⟩:=List.mem_filter.mp ((YQ _ j).mp hj)
  rcases List.mem_append.mp ((hm j).mpr j1) with z | z
  ·rcases List.mem_append.mp z with z | z
   ·exact z
   ·rw [List.mem_singleton.mp z,irr] at j2; cases j2
  ·exact absurd j2 (hk'.1 j z)
end
def zy (cs:List Call72) (j n:Nat):Bool:=decide ((cg cs j).hand = (cg cs n).hand) && decide ((cg cs j).begun < (cg cs n).begun)
def kh77 (cs:List Call72):List Nat -> Bool
 | []=>true
 | k :: r=>!(r.any fun j=>zy cs j k) && kh77 cs r
theorem xE {cs:List Call72}:∀ {o:List Nat},kh77 cs o = true ↔ o.Pairwise (fun k j=>¬ zy cs j k = true)
 | []=>by simp [kh77]
 | k :: r=>by
  show (!(r.any fun j=>zy cs j k) && kh77 cs r) = true ↔ _
  rw [Bool.and_eq_true,List.pairwise_cons,xE,Bool.not_eq_true',List.any_eq_false]
def w9 (b:List Int) (cs:List Call72) (ns:List Nat):Prop:=ns.Perm (List.range cs.length) /\ kh77 cs ns = true /\ an72 cs b ns = true
def ue (cs:List Call72) (b:List Int):Option (List Nat):=ra cs (wu (zy cs) (List.range cs.length)) b
theorem wJ {cs:List Call72} (k:Nat):zy cs k k = false:=by
 unfold zy
 rw [decide_eq_false (p:=(cg cs k).begun < (cg cs k).begun) (by omega),Bool.and_false]
theorem uf {cs:List Call72} {b:List Int} {o:List Nat} (h:ue cs b = some o):w9 b cs o:=by
 obtain ⟨vs,hr,hl⟩:=Zs h
 have:=hr.perm hl
 rw [ud] at this
 exact ⟨this,xE.mpr (W0 hr),WC hr⟩
theorem qC {cs:List Call72} {b:List Int} (h:ue cs b = none) {o:List Nat} (hs:w9 b cs o):False:=by
 obtain ⟨h1,h2,h3⟩:=hs
 obtain ⟨ws,hr⟩:=uW (cs:=cs) (ns:=List.range cs.length) (b:=b) wJ (r:=o) (p:=[]) (vs:=b) (fun x=>h1.mem_iff) (h1.nodup_iff.mpr List.nodup_range) .nil (xE.mp h2) h3
 exact Zt h hr (by rw [List.nil_append,wv]; exact h1.length_eq)
def xM (cs:List Call72):List Nat -> Int -> Option Int
 | [],_=>none
 | k :: r,h=>match xM cs r h with
  | some v=>some v
  | none=>if (cg cs k).hand = h then some (cg cs k).begun else none
theorem uX {cs:List Call72} {h:Int} {k:Nat}:∀ {o:List Nat},xM cs (o ++ [k]) h = if (cg cs k).hand = h then some (cg cs k).begun else xM cs o h
 | []=>rfl
 | j :: o=>by
  show (match xM cs (o ++ [k]) h with | some v=>some v | none=>if (cg cs j).hand = h then some (cg cs j).begun else none) = _
  rw [uX]
  by_cases c:(cg cs k).hand = h
  ·rw [if_pos c,if_pos c]
  ·rw [if_neg c,if_neg c]; rfl
theorem XA {cs:List Call72} {k:Nat} {o:List Nat} (h:kh77 cs o = true) (b0:0 <= (cg cs k).begun) (hb:∀ j ∈ o,0 <= (cg cs j).begun):kh77 cs (o ++ [k]) = !decide ((xM cs o (cg cs k).hand).getD 0 > (cg cs k).begun):=by
 have key:∀ {o:List Nat},kh77 cs o = true -> (∀ j ∈ o,0 <= (cg cs j).begun) -> (∀ j ∈ o,(cg cs j).hand = (cg cs k).hand -> (cg cs j).begun <= (xM cs o (cg cs k).hand).getD 0) /\ (xM cs o (cg cs k).hand = none \/ ∃ j ∈ o,(cg cs j).hand = (cg cs k).hand /\ xM cs o (cg cs k).hand = some (cg cs j).begun):=by
  intro o
  induction o with
  | nil=>intro _ _; exact ⟨nofun,.inl rfl⟩
  | cons j o ih =>
   intro h hb
   have h':(!(o.any fun i=>zy cs i j) && kh77 cs o) = true:=h
   rw [Bool.and_eq_true,Bool.not_eq_true',List.any_eq_false] at h'
   obtain ⟨i1,i2⟩:=ih h'.2 fun i hi=>hb i (List.mem_cons_of_mem _ hi)
   have e:xM cs (j :: o) (cg cs k).hand = match xM cs o (cg cs k).hand with | some v=>some v | none=>if (cg cs j).hand = (cg cs k).hand then some (cg cs j).begun else none:=rfl
   rcases i2 with n | ⟨i,hi,hh,hv⟩
   ·rw [n] at e i1
    have e':xM cs (j :: o) (cg cs k).hand = if (cg cs j).hand = (cg cs k).hand then some (cg cs j).begun else none:=e
    by_cases c:(cg cs j).hand = (cg cs k).hand
    ·rw [if_pos c] at e'
     rw [e']
     refine ⟨fun i hi hc=>?_,.inr ⟨j,List.mem_cons_self ..,c,rfl⟩⟩
     rcases List.mem_cons.mp hi with rfl | hi
     ·exact Int.le_refl _
     ·have z1:=i1 i hi hc
      have z2:=hb i (List.mem_cons_of_mem _ hi)
      have z3:=hb j (List.mem_cons_self ..)
      have z4:(none:Option Int).getD 0 = 0:=rfl
      rw [z4] at z1
      show (cg cs i).begun <= (cg cs j).begun
      omega
    ·rw [if_neg c] at e'
     rw [e']
     refine ⟨fun i hi hc=>?_,.inl rfl⟩
     rcases List.mem_cons.mp hi with rfl | hi
     ·exact absurd hc c
     ·exact i1 i hi hc
   ·rw [hv] at e i1
    have e':xM cs (j :: o) (cg cs k).hand = some (cg cs i).begun:=e
    rw [e']
    refine ⟨fun l hl hc=>?_,.inr ⟨i,List.mem_cons_of_mem _ hi,hh,rfl⟩⟩
    rcases List.mem_cons.mp hl with rfl | hl
    ·have:=h'.1 i hi
     unfold zy at this
     rw [Bool.and_eq_true,decide_eq_true_eq,decide_eq_true_eq] at this
     show (cg cs l).begun <= (cg cs i).begun
     have:¬ (cg cs i).begun < (cg cs l).begun:=fun z=>this ⟨by rw [hh,hc],z⟩
     omega
    ·exact i1 l hl hc
 obtain ⟨k1,k2⟩:=key h hb
 rw [Bool.eq_iff_iff,xE,List.pairwise_append,Bool.not_eq_true',decide_eq_false_iff_not]
 constructor
 ·rintro ⟨_,_,h3⟩ lt
  rcases k2 with n | ⟨j,hj,hh,hv⟩
  ·rw [n] at lt
   have:(none:Option Int).getD 0 = 0:=rfl
   omega
  ·rw [hv] at lt
   have lt':(cg cs j).begun > (cg cs k).begun:=lt
   refine h3 j hj k (List.mem_singleton.mpr rfl) ?_
   unfold zy
   rw [Bool.and_eq_true,decide_eq_true_eq,decide_eq_true_eq]
   exact ⟨hh.symm,lt'⟩
 ·intro le
  refine ⟨xE.mp h,by simp,fun j hj k' hk' bf=>?_⟩
  rw [List.mem_singleton.mp hk'] at bf
  unfold zy at bf
  rw [Bool.and_eq_true,decide_eq_true_eq,decide_eq_true_eq] at bf
  have:=k1 j hj bf.1.symm
  omega
theorem W1 {cs:List Call72} {o r:List Nat} (h:kh77 cs (o ++ r) = true):kh77 cs o = true:=xE.mpr (List.pairwise_append.mp (xE.mp h)).1
def SZ (bx:Nat -> Nat) (s t:Int) (c c':Call72):Prop:=c'.box.toNat = bx c.box.toNat /\ c'.deed = c.deed /\ c'.answer = c.answer /\ c'.begun = c.begun * s + t /\ c'.ended = c.ended * s + t
theorem wX {α:Type}:∀ {l:List α} {j:Nat} (h:j < l.length),(l[j] :: l.eraseIdx j).Perm l
 | [],_,h=>absurd h (by simp)
 | a :: l,0,_=>List.Perm.refl _
 | a :: l,j + 1,h=>(List.Perm.swap a _ _).trans ((wX (l:=l) (j:=j) (by simpa using h)).cons a)
theorem uY {β:Type} {R:V -> β -> Prop} {zs xs:List V} (h:zs.Perm xs):∀ {ks:List β},AllR R xs ks -> ∃ ks':List β,ks'.Perm ks /\ AllR R zs ks':=by
 induction h with
 | nil=>intro ks a; cases ks with
  | nil=>exact ⟨[],List.Perm.refl _,trivial⟩
  | cons k ks=>exact a.elim
 | cons x _ ih=>intro ks a; cases ks with
  | nil=>exact a.elim
  | cons k ks =>
   obtain ⟨ks',h1,h2⟩:=ih a.2
   exact ⟨k :: ks',h1.cons k,a.1,h2⟩
 | swap x y l=>intro ks a; cases ks with
  | nil=>exact a.elim
  | cons k ks=>cases ks with
   | nil=>exact a.2.elim
   | cons k2 ks=>exact ⟨k2 :: k :: ks,List.Perm.swap ..,a.2.1,a.1,a.2.2⟩
 | trans _ _ ih1 ih2 =>
  intro ks a
  obtain ⟨k1,p1,a1⟩:=ih2 a
  obtain ⟨k2,p2,a2⟩:=ih1 a1
  exact ⟨k2,p2.trans p1,a2⟩
theorem xW {zs:List V} {ns:List Nat} (h:zs.Perm (zH ns)):∃ ms:List Nat,ms.Perm ns /\ zs = zH ms:=by
 have a0:∀ ns:List Nat,AllR (fun (v:V) (k:Nat)=>v = .int k) (zH ns) ns:=fun ns=>by
  induction ns with
  | nil=>trivial
  | cons k ns ih=>exact ⟨rfl,ih⟩
 obtain ⟨ms,h1,h2⟩:=uY h (a0 ns)
 refine ⟨ms,h1,?_⟩
 clear h h1 a0
 induction zs generalizing ms with
 | nil=>cases ms with
  | nil=>rfl
  | cons k ms=>exact h2.elim
 | cons z zs ih=>cases ms with
  | nil=>exact h2.elim
  | cons k ms=>rw [h2.1,ih ms h2.2]; rfl
def yP:Deed:=⟨0,none,none⟩
def ug (K:FG7):Sp:=sp2 fun x y H Q=>∃ (p:Addr) (xs:List V),x = .ref p /\ Pot H p /\ (∃ r,y = .ref r /\ (SqL K H r xs \/ SqT K H r xs)) /\ xs.length <= 40 /\ ∀ l zs H',zs.Perm xs -> Grow [p] H H' -> Pot H' p -> H l = none -> l ≠ p -> H' l = some (.lst zs) -> Q (.ref l) H'
structure Rnd79 (b:List Int) (cs:List Call72) (b':List Int) (cs':List Call72) (pl:List Nat) (bx:Nat -> Nat) (s t:Int):Prop where
 s1:1 <= s
 inj:∀ x y,x < b.length -> y < b.length -> bx x = bx y -> x = y
 vs:∀ x,x < b.length -> bx x < b'.length /\ b'.getD (bx x) 0 = b.getD x 0
 per:pl.Perm (List.range cs.length)
 len:cs'.length = cs.length
 ren:∀ i,i < cs.length -> SZ bx s t (cg cs (pl.getD i 0)) (cg cs' i)
 b1:1 <= b'.length
 b16:b'.length <= 16
 ok:Calls72 b'.length cs'
def Uo (hs bs:List Nat) (s t:Int) (c:Call72):Call72:=⟨((hs.getD c.hand.toNat 0:Nat):Int),((bs.idxOf c.box.toNat:Nat):Int),c.deed,c.begun * s + t,c.ended * s + t,c.answer⟩
def t5 (cs:List Call72):Prop:=∀ i j,i < cs.length -> j < cs.length -> (cg cs i).hand = (cg cs j).hand -> (cg cs i).begun = (cg cs j).begun -> i = j
def uh (K:FG7):Sp:=sp2 fun x y H Q=>∃ b cs,zr K H x b /\ 1 <= b.length /\ b.length <= 16 /\ zw K H y cs /\ Calls72 b.length cs /\ t5 cs /\ ∀ H',Grow [] H H' -> Q .non H'
def XB (K:FG7):Sp:=sp2 fun x y H Q=>∃ cs o,zw K H x cs /\ (∀ c ∈ cs,0 <= c.begun) /\ y8 K H y o /\ (∀ k ∈ o,k < cs.length) /\ o.length <= 40 /\ ∀ H',Grow [] H H' -> Q (.bl (kh77 cs o)) H'
def XC (b:List Int) (cs:List Call72) (d:PyData):Prop:=∃ ns,y0 cs.length d ns /\ kh77 cs ns = true /\ an72 cs b ns = true
theorem ZG {b:List Int} {cs:List Call72} {ns:List Nat}:XC b cs (.tuple (ns.map fun k:Nat=>PyData.int (k:Int))) ↔ w9 b cs ns:=by
 constructor
 ·rintro ⟨ms,⟨e,hp⟩,h1,h2⟩
  injection e with e
  rw [xU e]
  exact ⟨hp,h1,h2⟩
 ·rintro ⟨h1,h2,h3⟩
  exact ⟨ns,⟨rfl,h1⟩,h2,h3⟩
def uZ (K:FG7):Sp:=sp3 fun x y z H Q=>∃ (b:List Int) (cs:List Call72) (d:PyData) (m:List Addr),zr K H x b /\ 1 <= b.length /\ b.length <= 16 /\ zw K H y cs /\ Calls72 b.length cs /\ t5 cs /\ Od K m H z d /\ Fl72 d /\ ∀ t H',(t = true ↔ XC b cs d) -> Grow [] H H' -> Q (.bl t) H'
def XD (K:FG7):Sp:=sp1 fun x H Q=>∃ cs,zw K H x cs /\ cs.length <= 40 /\ ∀ d H',H d = none -> Grow [] H H' -> H' d = some (.dK (yG (wu (zy cs) (List.range cs.length)))) -> Q (.ref d) H'
def rC (K:FG7):Sp:=sp2 fun x y H Q=>∃ b cs,zr K H x b /\ 1 <= b.length /\ b.length <= 16 /\ zw K H y cs /\ Calls72 b.length cs /\ t5 cs /\ cs.length <= 8 /\ ∀ v H',Grow [] H H' -> uS K H' v (ue cs b) -> Q v H'
theorem Up {b:Hp -> VK -> Prop}:∀ vs H Q E,(fun (vs:List V) (H:Hp) (Q:VK) (_:XK)=>vs = [] /\ b H Q) vs H Q E -> vs.length = 0:=by
 rintro _ _ _ _ ⟨rfl,_⟩; rfl
def xX:Deed:=⟨0,some 1,some 1⟩
def nt77:List Call72:=[⟨0,0,xX,0,1,0⟩,⟨0,1,yP,2,3,0⟩,⟨1,1,xX,0,1,0⟩,⟨1,0,yP,2,3,0⟩]
def XE (K:FG7):Sp:=fun vs H Q _=>vs = [] /\ ∀ (r:Addr) (vb vc:V) H',Grow [] H H' -> SqT K H' r [vb,vc] -> zr K H' vb [0,0] -> zw K H' vc nt77 -> Q (.ref r) H'
def ww (xs:Array Nat):Prop:=∀ i j (h:j < xs.size) (ij:i < j),xs[i] < xs[j]
theorem t6 {xs:Array Nat} {j:Nat} (hr:ww xs):∀ (fuel lo hi:Nat),hi - lo <= fuel -> lo <= hi -> hi <= xs.size -> (∀ i (h:i < xs.size),i < lo -> xs[i] < j) -> (∀ i (h:i < xs.size),hi <= i -> j <= xs[i]) →
  SetTable.below.go xs j fuel lo hi <= xs.size /\ (∀ i (h:i < xs.size),i < SetTable.below.go xs j fuel lo hi -> xs[i] < j) /\ (∀ i (h:i < xs.size),SetTable.below.go xs j fuel lo hi <= i -> j <= xs[i])
 | 0,lo,hi,hf,hl,hs,h1,h2=>by
  unfold SetTable.below.go
  exact ⟨by omega,h1,fun i h hi'=>h2 i h (by omega)⟩
 | fuel + 1,lo,hi,hf,hl,hs,h1,h2=>by
  unfold SetTable.below.go
  split
  ·rename_i hlt
   have hm:(lo + hi) / 2 < xs.size:=by omega
   simp only [Array.getD,hm,dite_true]
   split
   ·rename_i hv
    refine t6 hr fuel _ _ (by omega) (by omega) hs (fun i h hi'=>?_) h2
    rcases Nat.lt_or_eq_of_le (Nat.lt_succ_iff.mp hi') with z | z
    ·exact Nat.lt_trans (hr i _ hm z) hv
    ·subst z; exact hv
   ·rename_i hv
    refine t6 hr fuel _ _ (by omega) (by omega) (by omega) h1 (fun i h hi'=>?_)
    rcases Nat.lt_or_eq_of_le hi' with z | z
    ·exact Nat.le_trans (Nat.le_of_not_lt hv) (Nat.le_of_lt (hr _ i h z))
    ·subst z; exact Nat.le_of_not_lt hv
  ·exact ⟨by omega,h1,fun i h hi'=>h2 i h (by omega)⟩
theorem Uq {xs:Array Nat} (hr:ww xs) (j:Nat):SetTable.below xs j <= xs.size /\ (∀ i (h:i < xs.size),i < SetTable.below xs j -> xs[i] < j) /\ (∀ i (h:i < xs.size),SetTable.below xs j <= i -> j <= xs[i]) :=
 t6 hr _ _ _ (by omega) (by omega) (Nat.le_refl _) (fun i _ z=>absurd z (by omega)) (fun i h z=>absurd z (by omega))
theorem ui {xs:Array Nat}:ww xs ↔ xs.toList.Pairwise (· < ·):=by
 rw [List.pairwise_iff_getElem]
 constructor
 ·intro h i j hi hj ij
  simpa using h i j (by simpa using hj) ij
 ·intro h i j hj ij
  have hj2:j < xs.toList.length:=by rw [Array.length_toList]; exact hj
  exact h i j (Nat.lt_trans ij hj2) hj2 ij
def qD (t:SetTable) (j:Nat):Prop:=t.place[SetTable.below t.place j]? ≠ some j
theorem ZH {t:SetTable} {j:Nat} (h:t.slot j = .empty):qD t j:=fun z=>by
 unfold SetTable.slot at h; simp [z] at h
theorem ZI {t:SetTable} {j:Nat} (h:t.slot j = .dummy):qD t j:=fun z=>by
 unfold SetTable.slot at h; simp [z] at h
theorem wK {t:SetTable} {ha:Nat -> Int} {h:Int}:∀ (fuel:Nat) (p:SetTable.Probe) (j:Nat) (d:Option Nat),(∀ x,p.dummy = some x -> qD t x) -> SetTable.probe.go t ha h fuel p = some (.empty j d) -> qD t j /\ ∀ x,d = some x -> qD t x
 | 0,p,j,d,_,e=>by unfold SetTable.probe.go at e; cases e
 | fuel + 1,p,j,d,hd,e=>by
  unfold SetTable.probe.go at e
  have adv:∀ q:SetTable.Probe,(t.advance q).dummy = q.dummy:=fun q=>by unfold SetTable.advance; split <;> rfl
  split at e
  ·rename_i hs
   cases e
   exact ⟨ZH hs,hd⟩
  ·rename_i hs
   exact wK fuel _ j d (fun x hx=>by rw [adv] at hx; cases hx; exact ZI hs) e
  ·split at e
   ·cases e
   ·exact wK fuel _ j d (fun x hx=>by rw [adv] at hx; exact hd x hx) e
theorem XG {t:SetTable} {h:Int} {j:Nat} {b:Bool} (e:t.freeSlot h = some (j,b)):qD t j:=by
 unfold SetTable.freeSlot at e
 split at e
 ·rename_i j' d hp
  obtain ⟨h1,h2⟩:=wK _ _ _ _ (fun x hx=>by simp [SetTable.probeStart] at hx) hp
  cases e
  cases d with
  | none=>exact h1
  | some x=>exact h2 x rfl
 ·cases e
theorem W2 {t:SetTable} {j:Nat} (hr:ww t.place) (hf:qD t j):ww (t.put j).1.place:=by
 obtain ⟨b1,b2,b3⟩:=Uq hr j
 rw [ui]
 show (SetTable.insertAt t.place (SetTable.below t.place j) j).toList.Pairwise (· < ·)
 rw [SetTable.toList_insertAt,List.pairwise_append]
 have pw:=ui.mp hr
 refine ⟨pw.sublist (List.take_sublist _ _),?_,?_⟩
 ·rw [List.pairwise_cons]
  refine ⟨fun a ha=>?_,pw.sublist (List.drop_sublist _ _)⟩
  obtain ⟨i,hi,e⟩:=List.mem_iff_getElem.mp ha
  rw [List.getElem_drop] at e
  rw [List.length_drop] at hi
  have hi2:SetTable.below t.place j + i < t.place.size:=by rw [Array.length_toList] at hi; omega
  have e2:t.place[SetTable.below t.place j + i] = a:=by simpa using e
  have h0:SetTable.below t.place j < t.place.size:=by omega
  have p0:j < t.place[SetTable.below t.place j]:=by
   have:=b3 _ h0 (Nat.le_refl _)
   rcases Nat.lt_or_eq_of_le this with z | z
   ·exact z
   ·exact absurd (by rw [Array.getElem?_eq_getElem h0,← z]) hf
  rcases Nat.eq_zero_or_pos i with z | z
  ·subst z; rw [← e2]; exact p0
  ·rw [← e2]; exact Nat.lt_trans p0 (hr _ _ hi2 (by omega))
 ·intro a ha b hb
  obtain ⟨i,hi,e⟩:=List.mem_iff_getElem.mp ha
  rw [List.getElem_take] at e
  rw [List.length_take,Array.length_toList] at hi
  have a1:a < j:=by rw [← e]; simpa using b2 i (by omega) (by omega)
  rcases List.mem_cons.mp hb with z | z
  ·rw [z]; exact a1
  ·obtain ⟨i2,hi2,e2⟩:=List.mem_iff_getElem.mp z
   rw [List.getElem_drop] at e2
   rw [List.length_drop,Array.length_toList] at hi2
   have:=b3 (SetTable.below t.place j + i2) (by omega) (by omega)
   rw [← e2]; exact Nat.lt_of_lt_of_le a1 (by simpa using this)
theorem t9 {t:SetTable} {n:Nat}:ww (t.standIn n).place:=by
 intro i j h ij
 simp [SetTable.standIn] at h ⊢
 exact ij
theorem Ur {t:SetTable} {n:Nat} (h:ww t.place):ww (t.orStandIn n).place:=by
 unfold SetTable.orStandIn; split; exact h; exact t9
theorem TZ {t:SetTable} {n:Nat}:(t.orStandIn n).led = t.led:=by
 unfold SetTable.orStandIn; split <;> rfl
theorem W3 (t:SetTable) (es:Array (Int × Value)) (h:Int) (x:Value) (hr:ww t.place):ww (layNew t es h x).2.1.place /\ (layNew t es h x).2.1.led = t.led:=by
 unfold layNew
 split
 ·rename_i sl wd e
  exact ⟨Ur (W2 hr (XG e)),TZ⟩
 ·exact ⟨t9,rfl⟩
theorem XH (n:Nat) (f:Nat -> Option Nat):((List.range n).filterMap fun j=>(f j).map (j,·)).Pairwise fun a b=>a.1 < b.1:=by
 rw [List.pairwise_filterMap]
 refine List.pairwise_lt_range.imp fun {a b} ab x hx y hy=>?_
 cases ha:f a with
 | none=>rw [ha] at hx; cases hx
 | some u =>
  cases hb:f b with
  | none=>rw [hb] at hy; cases hy
  | some v=>rw [ha] at hx; rw [hb] at hy; cases hx; cases hy; exact ab
theorem W4 {t t':SetTable} {hs:Array Int} {n:Nat} {o:Array Nat} (e:t.relaid hs n = some (t',o)):ww t'.place /\ t'.led = t.led:=by
 unfold SetTable.relaid SetTable.laid at e
 obtain ⟨ow,_,e2⟩:=Option.bind_eq_some_iff.mp e
 cases e2
 refine ⟨?_,rfl⟩
 rw [ui]
 simp only [List.pairwise_map]
 exact XH _ _
theorem ZJ (t:SetTable) (es:Array (Int × Value)) (n:Nat):ww (relayAll t es n).2.1.place /\ (relayAll t es n).2.1.led = t.led:=by
 unfold relayAll
 split
 ·rename_i t' o e
  dsimp only
  split
  ·exact W4 e
  ·exact ⟨t9,rfl⟩
 ·exact ⟨t9,rfl⟩
def vI:Value -> Int
 | .int i _=>i
 | _=>0
def ElI (prog:Program) (w:World) (l:List (Int × Value)):Prop:=∀ e ∈ l,∃ i t,e = ((intKind prog w).hash i,Value.int i t)
theorem ElI.of {prog:Program} {w:World} {l:List (Int × Value)} (h:ElI prog w l):ElemsOf (intKind prog w) l:=fun e he=>by
 obtain ⟨i,t,rfl⟩:=h e he
 exact ⟨⟨i,intKind_is _ _ _ _,rfl⟩,rfl⟩
structure SetS (prog:Program) (w:World) (h:Heap) (a:Addr) (ds:List Int) (es:Array (Int × Value)) (ep:Nat) (t:SetTable):Prop where
 at_:h.get? a = some { cls:=.type "set",dict:=none,data:=.set es ep t,slots:=#[] }
 el:ElI prog w es.toList
 pm:(es.toList.map fun e=>vI e.2).Perm ds
 few:es.size < scanBound
 fit:t.fits es.size = true
 rise:ww t.place
 led:t.led = !w.params.followText "set-order"
def SetA (prog:Program) (w:World) (h:Heap) (a:Addr) (ds:List Int):Prop:=∃ es ep t,SetS prog w h a ds es ep t
section
variable {prog:Program} {w:World} {A:Around} {E:VS7} {s:Shared} {a:Addr} {ds:List Int}
theorem SetS.len {h:Heap} {es ep t} (S:SetS prog w h a ds es ep t):ds.length = es.size:=by
 have:=S.pm.length_eq
 rw [List.length_map,Array.length_toList] at this
 exact this.symm
theorem SetS.put {es ep t} (S:SetS prog w s.heap a ds es ep t) {es1:Array (Int × Value)} {t1:SetTable} {ds1:List Int} {Q:Unit -> Shared -> Prop} (el:ElI prog w es1.toList)
  (pm:(es1.toList.map fun e=>vI e.2).Perm ds1) (few:es1.size < scanBound) (fit:t1.fits es1.size = true) (rise:ww t1.place) (led:t1.led = t.led)
  (h:∀ h',Heap.SameBut a s.heap h' -> SetS prog w h' a ds1 es1 (ep + 1) t1 -> Q () { s with heap:=h' }):wpAny (model prog w) A (storeSet a es1 t1) Q E s:=by
 refine wpAny_storeSet_of S.at_ rfl ?_ (fits_of_scanBound few)
 refine h _ (Heap.SameBut.update s.heap a (Obj.putSet es1 t1)) ⟨?_,el,pm,few,fit,rise,led.trans S.led⟩
 exact Heap.get?_update_self (Obj.putSet es1 t1) S.at_ rfl
theorem SetA.add {n:Int} {tk:Tok} {Q:Bool -> Shared -> Prop} (S:SetA prog w s.heap a ds) (room:ds.length + 1 < scanBound)
  (h:∀ b h',Heap.SameBut a s.heap h' -> SetA prog w h' a (step_dedup ds n) -> Q b { s with heap:=h' }) :
  wpAny (model prog w) A (setAddHashed a (.int n tk) ((intKind prog w).hash n)) Q E s:=by
 obtain ⟨es,ep,t,S⟩:=S
 have lz:=S.len
 have key:=S.el.of
 unfold setAddHashed setAddHashedIn
 refine wpAny_holding (wpAny_bind (wpAny_setState_of S.at_ rfl S.fit ?_))
 dsimp only
 rw [byScan_of rfl S.few key]
 simp only [↓reduceIte]
 unfold setAddByScan
 refine wpAny_bind (wpAny_bind (wpAny_rule (wpAny_bind (wpAny_setScan_of (intKind_is _ _ n tk) S.at_ rfl S.fit key ?_))))
 cases hr:List.findIdx? (fun e=>(intKind prog w).is n e.2) es.toList with
 | some j =>
  dsimp only
  obtain ⟨hj,hp,_⟩:=List.findIdx?_eq_some_iff_getElem.mp hr
  have hm:=List.getElem_mem hj
  obtain ⟨i,t',ei⟩:=S.el _ hm
  rw [ei] at hp
  have e1:i = n:=(intKind prog w).inj _ _ _ (intKind_is _ _ i t') hp
  have e2:n ∈ ds:=S.pm.mem_iff.mp (List.mem_map.mpr ⟨_,hm,by rw [ei]; exact e1⟩)
  have e3:step_dedup ds n = ds:=by unfold step_dedup; rw [if_pos (List.any_eq_true.mpr ⟨n,e2,by simp⟩)]
  refine wpAny_pure (wpAny_pure ?_)
  have:=h false s.heap (Heap.SameBut.refl a s.heap) (by rw [e3]; exact ⟨es,ep,t,S⟩)
  exact this
 | none =>
  dsimp only
  have e2:n ∉ ds:=fun z=>by
   obtain ⟨e,he,ev⟩:=List.mem_map.mp (S.pm.mem_iff.mpr z)
   obtain ⟨i,t',rfl⟩:=S.el _ he
   have ev2:i = n:=ev
   have:=List.findIdx?_eq_none_iff.mp hr _ he
   rw [ev2] at this
   exact absurd (intKind_is _ _ n t') (by rw [this]; decide)
  have e3:step_dedup ds n = ds ++ [n]:=by
   unfold step_dedup
   rw [if_neg fun z=>?_]
   obtain ⟨y,hy,ey⟩:=List.any_eq_true.mp z
   rw [beq_iff_eq] at ey
   exact e2 (ey ▸ hy)
  rw [e3] at h
  have gw:∀ (b:Bool) {s₁:Shared} {Q':Unit -> Shared -> Prop},Q' () s₁ -> wpAny (model prog w) A (match b with | true=>rule "set.scan.the-table-gave-way" | false=>pure ()) Q' E s₁ :=
   fun b s₁ Q' hq=>by cases b <;> first | exact wpAny_pure hq | exact wpAny_rule hq
  have p1:=layNew_perm t es ((intKind prog w).hash n) (.int n tk)
  have f1:=layNew_fits t es ((intKind prog w).hash n) (.int n tk)
  obtain ⟨r1,l1⟩:=W3 t es ((intKind prog w).hash n) (.int n tk) S.rise
  generalize layNew t es ((intKind prog w).hash n) (.int n tk) = L at p1 f1 r1 l1 ⊢
  obtain ⟨es1,t1,wd,gv⟩:=L
  dsimp only at p1 f1 r1 l1 ⊢
  rw [Array.toList_push] at p1
  have el1:ElI prog w es1.toList:=fun e he=>by
   rcases List.mem_append.mp (p1.mem_iff.mp he) with z | z
   ·exact S.el e z
   ·rw [List.mem_singleton.mp z]; exact ⟨n,tk,rfl⟩
  have pm1:(es1.toList.map fun e=>vI e.2).Perm (ds ++ [n]):=(p1.map _).trans (by rw [List.map_append]; exact S.pm.append_right _)
  have z1:es1.size = ds.length + 1:=by have:=pm1.length_eq; rw [List.length_map,Array.length_toList,List.length_append] at this; simpa using this
  refine wpAny_bind (gw _ ?_)
  have fin:∀ {g:Bool -> Sem Unit},(∀ (b:Bool) (s₁:Shared) (Q':Unit -> Shared -> Prop),Q' () s₁ -> wpAny (model prog w) A (g b) Q' E s₁) -> wpAny (model prog w) A (do
    storeSet a es1 t1
    if (!wd && t1.tooFull) = true then do
      g (relayAll t1 es1 (SetTable.grown es1.size)).2.2
      storeSet a (relayAll t1 es1 (SetTable.grown es1.size)).1 (relayAll t1 es1 (SetTable.grown es1.size)).2.1
      pure (some true)
     else pure (some true)) (fun r s'=>wpAny (model prog w) A (match r with | some added=>pure added | none=>setAddHashedIn a (.int n tk) ((intKind prog w).hash n) 99999) Q E s') E s:=by
   intro g hg
   refine wpAny_bind (S.put el1 pm1 (by omega) f1 r1 l1 fun h1 sb1 S1=>?_)
   split
   ·have p2:=relayAll_perm t1 es1 (SetTable.grown es1.size)
    have f2:=relayAll_fits t1 es1 (SetTable.grown es1.size)
    obtain ⟨r2,l2⟩:=ZJ t1 es1 (SetTable.grown es1.size)
    refine wpAny_bind (hg _ _ _ ?_)
    have z2:=p2.length_eq
    rw [Array.length_toList,Array.length_toList] at z2
    refine wpAny_bind (S1.put (fun e he=>el1 e (p2.mem_iff.mp he)) ((p2.map _).trans pm1) (by omega) f2 r2 l2 fun h2 sb2 S2=>?_)
    exact wpAny_pure (wpAny_pure (h _ _ (sb1.trans sb2) ⟨_,_,_,S2⟩))
   ·exact wpAny_pure (wpAny_pure (h _ _ sb1 ⟨_,_,_,S1⟩))
  split
  ·refine wpAny_bind ?_
   rw [hashByValue_scannable 8 rfl]
   refine wpAny_pure ?_
   simp only [plainKind,↓reduceIte]
   exact fin gw
  ·refine wpAny_bind (wpAny_pure ?_)
   simp only [↓reduceIte]
   exact fin gw
end
theorem SetA.keep {prog:Program} {w:World} {h h':Heap} {a:Addr} {ds:List Int} (S:SetA prog w h a ds) (k:∀ o,h.get? a = some o -> h'.get? a = some o):SetA prog w h' a ds:=by
 obtain ⟨es,ep,t,S⟩:=S
 exact ⟨es,ep,t,{ S with at_:=k _ S.at_ }⟩
section
variable {prog:Program} {w:World} {A:Around} {E:VS7} {s:Shared}
theorem Us (a:Value) {Q₁:VS7}
  (h:Q₁ (.ref s.heap.objs.size) { s with heap:=s.heap.push { cls:=.type "set",dict:=none,data:=.set #[] 0 (.fresh 0 0 (!w.params.followText "set-order")) } }) :
  codeAny (model prog w) A (.call (.builtin "set.__new__") ⟨[.type "set",a],[]⟩) (wants Q₁ E) s:=by
 refine codeAny_of_tree ?_
 show wpAny _ A.in1 (do checkBuiltinCall "set.__new__" ⟨[.type "set",a],[]⟩; again (.builtin "set.__new__" ⟨[.type "set",a],[]⟩)) _ _ s
 refine wpAny_bind (wpAny_of_eq (PySem.F.newCall_set_1 a) (wpAny_pure ⟨plainId_quiet PySem.F.plain_set_new _,codeAny_builtin PySem.F.entry_set_new ?_⟩))
 rw [Around.under_plainId PySem.F.plain_set_new _]
 unfold Builtin.«set.__new__» Builtin.Frozenset.newClass
 have hsub:=sub_set_self
 obtain ⟨hp,g,d,tk,os⟩:=s
 dsimp only
 wp_walk
 refine wpAny_askSetting (wpAny_pure ?_)
 dsimp only
 simp only [newObj]
 exact wpAny_bind (wpAny_alloc (wpAny_pure (wpAny_pure h)))
end
def itP {α:Type} (f:α -> α):Nat -> α -> α
 | 0,x=>x
 | n + 1,x=>itP f n (f x)
theorem xY {α:Type} {f:α -> α}:∀ {a b:Nat} {x:α},itP f (a + b) x = itP f b (itP f a x)
 | 0,b,x=>by rw [Nat.zero_add]; rfl
 | a + 1,b,x=>by
  rw [show a + 1 + b = (a + b) + 1 from by omega]
  show itP f (a + b) (f x) = itP f b (itP f a (f x))
  exact xY
def lpP (m:Nat) (x:Nat × Nat):Nat × Nat:=SetTable.leap m x.1 x.2
theorem XI {m:Nat}:∀ {n:Nat} {x:Nat × Nat},(itP (lpP m) n x).2 = x.2 / 32 ^ n
 | 0,x=>by show x.2 = x.2 / 1; rw [Nat.div_one]
 | n + 1,x=>by
  show (itP (lpP m) n (lpP m x)).2 = _
  rw [XI]
  show x.2 / 32 / 32 ^ n = _
  rw [Nat.div_div_eq_div_mul,Nat.pow_succ,Nat.mul_comm]
theorem T1 {m:Nat} {n:Nat} {x:Nat × Nat} (h:0 < n):(itP (lpP m) n x).1 <= m:=by
 obtain ⟨n,rfl⟩:∃ k,n = k + 1:=⟨n - 1,by omega⟩
 rw [xY]
 show (SetTable.leap m (itP (lpP m) n x).1 (itP (lpP m) n x).2).1 <= m
 unfold SetTable.leap
 exact Nat.le_of_lt_succ (Nat.mod_lt _ (Nat.succ_pos m))
def va (m:Nat):Prop:=m = 7 \/ m = 31 \/ m = 127
theorem Ut (m:Nat) (h:va m):(∀ i,i < m + 1 -> ∃ a,a < m + 1 /\ (itP (lpP m) a (0,0)).1 = i) /\ itP (lpP m) (m + 1) (0,0) = (0,0):=by
 rcases h with rfl | rfl | rfl
 ·decide +kernel
 ·decide +kernel
 ·decide +kernel
theorem T3 {m:Nat} (h:va m) {i t:Nat} (hi:i <= m) (ht:t <= m):∃ k,k <= m /\ (itP (lpP m) k (i,0)).1 = t:=by
 obtain ⟨h1,h2⟩:=Ut m h
 obtain ⟨a,a1,a2⟩:=h1 i (by omega)
 obtain ⟨b,b1,b2⟩:=h1 t (by omega)
 have e:itP (lpP m) a (0,0) = (i,0):=Prod.ext a2 (by rw [XI]; exact Nat.zero_div _)
 by_cases c:a <= b
 ·refine ⟨b - a,by omega,?_⟩
  rw [← e,← xY,show a + (b - a) = b by omega]
  exact b2
 ·refine ⟨m + 1 - a + b,by omega,?_⟩
  rw [← e,← xY,show a + (m + 1 - a + b) = m + 1 + b by omega,xY,h2]
  exact b2
theorem rD {m:Nat} (h:va m) {i p t:Nat} (hp:p < 2 ^ 64) (ht:t <= m):∃ L,L <= 13 + m /\ (itP (lpP m) L (i,p)).1 = t:=by
 have e:itP (lpP m) 13 (i,p) = ((itP (lpP m) 13 (i,p)).1,0):=Prod.ext rfl (by rw [XI]; exact Nat.div_eq_of_lt (Nat.lt_trans hp (by decide)))
 obtain ⟨k,k1,k2⟩:=T3 h (T1 (m:=m) (n:=13) (x:=(i,p)) (by decide)) ht
 refine ⟨13 + k,by omega,?_⟩
 rw [xY,e]
 exact k2
theorem XJ {m i:Nat}:SetTable.runEnd m i - i <= 9:=by
 unfold SetTable.runEnd; split <;> omega
theorem u3 {t:SetTable}:∀ (c:Nat) (p:SetTable.Probe),p.more = c -> ∃ q,itP t.advance (c + 1) p = q /\ (q.i,q.perturb) = lpP t.mask (p.i,p.perturb) /\ q.j = q.i /\ q.more <= 9 /\ q.dummy = p.dummy
 | 0,p,h=>by
  refine ⟨t.advance p,rfl,?_⟩
  have e:t.advance p = { p with j:=(SetTable.leap t.mask p.i p.perturb).1,more:=SetTable.runEnd t.mask (SetTable.leap t.mask p.i p.perturb).1 - (SetTable.leap t.mask p.i p.perturb).1,i:=(SetTable.leap t.mask p.i p.perturb).1,perturb:=(SetTable.leap t.mask p.i p.perturb).2 }:=by
   unfold SetTable.advance
   rw [if_neg (by omega)]
  rw [e]
  exact ⟨rfl,rfl,XJ,rfl⟩
 | c + 1,p,h=>by
  have e:t.advance p = { p with j:=p.j + 1,more:=p.more - 1 }:=by
   unfold SetTable.advance
   rw [if_pos (by omega)]
  obtain ⟨q,q1,q2,q3,q4,q5⟩:=u3 c (t.advance p) (by rw [e]; show p.more - 1 = c; omega)
  refine ⟨q,q1,?_,q3,q4,?_⟩
  ·rw [q2,e]
  ·rw [q5,e]
theorem uj {t:SetTable}:∀ (L:Nat) (p:SetTable.Probe),p.more <= 9 -> p.j = p.i -> ∃ n q,n <= 10 * L /\ itP t.advance n p = q /\ q.j = (itP (lpP t.mask) L (p.i,p.perturb)).1
 | 0,p,h,e=>⟨0,p,Nat.le_refl _,rfl,e⟩
 | L + 1,p,h,e=>by
  obtain ⟨q,q1,q2,q3,q4,q5⟩:=u3 (t:=t) p.more p rfl
  obtain ⟨n,r,n1,n2,n3⟩:=uj (t:=t) L q q4 q3
  refine ⟨p.more + 1 + n,r,by omega,?_,?_⟩
  ·rw [xY,q1]; exact n2
  ·rw [n3,q2]; rfl
def EmIn (t:SetTable) (N:Nat) (p:SetTable.Probe):Prop:=∃ n,n < N /\ t.slot (itP t.advance n p).j = .empty
theorem W5 {t:SetTable} (hd:t.dummies = #[]) {j:Nat} (h:j ∉ t.place.toList):t.slot j = .empty:=by
 unfold SetTable.slot
 dsimp only
 rw [if_neg,if_neg]
 ·unfold SetTable.has; rw [hd]; simp
 ·intro e
  rw [beq_iff_eq] at e
  exact h (by have:=Array.mem_of_getElem? e; exact Array.mem_toList_iff.mpr this)
theorem W6 {t:SetTable} (hd:t.dummies = #[]) {j:Nat}:t.slot j ≠ .dummy:=by
 unfold SetTable.slot
 dsimp only
 split
 ·intro z; cases z
 ·rw [if_neg]
  ·intro z; cases z
  ·unfold SetTable.has; rw [hd]; simp
theorem XL {t:SetTable} {j i:Nat} (h:t.slot j = .live i):t.place[i]? = some j:=by
 unfold SetTable.slot at h
 dsimp only at h
 split at h
 ·rename_i e
  cases h
  exact eq_of_beq e
 ·split at h <;> cases h
theorem T5 {l:List Nat}:∀ {m:Nat},l.length <= m -> ∃ j,j <= m /\ j ∉ l:=by
 intro m h
 apply Classical.byContradiction
 intro z
 have h1:∀ j ∈ List.range (m + 1),j ∈ l:=fun j hj=>Classical.byContradiction fun w=>z ⟨j,by have:=List.mem_range.mp hj; omega,w⟩
 have:=(List.nodup_range (n:=m + 1)).length_le_of_subset h1
 rw [List.length_range] at this
 omega
theorem W7 {t:SetTable} (hm:va t.mask) (hd:t.dummies = #[]) (hf:t.place.size <= t.mask) (h:Int):EmIn t (10 * SetTable.turns t.mask) (t.probeStart h):=by
 obtain ⟨j,j1,j2⟩:=T5 (l:=t.place.toList) (m:=t.mask) (by rw [Array.length_toList]; exact hf)
 have hb:SetTable.bits h < 2 ^ 64:=by
  unfold SetTable.bits
  have h1:=Int.emod_nonneg h (b:=(2:Int) ^ 64) (by decide)
  have h2:=Int.emod_lt_of_pos h (b:=(2:Int) ^ 64) (by decide)
  omega
 obtain ⟨L,l1,l2⟩:=rD hm (i:=SetTable.bits h % (t.mask + 1)) hb j1
 obtain ⟨n,q,n1,n2,n3⟩:=uj (t:=t) L (t.probeStart h) (by show SetTable.runEnd _ _ - _ <= 9; exact XJ) rfl
 refine ⟨n,?_,?_⟩
 ·have e:SetTable.turns t.mask = t.mask + 15:=rfl
  rw [e]; omega
 ·rw [n2,n3]
  show t.slot (itP (lpP t.mask) L (SetTable.bits h % (t.mask + 1),SetTable.bits h)).1 = _
  rw [l2]
  exact W5 hd j2
theorem rE {t:SetTable} {p:SetTable.Probe}:(t.advance p).dummy = p.dummy:=by
 unfold SetTable.advance; split <;> rfl
theorem VB {t:SetTable} {ha:Nat -> Int} {h:Int} (hd:t.dummies = #[]):∀ (fuel:Nat) (p:SetTable.Probe),p.dummy = none -> EmIn t fuel p →
  (∃ j,SetTable.probe.go t ha h fuel p = some (.empty j none)) \/ ∃ (q:SetTable.Probe) (i N:Nat),N < fuel /\ SetTable.probe.go t ha h fuel p = some (.candidate q.j i (t.advance q)) /\ t.slot q.j = .live i /\ (t.advance q).dummy = none /\ EmIn t N (t.advance q)
 | 0,p,_,⟨n,hn,_⟩=>absurd hn (Nat.not_lt_zero _)
 | fuel + 1,p,hp,⟨n,hn,hs⟩=>by
  unfold SetTable.probe.go
  cases e:t.slot p.j with
  | empty=>exact .inl ⟨p.j,by rw [hp]⟩
  | dummy=>exact absurd e (W6 hd)
  | live i =>
   have nx:EmIn t fuel (t.advance p):=by
    cases n with
    | zero=>rw [show itP t.advance 0 p = p from rfl,e] at hs; cases hs
    | succ n=>exact ⟨n,by omega,hs⟩
   dsimp only
   split
   ·exact .inr ⟨p,i,fuel,Nat.lt_succ_self _,rfl,e,by rw [rE]; exact hp,nx⟩
   ·rcases VB hd fuel (t.advance p) (by rw [rE]; exact hp) nx with z | ⟨q,i',N,h1,h2⟩
    ·exact .inl z
    ·exact .inr ⟨q,i',N,by omega,h2⟩
theorem Uu (h:Int):SetTable.bits h < 2 ^ 64:=by
 unfold SetTable.bits
 have h1:=Int.emod_nonneg h (b:=(2:Int) ^ 64) (by decide)
 have h2:=Int.emod_lt_of_pos h (b:=(2:Int) ^ 64) (by decide)
 omega
theorem rF {m:Nat} {owner:Array (Option Nat)}:∀ (L fuel i p:Nat),L < fuel -> (owner.getD (itP (lpP m) L (i,p)).1 (some 0)).isNone = true -> ∃ j,SetTable.layClean.free m owner fuel i p = some j /\ (owner.getD j (some 0)).isNone = true
 | _,0,_,_,h,_=>absurd h (Nat.not_lt_zero _)
 | L,fuel + 1,i,p,h,ho=>by
  unfold SetTable.layClean.free
  split
  ·rename_i k e
   exact ⟨i + k,rfl,by have:=List.find?_some (p:=fun k=>(owner.getD (i + k) (some 0)).isNone) e; exact this⟩
  ·rename_i e
   cases L with
   | zero =>
    have le:i <= SetTable.runEnd m i:=by unfold SetTable.runEnd; split <;> omega
    have:=List.find?_eq_none.mp e 0 (List.mem_range.mpr (by omega))
    exact absurd ho this
   | succ L=>exact rF L fuel _ _ (by omega) ho
theorem XM {owner:Array (Option Nat)} {j:Nat} (h:(owner.getD j (some 0)).isNone = true):owner[j]? = some none:=by
 rw [← Array.getElem?_toList]
 unfold Array.getD at h
 split at h
 ·rename_i hj
  rw [List.getElem?_eq_getElem (by rw [Array.length_toList]; exact hj)]
  congr 1
  have:owner[j] = none:=by
   cases e:owner[j] with
   | none=>rfl
   | some x=>simp [e] at h
  simpa using this
 ·cases h
theorem qE {l:List (Option Nat)}:(l.filterMap id).length < l.length -> ∃ j,j < l.length /\ l[j]? = some none:=by
 induction l with
 | nil=>intro h; cases h
 | cons x l ih =>
  intro h
  cases x with
  | none=>exact ⟨0,by simp,rfl⟩
  | some v =>
   obtain ⟨j,j1,j2⟩:=ih (by simpa using h)
   exact ⟨j + 1,by simpa using j1,by simpa using j2⟩
theorem W8 {l:List (Option Nat)} {j k:Nat} (h:l[j]? = some none):((l.set j (some k)).filterMap id).Perm (k :: l.filterMap id):=by
 induction l generalizing j with
 | nil=>cases h
 | cons x l ih =>
  cases j with
  | zero =>
   rw [List.getElem?_cons_zero] at h
   injection h with h
   subst h
   exact List.Perm.refl _
  | succ j =>
   rw [List.getElem?_cons_succ] at h
   rw [List.set_cons_succ]
   cases x with
   | none=>exact ih h
   | some v =>
    refine (List.Perm.cons v (ih h)).trans ?_
    exact List.Perm.swap ..
def layF (m:Nat) (acc:Option (Array (Option Nat) × Nat)) (h:Int):Option (Array (Option Nat) × Nat):=do
 let (owner,k) ← acc
 let j ← SetTable.layClean.free m owner (SetTable.turns m) (SetTable.bits h % (m + 1)) (SetTable.bits h)
 pure (owner.setIfInBounds j (some k),k + 1)
theorem W9 {m:Nat} (hm:va m) {owner:Array (Option Nat)} {k:Nat} (hz:owner.size = m + 1) (ow:(owner.toList.filterMap id).Perm (List.range k)) (hk:k <= m) (h:Int) :
  ∃ o',layF m (some (owner,k)) h = some (o',k + 1) /\ o'.size = m + 1 /\ (o'.toList.filterMap id).Perm (List.range (k + 1)):=by
 obtain ⟨t,t1,t2⟩:=qE (l:=owner.toList) (by have:=ow.length_eq; rw [List.length_range] at this; rw [this,Array.length_toList,hz]; omega)
 rw [Array.length_toList,hz] at t1
 obtain ⟨L,l1,l2⟩:=rD hm (i:=SetTable.bits h % (m + 1)) (Uu h) (show t <= m by omega)
 have t3:(owner.getD t (some 0)).isNone = true:=by
  rw [Array.getElem?_toList] at t2
  have ht:t < owner.size:=by omega
  have e:owner[t] = none:=by
   rw [Array.getElem?_eq_getElem ht] at t2
   exact Option.some.inj t2
  unfold Array.getD
  rw [dif_pos ht]
  simp [e]
 obtain ⟨j,j1,j2⟩:=rF (m:=m) (owner:=owner) L (SetTable.turns m) (SetTable.bits h % (m + 1)) (SetTable.bits h) (by show L < m + 15; omega) (by rw [l2]; exact t3)
 refine ⟨owner.setIfInBounds j (some k),?_,?_,?_⟩
 ·unfold layF
  show (SetTable.layClean.free m owner (SetTable.turns m) (SetTable.bits h % (m + 1)) (SetTable.bits h)).bind _ = _
  rw [j1]; rfl
 ·rw [Array.size_setIfInBounds]; exact hz
 ·rw [Array.toList_setIfInBounds]
  have hj:=XM j2
  rw [← Array.getElem?_toList] at hj
  refine (W8 hj).trans ?_
  rw [List.range_succ]
  exact ((List.Perm.cons k ow).trans (by simpa using (List.perm_append_singleton k (List.range k)).symm))
theorem jL {m:Nat} (hm:va m):∀ (hs:List Int) (owner:Array (Option Nat)) (k:Nat),owner.size = m + 1 -> (owner.toList.filterMap id).Perm (List.range k) -> k + hs.length <= m →
  ∃ o',hs.foldl (layF m) (some (owner,k)) = some (o',k + hs.length) /\ o'.size = m + 1 /\ (o'.toList.filterMap id).Perm (List.range (k + hs.length))
 | [],owner,k,hz,ow,_=>⟨owner,rfl,hz,ow⟩
 | h :: hs,owner,k,hz,ow,hk=>by
  rw [List.length_cons] at hk
  obtain ⟨o1,a1,a2,a3⟩:=W9 hm hz ow (by omega) h
  obtain ⟨o2,b1,b2,b3⟩:=jL hm hs o1 (k + 1) a2 a3 (by omega)
  refine ⟨o2,?_,b2,?_⟩
  ·rw [List.foldl_cons,a1,b1,List.length_cons]; congr 2; omega
  ·rw [List.length_cons,show k + (hs.length + 1) = k + 1 + hs.length by omega]; exact b3
theorem XN {m:Nat} (hm:va m) {hashes:Array Int} (hk:hashes.size <= m):∃ o',SetTable.layClean m hashes = some o' /\ o'.size = m + 1 /\ (o'.toList.filterMap id).Perm (List.range hashes.size):=by
 have e0:((Array.replicate (m + 1) (none:Option Nat)).toList.filterMap id) = []:=by
  rw [Array.toList_replicate]
  generalize m + 1 = n
  induction n with
  | zero=>rfl
  | succ n ih=>rw [List.replicate_succ]; exact ih
 obtain ⟨o',a1,a2,a3⟩:=jL hm hashes.toList (Array.replicate (m + 1) none) 0 (by rw [Array.size_replicate]) (by rw [e0]; exact List.Perm.refl _) (by rw [Array.length_toList]; omega)
 refine ⟨o',?_,a2,by simpa using a3⟩
 unfold SetTable.layClean
 rw [← Array.foldl_toList]
 show Option.map _ (hashes.toList.foldl (layF m) (some (Array.replicate (m + 1) none,0))) = _
 rw [a1]; rfl
theorem Va {m:Nat} {o:Array (Option Nat)} (hz:o.size = m + 1):((List.range (m + 1)).filterMap fun j=>(o.getD j none).map (j,·)).map (·.2) = o.toList.filterMap id:=by
 have e:o.toList = (List.range (m + 1)).map fun j=>o.getD j none:=by
  refine List.ext_getElem (by rw [Array.length_toList,List.length_map,List.length_range,hz]) fun i h1 h2=>?_
  rw [List.getElem_map,List.getElem_range]
  rw [Array.length_toList] at h1
  unfold Array.getD
  rw [dif_pos h1]
  simp
 rw [e,List.map_filterMap,List.filterMap_map]
 congr 1
 funext j
 show Option.map (fun x=>x.2) (Option.map (fun x=>(j,x)) (o.getD j none)) = id (o.getD j none)
 cases o.getD j none <;> rfl
theorem XO {t:SetTable} {hashes:Array Int} {wanted:Nat} (hm:va (SetTable.sizeAbove wanted - 1)) (hk:hashes.size <= SetTable.sizeAbove wanted - 1) :
  ∃ t' order,t.relaid hashes wanted = some (t',order) /\ t'.mask = SetTable.sizeAbove wanted - 1 /\ t'.place.size = hashes.size /\ t'.dummies = #[] /\ t'.led = t.led /\ order.toList.Perm (List.range hashes.size):=by
 obtain ⟨o,a1,a2,a3⟩:=XN hm hk
 unfold SetTable.relaid SetTable.laid
 generalize SetTable.sizeAbove wanted - 1 = m at *
 have e:=Va a2
 refine ⟨{ mask:=m,place:=((((List.range (m + 1)).filterMap fun j=>(o.getD j none).map (j,·)).map (·.1)).toArray),dummies:=#[],finger:=t.finger,led:=t.led,moves:=t.movedTo m,plain:=t.plain },(((List.range (m + 1)).filterMap fun j=>(o.getD j none).map (j,·)).map (·.2)).toArray,by rw [a1]; rfl,rfl,?_,rfl,rfl,?_⟩
 ·have:=a3.length_eq
  rw [List.length_range,← e,List.length_map] at this
  rw [← this]
  simp
 ·rw [← e] at a3
  simpa using a3
theorem rG {α:Type}:∀ l:List α,(List.range l.length).filterMap (l[·]?) = l
 | []=>rfl
 | a :: l=>by
  rw [List.length_cons,List.range_succ_eq_map,List.filterMap_cons,List.getElem?_cons_zero]
  dsimp only
  rw [List.filterMap_map]
  congr 1
  exact rG l
theorem XQ {α:Type} {es:Array α} {order:Array Nat} (h:order.toList.Perm (List.range es.size)):(order.filterMap (es[·]?)).toList.Perm es.toList:=by
 rw [Array.toList_filterMap]
 refine (h.filterMap _).trans ?_
 have:=rG es.toList
 rw [Array.length_toList] at this
 have e:(fun i:Nat=>es[i]?) = fun i=>es.toList[i]?:=funext fun i=>by rw [Array.getElem?_toList]
 rw [e,this]
abbrev IsPP (prog:Program) (w:World) (h:Heap) (k:Int × Int) (a:Addr):Prop:=IsPr (YZ prog w) (YZ prog w) h k a
theorem IsPP.keep {prog:Program} {w:World} {h h':Heap} {k:Int × Int} {a:Addr} (x:IsPP prog w h k a) (hs:∀ o,h.get? a = some o -> h'.get? a = some o):IsPP prog w h' k a:=by
 obtain ⟨o,u,v,n,ho,hc,hd,hu,hv⟩:=x
 exact ⟨o,u,v,n,hs o ho,hc,hd,hu,hv⟩
section
variable {prog:Program} {w:World} {A:Around} {E:VS7} {s:Shared}
theorem jM {u:Value} {k:Int} (h:(intKind prog w).is k u = true):∃ t,u = .int k t:=by
 cases u with
 | int i t =>
  have:i = k:=(intKind prog w).inj _ _ _ Xd h
  exact ⟨t,by rw [this]⟩
 | bool b =>
  exfalso
  cases b <;> simp [intKind,Value.isInt] at h
 | _=>simp [intKind,Value.isInt] at h
theorem XR {k:Int × Int} {a:Addr} {Q:Bool -> Shared -> Prop} (hk:IsPP prog w s.heap k a) (h:Q false s):wpAny (model prog w) A (ofAClassStatement 8 (.ref a)) Q E s:=by
 have hT:=hk.typeIs
 obtain ⟨o,u,v,n,ho,_,hd,iu,iv⟩:=hk
 obtain ⟨t1,rfl⟩:=jM iu
 obtain ⟨t2,rfl⟩:=jM iv
 unfold ofAClassStatement
 refine wpAny_bind (wpAny_typeOf hT ?_)
 dsimp only
 rw [if_pos (by decide)]
 refine wpAny_bind (wpAny_pure ?_)
 simp only [Bool.not_true,Bool.false_eq_true,if_false]
 refine wpAny_bind (wpAny_seqItems ho hd ?_)
 dsimp only
 refine wpAny_bind ?_
 rw [← Array.forIn_toList]
 refine wpAny_forIn_list _ (fun rest r s'=>r.1 = none /\ s' = s /\ ∀ x ∈ rest,∃ i t,x = Value.int i t) _ ?_ ?_ _ _ ⟨rfl,rfl,fun x hx=>by
  rcases List.mem_cons.mp hx with rfl | hx
  ·exact ⟨_,_,rfl⟩
  ·rw [List.mem_singleton.mp hx]; exact ⟨_,_,rfl⟩⟩
 ·rintro x rest r s' ⟨hr,rfl,hall⟩
  obtain ⟨i,t,rfl⟩:=hall x (by simp)
  refine wpAny_bind ?_
  unfold ofAClassStatement
  refine wpAny_pure ?_
  simp only [Bool.false_eq_true,if_false]
  exact wpAny_pure ⟨rfl,rfl,fun y hy=>hall y (by simp [hy])⟩
 ·rintro ⟨r1,r2⟩ s' ⟨hr,rfl,_⟩
  simp only at hr
  subst hr
  exact wpAny_pure h
theorem Vb {k:Int × Int} {a:Addr} {Q:Bool -> Shared -> Prop} (hk:IsPP prog w s.heap k a) (h:Q true s):wpAny (model prog w) A (hashByValue 8 (.ref a)) Q E s:=by
 have hT:=hk.typeIs
 obtain ⟨o,u,v,n,ho,_,hd,iu,iv⟩:=hk
 obtain ⟨t1,rfl⟩:=jM iu
 obtain ⟨t2,rfl⟩:=jM iv
 unfold hashByValue
 refine wpAny_bind (wpAny_specialOf hT F.slot_tuple_hash.lookup ?_)
 dsimp only
 refine wpAny_bind (wpAny_seqItems ho hd ?_)
 dsimp only [Option.getD]
 refine wpAny_bind ?_
 rw [← Array.forIn_toList]
 refine wpAny_forIn_list _ (fun rest r s'=>r.1 = none /\ s' = s /\ ∀ x ∈ rest,∃ i t,x = Value.int i t) _ ?_ ?_ _ _ ⟨rfl,rfl,fun x hx=>by
  rcases List.mem_cons.mp hx with rfl | hx
  ·exact ⟨_,_,rfl⟩
  ·rw [List.mem_singleton.mp hx]; exact ⟨_,_,rfl⟩⟩
 ·rintro x rest r s' ⟨hr,rfl,hall⟩
  obtain ⟨i,t,rfl⟩:=hall x (by simp)
  refine wpAny_bind ?_
  rw [hashByValue_scannable _ rfl]
  refine wpAny_pure ?_
  simp only [plainKind,Bool.not_true,Bool.false_eq_true,if_false]
  exact wpAny_pure ⟨rfl,rfl,fun y hy=>hall y (by simp [hy])⟩
 ·rintro ⟨r1,r2⟩ s' ⟨hr,rfl,_⟩
  simp only at hr
  subst hr
  exact wpAny_pure h
theorem T6 {kx:Int × Int} {x:Addr} {ys:List Value} {Q:Bool -> Shared -> Prop} (hx:IsPP prog w s.heap kx x) (hy:∀ y ∈ ys,∃ k b,y = Value.ref b /\ IsPP prog w s.heap k b) (h:Q false s):wpAny (model prog w) A (searchCouldBeSeen (.ref x) ys) Q E s:=by
 unfold searchCouldBeSeen
 refine wpAny_bind ?_
 refine wpAny_forIn_list _ (fun rest r s'=>r.1 = none /\ s' = s /\ ∀ y ∈ rest,∃ k b,y = Value.ref b /\ IsPP prog w s.heap k b) _ ?_ ?_ _ _ ⟨rfl,rfl,hy⟩
 ·rintro y rest r s' ⟨hr,rfl,hall⟩
  obtain ⟨k,b,rfl,hb⟩:=hall y (by simp)
  have next:∀ z ∈ rest,∃ k b,z = Value.ref b /\ IsPP prog w s'.heap k b:=fun z hz=>hall z (by simp [hz])
  dsimp only
  split
  ·exact wpAny_pure ⟨rfl,rfl,next⟩
  ·refine wpAny_bind (tR hx ?_)
   simp only [Bool.not_true,Bool.false_eq_true,if_false]
   refine wpAny_bind (tR hb ?_)
   simp only [Bool.not_true,Bool.false_eq_true,if_false]
   refine wpAny_bind (XR hx ?_)
   simp only [Bool.false_eq_true,if_false]
   refine wpAny_bind (XR hb ?_)
   simp only [Bool.false_eq_true,if_false]
   exact wpAny_pure ⟨rfl,rfl,next⟩
 ·rintro ⟨r1,r2⟩ s' ⟨hr,rfl,_⟩
  simp only at hr
  subst hr
  exact wpAny_pure h
end
theorem EmIn.mono {t:SetTable} {N M:Nat} {p:SetTable.Probe} (h:EmIn t N p) (l:N <= M):EmIn t M p:=by
 obtain ⟨n,h1,h2⟩:=h
 exact ⟨n,by omega,h2⟩
def u4 (es:Array (Int × Value)) (ep:Nat) (t:SetTable):Obj:={ cls:=.type "set",dict:=none,data:=.set es ep t,slots:=#[] }
section
variable {prog:Program} {w:World} {A:Around} {E:VS7} {s:Shared}
theorem qF {a:Addr} {es:Array (Int × Value)} {ep:Nat} {t:SetTable} {x:Addr} {kx:Int × Int} {h:Int} (ho:s.heap.get? a = some (u4 es ep t)) (fit:t.fits es.size = true) (hm:va t.mask) (hd:t.dummies = #[]) (hu:A.units + 1 < cLine)
  (hx:IsPP prog w s.heap kx x) (hy:∀ e ∈ es.toList,∃ k b,e.2 = Value.ref b /\ IsPP prog w s.heap k b /\ k ≠ kx) {Q:SetFound -> Shared -> Prop} (hq:∀ j,Q (.free j false) s) :
  ∀ (N fuel:Nat) (p:SetTable.Probe) (o:Option SetTable.Probe),o.getD (t.probeStart h) = p -> p.dummy = none -> EmIn t N p -> N <= 10 * SetTable.turns t.mask -> N < fuel -> wpAny (model prog w) A (setSearchFrom a (.ref x) h true fuel o) Q E s:=by
 intro N
 induction N using Nat.strongRecOn with
 | _ N ih =>
  intro fuel p o e0 hp em hN hf
  obtain ⟨fuel,rfl⟩:∃ f,fuel = f + 1:=⟨fuel - 1,by omega⟩
  unfold setSearchFrom
  refine wpAny_bind (wpAny_setState_of ho rfl fit ?_)
  dsimp only
  have gw:t.gaveWay = false:=by
   unfold SetTable.gaveWay
   rcases hm with z | z | z <;> rw [z] <;> rfl
  rw [gw]
  simp only [Bool.false_eq_true,if_false]
  rw [e0]
  unfold SetTable.probe
  have key:∀ ha:Nat -> Int,(∃ j,SetTable.probe.go t ha h (10 * SetTable.turns t.mask) p = some (.empty j none)) \/ ∃ (q:SetTable.Probe) (i N':Nat),N' < N /\ SetTable.probe.go t ha h (10 * SetTable.turns t.mask) p = some (.candidate q.j i (t.advance q)) /\ t.slot q.j = .live i /\ (t.advance q).dummy = none /\ EmIn t N' (t.advance q):=fun ha=>by
   have mono:∀ (f g:Nat) (p:SetTable.Probe) (r:SetTable.Met),f <= g -> SetTable.probe.go t ha h f p = some r -> SetTable.probe.go t ha h g p = some r:=by
    intro f
    induction f with
    | zero=>intro g p r _ z; unfold SetTable.probe.go at z; cases z
    | succ f ihf =>
     intro g p r l z
     obtain ⟨g,rfl⟩:∃ g',g = g' + 1:=⟨g - 1,by omega⟩
     unfold SetTable.probe.go at z ⊢
     split
     ·rename_i e; rw [e] at z; exact z
     ·rename_i e; rw [e] at z; exact ihf g _ r (by omega) z
     ·rename_i i e
      rw [e] at z
      dsimp only at z
      split
      ·rename_i c; rw [if_pos c] at z; exact z
      ·rename_i c; rw [if_neg c] at z; exact ihf g _ r (by omega) z
   rcases VB (ha:=ha) (h:=h) hd N p hp em with ⟨j,z⟩ | ⟨q,i,N',n1,z,r⟩
   ·exact .inl ⟨j,mono _ _ _ _ hN z⟩
   ·exact .inr ⟨q,i,N',n1,mono _ _ _ _ hN z,r⟩
  rcases key _ with ⟨j,e⟩ | ⟨q,i,N',n1,e,sl,dn,em'⟩
  ·rw [e]
   dsimp only
   exact wpAny_pure (hq j)
  ·rw [e]
   dsimp only
   have pl:=XL sl
   have isz:i < es.size:=by
    have h1:i < t.place.size:=(Array.getElem?_eq_some_iff.mp pl).1
    unfold SetTable.fits at fit
    simp only [Bool.and_eq_true,beq_iff_eq] at fit
    omega
   obtain ⟨ky,b,e2,hb,ne⟩:=hy (es[i]'isz) (by simp)
   have ei:es[i]? = some (es[i].1,Value.ref b):=by rw [Array.getElem?_eq_getElem isz,← e2]
   have fin:∀ {s2:Shared},s2 = s -> wpAny (model prog w) A (setSearchFrom a (.ref x) h true fuel (some (t.advance q))) Q E s2:=fun z=>by
    subst z
    exact ih N' n1 fuel _ _ rfl dn em' (by omega) (by omega)
   have rest:wpAny (model prog w) A (do
     let some (_,y):=es[i]? | unsupported "internal:set-entry"
     let equal ← holding [y] (eqBool y (.ref x))
     let (es',_,t') ← setState a
     if true && equal then return .there none
     let some smq:=t'.sameMemory t.moves t.mask | unsupported "set.changed-during-lookup:is-the-new-block-at-the-old-address"
     let still ← match (if smq then t'.slot q.j else .empty) with
      | .live i'=>match es'[i']? with
       | some (_,y')=>do pure (if ← isSame y' y then some i' else none)
       | none=>pure none
      | _=>pure none
     match still with
     | none=>rule "set.search.anew"; setSearchFrom a (.ref x) h true fuel none
     | some i'=>if equal then return .there (some i') else setSearchFrom a (.ref x) h true fuel (some (t.advance q))) Q E s:=by
    rw [ei]
    dsimp only
    refine wpAny_bind (wpAny_holding (Tp hu hb hx ?_))
    rw [decide_eq_false ne]
    refine wpAny_bind (wpAny_setState_of ho rfl fit ?_)
    dsimp only
    simp only [Bool.and_false,Bool.false_eq_true,if_false]
    have sm:t.sameMemory t.moves t.mask = some true:=by unfold SetTable.sameMemory; rw [if_pos (by simp)]
    rw [sm]
    dsimp only
    simp only [if_true]
    rw [sl]
    dsimp only
    rw [ei]
    dsimp only
    refine wpAny_bind (wpAny_isSame_ref_self (wpAny_bind (wpAny_pure ?_)))
    simp only [if_true]
    exact fin rfl
   by_cases hl:t.led = true
   ·rw [hl]
    simp only [Bool.not_true,Bool.false_eq_true,if_false]
    exact rest
   ·rw [Bool.not_eq_true] at hl
    rw [hl]
    simp only [Bool.not_false,if_true]
    refine wpAny_bind (m:=searchCouldBeSeen _ _) (T6 hx (fun y hy'=>?_) ?_)
    ·obtain ⟨e,he,rfl⟩:=List.mem_map.mp hy'
     obtain ⟨k,b,h1,h2,_⟩:=hy e (by
      have:=Array.mem_toList_iff.mp he
      exact Array.mem_toList_iff.mpr (Array.mem_filter.mp this).1)
     exact ⟨k,b,h1,h2⟩
    ·simp only [Bool.false_eq_true,if_false]
     exact rest
end
structure SetPS (h:Heap) (a:Addr) (ad:Nat -> Addr) (m:Nat) (es:Array (Int × Value)) (ep:Nat) (t:SetTable):Prop where
 at_:h.get? a = some (u4 es ep t)
 el:∀ e ∈ es.toList,∃ i,i < m /\ e.2 = Value.ref (ad i)
 sz:es.size = m
 pz:t.place.size = m
 dm:t.dummies = #[]
 room:(t.mask = 7 /\ m <= 4) \/ (t.mask = 31 /\ m <= 18) \/ (t.mask = 127 /\ m <= 60)
def wL (h:Heap) (a:Addr) (ad:Nat -> Addr) (m:Nat):Prop:=∃ es ep t,SetPS h a ad m es ep t
section
variable {prog:Program} {w:World} {A:Around} {E:VS7} {s:Shared} {a:Addr} {ad:Nat -> Addr} {m:Nat}
theorem SetPS.mk_ {h:Heap} {es ep t} (S:SetPS h a ad m es ep t):va t.mask:=by
 rcases S.room with ⟨z,_⟩ | ⟨z,_⟩ | ⟨z,_⟩
 ·exact .inl z
 ·exact .inr (.inl z)
 ·exact .inr (.inr z)
theorem XS {t:SetTable} {n:Nat} (hd:t.dummies = #[]) (hz:t.place.size = n) (hm:n <= t.mask):t.fits n = true:=by
 unfold SetTable.fits SetTable.fill
 rw [hd]
 simp [hz,hm]
theorem SetPS.fit {h:Heap} {es ep t} (S:SetPS h a ad m es ep t):t.fits es.size = true:=by
 refine XS S.dm (S.pz.trans S.sz.symm) ?_
 rw [S.sz]
 rcases S.room with ⟨z,l⟩ | ⟨z,l⟩ | ⟨z,l⟩ <;> rw [z] <;> omega
theorem rH {es:Array (Int × Value)} {ep:Nat} {t:SetTable} {es1:Array (Int × Value)} {t1:SetTable} {Q:Unit -> Shared -> Prop} (ho:s.heap.get? a = some (u4 es ep t)) (hz:es1.size <= 100)
  (h:∀ h',Heap.SameBut a s.heap h' -> h'.get? a = some (u4 es1 (ep + 1) t1) -> Q () { s with heap:=h' }):wpAny (model prog w) A (storeSet a es1 t1) Q E s:=by
 refine wpAny_storeSet_of ho rfl ?_ (fits_of_scanBound (by have:scanBound = 4096:=rfl; omega))
 exact h _ (Heap.SameBut.update s.heap a (Obj.putSet es1 t1)) (Heap.get?_update_self (Obj.putSet es1 t1) ho rfl)
theorem wx {α:Type} (xs:Array α) (p:Nat) (x:α) (hp:p <= xs.size):(SetTable.insertAt xs p x).size = xs.size + 1:=by
 rw [← Array.length_toList,SetTable.toList_insertAt]
 rw [List.length_append,List.length_cons,List.length_take,List.length_drop,Array.length_toList]
 omega
theorem ZK (xs:Array Nat) (j:Nat):SetTable.below xs j <= xs.size:=by
 have key:∀ (fuel lo hi:Nat),lo <= hi -> hi <= xs.size -> SetTable.below.go xs j fuel lo hi <= xs.size:=by
  intro fuel
  induction fuel with
  | zero=>intro lo hi h1 h2; unfold SetTable.below.go; omega
  | succ f ih =>
   intro lo hi h1 h2
   unfold SetTable.below.go
   split
   ·dsimp only
    split
    ·exact ih _ _ (by omega) h2
    ·exact ih _ _ (by omega) (by omega)
   ·omega
 exact key _ _ _ (Nat.zero_le _) (Nat.le_refl _)
theorem T7 {t:SetTable} (hd:t.dummies = #[]) (j:Nat):(t.put j).1 = { t with place:=SetTable.insertAt t.place (SetTable.below t.place j) j } /\ (t.put j).2 = SetTable.below t.place j:=by
 unfold SetTable.put
 dsimp only
 refine ⟨?_,rfl⟩
 rw [if_neg (by unfold SetTable.has; rw [hd]; simp)]
set_option maxHeartbeats 1600000 in
theorem Vc {es:Array (Int × Value)} {ep:Nat} {t:SetTable} {wanted:Nat} {Q:Unit -> Shared -> Prop} (ho:s.heap.get? a = some (u4 es ep t)) (fit:t.fits es.size = true) (hz:es.size <= 60) (hm:va (SetTable.sizeAbove wanted - 1)) (hk:es.size <= SetTable.sizeAbove wanted - 1)
  (h:∀ h' es1 t1,Heap.SameBut a s.heap h' -> h'.get? a = some (u4 es1 (ep + 1) t1) -> es1.toList.Perm es.toList -> t1.mask = SetTable.sizeAbove wanted - 1 -> t1.place.size = es.size -> t1.dummies = #[] -> Q () { s with heap:=h' }) :
  wpAny (model prog w) A (setRelay a wanted) Q E s:=by
 obtain ⟨t',order,r1,r2,r3,r4,_,r6⟩:=XO (t:=t) (hashes:=es.map (·.1)) (wanted:=wanted) hm (by rw [Array.size_map]; exact hk)
 rw [Array.size_map] at r3 r6
 have p:=XQ (es:=es) r6
 have z:(order.filterMap (es[·]?)).size = es.size:=by have:=p.length_eq; rw [Array.length_toList,Array.length_toList] at this; exact this
 unfold setRelay
 refine wpAny_bind (wpAny_setState_of ho rfl fit ?_)
 dsimp only
 have w128:SetTable.sizeAbove wanted <= 128:=by rcases hm with y | y | y <;> omega
 have zline:=sizeLine_eq
 rw [if_neg (by omega)]
 rw [r1]
 refine wpAny_bind ?_
 show wpAny _ _ (do
  if (order.filterMap (es[·]?)).size != es.size then unsupported "internal:set-table-lost-an-element"
  pure (order.filterMap (es[·]?),t')) _ _ _
 rw [if_neg (by rw [z]; simp)]
 refine wpAny_pure ?_
 dsimp only
 exact rH ho (by rw [z]; omega) fun h' sb hg=>h h' _ _ sb hg p r2 r3 r4
theorem sa20:SetTable.sizeAbove (SetTable.grown 5) - 1 = 31:=by decide +kernel
theorem sa76:SetTable.sizeAbove (SetTable.grown 19) - 1 = 127:=by decide +kernel
set_option maxHeartbeats 1600000 in
theorem wL.add {key:Nat -> Int × Int} {hs:Int} {Q:Bool -> Shared -> Prop} (S:wL s.heap a ad m) (hm:m < 60) (hu:A.units + 1 < cLine) (hk:∀ i,i <= m -> IsPP prog w s.heap (key i) (ad i)) (nd:∀ i,i < m -> key i ≠ key m)
  (h:∀ h',Heap.SameBut a s.heap h' -> wL h' a ad (m + 1) -> Q true { s with heap:=h' }) :
  wpAny (model prog w) A (setAddHashed a (.ref (ad m)) hs) Q E s:=by
 obtain ⟨es,ep,t,S⟩:=S
 unfold setAddHashed setAddHashedIn
 refine wpAny_holding (wpAny_bind (wpAny_setState_of S.at_ rfl S.fit ?_))
 dsimp only
 rw [if_neg (by unfold byScan; simp [Value.scannable])]
 unfold setSearch
 have pm:t.place.size <= t.mask:=by rw [S.pz]; rcases S.room with ⟨z,l⟩ | ⟨z,l⟩ | ⟨z,l⟩ <;> rw [z] <;> omega
 refine wpAny_bind (qF S.at_ S.fit S.mk_ S.dm hu (hk m (Nat.le_refl _)) (fun e he=>?_) (fun j=>?_) (10 * SetTable.turns t.mask) 100000 (t.probeStart hs) none rfl rfl (W7 S.mk_ S.dm pm hs) (Nat.le_refl _) ?_)
 ·obtain ⟨i,hi,e2⟩:=S.el e he
  exact ⟨key i,ad i,e2,hk i (by omega),nd i hi⟩
 ·dsimp only
  refine wpAny_bind (wpAny_setState_of S.at_ rfl S.fit ?_)
  dsimp only
  obtain ⟨p1,p2⟩:=T7 S.dm j
  rw [p1,p2]
  have bz:=ZK t.place j
  have ez:=wx es (SetTable.below t.place j) (hs,Value.ref (ad m)) (by rw [S.sz,← S.pz]; exact bz)
  have tz:=wx t.place (SetTable.below t.place j) j bz
  rw [S.sz] at ez
  rw [S.pz] at tz
  have el1:∀ e ∈ (SetTable.insertAt es (SetTable.below t.place j) (hs,Value.ref (ad m))).toList,∃ i,i < m + 1 /\ e.2 = Value.ref (ad i):=fun e he=>by
   rw [SetTable.toList_insertAt] at he
   rcases List.mem_append.mp he with z | z
   ·obtain ⟨i,hi,e2⟩:=S.el e (List.mem_of_mem_take z)
    exact ⟨i,by omega,e2⟩
   ·rcases List.mem_cons.mp z with z | z
    ·exact ⟨m,by omega,by rw [z]⟩
    ·obtain ⟨i,hi,e2⟩:=S.el e (List.mem_of_mem_drop z)
     exact ⟨i,by omega,e2⟩
  generalize SetTable.insertAt es (SetTable.below t.place j) (hs,Value.ref (ad m)) = es1 at ez el1 ⊢
  generalize SetTable.insertAt t.place (SetTable.below t.place j) j = pl1 at tz ⊢
  have main:∀ (t1:SetTable),t1.place = pl1 -> t1.dummies = #[] -> t1.mask = t.mask -> wpAny (model prog w) A (do
    storeSet a es1 t1
    if !false && t1.tooFull then setRelay a (SetTable.grown (es.size + 1))
    return true) Q E s:=by
   intro t1 e1 e2 e3
   refine wpAny_bind (rH S.at_ (by omega) fun h1 sb1 g1=>?_)
   have fl:t1.fill = m + 1:=by unfold SetTable.fill; rw [e1,e2,tz]; rfl
   by_cases c:t1.tooFull = true
   ·rw [c]
    simp only [Bool.not_false,Bool.and_self,if_true]
    have c2:t.mask * 3 <= (m + 1) * 5:=by unfold SetTable.tooFull at c; rw [fl,e3] at c; exact of_decide_eq_true c
    have cs:(m = 4 /\ t.mask = 7) \/ (m = 18 /\ t.mask = 31):=by
     rcases S.room with ⟨z,l⟩ | ⟨z,l⟩ | ⟨z,l⟩
     ·left; omega
     ·right; omega
     ·omega
    have sa:∃ mk,SetTable.sizeAbove (SetTable.grown (es.size + 1)) - 1 = mk /\ va mk /\ m + 1 <= mk /\ ((mk = 31 /\ m + 1 <= 18) \/ (mk = 127 /\ m + 1 <= 60)):=by
     rw [S.sz]
     rcases cs with ⟨z,_⟩ | ⟨z,_⟩
     ·subst z; exact ⟨31,sa20,.inr (.inl rfl),by omega,.inl ⟨rfl,by omega⟩⟩
     ·subst z; exact ⟨127,sa76,.inr (.inr rfl),by omega,.inr ⟨rfl,by omega⟩⟩
    obtain ⟨mk,s1,s2,s3,s4⟩:=sa
    have f1:t1.fits es1.size = true:=XS e2 (by rw [e1,tz,ez]) (by rw [ez,e3]; omega)
    refine wpAny_bind (Vc (s:={ s with heap:=h1 }) g1 f1 (by omega) (by rw [s1]; exact s2) (by rw [s1,ez]; exact s3) fun h2 es2 t2 sb2 g2 pm2 m2 z2 d2=>?_)
    refine wpAny_pure (h _ (sb1.trans sb2) ⟨es2,_,t2,g2,fun e he=>el1 e (pm2.mem_iff.mp he),?_,by rw [z2,ez],d2,?_⟩)
    ·have:=pm2.length_eq; rw [Array.length_toList,Array.length_toList] at this; rw [this,ez]
    ·rw [m2,s1]
     rcases s4 with y | y
     ·exact .inr (.inl y)
     ·exact .inr (.inr y)
   ·rw [Bool.not_eq_true] at c
    rw [c]
    simp only [Bool.and_false,Bool.false_eq_true,if_false]
    refine wpAny_pure (h _ sb1 ⟨es1,_,t1,g1,el1,ez,by rw [e1,tz],e2,?_⟩)
    have c2:(m + 1) * 5 < t.mask * 3:=by unfold SetTable.tooFull at c; rw [fl,e3] at c; exact Nat.lt_of_not_le (of_decide_eq_false c)
    rw [e3]
    rcases S.room with ⟨z,l⟩ | ⟨z,l⟩ | ⟨z,l⟩
    ·left; exact ⟨z,by omega⟩
    ·right; left; exact ⟨z,by omega⟩
    ·right; right; exact ⟨z,by omega⟩
  split
  ·refine wpAny_bind (Vb (hk m (Nat.le_refl _)) ?_)
   simp only [if_true]
   exact main _ rfl S.dm rfl
  ·refine wpAny_bind (wpAny_pure ?_)
   simp only [if_true]
   exact main _ rfl S.dm rfl
 ·show 10 * (t.mask + 15) < 100000
  rcases S.mk_ with z | z | z <;> rw [z] <;> decide
end
theorem wL.keep {h h':Heap} {a:Addr} {ad:Nat -> Addr} {m:Nat} (S:wL h a ad m) (k:∀ o,h.get? a = some o -> h'.get? a = some o):wL h' a ad m:=by
 obtain ⟨es,ep,t,S⟩:=S
 exact ⟨es,ep,t,{ S with at_:=k _ S.at_ }⟩
section
variable {prog:Program} {w:World} {A:Around} {E:VS7} {s:Shared}
theorem XT {R:Result -> Shared -> Prop} {I:Addr} {fp wr:List Addr} {n:Nat} {P:Nat -> Value -> Prop} {St:Nat -> Heap -> Prop} (W:Walks prog w A.in1 I fp wr n P St) (S:Addr) (hSf:S ∉ fp)
  (key:Nat -> Int × Int) (ad:Nat -> Addr) (hval:∀ i v,P i v -> v = .ref (ad i)) (hb:n <= 50) (hu:A.in1.units + 1 < cLine) (had:∀ i,i < n -> ad i ∉ S :: wr) (nd:∀ i j,i < j -> j < n -> key i ≠ key j) :
  ∀ (k i:Nat) (s:Shared),n - i = k -> i <= n -> St i s.heap -> wL s.heap S ad i -> (∀ i,i < n -> IsPP prog w s.heap (key i) (ad i)) →
   (∀ s',Moved (S :: wr) (fun a b=>b = a) s s' -> wL s'.heap S ad n -> R (.ok (.ret .none)) s') →
   codeAny (model prog w) A (.builtin "set.update.loop" ⟨[.ref S,.ref I],[]⟩) R s:=by
 have WS:=W.toS
 have hSw:S ∉ wr:=fun h=>hSf (W.sub _ h)
 have hsub:∀ b ∈ wr,b ∈ S :: wr:=fun b hb=>List.mem_cons_of_mem _ hb
 intro k
 induction k with
 | zero =>
  intro i s hk hi hst hS hK hR
  have e:i = n:=by omega
  subst e
  refine codeAny_builtin F.entry_set_update_loop ?_
  rw [Around.under_plainId F.plain_set_update_loop _]
  show wpAny _ A.in1 (pyNext (.ref I) >>= _) _ _ s
  refine wpAny_bind (WS.done s _ _ hst fun s' hm=>?_)
  show wpAny _ A.in1 (ret Value.none) _ _ s'
  exact wpAny_pure (hR s' (hm.mono hsub) (hS.keep fun o e=>hm.heap S o hSw e))
 | succ k ih =>
  intro i s hk hi hst hS hK hR
  have hlt:i < n:=by omega
  refine codeAny_builtin F.entry_set_update_loop ?_
  rw [Around.under_plainId F.plain_set_update_loop _]
  show wpAny _ A.in1 (pyNext (.ref I) >>= _) _ _ s
  refine wpAny_bind (WS.item i s _ _ hlt hst fun v s' hP hst' hm=>?_)
  obtain rfl:=hval i v hP
  show wpAny _ A.in1 (holding [Value.ref (ad i)] (setAdd S (.ref (ad i))) >>= _) _ _ s'
  refine wpAny_bind (wpAny_holding ?_)
  have hK':∀ i,i < n -> IsPP prog w s'.heap (key i) (ad i):=fun j hj=>(hK j hj).keep fun o e=>hm.heap (ad j) o (fun z=>had j hj (hsub _ z)) e
  unfold setAdd
  refine wpAny_holding (wpAny_bind (Y1 hu (hK' i hlt) ?_))
  refine wL.add (key:=key) (s:={ s' with toks:=s'.toks + _ }) (hS.keep fun o e=>hm.heap S o hSw e) (by omega) hu (fun j hj=>hK' j (by omega)) (fun j hj=>nd j i hj hlt) fun h' hsb h2=>?_
  refine wpAny_pure ⟨plainId_quiet F.plain_set_update_loop _,ih (i + 1) _ (by omega) hlt (WS.frame _ s' _ _ hst' (Nat.le_add_right _ _) fun b hb o e=>?_) h2 (fun j hj=>(hK' j hj).keep fun o e=>?_) fun s'' hm'' h3=>?_⟩
  ·rw [hsb.2 b (fun h:b = S=>hSf (by rw [← h]; exact hb))]; exact e
  ·show h'.get? (ad j) = some o
   rw [hsb.2 (ad j) (fun h:ad j = S=>had j hj (by rw [h]; exact List.mem_cons_self))]; exact e
  ·refine hR s'' (Moved.trans WS.gtrans ((hm.mono hsub).then_heap (Nat.le_add_right _ _) fun b o hb e=>?_) hm'') h3
   rw [hsb.2 b (fun h:b = S=>hb (by rw [h]; exact List.mem_cons_self))]; exact e
theorem ZL {led:Bool} {h:Heap} {a:Addr} {ad:Nat -> Addr} (hg:h.get? a = some { cls:=.type "set",dict:=none,data:=.set #[] 0 (.fresh 0 0 led) }):wL h a ad 0 :=
 ⟨#[],0,_,hg,fun e he=>(by simp at he),rfl,rfl,rfl,.inl ⟨rfl,by omega⟩⟩
set_option maxHeartbeats 3200000 in
theorem ZM {l:Addr} {items:Array Value} {key:Nat -> Int × Int} {ad:Nat -> Addr} {Q:VS7}
  (hh:A.handled = none) (hu:A.units + 8 < cLine) (hl:s.heap.IsList l items) (hi:∀ (i:Nat) (v:Value),items[i]? = some v -> v = .ref (ad i)) (hk:∀ i,i < items.size -> IsPP prog w s.heap (key i) (ad i)) (nd:∀ i j,i < j -> j < items.size -> key i ≠ key j) (hb:items.size <= 50)
  (h:∀ (h':Heap) (tk:Nat),wL h' s.heap.objs.size ad items.size -> (∀ b o,b < s.heap.objs.size -> s.heap.get? b = some o -> h'.get? b = some o) -> Q (.ref s.heap.objs.size) { s with heap:=h',toks:=tk }) :
  wpAny (model prog w) A (call (.type "set") [.ref l]) Q E s:=by
 obtain ⟨c,tl,hmro⟩:=PySem.F.called_set.mro
 have hmade:=PySem.F.called_set.made
 have hsub:=PySem.F.called_set.sub
 refine wpAny_call (codeAny_of_tree ?_)
 show wpAny _ _ (callAny (.type "set") _) _ _ _
 refine wpAny_pure ⟨Code.quiet_builtin _ (by decide +kernel),codeAny_builtin PySem.F.entry_type_call ?_⟩
 rw [Around.under_plain (weight_type_call_type "set" [.ref l] []) rfl]
 have h1:=PySem.F.called_set.notType
 have h2:=PySem.F.called_set.canCreate
 have hct:=PySem.F.typeCall_set_1 (.ref l)
 repeat (any_goals (first | assumption | wp_step))
 generalize hled:(!w.params.followText "set-order") = led
 refine codeAny_mono (Us (.ref l) (E:=E) (Q₁:=fun obj s₁=>obj = .ref s.heap.objs.size /\ s₁ = { s with heap:=s.heap.push { cls:=.type "set",dict:=none,data:=.set #[] 0 (.fresh 0 0 led) } }) ⟨rfl,by rw [hled]⟩) fun r s₁ hr=>?_
 cases r with
 | error e=>exact hr
 | ok fl =>
  cases fl with
  | ret obj =>
   obtain ⟨rfl,rfl⟩:=hr
   have hS:(s.heap.push { cls:=.type "set",dict:=none,data:=.set #[] 0 (.fresh 0 0 led) }).get? s.heap.objs.size = some { cls:=.type "set",dict:=none,data:=.set #[] 0 (.fresh 0 0 led) }:=Heap.get?_push_size _ rfl
   have hT:Shared.TypeIs { s with heap:=s.heap.push { cls:=.type "set",dict:=none,data:=.set #[] 0 (.fresh 0 0 led) } } (.ref s.heap.objs.size) "set":=⟨_,hS,rfl⟩
   have hli:=PySem.F.called_set.init.lookup
   have hbi:=PySem.F.called_set.init.bind (.ref s.heap.objs.size)
   repeat (any_goals (first | assumption | wp_step))
   refine codeAny_mono (codeAny_call_builtin (R:=wants (fun r s₂=>r = .none /\ ∃ h' tk,s₂ = { s with heap:=h',toks:=tk } /\ wL h' s.heap.objs.size ad items.size ∧
     (∀ b o,b < s.heap.objs.size -> s.heap.get? b = some o -> h'.get? b = some o)) E) PySem.F.called_set.init.plain PySem.F.entry_set_init (check_set_init_1 hT ?_)) fun r₂ s₂ hr₂=>?_
   ·obtain ⟨ol,hol,hcl,nl,hdl⟩:=hl
    obtain ⟨ocls,odict,odata,oslots⟩:=ol
    simp only at hcl hdl
    subst hcl; subst hdl
    have hol':(s.heap.push { cls:=.type "set",dict:=none,data:=.set #[] 0 (.fresh 0 0 led) }).get? l = some { cls:=.type "list",dict:=odict,data:=.seq items nl,slots:=oslots }:=Heap.get?_push_of_some _ hol
    have hsls:=PySem.F.sub_list_set
    have hslf:=PySem.F.sub_list_frozenset
    have hne:(Value.type "list" == Value.type "dict") = false:=by decide
    have hl1:(s.heap.push { cls:=.type "set",dict:=none,data:=.set #[] 0 (.fresh 0 0 led) }).IsList l items:=⟨_,hol',rfl,nl,rfl⟩
    unfold Builtin.«set.__init__» noKeywords Builtin.Frozenset.updateFrom
    generalize hPI:pyIter = PI
    wp_walk
    subst hPI
    refine wpAny_pyIter_list hl1 (wpAny_bind (wpAny_runValue ?_))
    have hlS:l < s.heap.objs.size:=Heap.lt_size hol
    have hz:(s.heap.push { cls:=.type "set",dict:=none,data:=.set #[] 0 (.fresh 0 0 led) }).objs.size = s.heap.objs.size + 1:=Heap.size_push ..
    have nI:l ≠ (s.heap.push { cls:=.type "set",dict:=none,data:=.set #[] 0 (.fresh 0 0 led) }).objs.size:=by rw [hz]; exact Nat.ne_of_lt (Nat.lt_succ_of_lt hlS)
    have adl:∀ i,i < items.size -> ad i < s.heap.objs.size:=fun i hi'=>by
     obtain ⟨o,_,_,_,ho,_⟩:=hk i hi'
     exact Heap.lt_size ho
    refine XT (Walks.list (by simp [hh]) _ l nI items) s.heap.objs.size (by rw [hz]; simp only [List.mem_cons,List.mem_singleton,List.not_mem_nil,or_false,not_or]; exact ⟨Nat.ne_of_lt (Nat.lt_succ_self _),Nat.ne_of_gt hlS⟩) key ad (fun i v hv=>hi i v hv) hb ?_ (fun i hi'=>by rw [hz]; simp only [List.mem_cons,List.mem_singleton,List.not_mem_nil,or_false,not_or]; exact ⟨Nat.ne_of_lt (adl i hi'),Nat.ne_of_lt (Nat.lt_succ_of_lt (adl i hi'))⟩) nd (items.size - 0) 0 _ (by omega) (Nat.zero_le _)
     ⟨⟨_,Heap.get?_push_size _ rfl,rfl,rfl⟩,(hl1.push _)⟩ (ZL (Heap.get?_push_of_some _ hS)) (fun i hi'=>(hk i hi').keep fun o e=>Heap.get?_push_of_some _ (Heap.get?_push_of_some _ e)) fun s' hm hS'=>?_
    ·show A.units + 1 + 1 + 1 + 1 < cLine
     omega
    obtain ⟨h',g',d',tk',os'⟩:=s'
    have eg:g' = s.gens:=hm.gens
    have ed:d' = s.drawn:=hm.drawn
    have eo:os' = s.os:=hm.os
    subst eg; subst ed; subst eo
    refine wpAny_pure ?_
    show wpAny _ _ (ret Value.none) _ _ _
    refine wpAny_pure ⟨rfl,h',tk',rfl,hS',fun b o hb e=>?_⟩
    exact hm.heap b o (by rw [hz]; simp only [List.mem_cons,List.mem_singleton,List.not_mem_nil,or_false,not_or]; exact ⟨Nat.ne_of_lt hb,Nat.ne_of_lt (Nat.lt_succ_of_lt hb)⟩) (Heap.get?_push_of_some _ (Heap.get?_push_of_some _ e))
   ·cases r₂ with
    | error e=>exact hr₂
    | ok fl₂ =>
     cases fl₂ with
     | ret r =>
      obtain ⟨rfl,h',tk,rfl,hS',hk'⟩:=hr₂
      repeat (any_goals (first | assumption | wp_step))
      exact h _ _ hS' hk'
     | _=>exact hr₂.elim
  | _=>exact hr.elim
end
def ZN (h:Heap) (a:Addr) (n:Nat):Prop:=∃ ad,wL h a ad n
section
variable {X:Cx} {K:FG7} {P:Program} {w:World}
theorem zP.setP {H:Hp} {h:Heap} {a:Addr} {n:Nat} (S:ZN h a n):zP P w H h a (.ext fun h=>ZN h a n):=by
 obtain ⟨ad,S⟩:=S
 obtain ⟨es,ep,t,S'⟩:=S
 exact ⟨⟨ad,es,ep,t,S'⟩,⟨_,S'.at_⟩,fun h1 h2 ⟨ad,s1⟩ k=>⟨ad,s1.keep k⟩⟩
def PrL (K:FG7) (H:Hp) (v:V) (k:Int × Int):Prop:=∃ b,v = .ref b /\ KAt ptI ptI K H k b
theorem PrL.grow {H H':Hp} {v:V} {k:Int × Int} {m:List Addr} (x:PrL K H v k) (g:Grow m H H'):PrL K H' v k:=by
 obtain ⟨b,e,h⟩:=x
 exact ⟨b,e,h.grow g⟩
theorem XU {k:Nat} (hK:X.K = K) (hr:Room k X.A):yM X (.type "set") (fun xs H Q=>∃ a vs ks,xs = [V.ref a] /\ SqL K H a vs /\ AllR (PrL K H) vs ks /\ ks.Nodup /\ ks.length <= 50 /\ ∀ l,H l = none -> Q (.ref l) (upd H l (.ext fun h=>ZN h l ks.length))):=by
 subst hK
 intro pins s σ H xs us Q I r h
 obtain ⟨a,vs,ks,rfl,ha,hA,nd,hl,q⟩:=h
 obtain ⟨u,rfl,ru⟩:=wa r
 cases ru
 obtain ⟨its,rv,p,hz⟩:=I.list ha
 have hlen:=rv.length
 have al:=hA.len
 let ad:Nat -> Addr:=fun i=>match its[i]? with
  | some (.ref b)=>b
  | _=>0
 have key:∀ (i:Nat) (v:Value),its[i]? = some v -> v = .ref (ad i) /\ (wW (YZ X.prog X.w) (YZ X.prog X.w)).is s.heap (ks.getD i (0,0)) (ad i):=fun i v hv=>by
  obtain ⟨hj,ej⟩:=List.getElem?_eq_some_iff.mp hv
  obtain ⟨z,hz1,hz2⟩:=r9 rv i hj
  rw [ej] at hz2
  obtain ⟨k,hk,b,rfl,hb⟩:=hA.get hz1
  obtain rfl:v = Value.ref b:=hz2
  have e:ad i = b:=by show (match its[i]? with | some (.ref b)=>b | _=>0) = b; rw [hv]
  rw [e]
  refine ⟨rfl,?_⟩
  rw [List.getD_eq_getElem?_getD,hk]
  exact hb.is I
 have hz2:its.toArray.size = ks.length:=by rw [List.size_toArray,← al]; exact hlen.symm
 refine ZM (key:=fun i=>ks.getD i (0,0)) (ad:=ad) hr.hd (by have:=hr.un; omega) p.isList (fun i v hv=>(key i v (by simpa using hv)).1) (fun i hi=>?_) (fun i j hij hj=>?_) (by rw [hz2]; exact hl) fun h' tk hS kp=>?_
 ·rw [List.size_toArray] at hi
  exact (key i _ (List.getElem?_eq_getElem hi)).2
 ·rw [hz2] at hj
  show ks.getD i (0,0) ≠ ks.getD j (0,0)
  rw [List.getD_eq_getElem?_getD,List.getD_eq_getElem?_getD,List.getElem?_eq_getElem (show i < ks.length by omega),List.getElem?_eq_getElem hj]
  exact fun z=>absurd ((List.getElem_inj nd).mp z) (by omega)
 ·rw [hz2] at hS
  exact ⟨.ref s.heap.objs.size,_,I.laid (t':=tk) (fun b o eb=>kp b o (Heap.lt_size eb) eb) (Nat.le_refl _) (zP.setP ⟨ad,hS⟩),rfl,q _ (I.hok.fresh (Nat.le_refl _))⟩
theorem XV:yM X (.builtin "len") (fun xs H Q=>∃ a n,xs = [V.ref a] /\ H a = some (.ext fun h=>ZN h a n) /\ Q (.int n) H):=by
 intro pins s σ H xs us Q I r h
 obtain ⟨a,n,rfl,ha,q⟩:=h
 obtain ⟨u,rfl,ru⟩:=wa r
 cases ru
 obtain ⟨ad,es,ep,t,S⟩:ZN s.heap a n:=(I.hok a _ ha).1
 have z:=S.sz
 refine call_len_set S.at_ ⟨rfl,rfl,rfl⟩ rfl S.fit (by rw [z]; have:=S.room; omega) ?_
 rw [z]
 exact ⟨.int n,H,I.tok _,⟨_,rfl⟩,q⟩
end
theorem Uv:bootBuiltins "set" = some (.type "set"):=by decide +kernel
section
variable {X:Cx} {k:Nat} {x:Str} {ps:List Str} {sp:Sp} {p pos:Pos}
theorem rJ (C:zo X.prog X.w X.K X.mg X.base k x ps sp) (hr:Room k X.A) (hg:Gl X x)
  (hdb:(x == ("__debug__":Str)) = false:=by decide):PE X (.Call (.Name x p) [] [] pos) (We sp [] E0 tNil):=by
 obtain ⟨f,fd,F,b,kp,m⟩:=C
 exact Wf F hr hg m kp b .nil US hdb
end
def hb77 (c:Call72):Int × Int:=(c.hand,c.begun)
theorem jN {cs:List Call72} (h:t5 cs):(cs.map hb77).Nodup:=by
 rw [List.Nodup,List.pairwise_iff_getElem]
 intro i j hi hj hij z
 rw [List.length_map] at hi hj
 rw [List.getElem_map,List.getElem_map] at z
 have e1:cg cs i = cs[i]:=yw (List.getElem?_eq_getElem hi)
 have e2:cg cs j = cs[j]:=yw (List.getElem?_eq_getElem hj)
 have z1:cs[i].hand = cs[j].hand:=congrArg Prod.fst z
 have z2:cs[i].begun = cs[j].begun:=congrArg Prod.snd z
 have:=h i j hi hj (by rw [e1,e2]; exact z1) (by rw [e1,e2]; exact z2)
 omega
theorem jO {cs:List Call72} (h:(cs.map hb77).Nodup):t5 cs:=by
 intro i j hi hj h1 h2
 have e1:cg cs i = cs[i]:=yw (List.getElem?_eq_getElem hi)
 have e2:cg cs j = cs[j]:=yw (List.getElem?_eq_getElem hj)
 rw [e1,e2] at h1 h2
 have li:i < (cs.map hb77).length:=by rw [List.length_map]; exact hi
 have lj:j < (cs.map hb77).length:=by rw [List.length_map]; exact hj
 refine (List.getElem_inj (h₀:=li) (h₁:=lj) h).mp ?_
 rw [List.getElem_map,List.getElem_map]
 exact Prod.ext h1 h2
def yI (cs:List Call72) (left:List Nat) (vs:List Int):Prop:=∃ o:List Nat,o.Perm left /\ kh77 cs o = true /\ an72 cs vs o = true
def xZ (cs:List Call72) (left:List Nat) (k:Nat) (vs:List Int):Bool:=decide (vs.getD (cg cs k).box.toNat 0 = (cg cs k).answer) && !(left.any fun j=>zy cs j k)
def bh77 (cs:List Call72) (k:Nat) (vs:List Int):List Int:=vs.set (cg cs k).box.toNat ((cg cs k).deed.mk' (vs.getD (cg cs k).box.toNat 0))
theorem yQ {cs:List Call72} {k:Nat} {r:List Nat}:kh77 cs (k :: r) = (!(r.any fun j=>zy cs j k) && kh77 cs r):=rfl
theorem XW {left r:List Nat} {k:Nat} (nd:left.Nodup) (h:(k :: r).Perm left):r.Perm (wo73 left k):=by
 have nd2:=h.nodup_iff.mpr nd
 rw [List.nodup_cons] at nd2
 have km:k ∈ left:=h.mem_iff.mp (by simp)
 refine wq nd2.2 (fun j hj=>vw.mpr ⟨h.mem_iff.mp (by simp [hj]),fun z=>nd2.1 (z ▸ hj)⟩) ?_
 have:=vt nd km
 have:=h.length_eq
 rw [List.length_cons] at this
 omega
theorem XX {left r:List Nat} {k:Nat} (nd:left.Nodup) (km:k ∈ left) (h:r.Perm (wo73 left k)):(k :: r).Perm left:=by
 refine wq (List.nodup_cons.mpr ⟨fun z=>(vw.mp (h.mem_iff.mp z)).2 rfl,h.nodup_iff.mpr (uU nd)⟩) (fun j hj=>?_) ?_
 ·rcases List.mem_cons.mp hj with rfl | hj
  ·exact km
  ·exact (vw.mp (h.mem_iff.mp hj)).1
 ·have:=vt nd km
  rw [List.length_cons,h.length_eq]
  omega
theorem jP {cs:List Call72} {left r:List Nat} {k:Nat} (h:(k :: r).Perm left):left.any (fun j=>zy cs j k) = r.any fun j=>zy cs j k:=by
 have:left.any (fun j=>zy cs j k) = (k :: r).any fun j=>zy cs j k:=by
  rw [Bool.eq_iff_iff,List.any_eq_true,List.any_eq_true]
  exact ⟨fun ⟨j,h1,h2⟩=>⟨j,h.mem_iff.mpr h1,h2⟩,fun ⟨j,h1,h2⟩=>⟨j,h.mem_iff.mp h1,h2⟩⟩
 rw [this,List.any_cons,wJ,Bool.false_or]
theorem ZO {cs:List Call72} {vs:List Int}:yI cs [] vs:=⟨[],List.Perm.refl _,rfl,rfl⟩
theorem uk {cs:List Call72} {left:List Nat} {vs:List Int} (hne:left ≠ []) (nd:left.Nodup):yI cs left vs ↔ ∃ k ∈ left,xZ cs left k vs = true /\ yI cs (wo73 left k) (bh77 cs k vs):=by
 constructor
 ·rintro ⟨o,h1,h2,h3⟩
  cases o with
  | nil=>exact absurd (List.perm_nil.mp h1.symm) hne
  | cons k r =>
   rw [yQ,Bool.and_eq_true] at h2
   rw [yi] at h3
   by_cases c:vs.getD (cg cs k).box.toNat 0 = (cg cs k).answer
   ·rw [if_pos c] at h3
    refine ⟨k,h1.mem_iff.mp (by simp),?_,r,XW nd h1,h2.2,?_⟩
    ·unfold xZ
     rw [decide_eq_true c,jP h1,h2.1]; rfl
    ·unfold bh77
     rw [c]; exact h3
   ·rw [if_neg c] at h3; cases h3
 ·rintro ⟨k,km,hm,r,h1,h2,h3⟩
  have hp:=XX nd km h1
  unfold xZ at hm
  rw [Bool.and_eq_true,decide_eq_true_eq,jP hp] at hm
  refine ⟨k :: r,hp,?_,?_⟩
  ·rw [yQ,hm.2,h2]; rfl
  ·rw [yi,if_pos hm.1]
   unfold bh77 at h3
   rw [hm.1] at h3; exact h3
def yR (P:Program) (w:World) (K:FG7) (cs:List Call72) (dk m:Nat) (H:Hp):Prop :=
 ∃ kvs:List ((List Int × List Int) × Addr × V),H dk = some (ndO ptT ptT P w dk kvs) /\ NDc ptT ptT K H kvs /\ (∀ x ∈ kvs,∃ (left:List Nat) (vs:List Int),x.1 = (left.map (fun k:Nat=>(k:Int)),vs) /\ ¬ yI cs left vs) /\ kvs.length <= m
theorem yR.grow {P:Program} {w:World} {K:FG7} {cs:List Call72} {dk m:Nat} {H H':Hp} (h:yR P w K cs dk m H) {ms:List Addr} (hm:dk ∉ ms) (g:Grow ms H H'):yR P w K cs dk m H':=by
 obtain ⟨kvs,h1,h2,h3,h4⟩:=h
 exact ⟨kvs,g.keep _ _ hm h1,h2.grow g,h3,h4⟩
theorem yR.mono {P:Program} {w:World} {K:FG7} {cs:List Call72} {dk m m':Nat} {H:Hp} (h:yR P w K cs dk m H) (hm:m <= m'):yR P w K cs dk m' H:=by
 obtain ⟨kvs,h1,h2,h3,h4⟩:=h
 exact ⟨kvs,h1,h2,h3,Nat.le_trans h4 hm⟩
theorem u5 {cs:List Call72} {left:List Nat} {vs:List Int}:∀ {kvs:List ((List Int × List Int) × Addr × V)},(∀ x ∈ kvs,∃ (left:List Nat) (vs:List Int),x.1 = (left.map (fun k:Nat=>(k:Int)),vs) /\ ¬ yI cs left vs) →
  ∀ y,valV (kvs.map prV) (left.map (fun k:Nat=>(k:Int)),vs) = some y -> ¬ yI cs left vs
 | [],_,y,h=>by cases h
 | x :: kvs,hk,y,h=>by
  rw [List.map_cons] at h
  by_cases e:(prV x).1 = (left.map (fun k:Nat=>(k:Int)),vs)
  ·obtain ⟨l',v',e1,e2⟩:=hk x (List.mem_cons_self ..)
   have e3:x.1 = (left.map (fun k:Nat=>(k:Int)),vs):=e
   rw [e1] at e3
   have e4:=ZF (congrArg Prod.fst e3)
   have e5:v' = vs:=congrArg Prod.snd e3
   rw [← e4,← e5]
   exact e2
  ·rw [zZ e] at h
   exact u5 (fun z hz=>hk z (List.mem_cons_of_mem _ hz)) y h
theorem ZP {P:Program} {w:World} {K:FG7} {cs:List Call72} {dk m:Nat} {H:Hp} {kvs:List ((List Int × List Int) × Addr × V)} {left:List Nat} {vs:List Int} {b:Addr} (h1:H dk = some (ndO ptT ptT P w dk kvs)) (h2:NDc ptT ptT K H kvs)
  (h3:∀ x ∈ kvs,∃ (left:List Nat) (vs:List Int),x.1 = (left.map (fun k:Nat=>(k:Int)),vs) /\ ¬ yI cs left vs) (h4:kvs.length <= m) (hk:KAt ptT ptT K H (left.map (fun k:Nat=>(k:Int)),vs) b) (hf:¬ yI cs left vs) (y:V) :
  Grow [dk] H (upd H dk (ndO ptT ptT P w dk (z6 kvs (left.map (fun k:Nat=>(k:Int)),vs) b y))) /\ yR P w K cs dk (m + 1) (upd H dk (ndO ptT ptT P w dk (z6 kvs (left.map (fun k:Nat=>(k:Int)),vs) b y))):=by
 have g:Grow [dk] H (upd H dk (ndO ptT ptT P w dk (z6 kvs (left.map (fun k:Nat=>(k:Int)),vs) b y))):=Grow.setE73 h1 (by simp)
 refine ⟨g,_,zb,(h2.store hk).grow g,fun x hx=>?_,?_⟩
 ·unfold z6 at hx
  split at hx
  ·obtain ⟨z,hz,rfl⟩:=List.mem_map.mp hx
   by_cases c:z.1 = (left.map (fun k:Nat=>(k:Int)),vs)
   ·rw [if_pos c]; exact ⟨left,vs,c,hf⟩
   ·rw [if_neg c]; exact h3 z hz
  ·rcases List.mem_append.mp hx with z | z
   ·exact h3 x z
   ·rw [List.mem_singleton.mp z]; exact ⟨left,vs,rfl,hf⟩
 ·unfold z6
  split
  ·rw [List.length_map]; omega
  ·rw [List.length_append]; show _ + 1 <= _; omega
def wM (_:FG7):Sp:=sp1 fun x H Q=>∃ i:Int,x = .int i /\ Q (.bl true) H
def jQ (K:FG7):Sp:=sp1 fun x H Q=>∃ b,zr K H x b /\ 1 <= b.length /\ b.length <= 16 /\ ∀ H',Grow [] H H' -> Q (.bl true) H'
def se (K:FG7):Sp:=sp4 fun x y z u H Q=>∃ (cs:List Call72) (left:List Nat) (k:Nat) (vs:List Int),zw K H x cs /\ y8 K H y left /\ z = .int k /\ zr K H u vs /\ (∀ j ∈ left,j < cs.length) /\ k < cs.length /\ left.length <= 40 /\ 0 <= (cg cs k).box /\ (cg cs k).box.toNat < vs.length /\ ∀ H',Grow [] H H' -> Q (.bl (xZ cs left k vs)) H'
def sf (K:FG7):Sp:=sp3 fun x y z H Q=>∃ (cs:List Call72) (k:Nat) (vs:List Int),zw K H x cs /\ y = .int k /\ zr K H z vs /\ k < cs.length /\ vs.length <= 16 /\ (cg cs k).deed.Ok /\ 0 <= (cg cs k).box /\ (cg cs k).box.toNat < vs.length /\ ∀ v H',Grow [] H H' -> zr K H' v (bh77 cs k vs) -> Q v H'
def xg (P:Program) (w:World) (N:Nat) (K:FG7):Sp:=fun xs H Q _=>∃ y z u t,xs = [y,z,u,t] /\ ∃ (cs:List Call72) (left:List Nat) (vs:List Int) (dk m:Nat),zw K H y cs /\ y8 K H z left /\ zr K H u vs /\ t = .ref dk /\ yR P w K cs dk m H /\ left.Nodup /\ (∀ k ∈ left,k < cs.length) /\ Calls72 vs.length cs /\ vs.length <= 16 /\ left.length < N /\ left.length <= 8 /\ m + fz73 left.length <= 1000000 ∧
 ∀ c H',Grow [dk] H H' -> yR P w K cs dk (m + fz73 left.length) H' -> (c = true ↔ yI cs left vs) -> Q (.bl c) H'
theorem XY {P:Program} {w:World} {K:FG7}:∀ vs H Q E,¬ xg P w 0 K vs H Q E:=by
 rintro vs H Q E h
 obtain ⟨y,z,u,t,rfl,cs,left,vs,dk,m,_,_,_,_,_,_,_,_,_,h,_⟩:=h
 exact absurd h (Nat.not_lt_zero _)
theorem rK {P:Program} {w:World} {N:Nat} {K:FG7} {a b c d:Str}:∀ vs H Q E,xg P w N K vs H Q E -> vs.length = [a,b,c,d].length:=by
 rintro vs H Q E ⟨y,z,u,t,rfl,_⟩; rfl
def jR (K:FG7):Sp:=sp3 fun x y z H Q=>∃ (b:List Int) (cs:List Call72) (o:List Nat),zr K H x b /\ b.length <= 16 /\ zw K H y cs /\ Calls72 b.length cs /\ y8 K H z o /\ w9 b cs o /\ ∀ H',Grow [] H H' -> Q (.bl true) H'
def ur (cs:List Call72) (x:Nat):List Call72:=cs.filter fun c=>decide (c.box = (x:Int))
structure Mv77 (b:List Int) (cs:List Call72):Prop where
 b1:1 <= b.length
 b16:b.length <= 16
 ok:Calls72 b.length cs
 c8:cs.length <= 8
 own:t5 cs
 yes:∀ x,x < b.length -> ∃ o,w9 b (ur cs x) o
 no:∀ o,¬ w9 b cs o
def u6 (K:FG7):Sp:=sp3 fun x y z H Q=>∃ (p:Addr) (b:List Int) (cs:List Call72),x = .ref p /\ Pot H p /\ zr K H y b /\ zw K H z cs /\ Mv77 b cs /\ ∀ H',Grow [p] H H' -> Pot H' p -> Q (.bl true) H'
theorem qG {m:Nat} {cs:List Call72} {x:Nat} (C:Calls72 m cs):Calls72 m (ur cs x) :=
 ⟨Nat.le_trans (List.length_filter_le _ _) C.len,fun c hc=>C.ok c (List.mem_filter.mp hc).1,fun b=>Nat.le_trans (List.filter_sublist.countP_le) (C.few b)⟩
theorem XZ {cs:List Call72} {x:Nat} (h:t5 cs):t5 (ur cs x):=jO ((jN h).sublist (List.filter_sublist.map _))
theorem X0 {b:List Int} {cs:List Call72} (h:∃ o,w9 b cs o):∃ o,ue cs b = some o /\ w9 b cs o:=by
 obtain ⟨o,ho⟩:=h
 cases e:ue cs b with
 | some o'=>exact ⟨o',rfl,uf e⟩
 | none=>exact (qC e ho).elim
theorem X1 {b:List Int} {cs:List Call72} (h:∀ o,¬ w9 b cs o):ue cs b = none:=by
 cases e:ue cs b with
 | some o'=>exact absurd (uf e) (h o')
 | none=>rfl
theorem u7 {b:List Int} {cs:List Call72}:yI cs (List.range cs.length) b ↔ ∃ o,w9 b cs o:=Iff.rfl
def jS (K:FG7):Sp:=sp3 fun x y z H Q=>∃ (p:Addr),x = .ref p /\ Pot H p /\ zr K H y [0,0] /\ zw K H z nt77 ∧
 ∀ (b':List Int) (cs':List Call72) (r:Addr) (vb vc:V) H',Mv77 b' cs' -> Grow [p] H H' -> Pot H' p -> SqT K H' r [vb,vc] -> zr K H' vb b' -> zw K H' vc cs' -> Q (.ref r) H'
theorem vy {c:TT} {t u:TS} {D:Ends} {σ:L2.St} {H:Hp} (Good:Bool -> Hp -> Prop) (hc:∀ K:Bool -> Hp -> Prop,(∀ b H',Good b H' -> K b H') -> c σ H K) (hr:∀ b H',Good b H' -> if b = true then t D σ H' else u D σ H'):tIfS c t u D σ H:=hc _ hr
def pr77 (c:Call72):List Int:=[c.hand,c.begun]
theorem Vd {cs:List Call72} (h:t5 cs) {i:Nat} {c:Call72} (hc:cs[i]? = some c):decide (pr77 c ∈ (cs.map pr77).take i) = false:=by
 refine decide_eq_false fun z=>?_
 rw [← List.map_take] at z
 obtain ⟨d,hd,e⟩:=List.mem_map.mp z
 obtain ⟨j,hj⟩:=List.mem_iff_getElem?.mp hd
 rw [List.getElem?_take] at hj
 split at hj
 ·rename_i lt
  have hl:=(List.getElem?_eq_some_iff.mp hc).1
  have e1:cg cs i = c:=yw hc
  have e2:cg cs j = d:=yw hj
  have e3:d.hand = c.hand /\ d.begun = c.begun:=by
   unfold pr77 at e
   injection e with a1 a2
   injection a2 with a2 _
   exact ⟨a1,a2⟩
  have:=h j i (by omega) hl (by rw [e1,e2]; exact e3.1) (by rw [e1,e2]; exact e3.2)
  omega
 ·cases hj
theorem Uw {α:Type} {S:α -> α -> Prop}:∀ {f:List α},f.Pairwise S -> ∀ {a b:α},a ∈ f -> b ∈ f -> a ≠ b -> S a b \/ S b a
 | [],_,_,_,ha,_,_=>nomatch ha
 | x :: f,h,a,b,ha,hb,ne=>by
  rw [List.pairwise_cons] at h
  rcases List.mem_cons.mp ha with rfl | ha'
  ·rcases List.mem_cons.mp hb with rfl | hb'
   ·exact absurd rfl ne
   ·exact .inl (h.1 b hb')
  ·rcases List.mem_cons.mp hb with rfl | hb'
   ·exact .inr (h.1 a ha')
   ·exact Uw h.2 ha' hb' ne
theorem jT {o:List Nat} (nd:o.Nodup):o.Pairwise fun a b=>o.idxOf a < o.idxOf b:=by
 rw [List.pairwise_iff_getElem]
 intro i j hi hj ij
 rw [nd.idxOf_getElem i hi,nd.idxOf_getElem j hj]
 exact ij
theorem u8 {cs:List Call72}:∀ {f:List Nat} {v:Int},(∀ k ∈ f,(cg cs k).answer = 0) -> wI cs v f = true -> f.Pairwise fun k _=>(cg cs k).deed.mk' 0 = 0
 | [],_,_,_=>.nil
 | k :: r,v,ha,h=>by
  have h':(if v = (cg cs k).answer then wI cs ((cg cs k).deed.mk' (cg cs k).answer) r else false) = true:=h
  by_cases c:v = (cg cs k).answer
  ·rw [if_pos c,ha k (by simp)] at h'
   refine List.pairwise_cons.mpr ⟨fun j hj=>?_,u8 (fun j hj=>ha j (by simp [hj])) h'⟩
   cases r with
   | nil=>cases hj
   | cons i r =>
    have h2:(if (cg cs k).deed.mk' 0 = (cg cs i).answer then wI cs ((cg cs i).deed.mk' (cg cs i).answer) r else false) = true:=h'
    by_cases c2:(cg cs k).deed.mk' 0 = (cg cs i).answer
    ·rw [c2]; exact ha i (by simp)
    ·rw [if_neg c2] at h2; cases h2
  ·rw [if_neg c] at h'; cases h'
def L77 (h0 h1:Int) (x0 x1:Nat) (a0 a1 a2 a3:Int):List Call72:=[⟨h0,x0,xX,a0,a1,0⟩,⟨h0,x1,yP,a2,a3,0⟩,⟨h1,x1,xX,a0,a1,0⟩,⟨h1,x0,yP,a2,a3,0⟩]
theorem VC {α:Type} {l:List α} {a b:α} (h:l.Perm [a,b]):l = [a,b] \/ l = [b,a]:=by
 match l,h.length_eq with
 | [x,y],_ =>
  have hx:x = a \/ x = b:=by simpa using h.mem_iff.mp (show x ∈ [x,y] by simp)
  rcases hx with rfl | rfl
  ·left
   have:=(List.perm_cons x).mp h
   rw [List.perm_singleton.mp this]
  ·right
   have:=(List.perm_cons x).mp (h.trans (List.Perm.swap ..))
   rw [List.perm_singleton.mp this]
theorem T8 {b:List Int} {x:Nat} {l p:Call72} (hx:x < b.length) (v0:b.getD x 0 = 0) (lb:l.box = (x:Int)) (pb:p.box = (x:Int)) (ld:l.deed = yP) (la:l.answer = 0) (pa:p.answer = 0) (hh:l.hand ≠ p.hand) :
  w9 b [l,p] [0,1] /\ w9 b [p,l] [1,0]:=by
 have e0:cg [l,p] 0 = l:=rfl
 have e1:cg [l,p] 1 = p:=rfl
 have f0:cg [p,l] 0 = p:=rfl
 have f1:cg [p,l] 1 = l:=rfl
 have m0:l.deed.mk' l.answer = 0:=by rw [ld,la]; rfl
 have s0:(b.set x 0).getD x 0 = 0:=yx hx
 have tl:l.box.toNat = x:=by rw [lb]; exact Int.toNat_natCast x
 have tp:p.box.toNat = x:=by rw [pb]; exact Int.toNat_natCast x
 refine ⟨⟨List.Perm.refl _,?_,?_⟩,⟨List.Perm.swap ..,?_,?_⟩⟩
 ·rw [yQ,yQ]
  simp only [List.any_cons,List.any_nil,Bool.or_false]
  unfold zy
  rw [e0,e1,decide_eq_false (fun z:p.hand = l.hand=>hh z.symm)]
  rfl
 ·rw [yi,e0,tl,v0,if_pos la.symm,m0,yi,e1,tp,s0,if_pos pa.symm]; rfl
 ·rw [yQ,yQ]
  simp only [List.any_cons,List.any_nil,Bool.or_false]
  unfold zy
  rw [f0,f1,decide_eq_false (fun z:p.hand = l.hand=>hh z.symm)]
  rfl
 ·rw [yi,f1,tl,v0,if_pos la.symm,m0,yi,f0,tp,s0,if_pos pa.symm]; rfl
theorem X2 {b:List Int} {cs:List Call72} {h0 h1:Int} {x0 x1:Nat} {a0 a1 a2 a3:Int} (b1:1 <= b.length) (b16:b.length <= 16) (hp:cs.Perm (L77 h0 h1 x0 x1 a0 a1 a2 a3)) (hh:h0 ≠ h1) (g0:0 <= h0 /\ h0 <= 15) (g1:0 <= h1 /\ h1 <= 15)
  (hx:x0 ≠ x1) (l0:x0 < b.length) (l1:x1 < b.length) (v0:b.getD x0 0 = 0) (v1:b.getD x1 0 = 0) (ta:0 <= a0) (tb:a0 <= a1) (tc:a2 <= a3) (td:a0 < a2):Mv77 b cs:=by
 have len:cs.length = 4:=hp.length_eq
 have okL:∀ c ∈ L77 h0 h1 x0 x1 a0 a1 a2 a3,CallOk72 b.length c /\ c.answer = 0:=fun c hc=>by
  have hput:xX.Ok:=fun l h z1 z2=>.inr ⟨by cases z1; cases z2; rfl,rfl⟩
  have hlook:yP.Ok:=fun l h z=>by cases z
  unfold L77 at hc
  simp only [List.mem_cons,List.not_mem_nil,or_false] at hc
  rcases hc with rfl | rfl | rfl | rfl
  ·exact ⟨⟨g0.1,g0.2,Int.natCast_nonneg _,by show (x0:Int) < _; omega,hput,ta,tb⟩,rfl⟩
  ·exact ⟨⟨g0.1,g0.2,Int.natCast_nonneg _,by show (x1:Int) < _; omega,hlook,by show 0 <= a2; omega,tc⟩,rfl⟩
  ·exact ⟨⟨g1.1,g1.2,Int.natCast_nonneg _,by show (x1:Int) < _; omega,hput,ta,tb⟩,rfl⟩
  ·exact ⟨⟨g1.1,g1.2,Int.natCast_nonneg _,by show (x0:Int) < _; omega,hlook,by show 0 <= a2; omega,tc⟩,rfl⟩
 have C:Calls72 b.length cs:=⟨by omega,fun c hc=>(okL c (hp.mem_iff.mp hc)).1,fun z=>Nat.le_trans List.countP_le_length (by omega)⟩
 refine ⟨b1,b16,C,by omega,jO ?_,fun x hx'=>?_,fun o ⟨so,sk,sa⟩=>?_⟩
 ·refine ((hp.map hb77).nodup_iff).mpr ?_
  show [(h0,a0),(h0,a2),(h1,a0),(h1,a2)].Nodup
  have e1:a0 ≠ a2:=by omega
  simp [hh,e1]
 ·have pf:(ur cs x).Perm ((L77 h0 h1 x0 x1 a0 a1 a2 a3).filter fun c=>decide (c.box = (x:Int))):=hp.filter _
  have i0:(x0:Int) ≠ (x1:Int):=fun z=>hx (by omega)
  by_cases c0:x = x0
  ·subst c0
   have e:(L77 h0 h1 x x1 a0 a1 a2 a3).filter (fun c=>decide (c.box = (x:Int))) = [⟨h0,x,xX,a0,a1,0⟩,⟨h1,x,yP,a2,a3,0⟩]:=by
    unfold L77
    simp [List.filter_cons,i0.symm]
   rw [e] at pf
   obtain ⟨t1,t2⟩:=T8 (l:=⟨h1,x,yP,a2,a3,0⟩) (p:=⟨h0,x,xX,a0,a1,0⟩) hx' v0 rfl rfl rfl rfl rfl (fun z=>hh z.symm)
   rcases VC pf with z | z <;> rw [z]
   ·exact ⟨_,t2⟩
   ·exact ⟨_,t1⟩
  by_cases c1:x = x1
  ·subst c1
   have e:(L77 h0 h1 x0 x a0 a1 a2 a3).filter (fun c=>decide (c.box = (x:Int))) = [⟨h0,x,yP,a2,a3,0⟩,⟨h1,x,xX,a0,a1,0⟩]:=by
    unfold L77
    simp [List.filter_cons,i0]
   rw [e] at pf
   obtain ⟨t1,t2⟩:=T8 (l:=⟨h0,x,yP,a2,a3,0⟩) (p:=⟨h1,x,xX,a0,a1,0⟩) hx' v1 rfl rfl rfl rfl rfl hh
   rcases VC pf with z | z <;> rw [z]
   ·exact ⟨_,t1⟩
   ·exact ⟨_,t2⟩
  ·have e:(L77 h0 h1 x0 x1 a0 a1 a2 a3).filter (fun c=>decide (c.box = (x:Int))) = []:=by
    rw [List.filter_eq_nil_iff]
    intro c hc z
    unfold L77 at hc
    simp only [List.mem_cons,List.not_mem_nil,or_false] at hc
    have z':=of_decide_eq_true z
    rcases hc with rfl | rfl | rfl | rfl
    ·have:(x0:Int) = (x:Int):=z'; omega
    ·have:(x1:Int) = (x:Int):=z'; omega
    ·have:(x1:Int) = (x:Int):=z'; omega
    ·have:(x0:Int) = (x:Int):=z'; omega
   rw [e] at pf
   rw [List.perm_nil.mp pf]
   exact ⟨[],List.Perm.refl _,rfl,rfl⟩
 ·have nd:o.Nodup:=so.nodup_iff.mpr List.nodup_range
  have lt:∀ k ∈ o,k < cs.length:=fun k hk=>List.mem_range.mp (so.mem_iff.mp hk)
  have ans:∀ k ∈ o,(cg cs k).answer = 0 /\ 0 <= (cg cs k).box:=fun k hk=>by
   have:=okL _ (hp.mem_iff.mp (sY (lt k hk)))
   exact ⟨this.2,this.1.b0⟩
  have at_:∀ c ∈ L77 h0 h1 x0 x1 a0 a1 a2 a3,∃ i,i ∈ o /\ cg cs i = c:=fun c hc=>by
   obtain ⟨i,hi⟩:=List.mem_iff_getElem?.mp (hp.mem_iff.mpr hc)
   exact ⟨i,so.mem_iff.mpr (List.mem_range.mpr (List.getElem?_eq_some_iff.mp hi).1),yw hi⟩
  obtain ⟨i0,m0,e0⟩:=at_ ⟨h0,x0,xX,a0,a1,0⟩ (by simp [L77])
  obtain ⟨i1,m1,e1⟩:=at_ ⟨h0,x1,yP,a2,a3,0⟩ (by simp [L77])
  obtain ⟨i2,m2,e2⟩:=at_ ⟨h1,x1,xX,a0,a1,0⟩ (by simp [L77])
  obtain ⟨i3,m3,e3⟩:=at_ ⟨h1,x0,yP,a2,a3,0⟩ (by simp [L77])
  have tne:a0 ≠ a2:=by omega
  have hands:∀ {i j:Nat} {h:Int} {x y:Nat},i ∈ o -> j ∈ o -> cg cs i = ⟨h,x,xX,a0,a1,0⟩ -> cg cs j = ⟨h,y,yP,a2,a3,0⟩ -> o.idxOf i < o.idxOf j:=fun {i j h x y} mi mj ei ej=>by
   have ne:i ≠ j:=fun z=>by rw [z,ej] at ei; injection ei with _ _ _ z4; exact tne z4.symm
   have pw:=(xE.mp sk).and (jT nd)
   rcases Uw pw mi mj ne with z | z
   ·exact z.2
   ·refine absurd ?_ z.1
    unfold zy
    rw [ei,ej]
    simp [td]
  have boxes:∀ {i j:Nat} {h h':Int} {x:Nat},x < b.length -> i ∈ o -> j ∈ o -> cg cs i = ⟨h,x,xX,a0,a1,0⟩ -> cg cs j = ⟨h',x,yP,a2,a3,0⟩ -> o.idxOf j < o.idxOf i:=fun {i j h h' x} hx' mi mj ei ej=>by
   have ne:i ≠ j:=fun z=>by rw [z,ej] at ei; injection ei with _ _ _ z4; exact tne z4.symm
   have hf:=v3 (x:=x) (fun k hk=>(ans k hk).2) hx' sa
   rw [uV (x:=x) (fun k hk=>of_decide_eq_true (List.mem_filter.mp hk).2) hx'] at hf
   have pw:=(u8 (fun k hk=>(ans k (List.mem_filter.mp hk).1).1) hf).and ((jT nd).sublist List.filter_sublist)
   have fi:i ∈ o.filter (tQ cs x):=List.mem_filter.mpr ⟨mi,decide_eq_true (by rw [ei])⟩
   have fj:j ∈ o.filter (tQ cs x):=List.mem_filter.mpr ⟨mj,decide_eq_true (by rw [ej])⟩
   rcases Uw pw fi fj ne with z | z
   ·have z1:=z.1
    rw [ei] at z1
    have z2:xX.mk' 0 = 0:=z1
    exact absurd z2 (by decide)
   ·exact z.2
  have k1:=hands m0 m1 e0 e1
  have k2:=boxes l1 m2 m1 e2 e1
  have k3:=hands m2 m3 e2 e3
  have k4:=boxes l0 m0 m3 e0 e3
  omega
theorem Ux:Mv77 [0,0] nt77:=X2 (h0:=0) (h1:=1) (x0:=0) (x1:=1) (a0:=0) (a1:=1) (a2:=2) (a3:=3) (by decide) (by decide) (List.Perm.refl _) (by decide) (by decide) (by decide) (by decide) (by decide) (by decide) rfl rfl (by decide) (by decide) (by decide) (by decide)
theorem Ve {hs bs:List Nat} {ws:List Int} {s t:Int} {ds:List Call72} (hhs:hs.Perm (List.range 16)) (hbs:bs.Perm (List.range (2 + ws.length))) (n16:2 + ws.length <= 16) (s1:1 <= s) (t0:0 <= t) (hd:ds.Perm nt77) :
  Mv77 (bs.map fun k=>([0,0] ++ ws).getD k 0) (ds.map (Uo hs bs s t)):=by
 have bl:bs.length = 2 + ws.length:=by rw [hbs.length_eq,List.length_range]
 have nb:bs.Nodup:=hbs.nodup_iff.mpr List.nodup_range
 have nh:hs.Nodup:=hhs.nodup_iff.mpr List.nodup_range
 have hl:hs.length = 16:=by rw [hhs.length_eq,List.length_range]
 have m0:0 ∈ bs:=hbs.mem_iff.mpr (List.mem_range.mpr (by omega))
 have m1:1 ∈ bs:=hbs.mem_iff.mpr (List.mem_range.mpr (by omega))
 have x0:bs.idxOf 0 < bs.length:=List.idxOf_lt_length_of_mem m0
 have x1:bs.idxOf 1 < bs.length:=List.idxOf_lt_length_of_mem m1
 have gh:∀ i,i < 16 -> hs.getD i 0 = hs[i]! /\ hs.getD i 0 < 16:=fun i hi=>by
  have h1:i < hs.length:=by omega
  refine ⟨by simp [h1],?_⟩
  rw [List.getD_eq_getElem?_getD,List.getElem?_eq_getElem h1]
  exact List.mem_range.mp (hhs.mem_iff.mp (List.getElem_mem h1))
 have ne:hs.getD 0 0 ≠ hs.getD 1 0:=by
  have h0':0 < hs.length:=by omega
  have h1':1 < hs.length:=by omega
  rw [List.getD_eq_getElem?_getD,List.getD_eq_getElem?_getD,List.getElem?_eq_getElem h0',List.getElem?_eq_getElem h1']
  exact fun z=>absurd ((List.getElem_inj nh).mp z) (by decide)
 have vx:∀ {x v:Nat} (h:bs.idxOf x < bs.length),([0,0] ++ ws).getD x 0 = (0:Int) -> x ∈ bs -> (bs.map fun k=>([0,0] ++ ws).getD k 0).getD (bs.idxOf x) 0 = 0:=fun {x v} h hv hm=>by
  rw [List.getD_eq_getElem?_getD,List.getElem?_map,List.getElem?_eq_getElem h,List.getElem_idxOf]
  exact hv
 refine X2 (h0:=((hs.getD 0 0:Nat):Int)) (h1:=((hs.getD 1 0:Nat):Int)) (x0:=bs.idxOf 0) (x1:=bs.idxOf 1) (a0:=0 * s + t) (a1:=1 * s + t) (a2:=2 * s + t) (a3:=3 * s + t) (by rw [List.length_map]; omega) (by rw [List.length_map]; omega) ?_ (fun z=>ne (by omega)) ⟨by omega,by have:=(gh 0 (by decide)).2; omega⟩ ⟨by omega,by have:=(gh 1 (by decide)).2; omega⟩ (fun z=>?_) (by rw [List.length_map]; exact x0) (by rw [List.length_map]; exact x1) (vx (v:=0) x0 rfl m0) (vx (v:=0) x1 rfl m1) (by omega) (by omega) (by omega) (by omega)
 ·exact hd.map _
 ·have e0:=List.getElem_idxOf x0
  have e1:=List.getElem_idxOf x1
  have:bs[bs.idxOf 0] = bs[bs.idxOf 1]:=by congr 1
  rw [e0,e1] at this
  cases this
theorem ZQ {K:FG7} {H:Hp} {x:V} {c:Call72} (h:yz K H x c):Dat K H x (V1 c):=by
 obtain ⟨r,rd,rfl,h1,h2⟩:=h
 exact .tup h1 (.cons (.int _) (.cons (.int _) (.cons (yu.dat ⟨rd,rfl,h2⟩) (.cons (.int _) (.cons (.int _) (.cons (.int _) .nil))))))
theorem wY {K:FG7} {H:Hp}:∀ {xs:List V} {cs:List Call72},AllR (yz K H) xs cs -> DatAll K H xs (cs.map V1)
 | [],[],_=>.nil
 | [],_ :: _,h=>h.elim
 | _ :: _,[],h=>h.elim
 | _ :: _,_ :: _,h=>.cons (ZQ h.1) (wY h.2)
def Uy:PyData:=.tuple [Ze [0,0],.tuple (nt77.map V1)]
theorem jU {K:FG7} {H:Hp} {r:Addr} {vb vc:V} (h:SqT K H r [vb,vc]) (hb:zr K H vb [0,0]) (hc:zw K H vc nt77):Dq K H (.ref r) Uy:=by
 obtain ⟨rc,xs,rfl,h1,h2⟩:=hc
 exact Dat.dq (.tup h (.cons hb.dat (.cons (.tup h1 (wY h2)) .nil)))
theorem Vf:Uy.depth <= 100:=by decide +kernel
end L3
namespace My
open PySem PySem.Spec PyProof.Rows L2 L3
def top (i:Nat):Stmt:=PySem.Challenge.pw_joinedasks_k77_whole_serial_not_together.main.body.getD i (.Pass ⟨0,0,0,0⟩)
section
variable {P:Program} {w:World} {K:FG7} {mg:Str -> Option Value} {base:Heap} {n:Nat} {f:Addr} {fd:FuncData}
theorem yr:FnScope ["put_one","look","calls"] [] (zi (top 37)):=⟨rfl,rfl,rfl,by decide +kernel,rfl,by decide +kernel,by decide +kernel⟩
theorem ul (F:Fun K "not_together" "not_together" (top 37) f fd) (B:Blt mg)      :
  FnOk P w K mg base CX0 (n + 1) f fd [] (XE K):=by
 refine F.ok yr Up (fun cdv A outer s H vs Q E hr h=>?_)
 obtain ⟨rfl,q⟩:=h
 refine ⟨_,(ze (zI (i:=0) yr.nd rfl (Or.inl rfl) (z8 (za zf (za zf (za zf zd))))) (ze (zI (i:=1) yr.nd rfl (Or.inl rfl) (z8 (za zf (za Z1 (za Z1 zd))))) (ze (zI (i:=2) yr.nd rfl (Or.inl rfl) (z8 (za (z8 (za zf (za zf (za (pv 0) (za zf (za zf (za zf zd))))))) (za (z8 (za zf (za zf (za (pv 1) (za zf (za zf (za zf zd))))))) (za (z8 (za zf (za zf (za (pv 0) (za zf (za zf (za zf zd))))))) (za (z8 (za zf (za zf (za (pv 1) (za zf (za zf (za zf zd))))))) zd)))))) (zg (zq (z8 (za (z8 (za zf (za zf zd))) (za (pv 2) zd)))))))),?_⟩
 refine yC (fun v H'=>∃ rp:Addr,v = .ref rp /\ SqT K H' rp xX.vs /\ Grow [] H H') (fun Kk hk=>⟨szl rfl,fun t ht=>hk _ _ ⟨t,rfl,SqT.of zb,Grow.new ht _⟩⟩) ?_
 rintro _ H1 ⟨rp,rfl,hp1,g1⟩
 refine yC (fun v H'=>∃ rl:Addr,v = .ref rl /\ SqT K H' rl yP.vs /\ Grow [] H1 H') (fun Kk hk=>⟨szl rfl,fun t ht=>hk _ _ ⟨t,rfl,SqT.of zb,Grow.new ht _⟩⟩) ?_
 rintro _ H2 ⟨rl,rfl,hl2,g2⟩
 have hp2:=g2.sqT hp1
 refine yC (fun v H'=>zw K H' v nt77 /\ Grow [] H2 H') (fun Kk hk=>⟨_,rfl,szl rfl,fun t0 h0=>⟨_,rfl,szl rfl,fun t1 h1=>⟨_,rfl,szl rfl,fun t2 h2=>⟨_,rfl,szl rfl,fun t3 h3=>⟨szl rfl,fun t4 h4=>?_⟩⟩⟩⟩⟩) ?_
 ·have G0:=Grow.new (m:=[]) h0 (.tup [.int 0,.int 0,.ref rp,.int 0,.int 1,.int 0])
  have G1:=Grow.new (m:=[]) h1 (.tup [.int 0,.int 1,.ref rl,.int 2,.int 3,.int 0])
  have G2:=Grow.new (m:=[]) h2 (.tup [.int 1,.int 1,.ref rp,.int 0,.int 1,.int 0])
  have G3:=Grow.new (m:=[]) h3 (.tup [.int 1,.int 0,.ref rl,.int 2,.int 3,.int 0])
  have G4:=Grow.new (m:=[]) h4 (.tup [.ref t0,.ref t1,.ref t2,.ref t3])
  have GA:=G0.trans (G1.trans (G2.trans (G3.trans G4)))
  refine hk _ _ ⟨⟨t4,_,rfl,SqT.of zb,⟨t0,rp,rfl,(G1.trans (G2.trans (G3.trans G4))).sqT (SqT.of zb),GA.sqT hp2⟩,⟨t1,rl,rfl,(G2.trans (G3.trans G4)).sqT (SqT.of zb),GA.sqT hl2⟩,⟨t2,rp,rfl,(G3.trans G4).sqT (SqT.of zb),GA.sqT hp2⟩,⟨t3,rl,rfl,G4.sqT (SqT.of zb),GA.sqT hl2⟩,trivial⟩,GA⟩
 rintro vc H3 ⟨hc3,g3⟩
 refine ⟨szl rfl,fun tb hb=>⟨_,rfl,szl rfl,fun r hr=>?_⟩⟩
 have G5:=Grow.new (m:=[]) hb (.tup [.int 0,.int 0])
 have G6:=Grow.new (m:=[]) hr (.tup [.ref tb,vc])
 exact q r (.ref tb) vc _ (g1.trans (g2.trans (g3.trans (G5.trans G6)))) (SqT.of zb) ⟨tb,rfl,G6.sqT (SqT.of zb)⟩ ((G5.trans G6).calls72 hc3)
theorem x4:FnScope ["deed","value","add","low","high","result"] ["deed","value"] (zi (top 11)):=⟨rfl,rfl,rfl,by decide +kernel,rfl,by decide +kernel,by decide +kernel⟩
theorem Uz (F:Fun K "made" "made" (top 11) f fd) (B:Blt mg)      :
  FnOk P w K mg base CX0 (n + 1) f fd ["deed","value"] (vJ K):=by
 refine F.ok x4 yf (fun cdv A outer s H vs Q E hr h=>?_)
 obtain ⟨x,y,rfl,d,v,⟨a,rfl,hs⟩,rfl,q⟩:=h
 refine ⟨_,(ze (yU (pv 0) (yo rfl (zm (zh (i:=2) x4.nd rfl (Or.inl rfl)) (zm (zh (i:=3) x4.nd rfl (Or.inl rfl)) (zm (zh (i:=4) x4.nd rfl (Or.inl rfl)) zU))))) (ze (zI (i:=5) x4.nd rfl (Or.inl rfl) (zJ xn (pv 1) (pv 2))) (ze (zW (PW.pt (wQ (wP (vA (pv 3))) (xR (zF sC (pv 3) (pv 5) (zD _))))) (zg (zI (i:=5) x4.nd rfl (Or.inl rfl) (pv 3))) zu) (ze (zW (PW.pt (wQ (wP (vA (pv 4))) (xR (zF jY (pv 4) (pv 5) (zD _))))) (zg (zI (i:=5) x4.nd rfl (Or.inl rfl) (pv 4))) zu) (zg (zq (pv 5))))))),?_⟩
 obtain ⟨ad,lo,hi⟩:=d
 refine ⟨_,rfl,a,_,rfl,hs,rfl,_,_,rfl,_,_,rfl,_,_,rfl,rfl,?_⟩
 refine ⟨_,rfl,_,rfl,_,_,rfl,rfl,?_⟩
 cases lo with
 | none =>
  refine ⟨_,rfl,_,rfl,iteF (iteF ?_)⟩
  cases hi with
  | none=>exact ⟨_,rfl,_,rfl,iteF (iteF ⟨_,rfl,q⟩)⟩
  | some u =>
   refine ⟨_,rfl,_,rfl,iteT ⟨_,rfl,_,rfl,_,_,rfl,rfl,_,rfl,?_⟩⟩
   have q':Q (.int (if u < v + ad then u else v + ad)) H:=q
   refine ite2 (fun c=>?_) (fun c=>?_)
   ·have c':u < v + ad:=of_decide_eq_true c
    rw [if_pos c'] at q'
    exact ⟨_,rfl,_,rfl,q'⟩
   ·have c':¬ u < v + ad:=fun z=>c (decide_eq_true z)
    rw [if_neg c'] at q'
    exact ⟨_,rfl,q'⟩
 | some l =>
  refine ⟨_,rfl,_,rfl,iteT ⟨_,rfl,_,rfl,_,_,rfl,rfl,_,rfl,?_⟩⟩
  have q0:Q (.int (tw hi (if l > v + ad then l else v + ad))) H:=q
  clear q
  refine ite2 (fun c=>?_) (fun c=>?_)
  ·have c':l > v + ad:=of_decide_eq_true c
   rw [if_pos c'] at q0
   have q:=q0
   refine ⟨_,rfl,?_⟩
   cases hi with
   | none=>exact ⟨_,rfl,_,rfl,iteF (iteF ⟨_,rfl,q⟩)⟩
   | some u =>
    refine ⟨_,rfl,_,rfl,iteT ⟨_,rfl,_,rfl,_,_,rfl,rfl,_,rfl,?_⟩⟩
    have q':Q (.int (if u < l then u else l)) H:=q
    refine ite2 (fun c=>?_) (fun c=>?_)
    ·have c':u < l:=of_decide_eq_true c
     rw [if_pos c'] at q'
     exact ⟨_,rfl,_,rfl,q'⟩
    ·have c':¬ u < l:=fun z=>c (decide_eq_true z)
     rw [if_neg c'] at q'
     exact ⟨_,rfl,q'⟩
  ·have c':¬ l > v + ad:=fun z=>c (decide_eq_true z)
   rw [if_neg c'] at q0
   have q:=q0
   cases hi with
   | none=>exact ⟨_,rfl,_,rfl,iteF (iteF ⟨_,rfl,q⟩)⟩
   | some u =>
    refine ⟨_,rfl,_,rfl,iteT ⟨_,rfl,_,rfl,_,_,rfl,rfl,_,rfl,?_⟩⟩
    have q':Q (.int (if u < v + ad then u else v + ad)) H:=q
    refine ite2 (fun c=>?_) (fun c=>?_)
    ·have c':u < v + ad:=of_decide_eq_true c
     rw [if_pos c'] at q'
     exact ⟨_,rfl,_,rfl,q'⟩
    ·have c':¬ u < v + ad:=fun z=>c (decide_eq_true z)
     rw [if_neg c'] at q'
     exact ⟨_,rfl,q'⟩
theorem zC:FnScope ["board","calls","order","values","number","hand","box","deed","begun","ended","answer"] ["board","calls","order"] (zi (top 26)):=⟨rfl,rfl,rfl,by decide +kernel,rfl,by decide +kernel,by decide +kernel⟩
theorem um (F:Fun K "are_answered" "are_answered" (top 26) f fd) (B:Blt mg) (qc0:zo P w K mg base n "made" ["deed","value"] (vJ K))     :
  FnOk P w K mg base CX0 (n + 1) f fd ["board","calls","order"] (ju K):=by
 refine F.ok zC xb (fun cdv A outer s H vs Q E hr h=>?_)
 obtain ⟨x,y,z,rfl,b,cs,ns,hb,hc,hn,ok,hlt,q⟩:=h
 refine ⟨_,(ze (zI (i:=3) zC.nd rfl (Or.inl rfl) (yp xy rfl B.list sM (za (pv 0) zd))) (ze (xm PassesOwn.never rfl (yL (pv 2)) (zh (i:=4) zC.nd rfl (Or.inl rfl)) (ze (yU (zG zX (pv 1) (pv 4) (fun _ _=>rfl)) (yo rfl (zm (zh (i:=5) zC.nd rfl (Or.inl rfl)) (zm (zh (i:=6) zC.nd rfl (Or.inl rfl)) (zm (zh (i:=7) zC.nd rfl (Or.inl rfl)) (zm (zh (i:=8) zC.nd rfl (Or.inl rfl)) (zm (zh (i:=9) zC.nd rfl (Or.inl rfl)) (zm (zh (i:=10) zC.nd rfl (Or.inl rfl)) zU)))))))) (ze (zW (zF sB (zG yE (pv 3) (pv 6) (fun _ _=>rfl)) (pv 10) (zD _)) (zg (zq yc)) zu) (zg (yU (zj qc0 hr rfl (za (pv 7) (za (pv 10) zd))) (Z3 (pv 3) (pv 6) tj)))))) (zg (zq yc)))),?_⟩
 obtain ⟨rb,rfl,hrb⟩:=id hb
 obtain ⟨rc,xs,rfl,hrc,hall⟩:=id hc
 obtain ⟨r,rfl,hr0⟩:=id hn
 refine ⟨_,rfl,rb,_,rfl,.inr hrb,fun l hl0=>?_⟩
 have g0:=Grow.new (m:=[l]) hl0 (.lst (b.map V.int))
 refine ⟨_,rfl,r,rfl,⟨_,g0.sqT hr0⟩,rX (xs:=zH ns) (fun i σ H'=>∃ (vs:List Int) (e4 e5 e6 e7 e8 e9 e10:Option V),σ = [some (.ref rb),some (.ref rc),some (.ref r),some (.ref l),e4,e5,e6,e7,e8,e9,e10] /\ H' l = some (.lst (vs.map V.int)) /\ vs.length = b.length /\ Grow [l] H H' /\ an72 cs vs (ns.drop i) = an72 cs b ns) ⟨b,_,_,_,_,_,_,_,rfl,zb,rfl,g0,rfl⟩ (fun i σ H' _ ⟨_,_,_,_,_,_,_,_,_,_,_,g,_⟩=>g.sqT hr0) ?_ ?_⟩
 ·rintro i x σ H1 hx ⟨vs,e4,e5,e6,e7,e8,e9,e10,rfl,hl1,vl,g1,hk⟩
  obtain ⟨k,hki,rfl⟩:=yK hx
  have hk':=hlt k (List.mem_of_getElem? hki)
  obtain ⟨z,hz,rz,rd,rfl,sz,sd⟩:=hall.getR (List.getElem?_eq_getElem hk')
  have o:=ok _ (List.getElem_mem hk')
  have ec:cg cs k = cs[k]:=yw (List.getElem?_eq_getElem hk')
  rw [YE hki,yi,ec] at hk
  refine ⟨_,rfl,_,rfl,rc,_,_,.ref rz,rfl,rfl,g1.sqT hrc,zt hz,rz,_,rfl,g1.sqT sz,rfl,_,_,rfl,_,_,rfl,_,_,rfl,_,_,rfl,_,_,rfl,_,_,rfl,rfl,?_⟩
  try dsimp only
  have b0:=o.b0
  have b1:=o.b1
  have hbx:cs[k].box.toNat < vs.length:=by omega
  have hat:atI (vs.map V.int) cs[k].box = some (.int (vs.getD cs[k].box.toNat 0)):=by
   have:cs[k].box = (cs[k].box.toNat:Int):=by omega
   rw [this]
   refine zt ?_
   rw [List.getElem?_map,List.getElem?_eq_getElem hbx,Int.toNat_natCast,List.getD_eq_getElem?_getD,List.getElem?_eq_getElem hbx]
   rfl
  refine ⟨_,rfl,_,rfl,l,_,_,_,rfl,rfl,SqL.of hl1,hat,_,rfl,rfl,_,rfl,?_⟩
  by_cases ha:vs.getD cs[k].box.toNat 0 = cs[k].answer
  ·rw [if_pos ha] at hk
   refine xK (by rw [decide_eq_true (congrArg V.int ha)]; rfl) (yn ?_)
   refine ⟨_,rfl,_,rfl,_,_,rfl,cs[k].deed,cs[k].answer,⟨rd,rfl,g1.sqT sd⟩,rfl,_,rfl,_,rfl,l,_,_,cs[k].box.toNat,rfl,rfl,hl1,?_,⟨vs.set cs[k].box.toNat (cs[k].deed.mk' cs[k].answer),_,_,_,_,_,_,_,rfl,?_,by rw [List.length_set,vl],g1.trans (Grow.set hl1 (by simp) _),hk⟩⟩
   ·exact VT b0 (by rw [List.length_map]; exact hbx)
   ·rw [zb,List.map_set]
  ·rw [if_neg ha] at hk
   refine xT (by rw [decide_eq_false fun z=>ha (V.int.inj z)]; rfl) ?_
   have:=q _ (Grow.shrink hl0 g1)
   rw [← hk] at this
   exact this
 ·rintro σ H1 ⟨vs,e4,e5,e6,e7,e8,e9,e10,rfl,hl1,vl,g1,hk⟩
  rw [zR,List.drop_length] at hk
  have:=q _ (Grow.shrink hl0 g1)
  rw [← hk] at this
  exact this
theorem zE:FnScope ["calls","order","latest","number","hand","box","deed","begun","ended","answer"] ["calls","order"] (zi (top 33)):=⟨rfl,rfl,rfl,by decide +kernel,rfl,by decide +kernel,by decide +kernel⟩
theorem ut (F:Fun K "keeps_hands" "keeps_hands" (top 33) f fd) (B:Blt mg)      :
  FnOk P w K mg base CX0 (n + 1) f fd ["calls","order"] (XB K):=by
 refine F.ok zE yf (fun cdv A outer s H vs Q E hr h=>?_)
 obtain ⟨x,y,rfl,cs,o,hc,ok,ho,olt,o40,q⟩:=h
 refine ⟨_,(ze (zI (i:=2) zE.nd rfl (Or.inl rfl) jA) (ze (xm PassesOwn.never rfl (yL (pv 1)) (zh (i:=3) zE.nd rfl (Or.inl rfl)) (ze (yU (zG zX (pv 0) (pv 3) (fun _ _=>rfl)) (yo rfl (zm (zh (i:=4) zE.nd rfl (Or.inl rfl)) (zm (zh (i:=5) zE.nd rfl (Or.inl rfl)) (zm (zh (i:=6) zE.nd rfl (Or.inl rfl)) (zm (zh (i:=7) zE.nd rfl (Or.inl rfl)) (zm (zh (i:=8) zE.nd rfl (Or.inl rfl)) (zm (zh (i:=9) zE.nd rfl (Or.inl rfl)) zU)))))))) (ze (zW (zF sC (WF (Room.u173 hr) (pv 2) (pv 4) zf ⟨rfl,rfl,rfl,rfl⟩) (pv 7) (zD _)) (zg (zq yc)) zu) (zg (Y5 (Room.u173 hr) (pv 2) (pv 4) (pv 7) rfl))))) (zg (zq yc)))),?_⟩
 obtain ⟨rc,xs,rfl,hrc,hall⟩:=id hc
 obtain ⟨ro,rfl,hro⟩:=id ho
 have b0:∀ k ∈ o,0 <= (cg cs k).begun:=fun k hk=>ok _ (sY (olt k hk))
 refine yC (fun v H'=>∃ d,v = .ref d /\ H d = none /\ H' = upd H d (.dK [])) (fun Kk hk=>fun d hd=>hk _ _ ⟨d,rfl,hd,rfl⟩) ?_
 rintro _ _ ⟨d,rfl,hd,rfl⟩
 have g0:=Grow.new (m:=[]) hd (.dK [])
 refine ⟨_,rfl,ro,rfl,⟨_,g0.sqT hro⟩,rX (xs:=zH o) (fun i σ H'=>∃ (e3 e4 e5 e6 e7 e8 e9:Option V) (kvs:List (Key × V)),σ = [some (.ref rc),some (.ref ro),some (.ref d),e3,e4,e5,e6,e7,e8,e9] /\ H' d = some (.dK kvs) /\ kvs.length <= i /\ (∀ h:Int,valV kvs (Sum.inl h) = (xM cs (o.take i) h).map V.int) /\ kh77 cs (o.take i) = true /\ Grow [d] H H') ⟨_,_,_,_,_,_,_,[],rfl,zb,Nat.le_refl _,fun h=>rfl,rfl,g0.wk⟩ (fun i σ H' _ z=>by obtain ⟨_,_,_,_,_,_,_,_,_,_,_,_,_,g⟩:=z; exact g.sqT hro) ?_ ?_⟩
 ·rintro i v σ H1 hv ⟨e3,e4,e5,e6,e7,e8,e9,kvs,rfl,hd1,kl,hvl,hkh,g1⟩
  obtain ⟨k,hki,rfl⟩:=yK hv
  have hko:=List.mem_of_getElem? hki
  have hk':=olt k hko
  have hi:=(List.getElem?_eq_some_iff.mp hki).1
  obtain ⟨z,hz,rz,rd,rfl,sz,sd⟩:=hall.getR (List.getElem?_eq_getElem hk')
  have ec:cg cs k = cs[k]:=yw (List.getElem?_eq_getElem hk')
  have ks:=XA hkh (b0 k hko) fun j hj=>b0 j (List.mem_of_mem_take hj)
  have et:o.take (i + 1) = o.take i ++ [k]:=by rw [List.take_succ,hki]; rfl
  rw [ec] at ks
  generalize cs[k] = c at sz sd ec ks
  try dsimp only
  refine ⟨_,rfl,_,rfl,rc,_,_,.ref rz,rfl,rfl,g1.sqT hrc,zt hz,rz,_,rfl,g1.sqT sz,rfl,_,_,rfl,_,_,rfl,_,_,rfl,_,_,rfl,_,_,rfl,_,_,rfl,rfl,?_⟩
  try dsimp only
  have hg:=hvl c.hand
  refine yv (fun t H'=>t = decide ((xM cs (o.take i) c.hand).getD 0 > c.begun) /\ H' = H1) (fun Kk hk=>⟨_,rfl,d,rfl,.inl ⟨_,.inl hd1⟩,_,rfl,_,DGet.k (k:=Sum.inl c.hand) hd1,?_⟩) ?_
  ·rw [hg]
   cases e:xM cs (o.take i) c.hand with
   | none=>exact ⟨_,rfl,_,_,rfl,rfl,_,rfl,hk _ _ ⟨by rw [e]; rfl,rfl⟩⟩
   | some w=>exact ⟨_,rfl,_,_,rfl,rfl,_,rfl,hk _ _ ⟨by rw [e]; rfl,rfl⟩⟩
  rintro _ H1 ⟨rfl,rfl⟩
  by_cases lt:(xM cs (o.take i) c.hand).getD 0 > c.begun
  ·rw [decide_eq_true lt] at ks ⊢
   have e:kh77 cs o = false:=by
    cases e:kh77 cs o with
    | false=>rfl
    | true =>
     rw [← List.take_append_drop (i + 1) o,et] at e
     have:=W1 e
     rw [ks] at this; cases this
   have:=q H1 (Grow.shrink hd g1)
   rw [e] at this
   exact iteT this
  ·rw [decide_eq_false lt] at ks ⊢
   refine iteF (yn ?_)
   refine ⟨_,rfl,_,rfl,_,rfl,d,_,rfl,DPut.k (k:=Sum.inl c.hand) hd1 (lt72 (by omega)),⟨_,_,_,_,_,_,_,putK kvs (Sum.inl c.hand) (.int c.begun),rfl,zb,?_,fun h=>?_,by rw [et]; exact ks,g1.trans (Grow.setK73 hd1 (by simp))⟩⟩
   ·have:=yy kvs (Sum.inl c.hand) (V.int c.begun)
    omega
   ·rw [yJ,et,uX,ec]
    by_cases e:c.hand = h
    ·rw [if_pos e,if_pos (by rw [e])]; rfl
    ·rw [if_neg e,if_neg (fun z=>e (Sum.inl.inj z).symm)]; exact hvl h
 ·rintro σ H1 ⟨e3,e4,e5,e6,e7,e8,e9,kvs,rfl,hd1,kl,hvl,hkh,g1⟩
  rw [zR,List.take_length] at hkh
  have:=q H1 (Grow.shrink hd g1)
  rw [hkh] at this
  exact this
theorem qH:FnScope ["thing"] ["thing"] (zi (top 6)):=⟨rfl,rfl,rfl,by decide +kernel,rfl,by decide +kernel,by decide +kernel⟩
theorem qI (F:Fun K "is_whole" "is_whole" (top 6) f fd) (B:Blt mg)      :
  FnOk P w K mg base CX0 (n + 1) f fd ["thing"] (yg K):=by
 refine F.ok qH yZ (fun cdv A outer s H vs Q E hr h=>?_)
 obtain ⟨x,rfl,⟨T,ty⟩,q⟩:=h
 refine ⟨_,(zg (zq (xk (zn zL rfl B.isinstance zB (za (pv 0) (za (y6 rfl B.int UT) zd))) (xq (qY (zn zL rfl B.isinstance zB (za (pv 0) (za (y6 rfl B.bool Vm) zd)))))))),?_⟩
 cases x with
 | non=>cases (show T = "NoneType" from ty); exact ⟨_,rfl,_,_,_,false,rfl,rfl,rfl,_,rfl,iteF q⟩
 | bl y=>cases (show T = "bool" from ty); exact ⟨_,rfl,_,_,_,true,rfl,rfl,rfl,_,rfl,iteT ⟨_,rfl,_,_,_,true,rfl,rfl,rfl,_,rfl,q⟩⟩
 | int i=>cases (show T = "int" from ty); exact ⟨_,rfl,_,_,_,true,rfl,rfl,rfl,_,rfl,iteT ⟨_,rfl,_,_,_,false,rfl,rfl,rfl,_,rfl,q⟩⟩
 | str y=>cases (show T = "str" from ty); exact ⟨_,rfl,_,_,_,false,rfl,rfl,rfl,_,rfl,iteF q⟩
 | byt y=>exact ty.elim
 | flt y=>exact ty.elim
 | ty y=>exact ty.elim
 | ref a =>
  rcases ty with ⟨rfl,xs,hq⟩ | ⟨rfl,xs,hq⟩ | ⟨rfl,kvs,hq⟩
  ·exact ⟨_,rfl,_,_,_,false,rfl,.inl ⟨rfl,xs,hq⟩,rfl,_,rfl,iteF q⟩
  ·exact ⟨_,rfl,_,_,_,false,rfl,.inr (.inl ⟨rfl,xs,hq⟩),rfl,_,rfl,iteF q⟩
  ·exact ⟨_,rfl,_,_,_,false,rfl,.inr (.inr ⟨rfl,kvs,hq⟩),rfl,_,rfl,iteF q⟩
theorem qJ:FnScope ["thing","numbers"] ["thing","numbers"] (zi (top 25)):=⟨rfl,rfl,rfl,by decide +kernel,rfl,by decide +kernel,by decide +kernel⟩
theorem qK (F:Fun K "is_order" "is_order" (top 25) f fd) (B:Blt mg) (qc0:zo P w K mg base n "is_whole" ["thing"] (yg K))  (g_sorted:mg "sorted" = none)   :
  FnOk P w K mg base CX0 (n + 1) f fd ["thing","numbers"] (uH K):=by
 refine F.ok qJ yf (fun cdv A outer s H vs Q E hr h=>?_)
 obtain ⟨x,y,rfl,d,m,n,hd,hl,hn,q⟩:=h
 refine ⟨_,(ze (zW (PW.pt (xS (z5 (zN (zn (YD (K:=K) rfl) rfl B.isinstance zB (za (pv 0) (za (y6 rfl B.tuple ye) zd))))) (y4 (z5 (zN (zn (y7 rfl) rfl B.all j8 (za (zQ (CSc.of (N':=["number"]) (sub:=[none]) (zi (top 25)) ["thing","numbers"] rfl rfl (by decide +kernel) rfl) rfl (yL (pv 0)) (fun _ _ _ _ _ _=>zh (i:=0) (show (["number"]:List Str).Nodup by decide +kernel) rfl (Or.inl rfl)) (fun _ _ _ _ _ _=>zM) (fun _ _ _ _ _ _=>(zj qc0 hr rfl (za (pv 0) zd)))) zd))))))) (zg (zq yc)) zu) (zg (zq (yN (UZ hr) (zn (wU (K:=K) rfl) rfl g_sorted jd (za (pv 0) zd)) (pv 1) (zD _))))),?_⟩
 refine yv (fun b H'=>Grow [] H H' /\ (b = true -> ¬ ∃ ns,y0 n d ns) /\ (b = false -> ∃ (r:Addr) (zs:List Int),x = .ref r /\ d = .tuple (zs.map PyData.int) /\ SqT K H r (zs.map V.int) /\ zs.length < 64)) (fun Kk hk=>⟨_,rfl,_,d,m,_,_,rfl,hd,YF d,_,rfl,?_⟩) ?_
 ·cases ht:Ww d with
  | false=>exact iteT (hk _ _ ⟨Grow.refl _ _,(fun _=>YG ht n),fun z=>nomatch z⟩)
  | true =>
   obtain ⟨r,xs,ds,rfl,rfl,hs,os⟩:=Wx hd ht
   obtain ⟨h64,hnd⟩:=hl ds rfl
   have xl:=os.length
   refine iteF ⟨_,rfl,r,rfl,⟨_,hs⟩,yj (xs:=xs) (fun i ys H'=>ys = ((ds.take i).map tO).map V.bl /\ H' = H) ⟨rfl,rfl⟩ (fun i ys H' z=>by rw [z.2]; exact hs) ?_ ?_⟩
   ·rintro i x ys H' hx ⟨rfl,rfl⟩
    obtain ⟨e,he,oe⟩:=os.get hx
    obtain ⟨t,ty,_,_,hw⟩:=VZ oe (hnd e (List.mem_of_getElem? he))
    refine ⟨_,rfl,_,rfl,⟨t,ty⟩,lt72 (by rw [List.length_map,List.length_map,List.length_take]; omega),?_,rfl⟩
    rw [hw,List.take_succ,he,List.map_append,List.map_append]; rfl
   ·rintro ys H' ⟨rfl,rfl⟩ l hl'
    rw [xl,List.take_length]
    refine ⟨l,ds.map tO,rfl,SqL.of zb,_,rfl,hk _ _ ⟨Grow.new hl' _,fun z=>?_,fun z=>?_⟩⟩
    ·intro ho
     rw [List.all_map,show (ds.all (id ∘ tO)) = ds.all tO from rfl,YH ho] at z
     cases z
    ·rw [Bool.not_eq_false',List.all_map] at z
     obtain ⟨zs,rfl⟩:=Vu (show ds.all tO = true from z)
     rw [uG os] at hs
     exact ⟨r,zs,rfl,rfl,hs,by rw [List.length_map] at h64; exact h64⟩
 rintro b H1 ⟨g1,hb1,hb2⟩
 cases b with
 | true=>exact iteT (q _ _ g1 ⟨(fun z=>nomatch z),fun z=>absurd z (hb1 rfl)⟩)
 | false =>
  obtain ⟨r,zs,rfl,rfl,hs,h64⟩:=hb2 rfl
  obtain ⟨l,rfl,hl'⟩:=hn
  refine iteF (yn ⟨_,rfl,r,zs,rfl,g1.sqT hs,h64,fun p ms hp hperm hpw=>?_⟩)
  have gp:=Grow.new (m:=[]) hp (.lst (ms.map V.int))
  refine ⟨_,rfl,p,l,_,_,rfl,rfl,SqL.of zb,(g1.trans gp).sqL hl',vq _,jr _,q _ _ (g1.trans gp) ?_⟩
  rw [if_neg (by decide),zY,we,decide_eq_true_eq]
  exact s8 hperm hpw
theorem xh:FnScope ["board","calls","numbers","number","call"] ["board","calls"] (zi (top 22)):=⟨rfl,rfl,rfl,by decide +kernel,rfl,by decide +kernel,by decide +kernel⟩
theorem qL (F:Fun K "by_boxes" "by_boxes" (top 22) f fd) (B:Blt mg)   (g_enumerate:mg "enumerate" = none)   :
  FnOk P w K mg base CX0 (n + 1) f fd ["board","calls"] (jI K):=by
 refine F.ok xh yf (fun cdv A outer s H vs Q E hr h=>?_)
 obtain ⟨x,y,rfl,b,cs,hb,hc,b16,ok,q⟩:=h
 refine ⟨_,(ze (vn (i:=2) xh.nd rfl rfl (CSc.of (N':=["value"]) (sub:=[none]) (zi (top 22)) ["board","calls","numbers","number","call"] rfl rfl (by decide +kernel) rfl) rfl (yL (pv 0)) (fun _ _ _ _ _ _=>zh (i:=0) (show (["value"]:List Str).Nodup by decide +kernel) rfl (Or.inl rfl)) (fun _ _ _ _ _ _=>zM) (fun _ _ _ _ _ _=>(ja zd))) (ze (xm PassesOwn.never rfl (wm true (K:=K) rfl rfl g_enumerate (za (pv 1) zd)) (yo rfl (zm (zh (i:=3) xh.nd rfl (Or.inl rfl)) (zm (zh (i:=4) xh.nd rfl (Or.inl rfl)) zU))) (zg (wz (Wh PySem.F.plainAttrs_list PySem.F.slot_list_append PySem.F.type_list_append sL (zG yE (pv 2) (zG zX (pv 4) zf (fun _ _=>rfl)) (fun _ _=>rfl)) (za (pv 3) zd))))) (zg (zq (pv 2))))),?_⟩
 obtain ⟨rb,rfl,hrb⟩:=id hb
 obtain ⟨rc,xs,rfl,hrc,hall⟩:=id hc
 refine yC (fun v H'=>∃ (l:Addr) (as:List Addr),v = .ref l /\ H' l = some (.lst (as.map V.ref)) /\ l ∉ as /\ H l = none /\ as.length = b.length /\ as.Nodup /\ (∀ a ∈ as,H a = none /\ H' a = some (.lst [])) /\ Grow [] H H') (fun Kk hk=>⟨_,rfl,rb,rfl,⟨_,hrb⟩,yj (xs:=b.map V.int) (fun i ys H'=>∃ as:List Addr,ys = as.map V.ref /\ as.length = i /\ as.Nodup /\ (∀ a ∈ as,H a = none /\ H' a = some (.lst [])) /\ Grow [] H H') ⟨[],rfl,rfl,List.nodup_nil,(fun a h=>nomatch h),Grow.refl _ _⟩ (fun i ys H' ⟨_,_,_,_,_,g⟩=>g.sqT hrb) ?_ ?_⟩) ?_
 ·rintro i x ys H' hx ⟨as,rfl,al,nd,ha,g⟩
  have hi:=(List.getElem?_eq_some_iff.mp hx).1
  rw [List.length_map] at hi
  refine ⟨szl rfl,fun a h0=>⟨lt72 (by rw [List.length_map]; omega),as ++ [a],by rw [List.map_append]; rfl,by rw [List.length_append,List.length_singleton,al],?_,?_,g.trans (Grow.new h0 _)⟩⟩
  ·refine List.nodup_append.mpr ⟨nd,by simp,fun x hx y hy=>?_⟩
   rw [List.mem_singleton.mp hy]
   rintro rfl
   rw [(ha x hx).2] at h0; cases h0
  ·intro x hx
   rcases List.mem_append.mp hx with hx | hx
   ·exact ⟨(ha x hx).1,by rw [zv (zz (ha x hx).2 h0)]; exact (ha x hx).2⟩
   ·rw [List.mem_singleton.mp hx]
    exact ⟨g.free (by simp) h0,zb⟩
 ·rintro ys H' ⟨as,rfl,al,nd,ha,g⟩ l hl
  rw [List.length_map] at al
  refine hk _ _ ⟨l,as,rfl,zb,fun z=>?_,g.free (by simp) hl,al,nd,fun a h=>⟨(ha a h).1,by rw [zv (zz (ha a h).2 hl)]; exact (ha a h).2⟩,g.trans (Grow.new hl _)⟩
  rw [(ha l z).2] at hl; cases hl
 rintro _ H0 ⟨l,as,rfl,hl0,nl,nl0,al,nd,ha,g0⟩
 have xl:=hall.len
 refine ⟨_,rfl,rc,_,rfl,g0.sqT hrc,vR (xs:=xs) (fun i σ H'=>∃ (nss:List (List Nat)) (e3 e4:Option V),σ = [some (.ref rb),some (.ref rc),some (.ref l),e3,e4] /\ H' l = some (.lst (as.map V.ref)) /\ Bx72 H' as nss /\ (∀ j,j < as.length -> nss.getD j [] = (List.range i).filter (tQ cs j)) /\ Grow as H0 H') ⟨as.map fun _=>[],_,_,rfl,hl0,⟨by rw [List.length_map],fun j a h=>?_⟩,fun j hj=>?_,Grow.refl _ _⟩ (fun i σ H' _ ⟨_,_,_,_,_,_,_,g⟩=>(g.sqT (g0.sqT hrc):SqT K H' rc xs)) ?_ ?_⟩
 ·rw [(ha a (List.mem_of_getElem? h)).2,List.getD_eq_getElem?_getD,List.getElem?_map,h]; rfl
 ·rw [List.getD_eq_getElem?_getD,List.getElem?_map,List.getElem?_eq_getElem hj]; rfl
 ·rintro i x σ H1 T hx ⟨nss,e3,e4,rfl,hl1,bx,hn,g1⟩ hT
  obtain ⟨c,hci,hcat⟩:=hall.get hx
  obtain ⟨rz,rd,rfl,sz,_⟩:=(g1.call72 (g0.call72 hcat))
  have gT:=Grow.new (m:=as) hT (.tup [.int i,.ref rz])
  have o:=ok.ok c (List.mem_of_getElem? hci)
  have b0:=o.b0
  have b1:=o.b1
  obtain ⟨j,hj⟩:∃ j:Nat,c.box = j:=⟨c.box.toNat,by omega⟩
  have hjl:j < as.length:=by omega
  have haj:as[j]? = some as[j]:=List.getElem?_eq_getElem hjl
  have aT:∀ {a:Addr} {o:HO},H1 a = some o -> upd H1 T (.tup [.int i,.ref rz]) a = some o:=fun h=>by rw [zv (zz h hT)]; exact h
  have nT:(nss.getD j []).length <= 40:=by
   rw [hn j hjl]
   have h1:=List.length_filter_le (tQ cs j) (List.range i)
   have h2:=(List.getElem?_eq_some_iff.mp hci).1
   have h3:=ok.len
   rw [List.length_range] at h1
   omega
  refine ⟨T,_,rfl,SqT.of zb,rfl,_,_,rfl,_,_,rfl,rfl,?_⟩
  refine ⟨_,rfl,_,rfl,rz,_,1,.int c.box,rfl,rfl,gT.sqT sz,zt (j:=1) rfl,l,_,_,.ref as[j],rfl,rfl,SqL.of (aT hl1),by rw [hj]; exact zt (by rw [List.getElem?_map,haj]; rfl),.inl ⟨rfl,_,SqL.of (aT (bx.at_ j _ haj))⟩,_,rfl,as[j],_,_,rfl,rfl,aT (bx.at_ j _ haj),lt72 (by rw [zR]; omega),?_⟩
  refine ⟨nss.set j (nss.getD j [] ++ [i]),_,_,rfl,?_,⟨by rw [List.length_set,bx.len],fun j' a' h'=>?_⟩,fun j' hj'=>?_,g1.trans (gT.trans (Grow.set (aT (bx.at_ j _ haj)) (List.mem_of_getElem? haj) _))⟩
  ·rw [zv (fun z=>nl (by rw [z]; exact List.mem_of_getElem? haj))]; exact aT hl1
  ·by_cases e:j' = j
   ·subst e
    cases h'.symm.trans haj
    rw [zb,yx (by rw [bx.len]; exact hjl),vU]; rfl
   ·have ne:a' ≠ as[j]:=fun z=>e (by
     have h1:as[j']? = as[j]?:=by rw [h',haj,z]
     exact (List.getElem?_inj (by have:=(List.getElem?_eq_some_iff.mp h').1; exact this) nd).mp h1)
    rw [zv ne,aT (bx.at_ j' a' h'),yW (fun z=>e z.symm)]
  ·rw [Xq,yw hci]
   by_cases e:j' = j
   ·subst e
    rw [if_pos hj,yx (by rw [bx.len]; exact hjl),hn j' hj']
   ·rw [if_neg (by omega),yW (fun z=>e z.symm),hn j' hj',List.append_nil]
 ·rintro σ H1 ⟨nss,e3,e4,rfl,hl1,bx,hn,g1⟩
  rw [xl] at hn
  refine ⟨_,rfl,q l _ _ (Grow.shrinkL (fun a h=>(ha a h).1) (g0.wk.trans g1)) nl0 hl1 ?_⟩
  have en:nss = (List.range b.length).map (nb73 cs):=by
   refine List.ext_getElem? fun j=>?_
   rw [List.getElem?_map]
   by_cases h:j < b.length
   ·have:=hn j (by omega)
    rw [List.getD_eq_getElem?_getD,List.getElem?_eq_getElem (by rw [bx.len]; omega)] at this
    rw [List.getElem?_range h,List.getElem?_eq_getElem (by rw [bx.len]; omega)]
    exact congrArg some this
   ·rw [List.getElem?_eq_none (by rw [bx.len]; omega),List.getElem?_eq_none (by rw [List.length_range]; omega)]; rfl
  rw [← en]
  exact bx.ls
theorem X3:FnScope ["thing"] ["thing"] (zi (top 9)):=⟨rfl,rfl,rfl,by decide +kernel,rfl,by decide +kernel,by decide +kernel⟩
theorem X4 (F:Fun K "is_end" "is_end" (top 9) f fd) (B:Blt mg) (qc0:zo P w K mg base n "is_whole" ["thing"] (yg K))     :
  FnOk P w K mg base CX0 (n + 1) f fd ["thing"] (sO K):=by
 refine F.ok X3 yZ (fun cdv A outer s H vs Q E hr h=>?_)
 obtain ⟨x,rfl,kn,q⟩:=h
 refine ⟨_,(zg (zq (UH (UG (Z2 (pv 0))) (xq (zj qc0 hr rfl (za (pv 0) zd)))))),?_⟩
 refine ⟨x,rfl,_,rfl,?_⟩
 cases x with
 | non=>exact iteT q
 | _=>exact iteF ⟨_,rfl,_,rfl,kn,q⟩
theorem xI:FnScope ["thing","add","low","high"] ["thing"] (zi (top 10)):=⟨rfl,rfl,rfl,by decide +kernel,rfl,by decide +kernel,by decide +kernel⟩
theorem ZR (F:Fun K "is_deed" "is_deed" (top 10) f fd) (B:Blt mg) (qc0:zo P w K mg base n "is_end" ["thing"] (sO K)) (qc1:zo P w K mg base n "is_whole" ["thing"] (yg K))     :
  FnOk P w K mg base CX0 (n + 1) f fd ["thing"] (uA K):=by
 refine F.ok xI yZ (fun cdv A outer s H vs Q E hr h=>?_)
 obtain ⟨x,rfl,h⟩:=h
 refine ⟨_,(ze (zW (PW.pt (xS (z5 (zN (zn zL rfl B.isinstance zB (za (pv 0) (za (y6 rfl B.tuple ye) zd))))) (y4 (zF sB (zn zp rfl B.len yA (za (pv 0) zd)) zf (zD _))))) (zg (zq yc)) zu) (ze (yU (pv 0) (yo rfl (zm (zh (i:=1) xI.nd rfl (Or.inl rfl)) (zm (zh (i:=2) xI.nd rfl (Or.inl rfl)) (zm (zh (i:=3) xI.nd rfl (Or.inl rfl)) zU))))) (ze (zW (z5 (PW.pt (wQ (zN (zj qc1 hr rfl (za (pv 1) zd))) (wQ (zN (zj qc0 hr rfl (za (pv 2) zd))) (xR (zN (zj qc0 hr rfl (za (pv 3) zd)))))))) (zg (zq yc)) zu) (ze (zW (PW.pt (xS (wP (Z2 (pv 2))) (y4 (wP (Z2 (pv 3)))))) (zg (zq yc)) zu) (zg (zq (UH (yN jY (pv 2) (pv 3) (zD _)) (xq (xk (yN sA (pv 2) (pv 3) (zD _)) (xq (yN sA (pv 1) zf (zD _)))))))))))),?_⟩
 rcases h with ⟨T,hT,ty,q⟩ | ⟨a,xs,rfl,hs,hk,q⟩
 ·have kt:PySem.W.kitOne K (.type T) (.type "tuple") = some false:=by
   cases x with
   | non=>cases (show T = "NoneType" from ty); rfl
   | bl y=>cases (show T = "bool" from ty); rfl
   | int i=>cases (show T = "int" from ty); rfl
   | str y=>cases (show T = "str" from ty); rfl
   | byt y=>exact ty.elim
   | flt y=>exact ty.elim
   | ty y=>exact ty.elim
   | ref a =>
    rcases ty with ⟨rfl,xs,hq⟩ | ⟨rfl,xs,hq⟩ | ⟨rfl,kvs,hq⟩
    ·exact absurd rfl hT
    ·rfl
    ·rfl
  exact ⟨_,rfl,_,_,_,false,rfl,ty,kt,_,rfl,iteT (iteT q)⟩
 ·refine ⟨_,rfl,_,_,_,true,rfl,.inl ⟨rfl,xs,hs⟩,rfl,_,rfl,iteF ⟨_,rfl,a,xs,rfl,.inr hs,rfl,_,rfl,?_⟩⟩
  by_cases hl:xs.length = 3
  ·obtain ⟨y1,y2,y3,rfl⟩:=len3 hl
   refine iteF ⟨_,rfl,a,_,rfl,hs,rfl,_,_,rfl,_,_,rfl,_,_,rfl,rfl,?_⟩
   refine ⟨_,rfl,_,rfl,hk y1 (by simp),_,rfl,?_⟩
   refine ite2 (fun c1=>?_) (fun c1=>?_)
   ·obtain ⟨i1,rfl⟩:=Yj c1
    refine ⟨_,rfl,_,rfl,hk y2 (by simp),_,rfl,?_⟩
    refine ite2 (fun c2=>?_) (fun c2=>?_)
    ·obtain ⟨o2,rfl⟩:=Vn c2
     refine ⟨_,rfl,_,rfl,hk y3 (by simp),_,rfl,?_⟩
     by_cases c3:endV y3 = true
     ·obtain ⟨o3,rfl⟩:=Vn c3
      rw [c3]
      refine iteF ?_
      cases o2 with
      | none=>exact ⟨_,rfl,_,rfl,iteT (iteT (by cases o3 <;> exact q))⟩
      | some l =>
       cases o3 with
       | none=>exact ⟨_,rfl,_,rfl,iteF ⟨_,rfl,_,rfl,iteT q⟩⟩
       | some u =>
        refine ⟨_,rfl,_,rfl,iteF ⟨_,rfl,_,rfl,iteF ?_⟩⟩
        refine ⟨_,rfl,_,rfl,_,_,rfl,rfl,_,rfl,?_⟩
        have q':Q (.bl (decide (l < u) || (decide (l = u) && decide (i1 = 0)))) H:=q
        refine ite2 (fun c=>?_) (fun c=>?_)
        ·rw [c] at q'; exact q'
        ·rw [Bool.eq_false_iff.mpr c] at q'
         refine ⟨_,rfl,_,rfl,rfl,_,rfl,?_⟩
         refine ite2 (fun d=>?_) (fun d=>?_)
         ·have d':l = u:=V.int.inj (of_decide_eq_true d)
          refine ⟨_,rfl,rfl,?_⟩
          rw [decide_eq_true d'] at q'
          have e:decide (V.int i1 = V.int 0) = decide (i1 = 0):=by simp
          rw [e]; exact q'
         ·have d':¬ l = u:=fun z=>d (by rw [z]; simp)
          rw [decide_eq_false d'] at q'
          exact q'
     ·have e:endV y3 = false:=Bool.eq_false_iff.mpr c3
      rw [e]
      refine iteT ?_
      have z:wC [V.int i1,ov o2,y3] = false:=by show (true && (endV (ov o2) && (endV y3 && _))) = false; rw [e]; simp
      rw [z] at q; exact q
    ·have e:endV y2 = false:=Bool.eq_false_iff.mpr c2
     refine iteT ?_
     have z:wC [V.int i1,y2,y3] = false:=by show (true && (endV y2 && (endV y3 && _))) = false; rw [e]; simp
     rw [z] at q; exact q
   ·have e:uz y1 = false:=Bool.eq_false_iff.mpr c1
    refine iteT ?_
    have z:wC [y1,y2,y3] = false:=by show (uz y1 && (endV y2 && (endV y3 && _))) = false; rw [e]; simp
    rw [z] at q; exact q
  ·have e:decide (V.int (xs.length:Int) = V.int 3) = false:=decide_eq_false fun z=>hl (by have:=V.int.inj z; omega)
   rw [e]
   refine iteT ?_
   rw [rZ hl] at q; exact q
theorem rL:FnScope ["thing","least","greatest"] ["thing","least","greatest"] (zi (top 7)):=⟨rfl,rfl,rfl,by decide +kernel,rfl,by decide +kernel,by decide +kernel⟩
theorem rM (F:Fun K "is_within" "is_within" (top 7) f fd) (B:Blt mg) (qc0:zo P w K mg base n "is_whole" ["thing"] (yg K))     :
  FnOk P w K mg base CX0 (n + 1) f fd ["thing","least","greatest"] (wR K):=by
 refine F.ok rL xb (fun cdv A outer s H vs Q E hr h=>?_)
 obtain ⟨x,y,z,rfl,i,l,u,rfl,rfl,rfl,q⟩:=h
 refine ⟨_,(zg (zq (xk (zj qc0 hr rfl (za (pv 0) zd)) (xq (q8 u9 u9 (pv 1) (pv 0) (pv 2)))))),?_⟩
 refine ⟨_,rfl,_,rfl,vH,_,rfl,iteT ⟨_,rfl,_,rfl,_,_,rfl,rfl,_,rfl,?_⟩⟩
 by_cases c:l <= i
 ·refine xT (decide_eq_true c) ⟨_,rfl,_,_,rfl,rfl,?_⟩
  rw [decide_eq_true c] at q; exact q
 ·refine xK (decide_eq_false c) ?_
  rw [decide_eq_false c] at q; exact q
theorem wy:FnScope ["board","thing","hand","box","deed"] ["board","thing"] (zi (top 17)):=⟨rfl,rfl,rfl,by decide +kernel,rfl,by decide +kernel,by decide +kernel⟩
theorem X5 (F:Fun K "is_ask" "is_ask" (top 17) f fd) (B:Blt mg) (qc0:zo P w K mg base n "is_deed" ["thing"] (uA K)) (qc1:zo P w K mg base n "is_within" ["thing","least","greatest"] (wR K))   {t_LAST_HAND:Tok} (g_LAST_HAND:mg "LAST_HAND" = some (.int 15 t_LAST_HAND))  :
  FnOk P w K mg base CX0 (n + 1) f fd ["board","thing"] (sT K):=by
 refine F.ok wy yf (fun cdv A outer s H vs Q E hr h=>?_)
 obtain ⟨x,y,rfl,b,k,⟨rb,rfl,hb⟩,⟨r,rd,rfl,h1,h2⟩,⟨k1,k2,k3,k4,k5⟩,q⟩:=h
 refine ⟨_,(ze (zW (PW.pt (xS (z5 (zN (zn zL rfl B.isinstance zB (za (pv 1) (za (y6 rfl B.tuple ye) zd))))) (y4 (zF sB (zn zp rfl B.len yA (za (pv 1) zd)) zf (zD _))))) (zg (zq yc)) zu) (ze (yU (pv 1) (yo rfl (zm (zh (i:=2) wy.nd rfl (Or.inl rfl)) (zm (zh (i:=3) wy.nd rfl (Or.inl rfl)) (zm (zh (i:=4) wy.nd rfl (Or.inl rfl)) zU))))) (zg (zq (xk (zj qc1 hr rfl (za (pv 2) (za zf (za (vz rfl g_LAST_HAND (show RelV (.int 15) (.int 15 t_LAST_HAND) from ⟨_,rfl⟩)) zd)))) (xk (zj qc1 hr rfl (za (pv 3) (za zf (za (zJ qZ (zn zp rfl B.len yA (za (pv 0) zd)) zf) zd)))) (xq (zj qc0 hr rfl (za (pv 4) zd))))))))),?_⟩
 have hl:(b.map V.int).length = b.length:=List.length_map ..
 refine ⟨_,rfl,_,_,_,true,rfl,.inl ⟨rfl,_,h1⟩,rfl,_,rfl,iteF ⟨_,rfl,r,_,rfl,.inr h1,rfl,_,rfl,iteF ?_⟩⟩
 refine ⟨_,rfl,r,_,rfl,h1,rfl,_,_,rfl,_,_,rfl,_,_,rfl,rfl,?_⟩
 refine ⟨_,rfl,_,_,_,rfl,_,_,_,rfl,rfl,rfl,_,rfl,xT (by rw [decide_eq_true k1,decide_eq_true k2]; rfl) ?_⟩
 refine ⟨_,rfl,_,rfl,rb,_,rfl,.inr hb,_,_,rfl,rfl,_,_,_,rfl,_,_,_,rfl,rfl,rfl,_,rfl,xT (by rw [decide_eq_true k3,decide_eq_true (show k.box <= ((b.map V.int).length:Int) - 1 by rw [hl]; omega)]; rfl) ?_⟩
 refine ⟨_,rfl,_,rfl,.inr ⟨rd,_,rfl,h2,?_,?_⟩⟩
 ·intro v hv
  simp only [Deed.vs,List.mem_cons,List.mem_nil_iff,or_false] at hv
  rcases hv with rfl | rfl | rfl
  ·exact vH
  ·exact UW _
  ·exact UW _
 ·rw [Za k5]; exact q
theorem xJ:FnScope ["board","thing","begun","ended","answer"] ["board","thing"] (zi (top 21)):=⟨rfl,rfl,rfl,by decide +kernel,rfl,by decide +kernel,by decide +kernel⟩
theorem ZS (F:Fun K "is_call" "is_call" (top 21) f fd) (B:Blt mg) (qc0:zo P w K mg base n "is_whole" ["thing"] (yg K)) (qc1:zo P w K mg base n "is_ask" ["board","thing"] (sT K))     :
  FnOk P w K mg base CX0 (n + 1) f fd ["board","thing"] (wV K):=by
 refine F.ok xJ yf (fun cdv A outer s H vs Q E hr h=>?_)
 obtain ⟨x,y,rfl,b,c,hb,hc,ok,q⟩:=h
 refine ⟨_,(ze (zW (PW.pt (xS (z5 (zN (zn zL rfl B.isinstance zB (za (pv 1) (za (y6 rfl B.tuple ye) zd))))) (xS (zF sB (zn zp rfl B.len yA (za (pv 1) zd)) zf (zD _)) (y4 (z5 (zN (zj qc1 hr rfl (za (pv 0) (za (yV Yd (pv 1) xv (xw zf)) zd))))))))) (zg (zq yc)) zu) (ze (yU (yV Yd (pv 1) (xw zf) xv) (yo rfl (zm (zh (i:=2) xJ.nd rfl (Or.inl rfl)) (zm (zh (i:=3) xJ.nd rfl (Or.inl rfl)) (zm (zh (i:=4) xJ.nd rfl (Or.inl rfl)) zU))))) (zg (zq (xk (zj qc0 hr rfl (za (pv 2) zd)) (xk (zj qc0 hr rfl (za (pv 3) zd)) (xk (zj qc0 hr rfl (za (pv 4) zd)) (xq (q8 u9 u9 zf (pv 2) (pv 3)))))))))),?_⟩
 obtain ⟨r,rd,rfl,hr0,hrd⟩:=id hc
 refine yv (fun b H'=>b = false /\ Grow [] H H') (fun Kk hk=>⟨_,rfl,_,"tuple","tuple",true,rfl,.inl ⟨rfl,_,hr0⟩,rfl,_,rfl,iteF ⟨_,rfl,r,_,rfl,.inr hr0,rfl,_,rfl,iteF ⟨_,rfl,_,rfl,_,rfl,r,_,rfl,hr0,(fun z=>absurd z.2 (by decide:¬ HT.sIx 6 6 (some 3) = 6)),fun p hp=>⟨_,_,rfl,b,⟨c.hand,c.box,c.deed⟩,(Grow.new (m:=[]) hp _).board hb,⟨p,rd,rfl,SqT.of zb,(Grow.new (m:=[]) hp _).sqT hrd⟩,⟨ok.h0,ok.h1,ok.b0,ok.b1,ok.d⟩,_,rfl,hk _ _ ⟨rfl,Grow.new hp _⟩⟩⟩⟩⟩) ?_
 rintro _ H1 ⟨rfl,g1⟩
 refine iteF (yn ?_)
 refine ⟨_,rfl,_,rfl,r,_,rfl,g1.sqT hr0,(fun z=>absurd z.1 (by decide:¬ HT.sIx 6 0 (some 3) = 0)),fun p hp=>⟨p,_,rfl,SqT.of zb,rfl,_,_,rfl,_,_,rfl,_,_,rfl,rfl,?_⟩⟩
 refine ⟨_,rfl,_,rfl,vH,_,rfl,iteT ⟨_,rfl,_,rfl,vH,_,rfl,iteT ⟨_,rfl,_,rfl,vH,_,rfl,iteT ⟨_,rfl,_,_,rfl,rfl,_,rfl,xT (decide_eq_true ok.t0) ⟨_,rfl,_,_,rfl,rfl,?_⟩⟩⟩⟩⟩
 have:=q _ (g1.trans (Grow.new hp (.tup (cutV (c.vs rd) (some 3) none))))
 rw [← decide_eq_true ok.t1] at this
 exact this
theorem qM:FnScope ["thing"] ["thing"] (zi (top 15)):=⟨rfl,rfl,rfl,by decide +kernel,rfl,by decide +kernel,by decide +kernel⟩
theorem qN (F:Fun K "is_board" "is_board" (top 15) f fd) (B:Blt mg) (qc0:zo P w K mg base n "is_whole" ["thing"] (yg K))   {t_MOST_BOXES:Tok} (g_MOST_BOXES:mg "MOST_BOXES" = some (.int 16 t_MOST_BOXES))  :
  FnOk P w K mg base CX0 (n + 1) f fd ["thing"] (vM K):=by
 refine F.ok qM yZ (fun cdv A outer s H vs Q E hr h=>?_)
 obtain ⟨x,rfl,b,⟨r,rfl,hs⟩,b1,b2,q⟩:=h
 refine ⟨_,(ze (zW (PW.pt (xS (z5 (zN (zn zL rfl B.isinstance zB (za (pv 0) (za (y6 rfl B.tuple ye) zd))))) (y4 (z5 (q9 u9 u9 zf (zn zp rfl B.len yA (za (pv 0) zd)) (vz rfl g_MOST_BOXES (show RelV (.int 16) (.int 16 t_MOST_BOXES) from ⟨_,rfl⟩))))))) (zg (zq yc)) zu) (zg (zq (zn (y7 rfl) rfl B.all j8 (za (zQ (CSc.of (N':=["value"]) (sub:=[none]) (zi (top 15)) ["thing"] rfl rfl (by decide +kernel) rfl) rfl (yL (pv 0)) (fun _ _ _ _ _ _=>zh (i:=0) (show (["value"]:List Str).Nodup by decide +kernel) rfl (Or.inl rfl)) (fun _ _ _ _ _ _=>zM) (fun _ _ _ _ _ _=>(zj qc0 hr rfl (za (pv 0) zd)))) zd))))),?_⟩
 have hl:(b.map V.int).length = b.length:=List.length_map ..
 refine ⟨_,rfl,_,_,_,true,rfl,.inl ⟨rfl,_,hs⟩,rfl,_,rfl,iteF ?_⟩
 refine ⟨_,rfl,r,_,rfl,.inr hs,_,_,rfl,rfl,_,rfl,xT (decide_eq_true (by rw [hl]; omega)) ⟨_,_,rfl,rfl,_,rfl,xK (by rw [decide_eq_true (show ((b.map V.int).length:Int) <= 16 by rw [hl]; omega)]; rfl) ?_⟩⟩
 refine ⟨_,rfl,r,rfl,⟨_,hs⟩,vL (fun _=>V.bl true) hs (by rw [hl]; omega) ?_ ?_⟩
 ·intro x H1 R hx g k
  obtain ⟨i,_,rfl⟩:=List.mem_map.mp hx
  exact ⟨_,rfl,_,rfl,vH,k _ (Grow.refl _ _)⟩
 ·intro H1 p g hp
  refine ⟨p,b.map (fun _=>true),rfl,SqL.of (by rw [zb,jl]),?_⟩
  rw [sS]
  exact q _ (g.trans (Grow.new hp _))
theorem sg:FnScope ["thing"] ["thing"] (zi (top 16)):=⟨rfl,rfl,rfl,by decide +kernel,rfl,by decide +kernel,by decide +kernel⟩
theorem sh (F:Fun K "need_board" "need_board" (top 16) f fd) (B:Blt mg) (qc0:zo P w K mg base n "is_board" ["thing"] (vM K))     :
  FnOk P w K mg base CX0 (n + 1) f fd ["thing"] (wg K):=by
 refine F.ok sg yZ (fun cdv A outer s H vs Q E hr h=>?_)
 obtain ⟨x,rfl,b,hb,b1,b2,q⟩:=h
 refine ⟨_,(zg (zW (z5 (zN (zj qc0 hr rfl (za (pv 0) zd)))) (zg vk) zu)),?_⟩
 exact ⟨_,rfl,_,rfl,b,hb,b1,b2,fun H1 g1=>⟨_,rfl,iteF (q _ g1)⟩⟩
theorem rN:FnScope ["board","thing"] ["board","thing"] (zi (top 23)):=⟨rfl,rfl,rfl,by decide +kernel,rfl,by decide +kernel,by decide +kernel⟩
theorem rO (F:Fun K "are_calls" "are_calls" (top 23) f fd) (B:Blt mg) (qc0:zo P w K mg base n "by_boxes" ["board","calls"] (jI K)) (qc1:zo P w K mg base n "is_call" ["board","thing"] (wV K)) (qc2:zo P w K mg base n "need_board" ["thing"] (wg K))   {t_MOST_AT_A_BOX:Tok} (g_MOST_AT_A_BOX:mg "MOST_AT_A_BOX" = some (.int 8 t_MOST_AT_A_BOX)) {t_MOST_CALLS:Tok} (g_MOST_CALLS:mg "MOST_CALLS" = some (.int 40 t_MOST_CALLS))  :
  FnOk P w K mg base CX0 (n + 1) f fd ["board","thing"] (tP K):=by
 refine F.ok rN yf (fun cdv A outer s H vs Q E hr h=>?_)
 obtain ⟨x,y,rfl,b,cs,hb,b1,b16,hc,ok,q⟩:=h
 refine ⟨_,(ze (wz (zj qc2 hr rfl (za (pv 0) zd))) (ze (zW (PW.pt (xS (z5 (zN (zn zL rfl B.isinstance zB (za (pv 1) (za (y6 rfl B.tuple ye) zd))))) (y4 (zF sC (zn zp rfl B.len yA (za (pv 1) zd)) (vz rfl g_MOST_CALLS (show RelV (.int 40) (.int 40 t_MOST_CALLS) from ⟨_,rfl⟩)) (zD _))))) (zg (zq yc)) zu) (ze (zW (z5 (zN (zn (y7 rfl) rfl B.all j8 (za (zQ (CSc.of (N':=["call","board"]) (sub:=[none,some 0]) (zi (top 23)) ["board","thing"] rfl rfl (by decide +kernel) rfl) rfl (yL (pv 1)) (fun _ _ _ _ _ _=>zh (i:=0) (show (["call","board"]:List Str).Nodup by decide +kernel) rfl (Or.inl rfl)) (fun _ _ _ _ _ _=>zM) (fun _ _ _ _ _ _=>(zj qc1 hr rfl (za (pv 1) (za (pv 0) zd))))) zd)))) (zg (zq yc)) zu) (zg (zq (zn (y7 rfl) rfl B.all j8 (za (zQ (CSc.of (N':=["numbers"]) (sub:=[none]) (zi (top 23)) ["board","thing"] rfl rfl (by decide +kernel) rfl) rfl (vB (zj qc0 hr rfl (za (pv 0) (za (pv 1) zd)))) (fun _ _ _ _ _ _=>zh (i:=0) (show (["numbers"]:List Str).Nodup by decide +kernel) rfl (Or.inl rfl)) (fun _ _ _ _ _ _=>zM) (fun _ _ _ _ _ _=>(yN u9 (zn (vN (K:=K) rfl) rfl B.len yA (za (pv 0) zd)) (vz rfl g_MOST_AT_A_BOX (show RelV (.int 8) (.int 8 t_MOST_AT_A_BOX) from ⟨_,rfl⟩)) (zD _)))) zd))))))),?_⟩
 obtain ⟨rc,xs,rfl,hrc,hall⟩:=id hc
 have xl:=hall.len
 have cl:=ok.len
 refine ⟨_,rfl,_,rfl,b,hb,b1,b16,fun H0 g0=>?_⟩
 try dsimp only
 refine yv (fun b H'=>b = false /\ H' = H0) (fun Kk hk=>⟨_,rfl,_,"tuple","tuple",true,rfl,.inl ⟨rfl,_,g0.sqT hrc⟩,rfl,_,rfl,iteF ⟨_,rfl,rc,_,rfl,.inr (g0.sqT hrc),_,_,rfl,rfl,_,rfl,hk _ _ ⟨decide_eq_false (by omega),rfl⟩⟩⟩) ?_
 rintro _ H0 ⟨rfl,rfl⟩
 refine iteF (yn ?_)
 refine yv (fun b H'=>b = false /\ Grow [] H0 H') (fun Kk hk=>⟨_,rfl,rc,rfl,⟨_,g0.sqT hrc⟩,yj (xs:=xs) (fun i ys H'=>ys = (List.replicate i true).map V.bl /\ Grow [] H0 H') ⟨rfl,Grow.refl _ _⟩ (fun i ys H' ⟨_,g⟩=>(g0.trans g).sqT hrc) ?_ ?_⟩) ?_
 ·rintro i x ys H' hx ⟨rfl,g'⟩
  have hi:=(List.getElem?_eq_some_iff.mp hx).1
  obtain ⟨c,hci,hcat⟩:=hall.get hx
  refine ⟨_,rfl,_,rfl,_,_,rfl,b,c,(g0.trans g').board hb,(g0.trans g').call72 hcat,ok.ok c (List.mem_of_getElem? hci),fun H2 g2=>⟨lt72 (by rw [List.length_map,List.length_replicate]; omega),by rw [List.replicate_succ',List.map_append]; rfl,g'.trans g2⟩⟩
 ·rintro ys H' ⟨rfl,g'⟩ l hl
  exact ⟨l,List.replicate xs.length true,rfl,SqL.of zb,_,rfl,hk _ _ ⟨by rw [sZ]; rfl,g'.trans (Grow.new hl _)⟩⟩
 rintro _ H1 ⟨rfl,g1⟩
 refine iteF (yn ?_)
 refine ⟨_,rfl,_,rfl,_,_,rfl,b,cs,(g0.trans g1).board hb,(g0.trans g1).calls72 hc,b16,ok,fun l zs H2 g2 _ hl2 hz=>⟨l,rfl,⟨_,SqL.of hl2⟩,wE (xs:=zs) (fun i ys H'=>ys = (List.replicate i true).map V.bl /\ H' = H2) ⟨rfl,rfl⟩ (fun i ys H' z=>by rw [z.2]; exact SqL.of hl2) ?_ ?_⟩⟩
 ·rintro i x ys H' hx ⟨rfl,rfl⟩
  have hi:=(List.getElem?_eq_some_iff.mp hx).1
  obtain ⟨ns,hni,a,rfl,hA⟩:=hz.get hx
  have zl:=hz.len
  rw [List.length_map,List.length_range] at zl
  have n8':ns.length <= 8:=by
   obtain ⟨j,_,rfl⟩:=List.mem_map.mp (List.mem_of_getElem? hni)
   rw [WD]; exact ok.few j
  refine ⟨_,rfl,a,_,rfl,.inl (SqL.of hA),_,_,rfl,rfl,lt72 (by rw [List.length_map,List.length_replicate]; omega),?_,rfl⟩
  have e8:decide (((zH ns).length:Int) <= 8) = true:=decide_eq_true (by rw [zR]; omega)
  rw [List.replicate_succ',List.map_append]
  show _ ++ [V.bl (decide (((zH ns).length:Int) <= 8))] = _
  rw [e8]; rfl
 ·rintro ys H' ⟨rfl,rfl⟩ l' hl'
  refine ⟨l',List.replicate zs.length true,rfl,SqL.of zb,?_⟩
  rw [sZ]
  exact q _ (g0.trans (g1.trans (g2.trans (Grow.new hl' _))))
theorem si:FnScope ["board","thing"] ["board","thing"] (zi (top 24)):=⟨rfl,rfl,rfl,by decide +kernel,rfl,by decide +kernel,by decide +kernel⟩
theorem sj (F:Fun K "need_calls" "need_calls" (top 24) f fd) (B:Blt mg) (qc0:zo P w K mg base n "are_calls" ["board","thing"] (tP K))     :
  FnOk P w K mg base CX0 (n + 1) f fd ["board","thing"] (s9 K):=by
 refine F.ok si yf (fun cdv A outer s H vs Q E hr h=>?_)
 obtain ⟨x,y,rfl,b,cs,hb,b1,b16,hc,ok,q⟩:=h
 refine ⟨_,(zg (zW (z5 (zN (zj qc0 hr rfl (za (pv 0) (za (pv 1) zd))))) (zg vk) zu)),?_⟩
 exact ⟨_,rfl,_,rfl,_,_,rfl,b,cs,hb,b1,b16,hc,ok,fun H' g=>⟨_,rfl,iteF (q _ g)⟩⟩
theorem y9:FnScope ["board","thing","begins"] ["board","thing"] (zi (top 32)):=⟨rfl,rfl,rfl,by decide +kernel,rfl,by decide +kernel,by decide +kernel⟩
theorem wN (F:Fun K "need_own_times" "need_own_times" (top 32) f fd) (B:Blt mg) (qc0:zo P w K mg base n "need_calls" ["board","thing"] (s9 K))  (g_set:mg "set" = none)   :
  FnOk P w K mg base CX0 (n + 1) f fd ["board","thing"] (uh K):=by
 refine F.ok y9 yf (fun cdv A outer s H vs Q E hr h=>?_)
 obtain ⟨x,y,rfl,b,cs,hb,b1,b16,hc,ok,ow,q⟩:=h
 refine ⟨_,(ze (wz (zj qc0 hr rfl (za (pv 0) (za (pv 1) zd)))) (ze (vn (i:=2) y9.nd rfl rfl (CSc.of (N':=["call"]) (sub:=[none]) (zi (top 32)) ["board","thing","begins"] rfl rfl (by decide +kernel) rfl) rfl (yL (pv 1)) (fun _ _ _ _ _ _=>zh (i:=0) (show (["call"]:List Str).Nodup by decide +kernel) rfl (Or.inl rfl)) (fun _ _ _ _ _ _=>zM) (fun _ _ _ _ _ _=>(z8 (za (zG (yd (K:=K) rfl) (pv 0) zf (fun _ _=>rfl)) (za (zG (yd (K:=K) rfl) (pv 0) zf (fun _ _=>rfl)) zd))))) (zg (zW (zF sB (zn XV rfl B.len yA (za (yp (XU (K:=K) rfl hr) rfl g_set Uv (za (pv 2) zd)) zd)) (zn zp rfl B.len yA (za (pv 2) zd)) (zD _)) (zg vk) zu)))),?_⟩
 obtain ⟨rc,xs,rfl,hrc,hall⟩:=id hc
 have xl:=hall.len
 have c40:=ok.len
 refine ⟨_,rfl,_,rfl,_,_,rfl,b,cs,hb,b1,b16,hc,ok,fun H1 g1=>?_⟩
 try dsimp only
 refine yC (fun v H'=>∃ (l:Addr) (vs:List V),v = .ref l /\ H' l = some (.lst vs) /\ AllR (PrL K H') vs (cs.map hb77) /\ Grow [] H1 H') (fun Kk hk=>⟨_,rfl,rc,rfl,⟨_,g1.sqT hrc⟩,yj (xs:=xs) (fun i ys H'=>Grow [] H1 H' /\ AllR (PrL K H') ys ((cs.take i).map hb77) /\ ys.length = i) ⟨Grow.refl _ _,trivial,rfl⟩ (fun i ys H' z=>(g1.trans z.1).sqT hrc) ?_ ?_⟩) ?_
 ·rintro i x ys H2 hx ⟨g2,hA,yl⟩
  obtain ⟨c,hc2,rz,rd,rfl,sz,sd⟩:=hall.get hx
  have G:=g1.trans g2
  refine ⟨_,rfl,rz,_,0,.int c.hand,rfl,rfl,G.sqT sz,zt (j:=0) rfl,_,rfl,rz,_,3,.int c.begun,rfl,rfl,G.sqT sz,zt (j:=3) rfl,szl rfl,fun t ht=>?_⟩
  have gt:=Grow.new (m:=[]) ht (.tup [.int c.hand,.int c.begun])
  refine ⟨lt72 (by have:=(List.getElem?_eq_some_iff.mp hx).1; omega),g2.trans gt,?_,by rw [List.length_append,List.length_singleton,yl]⟩
  rw [List.take_succ,hc2,List.map_append]
  exact AllR.app (hA.imp fun _ _ z=>z.grow gt) ⟨⟨t,rfl,_,_,SqT.of zb,rfl,rfl⟩,trivial⟩
 ·rintro ys H2 ⟨g2,hA,yl⟩ l hl
  rw [xl,List.take_length] at hA
  have gl:=Grow.new (m:=[]) hl (.lst ys)
  exact hk _ _ ⟨l,ys,rfl,zb,hA.imp fun _ _ z=>z.grow gl,g2.trans gl⟩
 rintro _ H2 ⟨l,vs,rfl,hl,hA,g2⟩
 have vl:=hA.len
 rw [List.length_map] at vl
 have e:(cs.map hb77).length = vs.length:=by rw [List.length_map,vl]
 refine ⟨_,rfl,l,vs,cs.map hb77,rfl,SqL.of hl,hA,jN ow,by rw [List.length_map]; omega,fun p hp=>?_⟩
 have gp:=Grow.new (m:=[]) hp (.ext fun h=>ZN h p (cs.map hb77).length)
 refine ⟨p,(cs.map hb77).length,rfl,zb,_,rfl,l,vs,rfl,.inl (SqL.of (gp.keep _ _ (by simp) hl)),rfl,_,rfl,xK ?_ (q _ (g1.trans (g2.trans gp)))⟩
 rw [e]; simp
theorem rP:FnScope ["board","calls","order"] ["board","calls","order"] (zi (top 34)):=⟨rfl,rfl,rfl,by decide +kernel,rfl,by decide +kernel,by decide +kernel⟩
theorem rQ (F:Fun K "is_serial" "is_serial" (top 34) f fd) (B:Blt mg) (qc0:zo P w K mg base n "are_answered" ["board","calls","order"] (ju K)) (qc1:zo P w K mg base n "keeps_hands" ["calls","order"] (XB K)) (qc2:zo P w K mg base n "is_order" ["thing","numbers"] (uH K)) (qc3:zo P w K mg base n "need_own_times" ["board","thing"] (uh K))     :
  FnOk P w K mg base CX0 (n + 1) f fd ["board","calls","order"] (uZ K):=by
 refine F.ok rP xb (fun cdv A outer s H vs Q E hr h=>?_)
 obtain ⟨x,y,z,rfl,b,cs,d,m,hb,b1,b16,hc,ok,ow,hd,hl,q⟩:=h
 refine ⟨_,(ze (wz (zj qc3 hr rfl (za (pv 0) (za (pv 1) zd)))) (ze (zW (z5 (zN (zj qc2 hr rfl (za (pv 2) (za (yB rfl rfl B.list rfl B.range (za (zn zp rfl B.len yA (za (pv 1) zd)) zd)) zd))))) (zg (zq yc)) zu) (zg (zq (xk (zj qc1 hr rfl (za (pv 1) (za (pv 2) zd))) (xq (zj qc0 hr rfl (za (pv 0) (za (pv 1) (za (pv 2) zd)))))))))),?_⟩
 obtain ⟨rc,xs,rfl,hrc,hall⟩:=id hc
 have xl:=hall.len
 have c40:=ok.len
 refine ⟨_,rfl,_,rfl,_,_,rfl,b,cs,hb,b1,b16,hc,ok,ow,fun H1 g1=>?_⟩
 try dsimp only
 refine yv (fun c H'=>((!c) = true ↔ ∃ ns,y0 cs.length d ns) /\ Grow [] H1 H') (fun Kk hk=>⟨_,rfl,_,rfl,rc,_,rfl,.inr (g1.sqT hrc),xs.length,rfl,by omega,fun l1 hl1=>⟨_,_,rfl,d,m,cs.length,(hd.grow (g1.wk (m:=m))).grow ((Grow.new hl1 _).wk (m:=m)),hl,⟨l1,rfl,SqL.of (by rw [zb,xl]; rfl)⟩,fun b1 H2 g2 h1=>⟨_,rfl,hk _ _ ⟨by rw [Bool.not_not]; exact h1,(Grow.new hl1 _).trans g2⟩⟩⟩⟩) ?_
 rintro c H2 ⟨h1,g2⟩
 have G2:=g1.trans g2
 cases c with
 | true =>
  refine iteT (q _ _ ⟨(fun z=>nomatch z),fun ⟨ns,o,_⟩=>absurd (h1.mpr ⟨ns,o⟩) (by decide)⟩ G2)
 | false =>
  obtain ⟨ns,o⟩:=h1.mp rfl
  have hN:y8 K H z ns:=VY o.1 hd
  have hlt:∀ k ∈ ns,k < cs.length:=fun k hk=>List.mem_range.mp (o.2.mem_iff.mp hk)
  have iff:∀ bb:Bool,bb = (kh77 cs ns && an72 cs b ns) -> (bb = true ↔ XC b cs d):=fun bb e=>by
   rw [e,Bool.and_eq_true]
   exact ⟨fun z=>⟨ns,o,z.1,z.2⟩,fun ⟨ms,o',z1,z2⟩=>by rw [o.uniq o']; exact ⟨z1,z2⟩⟩
  refine iteF (yn ?_)
  refine ⟨_,rfl,_,rfl,_,_,rfl,cs,ns,G2.calls72 hc,(fun c hc=>(ok.ok c hc).t0),hN.grow G2,hlt,(by rw [o.2.length_eq,List.length_range]; exact c40),fun H3 g3=>⟨_,rfl,?_⟩⟩
  cases hk:kh77 cs ns with
  | false=>exact iteF (q _ _ (iff _ (by rw [hk]; rfl)) (G2.trans g3))
  | true=>exact iteT ⟨_,rfl,_,rfl,_,rfl,_,_,_,rfl,b,cs,ns,(G2.trans g3).board hb,(G2.trans g3).calls72 hc,hN.grow (G2.trans g3),ok.ok,hlt,fun H4 g4=>q _ _ (iff _ (by rw [hk]; rfl)) (G2.trans (g3.trans g4))⟩
theorem wZ:FnScope ["_law_pot_here","_law_many","_law_digit"] ["_law_pot_here","_law_many"] (zi (top 41)):=⟨rfl,rfl,rfl,by decide +kernel,rfl,by decide +kernel,by decide +kernel⟩
theorem rR (F:Fun K "_law_take" "_law_take" (top 41) f fd) (B:Blt mg)      :
  FnOk P w K mg base CX0 (n + 1) f fd ["_law_pot_here","_law_many"] (r0 K):=by
 refine F.ok wZ yf (fun cdv A outer s H vs Q E hr h=>?_)
 obtain ⟨x,y,rfl,a,m,rfl,rfl,⟨p0,p1,hp,h0⟩,hm,hm2,q⟩:=h
 refine ⟨_,(ze (zW (zF sC (zG yE (pv 0) zf (fun _ _=>rfl)) zf (zD _)) (ze (zI (i:=2) wZ.nd rfl (Or.inl rfl) (zJ uv (zG yE (pv 0) zf (fun _ _=>rfl)) (pv 1))) (ze (yU (zJ je (zG yE (pv 0) zf (fun _ _=>rfl)) (pv 1)) (Z3 (pv 0) zf tj)) (zg (zq (pv 2))))) zu) (ze (yU (zJ uv (zJ xn (zJ wB (zG yE (pv 0) zf (fun _ _=>rfl)) zf) zf) zf) (Z3 (pv 0) zf tj)) (zg (zq (zJ uv (zJ je (zJ uv (zJ wB (zG yE (pv 0) zf (fun _ _=>rfl)) (zG yE (pv 0) zf (fun _ _=>rfl))) zf) zf) (pv 1)))))),?_⟩
 refine ⟨_,rfl,a,_,_,_,rfl,rfl,SqL.of hp,rfl,_,_,rfl,rfl,_,rfl,?_⟩
 refine ite2 (fun c=>?_) (fun c=>?_)
 ·refine ⟨_,rfl,a,_,_,_,rfl,rfl,SqL.of hp,rfl,_,rfl,p0,m,rfl,rfl,hm,?_⟩
  refine ⟨_,rfl,a,_,_,_,rfl,rfl,SqL.of hp,rfl,_,rfl,p0,m,rfl,rfl,⟨hm,hm2⟩,_,rfl,a,_,0,0,rfl,rfl,hp,rfl,?_⟩
  exact ⟨_,rfl,q _ _ (Int.emod_nonneg _ (by omega)) (Int.emod_lt_of_pos _ hm) (Grow.set hp (by simp) _) ⟨p0 / m,p1,zb,Int.ediv_nonneg h0 (by omega)⟩⟩
 ·refine ⟨_,rfl,a,_,_,_,rfl,rfl,SqL.of hp,rfl,p1,48271,rfl,rfl,sP ⟨by decide,by decide⟩,_,_,rfl,rfl,_,_,rfl,rfl,(by show (0:Int) < 2147483647; decide),_,rfl,a,_,1,1,rfl,rfl,hp,rfl,?_⟩
  have b0:0 <= (p1 * 48271 + 12345) % 2147483647:=Int.emod_nonneg _ (by decide)
  have b1:(p1 * 48271 + 12345) % 2147483647 < 2147483647:=Int.emod_lt_of_pos _ (by decide)
  refine ⟨_,rfl,a,_,_,_,rfl,rfl,SqL.of zb,rfl,_,rfl,a,_,_,_,rfl,rfl,SqL.of zb,rfl,(p1 * 48271 + 12345) % 2147483647,(p1 * 48271 + 12345) % 2147483647,rfl,rfl,sP ⟨by omega,by omega⟩,_,_,rfl,rfl,(by show (0:Int) < 2147483629; decide),_,_,rfl,rfl,⟨by decide,by decide⟩,_,rfl,_,_,rfl,rfl,hm,?_⟩
  exact q _ _ (Int.emod_nonneg _ (by omega)) (Int.emod_lt_of_pos _ hm) (Grow.set hp (by simp) _) ⟨p0,(p1 * 48271 + 12345) % 2147483647,zb,h0⟩
theorem xp:FnScope ["_law_pot_here","_law_row","_law_left"] ["_law_pot_here","_law_row"] (zi (top 42)):=⟨rfl,rfl,rfl,by decide +kernel,rfl,by decide +kernel,by decide +kernel⟩
theorem vd (F:Fun K "_law_shuffled" "_law_shuffled" (top 42) f fd) (B:Blt mg) (qc0:zo P w K mg base n "_law_take" ["_law_pot_here","_law_many"] (r0 K))     :
  FnOk P w K mg base CX0 (n + 1) f fd ["_law_pot_here","_law_row"] (ug K):=by
 refine F.ok xp yf (fun cdv A outer s H vs Q E hr h=>?_)
 obtain ⟨x,y,rfl,p,xs,rfl,pp,⟨r,rfl,hn⟩,hl,q⟩:=h
 refine ⟨_,(ze (zI (i:=2) xp.nd rfl (Or.inr rfl) (yp xy rfl B.list sM (za (pv 1) zd))) (zg (zq (zQ (CSc.of (N':=["_law_k","_law_left","_law_pot_here"]) (sub:=[none,some 2,some 0]) (zi (top 42)) ["_law_pot_here","_law_row","_law_left"] rfl rfl (by decide +kernel) rfl) rfl (xt rfl B.range (za (zn zp rfl B.len yA (za (pv 1) zd)) zd)) (fun _ _ _ _ _ _=>zh (i:=0) (show (["_law_k","_law_left","_law_pot_here"]:List Str).Nodup by decide +kernel) rfl (Or.inl rfl)) (fun _ _ _ _ _ _=>zM) (fun _ _ _ _ _ _=>(Tf (K:=K) rfl PySem.F.plainAttrs_list PySem.F.slot_list_pop PySem.F.type_list_pop Wi (pv 1) (za (zj qc0 hr rfl (za (pv 2) (za (zn (vN (K:=K) rfl) rfl B.len yA (za (pv 1) zd)) zd))) zd))))))),?_⟩
 refine ⟨_,rfl,r,_,rfl,hn,fun l hl0=>?_⟩
 have gl:=Grow.new (m:=[p,l]) hl0 (.lst xs)
 have pl:p ≠ l:=fun z=>wo pp hl0 (by rw [z]; simp)
 have pp0:=pp.grow (Grow.new hl0 (.lst xs))
 have hn0:SqL K (upd H l (.lst xs)) r xs \/ SqT K (upd H l (.lst xs)) r xs:=hn.imp (fun z=>(Grow.new (m:=[]) hl0 _).sqL z) fun z=>(Grow.new (m:=[]) hl0 _).sqT z
 have h0:upd H l (.lst xs) l = some (.lst xs):=zb
 generalize upd H l (.lst xs) = H0 at gl pp0 hn0 h0 ⊢
 refine ⟨_,rfl,r,_,rfl,hn0,_,rfl,by omega,by omega,tF (fun i ys H'=>∃ ms left:List V,ys = ms /\ ms.length = i /\ (ms ++ left).Perm xs /\ H' l = some (.lst left) /\ Grow [p,l] H0 H' /\ Pot H' p) ⟨[],xs,rfl,rfl,List.Perm.refl _,h0,Grow.refl _ _,pp0⟩ ?_ ?_⟩
 ·rintro i ys H1 hi ⟨_,left,rfl,ml,hp,hl1,g1,pp1⟩
  have hil:i < xs.length:=by
   have:=hi
   omega
  have hlen:=hp.length_eq
  rw [List.length_append] at hlen
  have ll:0 < left.length:=by omega
  refine ⟨_,rfl,.inl ⟨rfl,_,SqL.of hl1⟩,_,rfl,_,rfl,l,_,rfl,.inl (SqL.of hl1),_,_,rfl,p,_,rfl,rfl,pp1,by omega,Int.lt_of_le_of_lt (b:=100) (by omega) (by decide),fun j' H2 j0 j1 g2 pp2=>?_⟩
  obtain ⟨j,rfl⟩:=Int.eq_ofNat_of_zero_le j0
  have hj:j < left.length:=by omega
  have hl2:=g2.keep _ _ (by simpa using pl.symm) hl1
  refine ⟨l,left,_,j,left[j],rfl,rfl,hl2,by omega,Int.lt_of_le_of_lt (b:=100) (by omega) (by decide),?_,?_,lt72 (by omega),ys ++ [left[j]],left.eraseIdx j,rfl,by rw [List.length_append,List.length_singleton,ml],?_,?_,g1.trans ((g2.mono (by simp)).trans (Grow.set hl2 (by simp) _)),?_⟩
  ·exact PySem.StrLaws.seqIndex_nonneg (by omega) (by omega)
  ·exact List.getElem?_eq_getElem hj
  ·refine List.Perm.trans ?_ hp
   rw [List.append_assoc]
   exact List.Perm.append_left _ (wX hj)
  ·rw [zb]
  ·obtain ⟨u,w,e,z⟩:=pp2
   exact ⟨u,w,by rw [zv pl]; exact e,z⟩
 ·rintro ys H1 ⟨_,left,rfl,ml,hp,hl1,g1,pp1⟩ l' hl'
  have hlen:=hp.length_eq
  rw [List.length_append,ml] at hlen
  have e0:left = []:=List.length_eq_zero_iff.mp (by omega)
  subst e0
  rw [List.append_nil] at hp
  have n1:l' ∉ [p,l]:=fun z=>by
   rcases List.mem_cons.mp z with z | z
   ·exact wo pp1 hl' (by rw [z]; simp)
   ·rw [List.mem_singleton.mp z,hl1] at hl'; cases hl'
  have G:=gl.trans (g1.trans (Grow.new hl' (.lst (ys))))
  exact q l' ys _ hp (Grow.shrink2 G hl0) (pp1.grow (Grow.new hl' _)) ((gl.trans g1).free n1 hl') (fun z=>n1 (by rw [z]; simp)) zb
theorem zA:FnScope ["calls","masks","reached","following","taken","values","order","number","mask","hand","box","deed","begun","ended","answer","may_follow","left"] ["calls","masks","reached"] (zi (top 28)):=⟨rfl,rfl,rfl,by decide +kernel,rfl,by decide +kernel,by decide +kernel⟩
theorem qO (F:Fun K "one_more" "one_more" (top 28) f fd) (B:Blt mg) (qc0:zo P w K mg base n "made" ["deed","value"] (vJ K))     :
  FnOk P w K mg base CX0 (n + 1) f fd ["calls","masks","reached"] (jJ P w K):=by
 refine F.ok zA xb (fun cdv A outer s H vs Q E hr h=>?_)
 obtain ⟨x,y,z,rfl,cs,m,am,ms,ar,kvs,E,hc,rfl,hm,rfl,har,ne,kc,es,ok,ev,few,q⟩:=h
 refine ⟨_,(ze (zI (i:=3) zA.nd rfl (Or.inl rfl) (tV (P:=P) (w:=w) ptI ptT rfl rfl)) (ze (xm PassesOwn.never rfl (Xh (pv 2)) (yo rfl (zm (yo rfl (zm (zh (i:=4) zA.nd rfl (Or.inl rfl)) (zm (zh (i:=5) zA.nd rfl (Or.inl rfl)) zU))) (zm (zh (i:=6) zA.nd rfl (Or.inl rfl)) zU))) (zg (xm PassesOwn.never rfl (Xh (pv 1)) (yo rfl (zm (zh (i:=7) zA.nd rfl (Or.inl rfl)) (zm (zh (i:=8) zA.nd rfl (Or.inl rfl)) zU))) (ze (yU (zG zX (pv 0) (pv 7) (fun _ _=>rfl)) (yo rfl (zm (zh (i:=9) zA.nd rfl (Or.inl rfl)) (zm (zh (i:=10) zA.nd rfl (Or.inl rfl)) (zm (zh (i:=11) zA.nd rfl (Or.inl rfl)) (zm (zh (i:=12) zA.nd rfl (Or.inl rfl)) (zm (zh (i:=13) zA.nd rfl (Or.inl rfl)) (zm (zh (i:=14) zA.nd rfl (Or.inl rfl)) zU)))))))) (ze (zI (i:=15) zA.nd rfl (Or.inl rfl) (xk (yN sA (zJ Vh (zJ UL (pv 4) (pv 7)) zf) zf (zD _)) (xq (yN sA (zJ Vh (pv 8) (pv 4)) (pv 8) (zD _))))) (zg (zW (PW.pt (wQ (zN (pv 15)) (xR (zF sA (zG zX (pv 5) (pv 10) (fun _ _=>rfl)) (pv 14) (zD _))))) (ze (zI (i:=16) zA.nd rfl (Or.inl rfl) (zJ (vX (K:=K) rfl) (zJ (vX (K:=K) rfl) (yV (vW (K:=K) rfl) (pv 5) xv (xw (pv 10))) (z8 (za (zj qc0 hr rfl (za (pv 11) (za (pv 14) zd))) zd))) (yV (vW (K:=K) rfl) (pv 5) (xw (zJ xn (pv 10) zf)) xv))) (zg (jG (p1:=ptI) (p2:=ptT) (P:=P) (w:=w) (K:=K) rfl rfl rfl (Room.u2 hr) (pv 3) (z8 (za (zJ Sj (pv 4) (zJ Vg zf (pv 7))) (za (pv 16) zd))) (zJ (vX (K:=K) rfl) (pv 6) (z8 (za (pv 7) zd))) rfl))) zu))))))) (zg (zq (pv 3))))),?_⟩
 obtain ⟨rc,xs,rfl,hrc,hall⟩:=id hc
 refine yC (fun v H'=>∃ d,v = .ref d /\ H d = none /\ H' = upd H d (ndO ptI ptT P w d [])) (fun Kk hk=>fun d hd=>hk _ _ ⟨d,rfl,hd,rfl⟩) ?_
 rintro _ _ ⟨d,rfl,hd,rfl⟩
 have g0:=Grow.new (m:=[]) hd (ndO ptI ptT P w d [])
 have hd0:=zb (H:=H) (a:=d) (o:=ndO ptI ptT P w d [])
 have nda:d ≠ ar:=fun z=>by rw [z,har] at hd; cases hd
 have ndm:d ≠ am:=fun z=>by
  rw [z] at hd
  rcases hm with h | ⟨o,h⟩ <;> rw [h] at hd <;> cases hd
 have har0:=g0.keep _ _ (by simp) har
 have hm0:Rd (upd H d (ndO ptI ptT P w d [])) am (.dK (yG ms)):=hm.imp (fun z=>g0.keep _ _ (by simp) z) fun ⟨o,z⟩=>⟨o,g0.keep _ _ (by simp) z⟩
 generalize upd H d _ = H0 at g0 hd0 har0 hm0 ⊢
 refine ⟨_,rfl,ar,_,_,rfl,TH P w ar kvs,.inl har0,fun o H1 hf1 g1 ho1=>?_⟩
 have om1:Om73 P w K H am ar d o ms kvs [] H1:=⟨g0.wk.trans (g1.mono (by simp)),hf1,hm0.imp (fun z=>by rw [ho1 am ne]; exact z) fun ⟨o,z⟩=>⟨o,g1.frz _ _ _ z⟩,[],by rw [ho1 d nda]; exact hd0,nofun,.nil⟩
 refine TL (fun i σ H'=>(∃ e4 e5 e6,Sa73 σ (some (.ref rc)) (some (.ref am)) (some (.ref ar)) (some (.ref d)) e4 e5 e6) /\ Om73 P w K H am ar d o ms kvs ((E.take i).foldl (zS cs ms) []) H') ⟨⟨_,_,_,_,_,_,_,_,_,_,_,_,_,rfl⟩,om1⟩ (fun i σ H' _ z=>z.2.r) ?_ ?_
 ·rintro i p T σ H2 hp hT ⟨⟨e4,e5,e6,e7,e8,e9,e10,e11,e12,e13,e14,e15,e16,rfl⟩,om2⟩
  rw [List.getElem?_map] at hp
  obtain ⟨x,hx,rfl⟩:=Option.map_eq_some_iff.mp hp
  obtain ⟨e,he,hk,hn⟩:=es.get hx
  obtain ⟨v1,v2,hb,hv1,hv2⟩:=kc x (List.mem_of_getElem? hx)
  rw [hk] at hv1 hv2
  obtain rfl:v1 = V.int (e.1.1:Int):=hv1
  obtain ⟨rv,rfl,hrv⟩:=hv2
  obtain ⟨ro,ero,hro⟩:=hn
  rw [ero]
  have hi:=(List.getElem?_eq_some_iff.mp he).1
  have evE:=ev e (List.mem_of_getElem? he)
  have gT:=Grow.new (m:=[]) hT (.tup [V.ref x.2.1,.ref ro])
  have om3:=om2.grow gT
  have hTT:=zb (H:=H2) (a:=T) (o:=.tup [V.ref x.2.1,.ref ro])
  generalize upd H2 T _ = H3 at gT om3 hTT ⊢
  refine ⟨T,_,rfl,SqT.of hTT,rfl,_,_,rfl,x.2.1,_,rfl,om3.g.sqT hb,rfl,_,_,rfl,_,_,rfl,rfl,_,_,rfl,rfl,?_⟩
  try dsimp only
  refine ⟨_,rfl,am,_,_,rfl,TD am (yG ms),om3.m,fun o2 H4 hf4 g4 ho4=>?_⟩
  obtain ⟨kv3,d1,d2,d3⟩:=om3.d
  have om4:Om73 P w K H am ar d o ms kvs ((E.take i).foldl (zS cs ms) []) H4:=⟨om3.g.trans (g4.mono (by simp)),g4.frz _ _ _ om3.r,.inr ⟨o2,hf4⟩,kv3,by rw [ho4 d ndm]; exact d1,d2.grow g4,d3.grow g4⟩
  clear d1 d2 d3 om3 om2
  refine TL (fun j σ H'=>Sa73 σ (some (.ref rc)) (some (.ref am)) (some (.ref ar)) (some (.ref d)) (some (.int (e.1.1:Int))) (some (.ref rv)) (some (.ref ro)) /\ Om73 P w K H am ar d o ms kvs ((ms.take j).foldl (z9 cs e) ((E.take i).foldl (zS cs ms) [])) H' /\ H' am = some (.frz o2 (.dK (yG ms)))) ⟨⟨_,_,_,_,_,_,_,_,_,_,rfl⟩,om4,hf4⟩ (fun j σ H' _ z=>z.2.2) ?_ ?_
  ·rintro j p2 T2 σ H5 hp2 hT2 ⟨⟨e7,e8,e9,e10,e11,e12,e13,e14,e15,e16,rfl⟩,om5,hf5⟩
   obtain ⟨nM,hnM,rfl⟩:=WW hp2
   obtain ⟨n,M⟩:=nM
   have hj:=(List.getElem?_eq_some_iff.mp hnM).1
   have hn':n < cs.length:=ok.lt _ (List.mem_of_getElem? hnM)
   have gT2:=Grow.new (m:=[]) hT2 (.tup [V.int (n:Int),.int ((M:Nat):Int)])
   have om6:=om5.grow gT2
   have hf6:=gT2.keep _ _ (by simp) hf5
   have hTT2:=zb (H:=H5) (a:=T2) (o:=.tup [V.int (n:Int),.int ((M:Nat):Int)])
   generalize upd H5 T2 _ = H6 at gT2 om6 hTT2 hf6 ⊢
   obtain ⟨zc,hzc,rz,rd,rfl,sz,sd⟩:=hall.getR (List.getElem?_eq_getElem hn')
   have ec:cg cs n = cs[n]:=yw (List.getElem?_eq_getElem hn')
   have oc:CallOk72 m (cg cs n):=ok.ok _ (sY hn')
   rw [← ec] at sz sd
   refine ⟨T2,_,rfl,SqT.of hTT2,rfl,_,_,rfl,_,_,rfl,rfl,?_⟩
   try dsimp only
   refine ⟨_,rfl,_,rfl,rc,_,_,.ref rz,rfl,rfl,om6.g.sqT hrc,zt hzc,rz,_,rfl,om6.g.sqT sz,rfl,_,_,rfl,_,_,rfl,_,_,rfl,_,_,rfl,_,_,rfl,_,_,rfl,rfl,?_⟩
   try dsimp only
   refine yC (fun v H'=>v = .bl (decide (e.1.1.testBit n = false) && decide (M &&& e.1.1 = M)) /\ H' = H6) (fun Kk hk=>⟨_,rfl,_,rfl,_,_,rfl,rfl,by omega,_,_,rfl,rfl,rfl,_,rfl,?_⟩) ?_
   ·rw [Xr]
    by_cases c1:e.1.1.testBit n = false
    ·rw [decide_eq_true c1]
     refine iteT ⟨_,rfl,_,rfl,_,_,rfl,rfl,_,rfl,rfl,?_⟩
     rw [Xs]
     exact hk _ _ ⟨by rw [decide_eq_true c1]; rfl,rfl⟩
    ·rw [decide_eq_false c1]
     exact iteF (hk _ _ ⟨by rw [decide_eq_false c1]; rfl,rfl⟩)
   rintro _ H6 ⟨rfl,rfl⟩
   have tk:(ms.take (j + 1)).foldl (z9 cs e) ((E.take i).foldl (zS cs ms) []) = z9 cs e ((ms.take j).foldl (z9 cs e) ((E.take i).foldl (zS cs ms) [])) (n,M):=by
    rw [yO hnM,List.foldl_append]; rfl
   generalize hF:(ms.take j).foldl (z9 cs e) ((E.take i).foldl (zS cs ms) []) = F at om6 tk
   have flen:F.length < E.length * ms.length:=by rw [← hF]; exact ZD hi hj
   generalize hc1:(decide (e.1.1.testBit n = false) && decide (M &&& e.1.1 = M)) = c1
   refine ⟨_,rfl,c1,rfl,?_⟩
   have stay:¬ wp cs e n M = true -> Sa73 [some (.ref rc),some (.ref am),some (.ref ar),some (.ref d),some (.int (e.1.1:Int)),some (.ref rv),some (.ref ro),some (.int (n:Int)),some (.int ((M:Nat):Int)),some (.int (cg cs n).hand),some (.int (cg cs n).box),some (.ref rd),some (.int (cg cs n).begun),some (.int (cg cs n).ended),some (.int (cg cs n).answer),some (.bl c1),e16] (some (.ref rc)) (some (.ref am)) (some (.ref ar)) (some (.ref d)) (some (.int (e.1.1:Int))) (some (.ref rv)) (some (.ref ro)) /\ Om73 P w K H am ar d o ms kvs ((ms.take (j + 1)).foldl (z9 cs e) ((E.take i).foldl (zS cs ms) [])) H6 /\ H6 am = some (.frz o2 (.dK (yG ms))):=fun hmay=>by
    refine ⟨⟨_,_,_,_,_,_,_,_,_,_,rfl⟩,?_,hf6⟩
    rw [tk]
    unfold z9
    rw [if_neg hmay]
    exact om6
   cases c1 with
   | false =>
    refine iteF (iteF ?_)
    exact stay (fun z=>by
     unfold wp at z
     rw [hc1] at z; cases z)
   | true =>
    refine iteT ?_
    have b0:=oc.b0
    have b1:=oc.b1
    have hbx:(cg cs n).box.toNat < e.1.2.length:=by rw [evE.1]; omega
    have ebx:(cg cs n).box = ((cg cs n).box.toNat:Int):=(Int.toNat_of_nonneg b0).symm
    have hat:atI (e.1.2.map V.int) (cg cs n).box = some (.int (e.1.2.getD (cg cs n).box.toNat 0)):=by
     rw [ebx]
     refine zt ?_
     rw [List.getElem?_map,List.getElem?_eq_getElem hbx,Int.toNat_natCast,List.getD_eq_getElem?_getD,List.getElem?_eq_getElem hbx]
     rfl
    have hrv6:=om6.g.sqT hrv
    refine ⟨_,rfl,_,rfl,rv,_,_,_,rfl,rfl,hrv6,hat,_,rfl,rfl,_,rfl,?_⟩
    by_cases ca:e.1.2.getD (cg cs n).box.toNat 0 = (cg cs n).answer
    ·have may:wp cs e n M = true:=by
      unfold wp
      rw [hc1,decide_eq_true ca]; rfl
     refine xT (decide_eq_true (congrArg V.int ca)) ?_
     refine yC (fun v H'=>∃ rl,v = .ref rl /\ SqT K H' rl ((xC cs e.1.2 n).map V.int) /\ Grow [] H6 H') (fun Kk hk=>?_) ?_
     ·refine ⟨_,rfl,_,rfl,_,rfl,rv,_,rfl,hrv6,fun p1 H7 g7 h7=>⟨_,rfl,_,rfl,_,_,rfl,(cg cs n).deed,(cg cs n).answer,⟨rd,rfl,g7.sqT (om6.g.sqT sd)⟩,rfl,szl rfl,fun t7 ht7=>?_⟩⟩
      have gt7:=Grow.new (m:=[]) ht7 (.tup [.int ((cg cs n).deed.mk' (cg cs n).answer)])
      have cl1:∀ lo hi,(cutV (e.1.2.map V.int) lo hi).length <= 16:=fun lo hi=>by
       have:=xa (e.1.2.map V.int) lo hi
       rw [List.length_map,evE.1] at this
       exact Nat.le_trans this ok.m16
      refine ⟨p1,t7,_,_,rfl,rfl,gt7.sqT h7,SqT.of zb,?_,fun p2 H8 g8 h8=>?_⟩
      ·exact le72 (Nat.le_trans (Nat.add_le_add (cl1 _ _) (Nat.le_refl 1)) (by decide))
      refine ⟨_,rfl,_,rfl,_,_,rfl,rfl,_,rfl,rv,_,rfl,g8.sqT (gt7.sqT (g7.sqT hrv6)),fun p3 H9 g9 h9=>⟨p2,p3,_,_,rfl,rfl,g9.sqT h8,h9,?_,fun p4 H10 g10 h10=>hk _ _ ⟨p4,rfl,?_,g7.trans (gt7.trans (g8.trans (g9.trans g10)))⟩⟩⟩
      ·rw [List.length_append]
       exact le72 (Nat.le_trans (Nat.add_le_add (Nat.add_le_add (cl1 _ _) (Nat.le_refl 1)) (cl1 _ _)) (by decide))
      ·have e1:(cg cs n).box + 1 = (((cg cs n).box.toNat + 1:Nat):Int):=by omega
       rw [e1,ebx,Int.toNat_natCast,qf,qg,Xt hbx] at h10
       exact h10
     rintro _ H7 ⟨rl,rfl,hrl,g7⟩
     have om7:=om6.grow g7
     have hf7:=g7.keep _ _ (by simp) hf6
     refine ⟨_,rfl,_,rfl,szl rfl,fun t8 ht8=>?_⟩
     have gt8:=Grow.new (m:=[]) ht8 (.tup [.int (n:Int)])
     have hro8:=gt8.sqT (om7.g.sqT hro)
     refine ⟨ro,t8,_,_,rfl,rfl,hro8,SqT.of zb,?_,fun po H9 g9 h9=>?_⟩
     ·rw [zR]; exact le72 (by show _ + 1 <= 5000; have:=evE.2; omega)
     have om9:=(om7.grow gt8).grow g9
     have hf9:=g9.keep _ _ (by simp) (gt8.keep _ _ (by simp) hf7)
     refine ⟨_,rfl,_,rfl,_,rfl,_,_,rfl,rfl,⟨by omega,by have:=ok.c40; omega,by decide⟩,_,_,rfl,rfl,_,rfl,szl rfl,fun tkk htk=>?_⟩
     have gtk:=Grow.new (m:=[]) htk (.tup [.int (Builtin.bitOr (e.1.1:Int) (1 * 2 ^ ((n:Int)).toNat)),.ref rl])
     have om10:=om9.grow gtk
     have hf10:=gtk.keep _ _ (by simp) hf9
     have htk10:=zb (H:=H9) (a:=tkk) (o:=.tup [.int (Builtin.bitOr (e.1.1:Int) (1 * 2 ^ ((n:Int)).toNat)),.ref rl])
     have hrl10:=gtk.sqT (g9.sqT (gt8.sqT hrl))
     have h10:=gtk.sqT h9
     generalize upd H9 tkk _ = H10 at om10 hf10 htk10 hrl10 h10 ⊢
     rw [WX] at htk10
     obtain ⟨kv10,d1,d2,d3⟩:=om10.d
     have kat:KAt ptI ptT K H10 (((e.1.1 ||| 2 ^ n:Nat):Int),xC cs e.1.2 n) tkk:=⟨_,_,SqT.of htk10,rfl,rl,rfl,hrl10⟩
     have nums:y8 K H10 (.ref po) (e.2 ++ [n]):=⟨po,rfl,by rw [vU]; exact h10⟩
     refine ⟨d,kv10,_,tkk,rfl,rfl,d1,d2,kat,?_,⟨_,_,_,_,_,_,_,_,_,_,rfl⟩,?_,?_⟩
     ·rw [Paired.length d3]
      exact Nat.lt_of_lt_of_le flen few
     ·have gs:Grow [d] H10 (upd H10 d (ndO ptI ptT P w d (z6 kv10 (((e.1.1 ||| 2 ^ n:Nat):Int),xC cs e.1.2 n) tkk (.ref po)))):=Grow.setE73 d1 (by simp)
      refine ⟨om10.g.trans (gs.mono (by simp)),gs.frz _ _ _ om10.r,om10.m.imp (fun z=>gs.keep _ _ (by simpa using Ne.symm ndm) z) (fun ⟨o,z⟩=>⟨o,gs.frz _ _ _ z⟩),_,zb,(d2.store kat).grow gs,?_⟩
      rw [tk]
      unfold z9
      rw [if_pos may]
      exact (d3.store nums).grow gs
     ·rw [zv (Ne.symm ndm)]; exact hf10
    ·refine xK (decide_eq_false (fun z=>ca (V.int.inj z))) ?_
     exact stay (fun z=>by
      unfold wp at z
      rw [decide_eq_false ca,Bool.and_false] at z; cases z)
  ·rintro σ H5 ⟨⟨e7,e8,e9,e10,e11,e12,e13,e14,e15,e16,rfl⟩,om5,_⟩
   rw [List.length_map,show (yG ms).length = ms.length from List.length_map ..,List.take_length] at om5
   refine ⟨⟨_,_,_,_,_,_,_,_,_,_,_,_,_,rfl⟩,?_⟩
   rw [yO he,List.foldl_append]
   exact om5
 ·rintro σ H2 ⟨⟨e4,e5,e6,e7,e8,e9,e10,e11,e12,e13,e14,e15,e16,rfl⟩,om2⟩
  rw [List.length_map,show kvs.length = E.length from Paired.length es,List.take_length] at om2
  obtain ⟨kv2,d1,d2,d3⟩:=om2.d
  exact ⟨_,rfl,q d kv2 H2 hd (om2.g.less fun b hb=>by
   simp only [List.mem_cons,List.not_mem_nil,or_false] at hb ⊢
   rcases hb with rfl | rfl | rfl
   ·exact .inl (.inl rfl)
   ·exact .inl (.inr rfl)
   ·exact .inr hd) om2.m d1 d2 d3⟩
theorem yS:FnScope ["board","calls","masks","reached","number","orders"] ["board","calls","masks"] (zi (top 29)):=⟨rfl,rfl,rfl,by decide +kernel,rfl,by decide +kernel,by decide +kernel⟩
theorem qP (F:Fun K "order_by" "order_by" (top 29) f fd) (B:Blt mg) (qc0:zo P w K mg base n "one_more" ["calls","masks","reached"] (jJ P w K))     :
  FnOk P w K mg base CX0 (n + 1) f fd ["board","calls","masks"] (Xp K):=by
 refine F.ok yS xb (fun cdv A outer s H vs Q E hr h=>?_)
 obtain ⟨x,y,z,rfl,b,cs,am,ms,hb,hc,rfl,hm,ok,q⟩:=h
 refine ⟨_,(ze (zI (i:=3) yS.nd rfl (Or.inl rfl) (Xf (p1:=ptI) (p2:=ptT) (P:=P) (w:=w) (K:=K) rfl rfl rfl (Room.u2 hr) (z8 (za zf (za (pv 0) zd))) (z8 zd))) (ze (xm PassesOwn.never rfl (Uh (pv 2)) (zh (i:=4) yS.nd rfl (Or.inl rfl)) (zg (zI (i:=3) yS.nd rfl (Or.inl rfl) (zj qc0 hr rfl (za (pv 1) (za (pv 2) (za (pv 3) zd))))))) (ze (zI (i:=5) yS.nd rfl (Or.inl rfl) (qA hr rfl B.list (pv 3))) (zg (zq (X8 (Wc (pv 5) (fun _=>rfl)) (zG yE (pv 5) zf (fun _ _=>rfl)) Z1)))))),?_⟩
 obtain ⟨rb,rfl,hrb⟩:=id hb
 obtain ⟨rc,xs,rfl,hrc,hall⟩:=id hc
 refine yC (fun v H'=>∃ d kvs,v = .ref d /\ H d = none /\ H' d = some (ndO ptI ptT P w d kvs) /\ NDc ptI ptT K H' kvs /\ yD K H' kvs [((0,b),[])] /\ Grow [] H H') (fun Kk hk=>fun p hp=>⟨_,rfl,szl rfl,fun tk htk=>⟨szl rfl,fun te hte=>?_⟩⟩) ?_
 ·have g0:=Grow.new (m:=[]) hp (ndO ptI ptT P w p [])
  have gk:=Grow.new (m:=[]) htk (.tup [V.int 0,.ref rb])
  have ge:=Grow.new (m:=[]) hte (.tup [])
  have hp1:upd (upd (upd H p (ndO ptI ptT P w p [])) tk (.tup [V.int 0,.ref rb])) te (.tup []) p = some (ndO ptI ptT P w p []):=ge.keep _ _ (by simp) (gk.keep _ _ (by simp) zb)
  have gs:Grow [p] (upd (upd (upd H p (ndO ptI ptT P w p [])) tk (.tup [V.int 0,.ref rb])) te (.tup [])) (upd (upd (upd (upd H p (ndO ptI ptT P w p [])) tk (.tup [V.int 0,.ref rb])) te (.tup [])) p (ndO ptI ptT P w p [(((0:Int),b),tk,.ref te)])):=Grow.setE73 hp1 (by simp)
  have kat:KAt ptI ptT K (upd (upd (upd H p (ndO ptI ptT P w p [])) tk (.tup [V.int 0,.ref rb])) te (.tup [])) ((0:Int),b) tk:=⟨_,_,ge.sqT (SqT.of zb),rfl,rb,rfl,(g0.trans (gk.trans ge)).sqT hrb⟩
  refine ⟨hp1,tk,((0:Int),b),rfl,kat,hk _ _ ⟨p,_,rfl,hp,zb,?_,?_,Grow.shrink hp ((g0.trans (gk.trans ge)).wk.trans gs)⟩⟩
  ·intro x hx
   rw [List.mem_singleton.mp hx]
   exact kat.grow gs
  ·exact .cons ⟨rfl,te,rfl,gs.sqT (SqT.of zb)⟩ .nil
 rintro _ H0 ⟨d,kvs0,rfl,hd,hd0,kc0,es0,g0⟩
 have nda:d ≠ am:=fun z=>by
  rw [z] at hd
  rcases hm with h | ⟨o,h⟩ <;> rw [h] at hd <;> cases hd
 have hm0:Rd H0 am (.dK (yG ms)):=hm.imp (fun z=>g0.keep _ _ (by simp) z) fun ⟨o,z⟩=>⟨o,g0.keep _ _ (by simp) z⟩
 refine ⟨_,rfl,am,_,_,rfl,TD am (yG ms),hm0,fun o H1 hf1 g1 ho1=>?_⟩
 refine SW (fun i σ H'=>∃ (r:Addr) (kvs:List ((Int × List Int) × Addr × V)) (e4 e5:Option V),σ = [some (.ref rb),some (.ref rc),some (.ref am),some (.ref r),e4,e5] /\ Grow [am] H H' /\ H' am = some (.frz o (.dK (yG ms))) /\ H' r = some (ndO ptI ptT P w r kvs) /\ am ≠ r /\ H r = none /\ NDc ptI ptT K H' kvs /\ yD K H' kvs (xL cs ms b i)) ⟨d,kvs0,_,_,rfl,g0.wk.trans g1,hf1,by rw [ho1 d nda]; exact hd0,Ne.symm nda,hd,kc0.grow g1,es0.grow g1⟩ (fun i σ H' _ z=>by obtain ⟨_,_,_,_,_,_,h,_⟩:=z; exact h) ?_ ?_
 ·rintro i p σ H2 hp ⟨r,kvs,e4,e5,rfl,g2,hf2,hr2,nr,hr0,kc2,es2⟩
  have hi:=(List.getElem?_eq_some_iff.mp hp).1
  rw [List.length_map,show (yG ms).length = ms.length from List.length_map ..] at hi
  have few8:=ok.few
  try dsimp only
  refine ⟨_,rfl,_,rfl,_,rfl,_,_,_,rfl,cs,b.length,am,ms,r,kvs,xL cs ms b i,⟨rc,xs,rfl,g2.sqT hrc,g2.callsR hall⟩,rfl,.inr ⟨o,hf2⟩,rfl,hr2,nr,kc2,es2,ok,WY (by omega),Xw ok.few hi,fun r' kvs' H3 hr' g3 hm3 hr3 kc3 es3=>⟨r',kvs',_,_,rfl,?_,g3.frz _ _ _ hf2,hr3,fun z=>?_,?_,kc3,es3⟩⟩
  ·exact (g2.mono (by simp):Grow [am,r] H H2).trans g3 |>.less fun c hc=>by
    simp only [List.mem_cons,List.not_mem_nil,or_false] at hc ⊢
    rcases hc with rfl | rfl
    ·exact .inl rfl
    ·exact .inr hr0
  ·rw [← z,hf2] at hr'; cases hr'
  ·refine g2.free (fun z=>?_) hr'
   rw [List.mem_singleton.mp z,hf2] at hr'; cases hr'
 ·rintro σ H2 ⟨r,kvs,e4,e5,rfl,g2,hf2,hr2,nr,hr0,kc2,es2⟩
  rw [List.length_map,show (yG ms).length = ms.length from List.length_map ..] at es2
  try dsimp only
  have hl:=Paired.length es2
  refine yC (fun v H'=>∃ l,v = .ref l /\ H' l = some (.lst (kvs.map fun x=>x.2.2)) /\ Grow [am] H H' /\ yD K H' kvs (xL cs ms b ms.length)) (fun Kk hk=>⟨_,rfl,r,_,_,rfl,by rw [List.length_map,hl]; exact ZE ok.few,TH P w r kvs,.inl hr2,fun o' H3 hf3 g3 ho3 l hl3=>hk _ _ ⟨l,rfl,by rw [zb,List.map_map]; rfl,?_,?_⟩⟩) ?_
  ·exact ((g2.mono (by simp):Grow [am,r] H H2).trans ((g3.mono (by simp)).trans (Grow.new hl3 _))).less fun c hc=>by
    simp only [List.mem_cons,List.not_mem_nil,or_false] at hc ⊢
    rcases hc with rfl | rfl
    ·exact .inl rfl
    ·exact .inr hr0
  ·exact (es2.grow g3).grow (Grow.new (m:=[]) hl3 _)
  rintro _ H3 ⟨l,rfl,hl3,g3,es3⟩
  refine ⟨_,rfl,_,.inl ⟨_,SqL.of hl3,rfl⟩,?_⟩
  unfold ra at q
  generalize xL cs ms b ms.length = E at es3 q
  cases es3 with
  | nil=>exact iteF (q _ _ g3 rfl)
  | @cons x e xs' es' hx t =>
   refine iteT ⟨_,rfl,l,_,0,x.2.2,rfl,rfl,SqL.of hl3,zt (j:=0) rfl,q _ _ g3 ?_⟩
   exact hx.2
theorem ZT:FnScope ["numbers"] ["numbers"] (zi (top 27)):=⟨rfl,rfl,rfl,by decide +kernel,rfl,by decide +kernel,by decide +kernel⟩
theorem ZU (F:Fun K "as_mask" "as_mask" (top 27) f fd) (B:Blt mg)   (g_sum:mg "sum" = none)   :
  FnOk P w K mg base CX0 (n + 1) f fd ["numbers"] (rA K):=by
 refine F.ok ZT yZ (fun cdv A outer s H vs Q E hr h=>?_)
 obtain ⟨x,rfl,ns,hn,pw,lt,q⟩:=h
 refine ⟨_,(zg (zq (zn (YA rfl) rfl g_sum Su (za (zQ (CSc.of (N':=["number"]) (sub:=[none]) (zi (top 27)) ["numbers"] rfl rfl (by decide +kernel) rfl) rfl (vB (pv 0)) (fun _ _ _ _ _ _=>zh (i:=0) (show (["number"]:List Str).Nodup by decide +kernel) rfl (Or.inl rfl)) (fun _ _ _ _ _ _=>zM) (fun _ _ _ _ _ _=>(zJ Vg zf (pv 0)))) zd)))),?_⟩
 obtain ⟨r,rfl,hr⟩:=hn
 have n40:=SY pw lt
 rw [zY] at hr
 refine ⟨_,rfl,r,rfl,⟨_,hr⟩,Zc (fun i=>1 * 2 ^ i.toNat) hr (by rw [List.length_map]; omega) ?_ ?_⟩
 ·rintro i H' R hi g kk
  obtain ⟨k,hk,rfl⟩:=List.mem_map.mp hi
  have:=lt k hk
  exact ⟨_,rfl,_,_,rfl,rfl,⟨by omega,by omega,by decide⟩,kk _ (Grow.refl _ _)⟩
 ·rintro H' l g hl
  refine ⟨l,_,rfl,SqL.of zb,?_⟩
  rw [rB,jw rfl pw]
  exact q _ (g.trans (Grow.new hl _))
theorem yb:FnScope ["calls","masks","number","call","hand","begun"] ["calls"] (zi (top 35)):=⟨rfl,rfl,rfl,by decide +kernel,rfl,by decide +kernel,by decide +kernel⟩
theorem sr (F:Fun K "hand_masks" "hand_masks" (top 35) f fd) (B:Blt mg) (qc0:zo P w K mg base n "as_mask" ["numbers"] (rA K))  (g_enumerate:mg "enumerate" = none)   :
  FnOk P w K mg base CX0 (n + 1) f fd ["calls"] (XD K):=by
 refine F.ok yb yZ (fun cdv A outer s H vs Q E hr h=>?_)
 obtain ⟨x,rfl,cs,hc,c40,q⟩:=h
 refine ⟨_,(ze (zI (i:=1) yb.nd rfl (Or.inl rfl) jA) (ze (xm PassesOwn.never rfl (wm true (K:=K) rfl rfl g_enumerate (za (pv 0) zd)) (yo rfl (zm (zh (i:=2) yb.nd rfl (Or.inl rfl)) (zm (zh (i:=3) yb.nd rfl (Or.inl rfl)) zU))) (ze (yU (z8 (za (zG zX (pv 3) zf (fun _ _=>rfl)) (za (zG zX (pv 3) zf (fun _ _=>rfl)) zd))) (yo rfl (zm (zh (i:=4) yb.nd rfl (Or.inr rfl)) (zm (zh (i:=5) yb.nd rfl (Or.inr rfl)) zU)))) (zg (Y5 (Room.u173 hr) (pv 1) (pv 2) (zj qc0 hr rfl (za (zQ (CSc.of (N':=["at","other","hand","begun"]) (sub:=[none,none,some 4,some 5]) (zi (top 35)) ["calls","masks","number","call","hand","begun"] rfl rfl (by decide +kernel) rfl) rfl (wm true (K:=K) rfl rfl g_enumerate (za (pv 0) zd)) (fun _ _ _ _ _ _=>Yu (K:=K) 2 rfl rfl (zm (zh (i:=0) (show (["at","other","hand","begun"]:List Str).Nodup by decide +kernel) rfl (Or.inl rfl) (Or.inr rfl)) (zm (zh (i:=1) (show (["at","other","hand","begun"]:List Str).Nodup by decide +kernel) rfl (Or.inl rfl) (Or.inr rfl)) zU)) rfl rfl) (fun _ _ _ _ _ _=>(tq (PW.pt (wQ (zF sA (zG (yd (K:=K) rfl) (pv 1) zf (fun _ _=>rfl)) (pv 2) (zD _)) (xR (zF jY (zG (yd (K:=K) rfl) (pv 1) zf (fun _ _=>rfl)) (pv 3) (zD _))))))) (fun _ _ _ _ _ _=>(pv 0))) zd)) rfl)))) (zg (zq (pv 1))))),?_⟩
 obtain ⟨rc,xs,rfl,hrc,hall⟩:=id hc
 have xl:=hall.len
 refine yC (fun v H'=>∃ d,v = .ref d /\ H d = none /\ H' = upd H d (.dK [])) (fun Kk hk=>fun d hd=>hk _ _ ⟨d,rfl,hd,rfl⟩) ?_
 rintro _ _ ⟨d,rfl,hd,rfl⟩
 have g0:=Grow.new (m:=[]) hd (.dK [])
 refine ⟨_,rfl,rc,_,rfl,g0.sqT hrc,vR (c:=true) (xs:=xs) (fun i σ H'=>∃ (e2 e3 e4 e5:Option V),σ = [some (.ref rc),some (.ref d),e2,e3,e4,e5] /\ H' d = some (.dK (yG ((wu (zy cs) (List.range cs.length)).take i))) /\ Grow [d] H H') ⟨_,_,_,_,rfl,zb,g0.wk⟩ (fun i σ H' _ z=>by obtain ⟨_,_,_,_,_,_,g⟩:=z; exact (g.sqT hrc:SqT K H' rc xs)) ?_ ?_⟩
 ·rintro i x σ H1 T hv ⟨e2,e3,e4,e5,rfl,hd1,g1⟩ hT
  obtain ⟨c,hci,hcat⟩:=hall.get hv
  have hi:=(List.getElem?_eq_some_iff.mp hci).1
  have ec:cg cs i = c:=yw hci
  obtain ⟨rz,rd,rfl,sz,_⟩:=g1.call72 hcat
  have gT:=Grow.new (m:=[]) hT (.tup [.int i,.ref rz])
  have hTT:=zb (H:=H1) (a:=T) (o:=.tup [.int i,.ref rz])
  have hd2:=gT.keep _ _ (by simp) hd1
  have g2:=g1.trans gT.wk
  have sz2:=gT.sqT sz
  generalize upd H1 T _ = H2 at gT hTT hd2 g2 sz2 ⊢
  refine ⟨T,_,rfl,SqT.of hTT,rfl,_,_,rfl,_,_,rfl,rfl,?_⟩
  try dsimp only
  refine ⟨_,rfl,rz,_,0,.int c.hand,rfl,rfl,sz2,zt (j:=0) rfl,_,rfl,rz,_,3,.int c.begun,rfl,rfl,sz2,zt (j:=3) rfl,szl rfl,fun tt ht=>⟨tt,_,rfl,SqT.of zb,rfl,_,_,rfl,_,_,rfl,rfl,?_⟩⟩
  have gt:=Grow.new (m:=[]) ht (.tup [.int c.hand,.int c.begun])
  have hd3:=gt.keep _ _ (by simp) hd2
  have g3:=g2.trans gt.wk
  generalize upd H2 tt _ = H3 at gt hd3 g3 ⊢
  try dsimp only
  have step:∀ j,(List.range (j + 1)).filter (fun k=>zy cs k i) = (List.range j).filter (fun k=>zy cs k i) ++ if zy cs j i = true then [j] else []:=fun j=>by
   rw [List.range_succ,List.filter_append]
   by_cases c:zy cs j i = true <;> simp [c]
  refine ⟨_,rfl,rc,_,rfl,g3.sqT hrc,uE (c:=true) (xs:=xs) (fun j ys σ' H'=>(∃ e0 e1:Option V,σ' = [e0,e1,some (.int c.hand),some (.int c.begun)]) /\ Grow [] H3 H' /\ ys = zH ((List.range j).filter (fun k=>zy cs k i))) ⟨⟨_,_,rfl⟩,Grow.refl _ _,rfl⟩ (fun j ys σ' H' z=>((g3.trans z.2.1.wk).sqT hrc:SqT K H' rc xs)) ?_ ?_⟩
  ·rintro j v ys σ' H4 T4 hv4 ⟨⟨e0,e1,rfl⟩,g4,rfl⟩ hT4
   obtain ⟨c',hcj,hcat'⟩:=hall.get hv4
   have hj:=(List.getElem?_eq_some_iff.mp hcj).1
   obtain ⟨rz',rd',rfl,sz',_⟩:=(g3.trans g4.wk).call72 hcat'
   have gT4:=Grow.new (m:=[]) hT4 (.tup [.int j,.ref rz'])
   have hTT4:=zb (H:=H4) (a:=T4) (o:=.tup [.int j,.ref rz'])
   have sz4:=gT4.sqT sz'
   generalize upd H4 T4 _ = H5 at gT4 hTT4 sz4 ⊢
   have small:(zH ((List.range j).filter (fun k=>zy cs k i))).length < sizeLine:=by
    rw [zR]
    have:=List.length_filter_le (fun k=>zy cs k i) (List.range j)
    rw [List.length_range] at this
    exact lt72 (by omega)
   have ej:cg cs j = c':=yw hcj
   refine ⟨T4,_,rfl,SqT.of hTT4,rfl,_,_,rfl,_,_,rfl,rfl,?_⟩
   refine ⟨_,rfl,rz',_,0,.int c'.hand,rfl,rfl,sz4,zt (j:=0) rfl,_,rfl,rfl,_,rfl,?_⟩
   by_cases ch:c'.hand = c.hand
   ·refine xT (decide_eq_true (congrArg V.int ch)) ⟨_,rfl,rz',_,3,.int c'.begun,rfl,rfl,sz4,zt (j:=3) rfl,_,rfl,_,_,rfl,rfl,_,rfl,?_⟩
    by_cases cb:c'.begun < c.begun
    ·have bf:zy cs j i = true:=by unfold zy; rw [ej,ec,decide_eq_true ch,decide_eq_true cb]; rfl
     refine xT (decide_eq_true cb) ⟨_,rfl,small,⟨_,_,rfl⟩,g4.trans gT4,?_⟩
     rw [step,if_pos bf,vU]; rfl
    ·have bf:¬ zy cs j i = true:=by unfold zy; rw [ej,ec,decide_eq_false cb,Bool.and_false]; exact Bool.false_ne_true
     refine xK (decide_eq_false cb) ⟨⟨_,_,rfl⟩,g4.trans gT4,?_⟩
     rw [step,if_neg bf,List.append_nil]
   ·have bf:¬ zy cs j i = true:=by unfold zy; rw [ej,ec,decide_eq_false ch,Bool.false_and]; exact Bool.false_ne_true
    refine xK (decide_eq_false fun z=>ch (V.int.inj z)) ?_
    try dsimp only
    refine xK rfl ⟨⟨_,_,rfl⟩,g4.trans gT4,?_⟩
    rw [step,if_neg bf,List.append_nil]
  ·rintro ys σ' H4 ⟨_,g4,rfl⟩ l hl
   rw [xl]
   have gl:=Grow.new (m:=[]) hl (.lst (zH ((List.range cs.length).filter (fun k=>zy cs k i))))
   refine ⟨_,rfl,(List.range cs.length).filter (fun k=>zy cs k i),⟨l,rfl,SqL.of zb⟩,List.pairwise_lt_range.sublist List.filter_sublist,(fun k hk=>by have:=List.mem_range.mp (List.mem_filter.mp hk).1; omega),fun H5 g5=>?_⟩
   have G:=g4.trans (gl.trans g5)
   have hd5:=G.keep _ _ (by simp) hd3
   have hat:(wu (zy cs) (List.range cs.length))[i]? = some (i,mk73 ((List.range cs.length).filter (fun k=>zy cs k i))):=by
    unfold wu; rw [List.getElem?_map,List.getElem?_range hi]; rfl
   have nk:i ∉ ((wu (zy cs) (List.range cs.length)).take i).map (·.1):=by
    rw [List.map_take,ud]
    intro z
    obtain ⟨j,hj⟩:=List.getElem?_of_mem z
    have hj2:=(List.getElem?_eq_some_iff.mp hj).1
    rw [List.length_take] at hj2
    rw [List.getElem?_take_of_lt (by omega),List.getElem?_range (by omega)] at hj
    have:=Option.some.inj hj
    omega
   refine ⟨_,rfl,_,rfl,d,_,rfl,DPut.k (k:=Sum.inl (i:Int)) hd5 ?_,⟨_,_,_,_,rfl,?_,g3.trans (G.wk.trans (Grow.setK73 hd5 (by simp)))⟩⟩
   ·unfold yG
    rw [List.length_map,List.length_take,wv]
    exact lt72 (by omega)
   ·rw [zb,WV nk,yO hat]
 ·rintro σ H1 ⟨e2,e3,e4,e5,rfl,hd1,g1⟩
  rw [xl,List.take_of_length_le (by rw [wv,List.length_range]; exact Nat.le_refl _)] at hd1
  exact ⟨_,rfl,q d _ hd (Grow.shrink hd g1) hd1⟩
theorem qQ:FnScope ["board","calls"] ["board","calls"] (zi (top 36)):=⟨rfl,rfl,rfl,by decide +kernel,rfl,by decide +kernel,by decide +kernel⟩
theorem qR (F:Fun K "a_serial" "a_serial" (top 36) f fd) (B:Blt mg) (qc0:zo P w K mg base n "order_by" ["board","calls","masks"] (Xp K)) (qc1:zo P w K mg base n "hand_masks" ["calls"] (XD K)) (qc2:zo P w K mg base n "need_own_times" ["board","thing"] (uh K))   {t_MOST_FOR_SERIAL:Tok} (g_MOST_FOR_SERIAL:mg "MOST_FOR_SERIAL" = some (.int 8 t_MOST_FOR_SERIAL))  :
  FnOk P w K mg base CX0 (n + 1) f fd ["board","calls"] (rC K):=by
 refine F.ok qQ yf (fun cdv A outer s H vs Q E hr h=>?_)
 obtain ⟨x,y,rfl,b,cs,hb,b1,b16,hc,ok,ow,c8,q⟩:=h
 refine ⟨_,(ze (wz (zj qc2 hr rfl (za (pv 0) (za (pv 1) zd)))) (ze (zW (zF sC (zn zp rfl B.len yA (za (pv 1) zd)) (vz rfl g_MOST_FOR_SERIAL (show RelV (.int 8) (.int 8 t_MOST_FOR_SERIAL) from ⟨_,rfl⟩)) (zD _)) (zg vk) zu) (zg (zq (zj qc0 hr rfl (za (pv 0) (za (pv 1) (za (zj qc1 hr rfl (za (pv 1) zd)) zd)))))))),?_⟩
 obtain ⟨rc,xs,rfl,hrc,hall⟩:=id hc
 have xl:=hall.len
 refine ⟨_,rfl,_,rfl,_,_,rfl,b,cs,hb,b1,b16,hc,ok,ow,fun H1 g1=>?_⟩
 try dsimp only
 refine yv (fun c H'=>c = false /\ H' = H1) (fun Kk hk=>⟨_,rfl,rc,_,rfl,.inr (g1.sqT hrc),_,_,rfl,rfl,_,rfl,hk _ _ ⟨decide_eq_false (by omega),rfl⟩⟩) ?_
 rintro _ H1 ⟨rfl,rfl⟩
 refine iteF (yn ?_)
 refine ⟨_,rfl,_,rfl,_,rfl,_,rfl,cs,g1.calls72 hc,ok.len,fun d H2 nd g2 hd=>⟨_,_,_,rfl,b,cs,d,_,(g1.trans g2).board hb,(g1.trans g2).calls72 hc,rfl,.inl hd,⟨?_,ok.len,ok.ok,b16,?_⟩,fun v H3 g3 ho=>?_⟩⟩
 ·intro p hp
  obtain ⟨n,hn,rfl⟩:=List.mem_map.mp hp
  exact List.mem_range.mp hn
 ·rw [wv,List.length_range]; exact c8
 ·exact q v H3 (g1.trans (Grow.shrink nd (g2.wk.trans g3))) ho
theorem qS:FnScope ["_law_calls","_law_left","_law_k","_law_values"] ["_law_calls","_law_left","_law_k","_law_values"] (zi (top 46)):=⟨rfl,rfl,rfl,by decide +kernel,rfl,by decide +kernel,by decide +kernel⟩
theorem qT (F:Fun K "_law_may" "_law_may" (top 46) f fd) (B:Blt mg)   (g_any:mg "any" = none)   :
  FnOk P w K mg base CX0 (n + 1) f fd ["_law_calls","_law_left","_law_k","_law_values"] (se K):=by
 refine F.ok qS VV (fun cdv A outer s H vs Q E hr h=>?_)
 obtain ⟨x,y,z,u,rfl,cs,left,k,vs,hc,hn,rfl,hb,hl,hk,l40,bx0,bx1,q⟩:=h
 refine ⟨_,(ze (zW (zF sB (zG zX (pv 3) (zG zX (zG zX (pv 0) (pv 2) (fun _ _=>rfl)) zf (fun _ _=>rfl)) (fun _ _=>rfl)) (zG zX (zG zX (pv 0) (pv 2) (fun _ _=>rfl)) zf (fun _ _=>rfl)) (zD _)) (zg (zq yc)) zu) (zg (zq (qY (zn (vO rfl) rfl g_any VQ (za (zQ (CSc.of (N':=["_law_j","_law_calls","_law_k"]) (sub:=[none,some 0,some 2]) (zi (top 46)) ["_law_calls","_law_left","_law_k","_law_values"] rfl rfl (by decide +kernel) rfl) rfl (yL (pv 1)) (fun _ _ _ _ _ _=>zh (i:=0) (show (["_law_j","_law_calls","_law_k"]:List Str).Nodup by decide +kernel) rfl (Or.inl rfl)) (fun _ _ _ _ _ _=>zM) (fun _ _ _ _ _ _=>(xk (yN sA (zG (yd (K:=K) rfl) (zG (yd (K:=K) rfl) (pv 1) (pv 0) (fun _ _=>rfl)) zf (fun _ _=>rfl)) (zG (yd (K:=K) rfl) (zG (yd (K:=K) rfl) (pv 1) (pv 2) (fun _ _=>rfl)) zf (fun _ _=>rfl)) (zD _)) (xq (yN jY (zG (yd (K:=K) rfl) (zG (yd (K:=K) rfl) (pv 1) (pv 0) (fun _ _=>rfl)) zf (fun _ _=>rfl)) (zG (yd (K:=K) rfl) (zG (yd (K:=K) rfl) (pv 1) (pv 2) (fun _ _=>rfl)) zf (fun _ _=>rfl)) (zD _)))))) zd)))))),?_⟩
 obtain ⟨rc,xs,rfl,hrc,hall⟩:=id hc
 obtain ⟨rl,rfl,hrl⟩:=id hn
 obtain ⟨rb,rfl,hrb⟩:=id hb
 obtain ⟨zk,hzk,rz,rd,rfl,sz,sd⟩:=hall.getR (List.getElem?_eq_getElem hk)
 have ec:cg cs k = cs[k]:=yw (List.getElem?_eq_getElem hk)
 rw [← ec] at sz sd
 have eb:(cg cs k).box = ((cg cs k).box.toNat:Int):=by omega
 have bml:(vs.map V.int).length = vs.length:=List.length_map ..
 have hat:atI (vs.map V.int) (cg cs k).box = some (.int (vs.getD (cg cs k).box.toNat 0)):=by
  rw [eb]
  refine zt ?_
  rw [Int.toNat_natCast,List.getElem?_map,List.getElem?_eq_getElem bx1,List.getD_eq_getElem?_getD,List.getElem?_eq_getElem bx1]; rfl
 refine ⟨_,rfl,_,rfl,_,rfl,rc,_,_,.ref rz,rfl,rfl,hrc,zt hzk,rz,_,1,.int (cg cs k).box,rfl,rfl,sz,zt (j:=1) rfl,rb,_,_,_,rfl,rfl,hrb,hat,_,rfl,_,rfl,rc,_,_,.ref rz,rfl,rfl,hrc,zt hzk,rz,_,5,.int (cg cs k).answer,rfl,rfl,sz,zt (j:=5) rfl,rfl,_,rfl,?_⟩
 by_cases ca:vs.getD (cg cs k).box.toNat 0 = (cg cs k).answer
 ·refine xK ?_ (yn ?_)
  ·rw [ca]; simp
  refine ⟨_,rfl,rl,rfl,⟨_,hrl⟩,yj (xs:=zH left) (fun j ys H'=>Grow [] H H' /\ ys = ((left.take j).map fun j=>zy cs j k).map V.bl) ⟨Grow.refl _ _,rfl⟩ (fun j ys H' z=>z.1.sqT hrl) ?_ ?_⟩
  ·rintro j x ys H2 hx2 ⟨f2,rfl⟩
   obtain ⟨n,hnj,rfl⟩:=yK hx2
   have hn':=hl n (List.mem_of_getElem? hnj)
   have hj:=(List.getElem?_eq_some_iff.mp hnj).1
   obtain ⟨z2,hz2,rz2,rd2,rfl,sz2,_⟩:=hall.getR (List.getElem?_eq_getElem hn')
   have ec2:cg cs n = cs[n]:=yw (List.getElem?_eq_getElem hn')
   rw [← ec2] at sz2
   have fin:V.bl (zy cs n k) = V.bl (zy cs n k) /\ (((left.take j).map fun j=>zy cs j k).map V.bl).length < sizeLine /\ Grow [] H H2 /\ ((left.take j).map fun j=>zy cs j k).map V.bl ++ [V.bl (zy cs n k)] = ((left.take (j + 1)).map fun j=>zy cs j k).map V.bl:=by
    refine ⟨rfl,?_,f2,?_⟩
    ·rw [List.length_map,List.length_map,List.length_take]; exact lt72 (by omega)
    ·rw [yO hnj,List.map_append,List.map_append]; rfl
   obtain ⟨_,f3,f4,f5⟩:=fin
   refine ⟨_,rfl,_,rfl,rc,_,_,.ref rz2,rfl,rfl,f2.sqT hrc,zt hz2,rz2,_,0,.int (cg cs n).hand,rfl,rfl,f2.sqT sz2,zt (j:=0) rfl,_,rfl,_,rfl,rc,_,_,.ref rz,rfl,rfl,f2.sqT hrc,zt hzk,rz,_,0,.int (cg cs k).hand,rfl,rfl,f2.sqT sz,zt (j:=0) rfl,rfl,_,rfl,?_⟩
   by_cases ch:(cg cs n).hand = (cg cs k).hand
   ·refine xT (decide_eq_true (congrArg V.int ch)) ⟨_,rfl,_,rfl,rc,_,_,.ref rz2,rfl,rfl,f2.sqT hrc,zt hz2,rz2,_,3,.int (cg cs n).begun,rfl,rfl,f2.sqT sz2,zt (j:=3) rfl,_,rfl,_,rfl,rc,_,_,.ref rz,rfl,rfl,f2.sqT hrc,zt hzk,rz,_,3,.int (cg cs k).begun,rfl,rfl,f2.sqT sz,zt (j:=3) rfl,_,_,rfl,rfl,f3,f4,?_⟩
    rw [← f5]
    unfold zy
    rw [decide_eq_true ch,Bool.true_and]
   ·refine xK (decide_eq_false fun z=>ch (V.int.inj z)) ⟨f3,f4,?_⟩
    rw [← f5]
    unfold zy
    rw [decide_eq_false ch,Bool.false_and]
  ·rintro ys H2 ⟨f2,rfl⟩ l2 hl2
   rw [zR,List.take_length]
   have gl:=Grow.new (m:=[]) hl2 (.lst ((left.map fun j=>zy cs j k).map V.bl))
   refine ⟨l2,_,rfl,SqL.of zb,_,rfl,?_⟩
   have ea:(left.map fun j=>zy cs j k).any id = left.any fun j=>zy cs j k:=by rw [List.any_map]; rfl
   rw [ea]
   have em:xZ cs left k vs = !(left.any fun j=>zy cs j k):=by unfold xZ; rw [decide_eq_true ca,Bool.true_and]
   rw [← em]
   exact q _ (f2.trans gl)
 ·refine xT ?_ ?_
  ·show (!decide (V.int _ = V.int _)) = true
   rw [decide_eq_false fun z=>ca (V.int.inj z)]; rfl
  have em:xZ cs left k vs = false:=by unfold xZ; rw [decide_eq_false ca,Bool.false_and]
  rw [← em]
  exact q _ (Grow.refl _ _)
theorem yY:FnScope ["_law_deed","_law_value"] ["_law_deed","_law_value"] (zi (top 43)):=⟨rfl,rfl,rfl,by decide +kernel,rfl,by decide +kernel,by decide +kernel⟩
theorem rS (F:Fun K "_law_done" "_law_done" (top 43) f fd) (B:Blt mg)      :
  FnOk P w K mg base CX0 (n + 1) f fd ["_law_deed","_law_value"] (vJ K):=by
 refine F.ok yY yf (fun cdv A outer s H vs Q E hr h=>?_)
 obtain ⟨x,y,rfl,d,v,hd,rfl,q⟩:=h
 refine ⟨_,(ze (zI (i:=1) yY.nd rfl (Or.inl rfl) (zJ xn (pv 1) (zG zX (pv 0) zf (fun _ _=>rfl)))) (ze (zW (PW.pt (wQ (wP (vA (zG zX (pv 0) zf (fun _ _=>rfl)))) (xR (zF jY (pv 1) (zG zX (pv 0) zf (fun _ _=>rfl)) (zD _))))) (zg (zI (i:=1) yY.nd rfl (Or.inl rfl) (zG zX (pv 0) zf (fun _ _=>rfl)))) zu) (ze (zW (PW.pt (wQ (wP (vA (zG zX (pv 0) zf (fun _ _=>rfl)))) (xR (zF sC (pv 1) (zG zX (pv 0) zf (fun _ _=>rfl)) (zD _))))) (zg (zI (i:=1) yY.nd rfl (Or.inl rfl) (zG zX (pv 0) zf (fun _ _=>rfl)))) zu) (zg (zq (pv 1)))))),?_⟩
 obtain ⟨a,rfl,hs⟩:=hd
 obtain ⟨ad,lo,hi⟩:=d
 have i0:atI (⟨ad,lo,hi⟩:Deed).vs 0 = some (.int ad):=zt (j:=0) rfl
 have i1:atI (⟨ad,lo,hi⟩:Deed).vs 1 = some (ov lo):=zt (j:=1) rfl
 have i2:atI (⟨ad,lo,hi⟩:Deed).vs 2 = some (ov hi):=zt (j:=2) rfl
 refine yC (fun w H'=>w = .int (v + ad) /\ H' = H) (fun Kk hk=>⟨_,rfl,_,rfl,a,_,_,_,rfl,rfl,hs,i0,_,_,rfl,rfl,hk _ _ ⟨rfl,rfl⟩⟩) ?_
 rintro _ H ⟨rfl,rfl⟩
 refine c_if (fun σ' H'=>σ' = [some (.ref a),some (.int (vG lo (v + ad)))] /\ H' = H) ?_ (fun hk=>?_)
 rotate_left
 ·refine ⟨_,rfl,a,_,_,_,rfl,rfl,hs,i1,_,rfl,?_⟩
  cases lo with
  | none=>exact iteF (hk _ _ ⟨rfl,rfl⟩)
  | some l =>
   refine iteT ⟨_,rfl,_,rfl,a,_,_,_,rfl,rfl,hs,i1,_,_,rfl,rfl,_,rfl,?_⟩
   by_cases h:v + ad < l
   ·refine xT (decide_eq_true h) ⟨_,rfl,a,_,_,_,rfl,rfl,hs,i1,hk _ _ ⟨?_,rfl⟩⟩
    show [some (V.ref a),some (V.int l)] = _
    unfold vG; dsimp only; rw [if_pos h]
   ·refine xK (decide_eq_false h) (hk _ _ ⟨?_,rfl⟩)
    unfold vG; dsimp only; rw [if_neg h]; rfl
 rintro _ H ⟨rfl,rfl⟩
 refine c_if (fun σ' H'=>σ' = [some (.ref a),some (.int ((⟨ad,lo,hi⟩:Deed).mk' v))] /\ H' = H) ?_ (fun hk=>?_)
 rotate_left
 ·refine ⟨_,rfl,a,_,_,_,rfl,rfl,hs,i2,_,rfl,?_⟩
  cases hi with
  | none=>exact iteF (hk _ _ ⟨rfl,rfl⟩)
  | some l =>
   refine iteT ⟨_,rfl,_,rfl,a,_,_,_,rfl,rfl,hs,i2,_,_,rfl,rfl,_,rfl,?_⟩
   by_cases h:l < vG lo (v + ad)
   ·refine xT (decide_eq_true h) ⟨_,rfl,a,_,_,_,rfl,rfl,hs,i2,hk _ _ ⟨?_,rfl⟩⟩
    show [some (V.ref a),some (V.int l)] = _
    unfold Deed.mk' tw; dsimp only; rw [if_pos h]
   ·refine xK (decide_eq_false h) (hk _ _ ⟨?_,rfl⟩)
    unfold Deed.mk' tw; dsimp only; rw [if_neg h]
 rintro _ H ⟨rfl,rfl⟩
 exact ⟨_,rfl,q⟩
theorem xQ:FnScope ["_law_calls","_law_k","_law_values","_law_box"] ["_law_calls","_law_k","_law_values"] (zi (top 47)):=⟨rfl,rfl,rfl,by decide +kernel,rfl,by decide +kernel,by decide +kernel⟩
theorem uu (F:Fun K "_law_behind" "_law_behind" (top 47) f fd) (B:Blt mg) (qc0:zo P w K mg base n "_law_done" ["_law_deed","_law_value"] (vJ K))     :
  FnOk P w K mg base CX0 (n + 1) f fd ["_law_calls","_law_k","_law_values"] (sf K):=by
 refine F.ok xQ xb (fun cdv A outer s H vs Q E hr h=>?_)
 obtain ⟨x,y,z,rfl,cs,k,vs,hc,rfl,hb,hk,v16,dok,bx0,bx1,q⟩:=h
 refine ⟨_,(ze (zI (i:=3) xQ.nd rfl (Or.inl rfl) (zG zX (zG zX (pv 0) (pv 1) (fun _ _=>rfl)) zf (fun _ _=>rfl))) (zg (zq (zJ (vX (K:=K) rfl) (zJ (vX (K:=K) rfl) (yV (vW (K:=K) rfl) (pv 2) xv (xw (pv 3))) (z8 (za (zj qc0 hr rfl (za (zG zX (zG zX (pv 0) (pv 1) (fun _ _=>rfl)) zf (fun _ _=>rfl)) (za (zG zX (pv 2) (pv 3) (fun _ _=>rfl)) zd))) zd))) (yV (vW (K:=K) rfl) (pv 2) (xw (zJ xn (pv 3) zf)) xv))))),?_⟩
 obtain ⟨rc,xs,rfl,hrc,hall⟩:=id hc
 obtain ⟨rb,rfl,hrb⟩:=id hb
 obtain ⟨zk,hzk,rz,rd,rfl,sz,sd⟩:=hall.getR (List.getElem?_eq_getElem hk)
 have ec:cg cs k = cs[k]:=yw (List.getElem?_eq_getElem hk)
 rw [← ec] at sz sd
 have eb:(cg cs k).box = ((cg cs k).box.toNat:Int):=by omega
 have bml:(vs.map V.int).length = vs.length:=List.length_map ..
 refine yC (fun v H'=>v = .int ((cg cs k).box.toNat:Int) /\ H' = H) (fun Kk hk2=>⟨_,rfl,_,rfl,rc,_,_,.ref rz,rfl,rfl,hrc,zt hzk,rz,_,1,.int (cg cs k).box,rfl,rfl,sz,zt (j:=1) rfl,hk2 _ _ ⟨congrArg V.int eb,rfl⟩⟩) ?_
 rintro _ H ⟨rfl,rfl⟩
 generalize hx:(cg cs k).box.toNat = bx at bx1 ⊢
 have hat:(vs.map V.int)[bx]? = some (.int (vs.getD bx 0)):=by
  rw [List.getElem?_map,List.getElem?_eq_getElem bx1,List.getD_eq_getElem?_getD,List.getElem?_eq_getElem bx1]; rfl
 have cl1:=xa (vs.map V.int)
 refine ⟨_,rfl,_,rfl,_,rfl,rb,_,rfl,hrb,fun p1 H1 g1 h1=>?_⟩
 refine ⟨_,rfl,_,rfl,rc,_,_,.ref rz,rfl,rfl,g1.sqT hrc,zt hzk,rz,_,2,.ref rd,rfl,rfl,g1.sqT sz,zt (j:=2) rfl,_,rfl,_,rfl,rb,_,_,_,rfl,rfl,g1.sqT hrb,zt hat,_,_,rfl,(cg cs k).deed,_,⟨rd,rfl,g1.sqT sd⟩,rfl,szl rfl,fun t ht=>?_⟩
 have gt:=Grow.new (m:=[]) ht (.tup [.int ((cg cs k).deed.mk' (vs.getD bx 0))])
 refine ⟨p1,t,_,_,rfl,rfl,gt.sqT h1,SqT.of zb,le72 (by have:=cl1 none (some (bx:Int)); show _ + 1 <= 5000; omega),fun p2 H2 g2 h2=>?_⟩
 have G:=g1.trans (gt.trans g2)
 refine ⟨_,rfl,_,rfl,_,_,rfl,rfl,_,rfl,rb,_,rfl,G.sqT hrb,fun p3 H3 g3 h3=>⟨p2,p3,_,_,rfl,rfl,g3.sqT h2,h3,le72 (by have:=cl1 none (some (bx:Int)); have:=cl1 (some ((bx:Int) + 1)) none; rw [List.length_append]; show _ + 1 + _ <= 5000; omega),fun p4 H4 g4 h4=>?_⟩⟩
 refine q _ _ (G.trans (g3.trans g4)) ⟨p4,rfl,?_⟩
 rw [show (bx:Int) + 1 = ((bx + 1:Nat):Int) from by omega,qf,qg] at h4
 unfold bh77
 rw [hx,List.set_eq_take_append_cons_drop,if_pos bx1,List.map_append,List.map_cons,List.map_take,List.map_drop]
 rw [List.append_assoc] at h4
 exact h4
theorem x6:FnScope ["_law_calls","_law_left","_law_values","_law_dead","_law_k","_law_rest"] ["_law_calls","_law_left","_law_values","_law_dead"] (zi (top 48)):=⟨rfl,rfl,rfl,by decide +kernel,rfl,by decide +kernel,by decide +kernel⟩
theorem qU (F:Fun K "_law_can" "_law_can" (top 48) f fd) (B:Blt mg) {N:Nat} (qc0:zo P w K mg base n "_law_may" ["_law_calls","_law_left","_law_k","_law_values"] (se K)) (qc1:zo P w K mg base n "_law_can" ["_law_calls","_law_left","_law_values","_law_dead"] (xg P w N K)) (qc2:zo P w K mg base n "_law_behind" ["_law_calls","_law_k","_law_values"] (sf K))     :
  FnOk P w K mg base CX0 (n + 1) f fd ["_law_calls","_law_left","_law_values","_law_dead"] (xg P w (N + 1) K):=by
 refine F.ok x6 rK (fun cdv A outer s H vs Q E hr h=>?_)
 obtain ⟨y,z,u,t,rfl,cs,left,vs,dk,m,hc,hn,hb,rfl,hk,nd,lt,C,v16,lN,l8,big,q⟩:=h
 refine ⟨_,(ze (zW (zF (ql (K:=K) rfl hr) (pv 1) (z8 zd) (zD _)) (zg (zq yc)) zu) (ze (zW (wP (Ug (p1:=ptT) (p2:=ptT) (P:=P) (w:=w) (K:=K) rfl rfl rfl (Room.u2 hr) (z8 (za (pv 1) (za (pv 2) zd))) (pv 3))) (zg (zq yc)) zu) (ze (xm PassesOwn.never rfl (yL (pv 1)) (zh (i:=4) x6.nd rfl (Or.inr rfl)) (zg (zW (zN (zj qc0 hr rfl (za (pv 0) (za (pv 1) (za (pv 4) (za (pv 2) zd)))))) (ze (zI (i:=5) x6.nd rfl (Or.inl rfl) (yp yq rfl B.tuple ye (za (zQ (CSc.of (N':=["_law_j","_law_k"]) (sub:=[none,some 4]) (zi (top 48)) ["_law_calls","_law_left","_law_values","_law_dead","_law_k","_law_rest"] rfl rfl (by decide +kernel) rfl) rfl (yL (pv 1)) (fun _ _ _ _ _ _=>zh (i:=0) (show (["_law_j","_law_k"]:List Str).Nodup by decide +kernel) rfl (Or.inl rfl)) (fun _ _ _ _ _ _=>(tq (zF sB (pv 0) (pv 1) (zD _)))) (fun _ _ _ _ _ _=>(pv 0))) zd))) (zg (zW (zN (zj qc1 hr rfl (za (pv 0) (za (pv 5) (za (zj qc2 hr rfl (za (pv 0) (za (pv 4) (za (pv 2) zd)))) (za (pv 3) zd)))))) (zg (zq yc)) zu))) zu))) (ze (jG (p1:=ptT) (p2:=ptT) (P:=P) (w:=w) (K:=K) rfl rfl rfl (Room.u2 hr) (pv 3) (z8 (za (pv 1) (za (pv 2) zd))) yc rfl) (zg (zq yc)))))),?_⟩
 obtain ⟨rc,xs,rfl,hrc,hall⟩:=id hc
 obtain ⟨rl,rfl,hrl⟩:=id hn
 obtain ⟨rb,rfl,hrb⟩:=id hb
 have c40:=C.len
 refine yv (fun c H'=>c = (zH left).isEmpty /\ Grow [] H H') (fun Kk hk=>⟨_,rfl,szl rfl,fun t ht=>⟨rl,t,zH left,rfl,rfl,(Grow.new (m:=[]) ht _).sqT hrl,SqT.of zb,_,rfl,hk _ _ ⟨rfl,Grow.new ht _⟩⟩⟩) ?_
 rintro _ H1 ⟨rfl,g1⟩
 have hk1:=hk.grow (ms:=[]) (by simp) g1
 by_cases hne:left = []
 ·subst hne
  refine iteT (q true _ g1.wk (hk1.mono (Nat.le_add_right _ _)) ⟨fun _=>ZO,fun _=>rfl⟩)
 have hE:(zH left).isEmpty = false:=by
  cases left with
  | nil=>exact absurd rfl hne
  | cons a l=>rfl
 rw [hE]
 refine iteF (yn ?_)
 have hlen:fz73 left.length = 1 + left.length * fz73 (left.length - 1):=by
  cases left with
  | nil=>exact absurd rfl hne
  | cons a l=>rfl
 have szl1:(1000000:Nat) < sizeLine:=by rw [sizeLine_eq]; decide
 have hrlI:∀ {ms:List Addr} {H':Hp},Grow ms H H' -> SqT K H' rl ((left.map fun k:Nat=>(k:Int)).map V.int):=fun g=>by rw [← zY]; exact g.sqT hrl
 refine yv (fun c H'=>(c = true -> ¬ yI cs left vs) /\ Grow [] H1 H') (fun Kk hk2=>⟨_,rfl,_,rfl,szl rfl,fun tk htk=>?_⟩) ?_
 ·have gk:=Grow.new (m:=[]) htk (.tup [V.ref rl,V.ref rb])
  have g2:=g1.trans gk
  obtain ⟨kvs,h1,h2,h3,h4⟩:=hk1.grow (by simp) gk
  have kat:KAt ptT ptT K (upd H1 tk (.tup [V.ref rl,V.ref rb])) (left.map (fun k:Nat=>(k:Int)),vs) tk:=⟨_,_,SqT.of zb,⟨rl,rfl,hrlI g2⟩,⟨rb,rfl,g2.sqT hrb⟩⟩
  refine ⟨_,rfl,dk,kvs,_,tk,rfl,rfl,.inl h1,h2,kat,_,rfl,hk2 _ _ ⟨fun z=>?_,gk⟩⟩
  cases e:valV (kvs.map prV) (left.map (fun k:Nat=>(k:Int)),vs) with
  | some y=>exact u5 h3 y e
  | none=>rw [e] at z; cases z
 rintro c H2 ⟨hcan0,g2⟩
 have G2:=g1.trans g2
 have hk2:=hk1.grow (ms:=[]) (by simp) g2
 cases c with
 | true =>
  exact iteT (q false _ G2.wk (hk2.mono (Nat.le_add_right _ _)) ⟨fun z=>by (cases z),fun z=>absurd z (hcan0 rfl)⟩)
 | false =>
 refine iteF (yn ?_)
 refine ⟨_,rfl,rl,rfl,⟨_,G2.sqT hrl⟩,rX (xs:=zH left) (fun i σ H'=>∃ (e4 e5:Option V),σ = [some (.ref rc),some (.ref rl),some (.ref rb),some (.ref dk),e4,e5] /\ Grow [dk] H H' /\ yR P w K cs dk (m + i * fz73 (left.length - 1)) H' /\ ∀ k ∈ left.take i,¬ (xZ cs left k vs = true /\ yI cs (wo73 left k) (bh77 cs k vs))) ⟨_,_,rfl,G2.wk,hk2.mono (Nat.le_add_right _ _),fun k hk=>by (cases hk)⟩ (fun i σ H' _ z=>by obtain ⟨_,_,_,g,_⟩:=z; exact g.sqT hrl) ?_ ?_⟩
 ·rintro i x σ J1 hx ⟨e4,e5,rfl,f1,kn1,hno⟩
  obtain ⟨k,hki,rfl⟩:=yK hx
  have hi:=(List.getElem?_eq_some_iff.mp hki).1
  have km:=List.mem_of_getElem? hki
  have hk':=lt k km
  have bx:=C.ok _ (sY hk')
  have bx0:=bx.b0
  have bx1:(cg cs k).box.toNat < vs.length:=by have:=bx.b1; omega
  have wl:=vt nd km
  have mul:i * fz73 (left.length - 1) + fz73 (left.length - 1) <= left.length * fz73 (left.length - 1):=by
   have:=Nat.mul_le_mul_right (fz73 (left.length - 1)) (show i + 1 <= left.length by omega)
   rwa [Nat.add_mul,Nat.one_mul] at this
  have kn1':yR P w K cs dk (m + (i + 1) * fz73 (left.length - 1)) J1:=kn1.mono (by rw [Nat.add_mul]; omega)
  have stay:∀ {H':Hp} (e5:Option V),Grow [dk] H H' -> yR P w K cs dk (m + (i + 1) * fz73 (left.length - 1)) H' -> ¬ (xZ cs left k vs = true /\ yI cs (wo73 left k) (bh77 cs k vs)) -> ∃ (e4' e5':Option V),[some (V.ref rc),some (V.ref rl),some (V.ref rb),some (V.ref dk),some (V.int (k:Int)),e5] = [some (V.ref rc),some (V.ref rl),some (V.ref rb),some (V.ref dk),e4',e5'] /\ Grow [dk] H H' /\ yR P w K cs dk (m + (i + 1) * fz73 (left.length - 1)) H' /\ ∀ k ∈ left.take (i + 1),¬ (xZ cs left k vs = true /\ yI cs (wo73 left k) (bh77 cs k vs)):=fun e5 h2 h3 h6=>⟨_,e5,rfl,h2,h3,fun j hj=>by
   rw [yO hki] at hj
   rcases List.mem_append.mp hj with z | z
   ·exact hno j z
   ·rw [List.mem_singleton.mp z]; exact h6⟩
  try dsimp only
  show tIfS _ _ _ _ _ _
  refine vy (fun c H'=>c = xZ cs left k vs /\ Grow [] J1 H') (fun Kk hk9=>⟨_,rfl,_,rfl,_,rfl,_,rfl,_,_,_,_,rfl,cs,left,k,vs,f1.calls72 hc,⟨rl,rfl,f1.sqT hrl⟩,rfl,⟨rb,rfl,f1.sqT hrb⟩,lt,hk',by omega,bx0,bx1,fun H' g=>⟨_,rfl,hk9 _ _ ⟨rfl,g⟩⟩⟩) ?_
  rintro _ J2 ⟨rfl,f2⟩
  have f12:=f1.trans f2.wk
  have kn2:=kn1.grow (ms:=[]) (by simp) f2
  have kn2':=kn1'.grow (ms:=[]) (by simp) f2
  cases hmay:xZ cs left k vs with
  | false =>
   refine iteF ?_
   exact stay e5 f12 kn2' fun z=>by rw [hmay] at z; cases z.1
  | true =>
   refine iteT ?_
   have hrlI2:SqT K J2 rl ((left.map fun k:Nat=>(k:Int)).map V.int):=by rw [← zY]; exact f12.sqT hrl
   refine yC (fun v H'=>y8 K H' v (wo73 left k) /\ Grow [] J2 H') (fun Kk hk2=>⟨_,rfl,rl,rfl,⟨_,hrlI2⟩,uB (pI fun j=>!decide (j = (k:Int))) id hrlI2 (by rw [List.length_map,List.length_map]; omega) ?_ ?_ ?_⟩) ?_
   ·rintro x J4 R hx4 f4 kk
    obtain ⟨j,hj,rfl⟩:=List.mem_map.mp hx4
    refine ⟨_,rfl,_,rfl,rfl,_,rfl,?_⟩
    have:(!decide (V.int j = V.int (k:Int))) = pI (fun j=>!decide (j = (k:Int))) (V.int j):=by
     show _ = !decide (j = (k:Int))
     congr 1
     exact decide_eq_decide.mpr ⟨V.int.inj,congrArg V.int⟩
    rw [this]
    exact kk _ (Grow.refl _ _)
   ·rintro x J4 R hx4 _ f4 kk
    exact ⟨_,rfl,kk _ (Grow.refl _ _)⟩
   ·rintro J4 l4 f4 hl4
    rw [Yq]
    have ef:((left.map fun k:Nat=>(k:Int)).filter fun j=>!decide (j = (k:Int))) = (wo73 left k).map fun k:Nat=>(k:Int):=by
     unfold wo73
     rw [List.filter_map]
     congr 1
     refine List.filter_congr fun j _=>?_
     show (!decide ((j:Int) = (k:Int))) = !decide (j = k)
     congr 1
     exact decide_eq_decide.mpr ⟨fun h=>Int.ofNat.inj h,fun h=>by rw [h]⟩
    rw [ef,← zY]
    exact ⟨l4,_,rfl,.inl ⟨SqL.of zb,fun r hr=>hk2 _ _ ⟨⟨r,rfl,SqT.of zb⟩,f4.trans ((Grow.new hl4 _).trans (Grow.new hr _))⟩⟩⟩
   rintro vr J4 ⟨hvr,f4⟩
   have f14:=f12.trans f4.wk
   have kn4:=kn2.grow (ms:=[]) (by simp) f4
   have bl:(bh77 cs k vs).length = vs.length:=List.length_set ..
   refine vy (fun c H'=>(c = true ↔ yI cs (wo73 left k) (bh77 cs k vs)) /\ Grow [dk] J4 H' /\ yR P w K cs dk (m + (i + 1) * fz73 (left.length - 1)) H') (fun Kk hk3=>⟨_,rfl,_,rfl,_,rfl,_,rfl,_,rfl,_,_,_,rfl,cs,k,vs,f14.calls72 hc,rfl,⟨rb,rfl,f14.sqT hrb⟩,hk',v16,bx.d,bx0,bx1,fun v5 J5 f5 hb5=>⟨_,rfl,_,_,_,_,rfl,cs,wo73 left k,bh77 cs k vs,dk,m + i * fz73 (left.length - 1),(f14.trans f5.wk).calls72 hc,?_,hb5,rfl,kn4.grow (ms:=[]) (by simp) f5,uU nd,(fun j hj=>lt j (vw.mp hj).1),by rw [bl]; exact C,by rw [bl]; exact v16,by omega,by omega,?_,fun c J6 f6 kn6 z=>⟨_,rfl,hk3 _ _ ⟨z,f5.wk.trans f6,?_⟩⟩⟩⟩) ?_
   ·obtain ⟨r,rfl,hr⟩:=hvr
    exact ⟨r,rfl,f5.sqT hr⟩
   ·rw [show (wo73 left k).length = left.length - 1 by omega]; omega
   ·rw [show (wo73 left k).length = left.length - 1 by omega] at kn6
    exact kn6.mono (by rw [Nat.add_mul]; omega)
   rintro c J5 ⟨z1,f5,kn5⟩
   have f15:=f14.trans f5
   cases c with
   | false =>
    refine iteF ?_
    exact stay _ f15 kn5 fun z=>by have:=z1.mpr z.2; cases this
   | true =>
    refine iteT ?_
    exact q true _ f15 (kn5.mono (by rw [hlen,Nat.add_mul]; omega)) ⟨fun _=>(uk hne nd).mpr ⟨k,km,hmay,z1.mp rfl⟩,fun _=>rfl⟩
 ·rintro σ J1 ⟨e4,e5,rfl,f1,kn1,hno⟩
  rw [zR] at kn1
  rw [zR,List.take_length] at hno
  have hcv:¬ yI cs left vs:=fun z=>by
   obtain ⟨k,hk1,hk2⟩:=(uk hne nd).mp z
   exact hno k hk1 hk2
  refine ⟨_,rfl,_,rfl,_,rfl,szl rfl,fun tk2 htk2=>?_⟩
  have gk2:=Grow.new (m:=[]) htk2 (.tup [V.ref rl,V.ref rb])
  have f4:=f1.trans gk2.wk
  obtain ⟨kv3,d1,d2,d3,d4⟩:=kn1.grow (ms:=[]) (by simp) gk2
  have kat2:KAt ptT ptT K (upd J1 tk2 (.tup [V.ref rl,V.ref rb])) (left.map (fun k:Nat=>(k:Int)),vs) tk2:=⟨_,_,SqT.of zb,⟨rl,rfl,hrlI f4⟩,⟨rb,rfl,f4.sqT hrb⟩⟩
  obtain ⟨gs,dd⟩:=ZP (P:=P) (w:=w) d1 d2 d3 d4 kat2 hcv (.bl true)
  refine ⟨dk,kv3,_,tk2,rfl,rfl,d1,d2,kat2,by omega,?_⟩
  exact q false _ (f4.trans gs) (dd.mono (by omega)) ⟨fun z=>by (cases z),fun z=>absurd z hcv⟩
theorem ve:FnScope ["_law_thing"] ["_law_thing"] (zi (top 44)):=⟨rfl,rfl,rfl,by decide +kernel,rfl,by decide +kernel,by decide +kernel⟩
theorem vf (F:Fun K "_law_is_whole" "_law_is_whole" (top 44) f fd) (B:Blt mg)      :
  FnOk P w K mg base CX0 (n + 1) f fd ["_law_thing"] (wM K):=by
 refine F.ok ve yZ (fun cdv A outer s H vs Q E hr h=>?_)
 obtain ⟨x,rfl,i,rfl,q⟩:=h
 refine ⟨_,(zg (zq (xk (zn zL rfl B.isinstance zB (za (pv 0) (za (y6 rfl B.int UT) zd))) (xq (qY (zn zL rfl B.isinstance zB (za (pv 0) (za (y6 rfl B.bool Vm) zd)))))))),?_⟩
 exact ⟨_,rfl,_,_,_,true,rfl,rfl,rfl,_,rfl,iteT ⟨_,rfl,_,_,_,false,rfl,rfl,rfl,_,rfl,q⟩⟩
theorem zV:FnScope ["_law_board","_law_calls","_law_thing","_law_values","_law_at_here","_law_k"] ["_law_board","_law_calls","_law_thing"] (zi (top 49)):=⟨rfl,rfl,rfl,by decide +kernel,rfl,by decide +kernel,by decide +kernel⟩
theorem wO (F:Fun K "_law_is_serial" "_law_is_serial" (top 49) f fd) (B:Blt mg) (qc0:zo P w K mg base n "_law_behind" ["_law_calls","_law_k","_law_values"] (sf K)) (qc1:zo P w K mg base n "_law_may" ["_law_calls","_law_left","_law_k","_law_values"] (se K)) (qc2:zo P w K mg base n "_law_is_whole" ["_law_thing"] (wM K))  (g_enumerate:mg "enumerate" = none) (g_sorted:mg "sorted" = none)   :
  FnOk P w K mg base CX0 (n + 1) f fd ["_law_board","_law_calls","_law_thing"] (jR K):=by
 refine F.ok zV xb (fun cdv A outer s H vs Q E hr h=>?_)
 obtain ⟨x,y,z,rfl,b,cs,o,hb,b16,hc,ok,hn,S,q⟩:=h
 refine ⟨_,(ze (zW (PW.pt (xS (z5 (zN (zn zL rfl B.isinstance zB (za (pv 2) (za (y6 rfl B.tuple ye) zd))))) (y4 (z5 (zN (zn (y7 rfl) rfl B.all j8 (za (zQ (CSc.of (N':=["_law_k"]) (sub:=[none]) (zi (top 49)) ["_law_board","_law_calls","_law_thing","_law_values","_law_at_here","_law_k"] rfl rfl (by decide +kernel) rfl) rfl (yL (pv 2)) (fun _ _ _ _ _ _=>zh (i:=0) (show (["_law_k"]:List Str).Nodup by decide +kernel) rfl (Or.inl rfl)) (fun _ _ _ _ _ _=>zM) (fun _ _ _ _ _ _=>(zj qc2 hr rfl (za (pv 0) zd)))) zd))))))) (zg (zq yc)) zu) (ze (zW (zF (UY hr) (zn (wU (K:=K) rfl) rfl g_sorted jd (za (pv 2) zd)) (yB rfl rfl B.list rfl B.range (za (zn zp rfl B.len yA (za (pv 1) zd)) zd)) (zD _)) (zg (zq yc)) zu) (ze (zI (i:=3) zV.nd rfl (Or.inl rfl) (pv 0)) (ze (xm PassesOwn.never rfl (wm true (K:=K) rfl rfl g_enumerate (za (pv 2) zd)) (yo rfl (zm (zh (i:=4) zV.nd rfl (Or.inl rfl)) (zm (zh (i:=5) zV.nd rfl (Or.inl rfl)) zU))) (ze (zW (z5 (zN (zj qc1 hr rfl (za (pv 1) (za (yV (vW (K:=K) rfl) (pv 2) (xw (pv 4)) xv) (za (pv 5) (za (pv 3) zd))))))) (zg (zq yc)) zu) (zg (zI (i:=3) zV.nd rfl (Or.inl rfl) (zj qc0 hr rfl (za (pv 1) (za (pv 5) (za (pv 3) zd)))))))) (zg (zq yc)))))),?_⟩
 obtain ⟨rc,xs,rfl,hrc,hall⟩:=id hc
 obtain ⟨ro,rfl,hro⟩:=id hn
 obtain ⟨rb,rfl,hrb⟩:=id hb
 have xl:=hall.len
 have c40:=ok.len
 obtain ⟨sp,sk,sa⟩:=S
 have ol:o.length = cs.length:=by rw [sp.length_eq,List.length_range]
 have olt:∀ k ∈ o,k < cs.length:=fun k hk=>List.mem_range.mp (sp.mem_iff.mp hk)
 refine yv (fun c H'=>c = false /\ Grow [] H H') (fun Kk hk=>?_) ?_
 ·refine ⟨_,rfl,_,_,_,true,rfl,.inl ⟨rfl,_,hro⟩,rfl,_,rfl,iteF ?_⟩
  refine ⟨_,rfl,ro,rfl,⟨_,hro⟩,vL (fun _=>V.bl true) hro (by rw [zR]; omega) ?_ ?_⟩
  ·intro x H1 R hx g k
   obtain ⟨i,_,rfl⟩:=List.mem_map.mp hx
   exact ⟨_,rfl,_,rfl,i,rfl,k _ (Grow.refl _ _)⟩
  ·intro H1 p g hp
   refine ⟨p,(zH o).map (fun _=>true),rfl,SqL.of (by rw [zb,List.map_map]; rfl),_,rfl,hk _ _ ⟨?_,g.trans (Grow.new hp _)⟩⟩
   rw [show ((zH o).map fun _=>true).all id = true from by rw [List.all_map]; exact List.all_eq_true.mpr fun _ _=>rfl]; rfl
 rintro _ H1 ⟨rfl,g1⟩
 refine iteF (yn ?_)
 refine yv (fun c H'=>c = false /\ Grow [] H1 H') (fun Kk hk=>?_) ?_
 ·refine ⟨_,rfl,ro,o.map (fun k:Nat=>(k:Int)),rfl,by rw [← zY]; exact g1.sqT hro,by rw [List.length_map]; omega,fun p ms hp hperm hpw=>?_⟩
  have gp:=Grow.new (m:=[]) hp (.lst (ms.map V.int))
  refine ⟨_,rfl,rc,_,rfl,.inr ((g1.trans gp).sqT hrc),xs.length,rfl,by omega,fun l hl'=>?_⟩
  have gl:=Grow.new (m:=[]) hl' (.lst ((List.range xs.length).map fun i:Nat=>V.int i))
  refine ⟨p,l,_,_,rfl,rfl,SqL.of (gl.keep _ _ (by simp) zb),SqL.of zb,vq _,jr _,_,rfl,hk _ _ ⟨?_,gp.trans gl⟩⟩
  rw [if_pos rfl,show ((List.range xs.length).map fun i:Nat=>V.int i) = zH (List.range xs.length) from rfl,zY,we,xl]
  rw [decide_eq_true ((s8 hperm hpw).mpr ⟨o,by rw [List.map_map]; rfl,sp⟩)]; rfl
 rintro _ H2 ⟨rfl,g2⟩
 refine iteF (yn ?_)
 have G2:=g1.trans g2
 refine yC (fun v H'=>v = .ref rb /\ H' = H2) (fun Kk hk=>⟨_,rfl,hk _ _ ⟨rfl,rfl⟩⟩) ?_
 rintro _ H2 ⟨rfl,rfl⟩
 refine ⟨_,rfl,ro,_,rfl,G2.sqT hro,vR (c:=true) (xs:=zH o) (fun i σ H'=>∃ (vv:V) (ws:List Int) (e4 e5:Option V),σ = [some (.ref rb),some (.ref rc),some (.ref ro),some vv,e4,e5] /\ zr K H' vv ws /\ ws.length = b.length /\ kh77 cs (o.drop i) = true /\ an72 cs ws (o.drop i) = true /\ Grow [] H H') ⟨.ref rb,b,_,_,rfl,G2.board hb,rfl,sk,sa,G2⟩ (fun i σ H' _ z=>by obtain ⟨_,_,_,_,_,_,_,_,_,g⟩:=z; exact g.sqT hro) ?_ ?_⟩
 ·rintro i v σ H3 T hv ⟨vv,ws,e4,e5,rfl,hw,wl,hk,ha,g3⟩ hT
  obtain ⟨k,hki,rfl⟩:=yK hv
  have hi:=(List.getElem?_eq_some_iff.mp hki).1
  have hk':=olt k (List.mem_of_getElem? hki)
  have ed:o.drop i = k :: o.drop (i + 1):=by rw [List.drop_eq_getElem_cons hi,(List.getElem?_eq_some_iff.mp hki).2]
  have bx:=ok.ok _ (sY hk')
  have bx0:=bx.b0
  have bx1:(cg cs k).box.toNat < ws.length:=by have:=bx.b1; omega
  rw [ed,yQ,Bool.and_eq_true] at hk
  rw [ed,yi] at ha
  by_cases c:ws.getD (cg cs k).box.toNat 0 = (cg cs k).answer
  ·rw [if_pos c] at ha
   have hm:xZ cs (o.drop i) k ws = true:=by
    unfold xZ
    rw [decide_eq_true c,ed,List.any_cons,wJ,Bool.false_or,hk.1]; rfl
   have gT:=Grow.new (m:=[]) hT (.tup [.int i,.int k])
   have cut:∀ {H':Hp},Grow [] H H' -> SqT K H' ro (zH o):=fun g=>g.sqT hro
   refine ⟨T,_,rfl,SqT.of zb,rfl,_,_,rfl,_,_,rfl,rfl,?_⟩
   try dsimp only
   have g3T:=g3.trans gT
   have hwT:=gT.board hw
   generalize upd H3 T (.tup [.int i,.int k]) = H4 at g3T hwT ⊢
   have bl:(bh77 cs k ws).length = ws.length:=List.length_set ..
   have em:bh77 cs k ws = ws.set (cg cs k).box.toNat ((cg cs k).deed.mk' (cg cs k).answer):=by unfold bh77; rw [c]
   refine yv (fun c H'=>c = false /\ Grow [] H4 H') (fun Kk hk9=>⟨_,rfl,_,rfl,_,rfl,_,rfl,ro,_,rfl,cut g3T,fun p1 H5 g5 h5=>⟨_,rfl,_,rfl,_,_,_,_,rfl,cs,o.drop i,k,ws,(g3T.trans g5).calls72 hc,⟨p1,rfl,?_⟩,rfl,g5.board hwT,(fun j hj=>olt j (List.mem_of_mem_drop hj)),hk',by rw [List.length_drop]; omega,bx0,bx1,fun H6 g6=>⟨_,rfl,hk9 _ _ ⟨by rw [hm]; rfl,g5.trans g6⟩⟩⟩⟩) ?_
   ·rw [qg] at h5
    unfold zH at h5 ⊢
    rw [List.map_drop]
    exact h5
   rintro _ H5 ⟨rfl,g5⟩
   refine iteF (yn ?_)
   refine ⟨_,rfl,_,rfl,_,rfl,_,_,_,rfl,cs,k,ws,(g3T.trans g5).calls72 hc,rfl,g5.board hwT,hk',by omega,bx.d,bx0,bx1,fun v6 H6 g6 hb6=>?_⟩
   exact ⟨v6,bh77 cs k ws,_,_,rfl,hb6,by omega,hk.2,by rw [em]; exact ha,g3T.trans (g5.trans g6)⟩
  ·rw [if_neg c] at ha; cases ha
 ·rintro σ H3 ⟨vv,ws,e4,e5,rfl,hw,wl,hk,ha,g3⟩
  exact q _ g3
theorem yt:FnScope ["_law_pot_here","_law_board","_law_calls","_law_pairs","_law_box","_law_own","_law_some"] ["_law_pot_here","_law_board","_law_calls"] (zi (top 50)):=⟨rfl,rfl,rfl,by decide +kernel,rfl,by decide +kernel,by decide +kernel⟩
theorem ss (F:Fun K "_law_right" "_law_right" (top 50) f fd) (B:Blt mg) (qc0:zo P w K mg base n "is_serial" ["board","calls","order"] (uZ K)) (qc1:zo P w K mg base n "_law_shuffled" ["_law_pot_here","_law_row"] (ug K)) (qc2:zo P w K mg base n "a_serial" ["board","calls"] (rC K)) (qc3:zo P w K mg base n "_law_can" ["_law_calls","_law_left","_law_values","_law_dead"] (xg P w 9 K)) (qc4:zo P w K mg base n "_law_is_serial" ["_law_board","_law_calls","_law_thing"] (jR K))  (g_any:mg "any" = none) (g_enumerate:mg "enumerate" = none)   :
  FnOk P w K mg base CX0 (n + 1) f fd ["_law_pot_here","_law_board","_law_calls"] (u6 K):=by
 refine F.ok yt xb (fun cdv A outer s H vs Q E hr h=>?_)
 obtain ⟨x,y,z,rfl,p,b,cs,rfl,pp,hb,hc,M,q⟩:=h
 refine ⟨_,(ze (zI (i:=3) yt.nd rfl (Or.inr rfl) (zQ (CSc.of (N':=["_law_call"]) (sub:=[none]) (zi (top 50)) ["_law_pot_here","_law_board","_law_calls","_law_pairs","_law_box","_law_own","_law_some"] rfl rfl (by decide +kernel) rfl) rfl (yL (pv 2)) (fun _ _ _ _ _ _=>zh (i:=0) (show (["_law_call"]:List Str).Nodup by decide +kernel) rfl (Or.inl rfl)) (fun _ _ _ _ _ _=>zM) (fun _ _ _ _ _ _=>(z8 (za (zG (yd (K:=K) rfl) (pv 0) zf (fun _ _=>rfl)) (za (zG (yd (K:=K) rfl) (pv 0) zf (fun _ _=>rfl)) zd)))))) (ze (zW (PW.pt (xS (zF sC (zn zp rfl B.len yA (za (pv 2) zd)) zf (zD _)) (y4 (zN (zn (vO rfl) rfl g_any VQ (za (zQ (CSc.of (N':=["_law_k","_law_pair","_law_pairs"]) (sub:=[none,none,some 3]) (zi (top 50)) ["_law_pot_here","_law_board","_law_calls","_law_pairs","_law_box","_law_own","_law_some"] rfl rfl (by decide +kernel) rfl) rfl (wm false (K:=K) rfl rfl g_enumerate (za (pv 3) zd)) (fun _ _ _ _ _ _=>Yu (K:=K) 2 rfl rfl (zm (zh (i:=0) (show (["_law_k","_law_pair","_law_pairs"]:List Str).Nodup by decide +kernel) rfl (Or.inl rfl) (Or.inr rfl)) (zm (zh (i:=1) (show (["_law_k","_law_pair","_law_pairs"]:List Str).Nodup by decide +kernel) rfl (Or.inl rfl) (Or.inr rfl)) zU)) rfl rfl) (fun _ _ _ _ _ _=>zM) (fun _ _ _ _ _ _=>(yN (WZ (K:=K) rfl hr) (pv 1) (yV (Wp (K:=K) rfl) (pv 2) xv (xw (pv 0))) (by with_unfolding_all rfl)))) zd)))))) (zg (zq yc)) zu) (ze (xm PassesOwn.never rfl (xt rfl B.range (za (zn zp rfl B.len yA (za (pv 1) zd)) zd)) (zh (i:=4) yt.nd rfl (Or.inr rfl)) (ze (zI (i:=5) yt.nd rfl (Or.inl rfl) (yp yq rfl B.tuple ye (za (zQ (CSc.of (N':=["_law_call","_law_box"]) (sub:=[none,some 4]) (zi (top 50)) ["_law_pot_here","_law_board","_law_calls","_law_pairs","_law_box","_law_own","_law_some"] rfl rfl (by decide +kernel) rfl) rfl (yL (pv 2)) (fun _ _ _ _ _ _=>zh (i:=0) (show (["_law_call","_law_box"]:List Str).Nodup by decide +kernel) rfl (Or.inl rfl)) (fun _ _ _ _ _ _=>(tq (zF sA (zG (yd (K:=K) rfl) (pv 0) zf (fun _ _=>rfl)) (pv 1) (zD _)))) (fun _ _ _ _ _ _=>(pv 0))) zd))) (ze (zW (z5 (zN (zj qc3 hr rfl (za (pv 5) (za (v7 rfl rfl B.tuple rfl B.range (za (zn zp rfl B.len yA (za (pv 5) zd)) zd)) (za (pv 1) (za (tV (P:=P) (w:=w) ptT ptT rfl rfl) zd sV))))))) (zg (zq yc)) zu) (zg (zW (z5 (zN (zj qc4 hr rfl (za (pv 1) (za (pv 5) (za (zj qc2 hr rfl (za (pv 1) (za (pv 5) zd))) zd)))))) (zg (zq yc)) zu))))) (ze (zW (PW.pt (xS (zN (zj qc3 hr rfl (za (pv 2) (za (v7 rfl rfl B.tuple rfl B.range (za (zn zp rfl B.len yA (za (pv 2) zd)) zd)) (za (pv 1) (za (tV (P:=P) (w:=w) ptT ptT rfl rfl) zd sV)))))) (y4 (wP (vA (zj qc2 hr rfl (za (pv 1) (za (pv 2) zd)))))))) (zg (zq yc)) zu) (ze (vn (i:=6) yt.nd rfl rfl (CSc.of (N':=["_law_turn","_law_pot_here","_law_calls"]) (sub:=[none,some 0,some 2]) (zi (top 50)) ["_law_pot_here","_law_board","_law_calls","_law_pairs","_law_box","_law_own","_law_some"] rfl rfl (by decide +kernel) rfl) rfl (xt rfl B.range (za zf zd)) (fun _ _ _ _ _ _=>zh (i:=0) (show (["_law_turn","_law_pot_here","_law_calls"]:List Str).Nodup by decide +kernel) rfl (Or.inl rfl)) (fun _ _ _ _ _ _=>zM) (fun _ _ _ _ _ _=>(yp (qc (K:=K) rfl) rfl B.tuple ye (za (zj qc1 hr rfl (za (pv 1) (za (yB rfl rfl B.list rfl B.range (za (zn (vN (K:=K) rfl) rfl B.len yA (za (pv 2) zd)) zd)) zd))) zd)))) (zg (zq (qY (zn (vO rfl) rfl g_any VQ (za (zQ (CSc.of (N':=["_law_row","_law_board","_law_calls"]) (sub:=[none,some 1,some 2]) (zi (top 50)) ["_law_pot_here","_law_board","_law_calls","_law_pairs","_law_box","_law_own","_law_some"] rfl rfl (by decide +kernel) rfl) rfl (vB (pv 6)) (fun _ _ _ _ _ _=>zh (i:=0) (show (["_law_row","_law_board","_law_calls"]:List Str).Nodup by decide +kernel) rfl (Or.inl rfl)) (fun _ _ _ _ _ _=>zM) (fun _ _ _ _ _ _=>(zj qc0 hr rfl (za (pv 1) (za (pv 2) (za (pv 0) zd)))))) zd)))))))))),?_⟩
 obtain ⟨b1,b16,ok,c8,ow,yes,no⟩:=M
 obtain ⟨rb,rfl,hrb⟩:=id hb
 obtain ⟨rc,xs,rfl,hrc,hall⟩:=id hc
 have xl:=hall.len
 have c40:=ok.len
 have bml:(b.map V.int).length = b.length:=List.length_map ..
 refine yC (fun v H'=>∃ (l:Addr) (ys:List V),v = .ref l /\ H' l = some (.lst ys) /\ AllR (zr K H') ys (cs.map pr77) /\ Grow [] H H') (fun Kk hk=>⟨_,rfl,rc,rfl,⟨_,hrc⟩,yj (xs:=xs) (fun i ys H'=>Grow [] H H' /\ AllR (zr K H') ys ((cs.take i).map pr77) /\ ys.length = i) ⟨Grow.refl _ _,trivial,rfl⟩ (fun i ys H' z=>z.1.sqT hrc) ?_ ?_⟩) ?_
 ·rintro i x ys H2 hx ⟨g2,hA,yl⟩
  obtain ⟨c,hc2,rz,rd,rfl,sz,sd⟩:=hall.get hx
  refine ⟨_,rfl,rz,_,0,.int c.hand,rfl,rfl,g2.sqT sz,zt (j:=0) rfl,_,rfl,rz,_,3,.int c.begun,rfl,rfl,g2.sqT sz,zt (j:=3) rfl,szl rfl,fun t ht=>?_⟩
  have gt:=Grow.new (m:=[]) ht (.tup [.int c.hand,.int c.begun])
  refine ⟨lt72 (by have:=(List.getElem?_eq_some_iff.mp hx).1; omega),g2.trans gt,?_,by rw [List.length_append,List.length_singleton,yl]⟩
  rw [List.take_succ,hc2,List.map_append]
  exact AllR.app (hA.imp fun _ _ z=>gt.board z) ⟨⟨t,rfl,SqT.of zb⟩,trivial⟩
 ·rintro ys H2 ⟨g2,hA,yl⟩ l hl
  rw [xl,List.take_length] at hA
  have gl:=Grow.new (m:=[]) hl (.lst ys)
  exact hk _ _ ⟨l,ys,rfl,zb,hA.imp fun _ _ z=>gl.board z,g2.trans gl⟩
 rintro _ H1 ⟨lp,ps,rfl,hlp,hps,g1⟩
 have pl:=hps.len
 rw [List.length_map] at pl
 refine yv (fun c H'=>c = false /\ Grow [] H1 H') (fun Kk hk=>?_) ?_
 ·refine ⟨_,rfl,rc,_,rfl,.inr (g1.sqT hrc),_,_,rfl,rfl,_,rfl,xK (decide_eq_false (by omega)) ?_⟩
  refine ⟨_,rfl,lp,_,rfl,SqL.of hlp,uE (c:=false) (xs:=ps) (fun j ys σ' H'=>(∃ e0 e1:Option V,σ' = [e0,e1,some (.ref lp)]) /\ Grow [] H1 H' /\ ys = (List.replicate j false).map V.bl) ⟨⟨_,_,rfl⟩,Grow.refl _ _,rfl⟩ (fun j ys σ' H' z=>(SqL.of (z.2.1.keep _ _ (by simp) hlp):SqL K H' lp ps)) ?_ ?_⟩
  ·rintro j v ys σ' H2 T hv ⟨⟨e0,e1,rfl⟩,g2,rfl⟩ hT
   obtain ⟨pr,hpr,r,rfl,hr⟩:=hps.get hv
   rw [List.getElem?_map] at hpr
   obtain ⟨c,hcj,rfl⟩:=Option.map_eq_some_iff.mp hpr
   have hj:=(List.getElem?_eq_some_iff.mp hcj).1
   have gT:=Grow.new (m:=[]) hT (.tup [.int j,.ref r])
   have g2T:=g2.trans gT
   refine ⟨T,_,rfl,SqT.of zb,rfl,_,_,rfl,_,_,rfl,rfl,_,rfl,?_⟩
   refine ⟨_,rfl,_,rfl,_,rfl,lp,_,rfl,SqL.of ((g2T).keep _ _ (by simp) hlp),fun p1 hp1=>?_⟩
   have gp:=Grow.new (m:=[]) hp1 (.lst (cutV ps none (some (j:Int))))
   refine ⟨r,p1,_,pr77 c,(cs.map pr77).take j,rfl,rfl,(g2T.trans gp).sqT hr,SqL.of zb,?_,?_⟩
   ·have h9:AllR (zr K (upd (upd H2 T (.tup [.int j,.ref r])) p1 (.lst (cutV ps none (some (j:Int)))))) ps (cs.map pr77):=hps.imp fun _ _ z=>(g2T.trans gp).board z
    have h8:=h9.take (n:=j)
    rw [← qf (xs:=ps)] at h8
    exact h8
   rw [Vd ow hcj]
   refine ⟨?_,⟨_,_,rfl⟩,g2T.trans gp,?_⟩
   ·rw [List.length_map,List.length_replicate]; exact lt72 (by omega)
   ·rw [List.replicate_succ',List.map_append]; rfl
  ·rintro ys σ' H2 ⟨_,g2,rfl⟩ l hl
   refine ⟨l,_,rfl,SqL.of zb,_,rfl,hk _ _ ⟨?_,g2.trans (Grow.new hl _)⟩⟩
   rw [List.any_eq_false]
   intro x hx
   rw [(List.mem_replicate.mp hx).2]
   exact Bool.false_ne_true
 rintro _ H2 ⟨rfl,g2⟩
 refine iteF (yn ?_)
 have G2:=g1.trans g2
 have deadE:∀ {H':Hp} {dk:Addr} {cs':List Call72},H' dk = some (ndO ptT ptT P w dk []) -> yR P w K cs' dk 0 H':=fun h=>⟨[],h,(fun _ z=>by cases z),(fun _ z=>by cases z),Nat.le_refl _⟩
 refine ⟨_,rfl,rb,_,rfl,.inr (G2.sqT hrb),_,rfl,?_,?_,?_⟩
 ·rw [bml]; omega
 ·rw [bml]; omega
 refine sx (fun i σ H'=>∃ (e4 e5 e6:Option V),σ = [some (.ref p),some (.ref rb),some (.ref rc),some (.ref lp),e4,e5,e6] /\ Grow [p] H H' /\ Pot H' p) ⟨_,_,_,rfl,G2.wk,pp.grow G2⟩ ?_ ?_
 ·rintro i σ H3 hi ⟨e4,e5,e6,rfl,g3,pp3⟩
  rw [bml] at hi
  try dsimp only
  refine yC (fun v H'=>zw K H' v (ur cs i) /\ Grow [] H3 H') (fun Kk hk=>⟨_,rfl,rc,rfl,⟨_,g3.sqT hrc⟩,tE (xs:=xs) (fun j ys σ' H'=>(∃ e0:Option V,σ' = [e0,some (.int (0 + (i:Int)))]) /\ Grow [] H3 H' /\ AllR (yz K H') ys ((cs.take j).filter fun c=>decide (c.box = (i:Int))) /\ ys.length <= j) ⟨⟨_,rfl⟩,Grow.refl _ _,trivial,Nat.le_refl _⟩ (fun j ys σ' H' _ z=>(g3.trans z.2.1.wk).sqT hrc) ?_ ?_⟩) ?_
  ·rintro j x ys σ' H4 hx ⟨⟨e0,rfl⟩,g4,hA,yl⟩
   obtain ⟨c,hcj,rz,rd,rfl,sz,sd⟩:=hall.get hx
   have hj:=(List.getElem?_eq_some_iff.mp hx).1
   have G:=g3.trans g4.wk
   have et:(cs.take (j + 1)).filter (fun c=>decide (c.box = (i:Int))) = (cs.take j).filter (fun c=>decide (c.box = (i:Int))) ++ if c.box = (i:Int) then [c] else []:=by
    rw [List.take_succ,hcj,List.filter_append]
    congr 1
    by_cases cb:c.box = (i:Int)
    ·rw [if_pos cb]
     show List.filter _ [c] = [c]
     rw [List.filter_cons,if_pos (decide_eq_true cb)]; rfl
    ·rw [if_neg cb]
     show List.filter _ [c] = []
     rw [List.filter_cons,if_neg (by rw [decide_eq_false cb]; exact Bool.false_ne_true)]; rfl
   refine ⟨_,rfl,rz,_,1,.int c.box,rfl,rfl,G.sqT sz,zt (j:=1) rfl,_,rfl,rfl,_,rfl,?_⟩
   by_cases cb:c.box = (i:Int)
   ·refine xT (decide_eq_true (congrArg V.int (by omega))) ⟨_,rfl,lt72 (by omega),⟨_,rfl⟩,g4,?_,by rw [List.length_append,List.length_singleton]; omega⟩
    rw [et,if_pos cb]
    exact hA.app ⟨⟨rz,rd,rfl,G.sqT sz,G.sqT sd⟩,trivial⟩
   ·refine xK (decide_eq_false fun z=>cb (by have:=V.int.inj z; omega)) ⟨⟨_,rfl⟩,g4,?_,by omega⟩
    rw [et,if_neg cb,List.append_nil]
    exact hA
  ·rintro ys σ' H4 ⟨_,g4,hA,yl⟩ l hl
   rw [xl,List.take_length] at hA
   refine ⟨l,_,rfl,.inl ⟨SqL.of zb,fun r hr=>hk _ _ ⟨⟨r,ys,rfl,SqT.of zb,?_⟩,g4.trans ((Grow.new hl _).trans (Grow.new hr _))⟩⟩⟩
   exact ((Grow.new (m:=[]) hl (.lst ys)).trans (Grow.new hr (.tup ys))).callsR hA
  rintro vo H4 ⟨ho,g4⟩
  obtain ⟨ro,zs,rfl,hro,hzs⟩:=id ho
  have zl:=hzs.len
  have ok4:=qG (x:=i) ok
  have ow4:=XZ (x:=i) ow
  have l8:(ur cs i).length <= 8:=Nat.le_trans (List.length_filter_le _ _) c8
  have G4:=g3.trans g4.wk
  have pp4:=pp3.grow g4
  refine yv (fun c H'=>c = false /\ Grow [] H4 H') (fun Kk hk=>⟨_,rfl,_,rfl,ro,_,rfl,.inr hro,zs.length,rfl,by omega,fun t ht=>?_⟩) ?_
  ·have gt:=Grow.new (m:=[]) ht (.tup ((List.range zs.length).map fun i:Nat=>V.int i))
   refine ⟨_,rfl,fun dk hdk=>?_⟩
   have gd:=Grow.new (m:=[]) hdk (ndO ptT ptT P w dk [])
   have gtd:=gt.trans gd
   refine ⟨_,_,_,_,rfl,ur cs i,List.range (ur cs i).length,b,dk,0,gtd.calls72 ho,⟨t,rfl,by rw [← zl]; exact gd.sqT (SqT.of zb)⟩,⟨rb,rfl,(G4.trans gtd.wk).sqT hrb⟩,rfl,deadE zb,List.nodup_range,(fun k hk=>List.mem_range.mp hk),ok4,b16,by rw [List.length_range]; omega,by rw [List.length_range]; exact l8,?_,fun c H5 g5 _ hc5=>⟨_,rfl,hk _ _ ⟨?_,?_⟩⟩⟩
   ·rw [List.length_range]
    have:=Xy l8
    omega
   ·rw [hc5.mpr (u7.mpr (yes i hi))]; rfl
   ·exact Grow.shrinkTo (m:=[dk]) (m':=[]) (fun z hz=>.inr (by rw [List.mem_singleton.mp hz]; exact (gt.free (by simp) hdk))) (gtd.wk.trans g5)
  rintro _ H5 ⟨rfl,g5⟩
  refine iteF (yn ?_)
  have G5:=G4.trans g5.wk
  have ho5:=g5.calls72 ho
  obtain ⟨o,eo,So⟩:=X0 (yes i hi)
  refine vy (fun c H'=>c = false /\ Grow [] H5 H') (fun Kk hk=>⟨_,rfl,_,rfl,_,rfl,_,rfl,_,_,rfl,b,ur cs i,G5.board hb,b1,b16,ho5,ok4,ow4,l8,fun v H6 g6 hv=>?_⟩) ?_
  ·rw [eo] at hv
   obtain ⟨r,rfl,hr⟩:=(show y8 K H6 v o from hv)
   exact ⟨_,_,_,rfl,b,ur cs i,o,(G5.trans g6.wk).board hb,b16,g6.calls72 ho5,ok4,⟨r,rfl,hr⟩,So,fun H7 g7=>⟨_,rfl,hk _ _ ⟨rfl,g6.trans g7⟩⟩⟩
  rintro _ H6 ⟨rfl,g6⟩
  exact iteF ⟨_,_,_,rfl,G5.trans g6.wk,pp4.grow (g5.trans g6)⟩
 rintro σ H3 ⟨e4,e5,e6,rfl,g3,pp3⟩
 try dsimp only
 have l8:cs.length <= 8:=c8
 refine yv (fun c H'=>c = false /\ Grow [] H3 H') (fun Kk hk=>⟨_,rfl,_,rfl,rc,_,rfl,.inr (g3.sqT hrc),xs.length,rfl,by omega,fun t ht=>?_⟩) ?_
 ·have gt:=Grow.new (m:=[]) ht (.tup ((List.range xs.length).map fun i:Nat=>V.int i))
  refine ⟨_,rfl,fun dk hdk=>?_⟩
  have gd:=Grow.new (m:=[]) hdk (ndO ptT ptT P w dk [])
  have gtd:=gt.trans gd
  refine ⟨_,_,_,_,rfl,cs,List.range cs.length,b,dk,0,(g3.trans gtd.wk).calls72 hc,⟨t,rfl,by rw [← xl]; exact gd.sqT (SqT.of zb)⟩,⟨rb,rfl,(g3.trans gtd.wk).sqT hrb⟩,rfl,deadE zb,List.nodup_range,(fun k hk=>List.mem_range.mp hk),ok,b16,by rw [List.length_range]; omega,by rw [List.length_range]; exact l8,?_,fun c H5 g5 _ hc5=>⟨_,rfl,?_⟩⟩
  ·rw [List.length_range]
   have:=Xy l8
   omega
  ·have hcf:c = false:=by
    cases c with
    | false=>rfl
    | true=>obtain ⟨o,ho⟩:=u7.mp (hc5.mp rfl); exact absurd ho (no o)
   subst hcf
   have gs:Grow [] H3 H5:=Grow.shrinkTo (m:=[dk]) (m':=[]) (fun z hz=>.inr (by rw [List.mem_singleton.mp hz]; exact (gt.free (by simp) hdk))) (gtd.wk.trans g5)
   refine iteF ⟨_,rfl,_,rfl,_,_,rfl,b,cs,(g3.trans gs.wk).board hb,b1,b16,(g3.trans gs.wk).calls72 hc,ok,ow,l8,fun v H6 g6 hv=>?_⟩
   rw [X1 no] at hv
   obtain rfl:v = .non:=hv
   exact ⟨_,rfl,hk _ _ ⟨rfl,gs.trans g6⟩⟩
 rintro _ H4 ⟨rfl,g4⟩
 refine iteF (yn ?_)
 have G4:=g3.trans g4.wk
 have pp4:=pp3.grow g4
 refine yC (fun v H'=>∃ (l:Addr) (ys:List V),v = .ref l /\ H' l = some (.lst ys) /\ (∀ v ∈ ys,∃ ms:List Nat,ms.Perm (List.range cs.length) /\ y8 K H' v ms) /\ ys.length <= 4 /\ Grow [p] H4 H' /\ Pot H' p) (fun Kk hk=>⟨_,rfl,by decide,by decide,tF (fun j ys H'=>(∀ v ∈ ys,∃ ms:List Nat,ms.Perm (List.range cs.length) /\ y8 K H' v ms) /\ ys.length = j /\ Grow [p] H4 H' /\ Pot H' p) ⟨(fun _ h=>nomatch h),rfl,Grow.refl _ _,pp4⟩ ?_ ?_⟩) ?_
 ·rintro j ys H5 hj ⟨hA,yl,g5,pp5⟩
  have j4:j < 4:=hj
  refine ⟨_,rfl,_,rfl,rc,_,rfl,.inr ((G4.trans g5).sqT hrc),xs.length,rfl,by omega,fun l1 hl1=>⟨_,_,rfl,p,zH (List.range xs.length),rfl,pp5.grow (Grow.new hl1 _),⟨l1,rfl,.inl (SqL.of zb)⟩,by rw [zR,List.length_range]; omega,fun l2 zs H6 hz g6 pp6 _ l2p h6=>⟨l2,zs,rfl,.inl ⟨SqL.of h6,fun r hr=>?_⟩⟩⟩⟩
  obtain ⟨ms,hm,rfl⟩:=xW hz
  have gr:=Grow.new (m:=[]) hr (.tup (zH ms))
  have g56:=(Grow.new (m:=[]) hl1 (.lst (zH (List.range xs.length)))).wk.trans (g6.trans gr.wk)
  refine ⟨lt72 (by omega),fun v hv=>?_,by rw [List.length_append,List.length_singleton,yl],g5.trans g56,pp6.grow gr⟩
  rcases List.mem_append.mp hv with hv | hv
  ·obtain ⟨ks,k1,k2⟩:=hA v hv
   exact ⟨ks,k1,k2.grow g56⟩
  ·rw [List.mem_singleton.mp hv]
   exact ⟨ms,by rw [← xl]; exact hm,r,rfl,SqT.of zb⟩
 ·rintro ys H5 ⟨hA,yl,g5,pp5⟩ l hl
  have gl:=Grow.new (m:=[]) hl (.lst ys)
  exact hk _ _ ⟨l,ys,rfl,zb,fun v hv=>by
   obtain ⟨ks,k1,k2⟩:=hA v hv
   exact ⟨ks,k1,k2.grow gl⟩,Nat.le_of_eq yl,g5.trans gl.wk,pp5.grow gl⟩
 rintro _ H5 ⟨l5,ys,rfl,hl5,hA5,yl,g5,pp5⟩
 have G5:=G4.trans g5
 refine ⟨_,rfl,l5,rfl,⟨_,SqL.of hl5⟩,wE (xs:=ys) (fun i zs H'=>Grow [] H5 H' /\ zs = (List.replicate i false).map V.bl) ⟨Grow.refl _ _,rfl⟩ (fun i zs H' z=>SqL.of (z.1.keep _ _ (by simp) hl5)) ?_ ?_⟩
 ·rintro i v zs H6 hv ⟨g6,rfl⟩
  have hi:=(List.getElem?_eq_some_iff.mp hv).1
  obtain ⟨ms,hm,r,rfl,hr⟩:=hA5 v (List.mem_of_getElem? hv)
  have ml:ms.length = cs.length:=by rw [hm.length_eq,List.length_range]
  refine ⟨_,rfl,_,rfl,_,rfl,_,_,_,rfl,b,cs,.tuple (ms.map fun k:Nat=>PyData.int (k:Int)),[],(G5.trans g6.wk).board hb,b1,b16,(G5.trans g6.wk).calls72 hc,ok,ow,YN (g6.sqT hr),YO (by omega),fun t H7 ht g7=>?_⟩
  have tf:t = false:=by
   cases t with
   | false=>rfl
   | true=>exact absurd (ZG.mp (ht.mp rfl)) (no ms)
  subst tf
  refine ⟨?_,g6.trans g7,?_⟩
  ·rw [List.length_map,List.length_replicate]; exact lt72 (by omega)
  ·rw [List.replicate_succ',List.map_append]; rfl
 ·rintro zs H6 ⟨g6,rfl⟩ l hl
  refine ⟨l,_,rfl,SqL.of zb,_,rfl,?_⟩
  have ea:(List.replicate ys.length false).any id = false:=by
   rw [List.any_eq_false]
   intro x hx
   rw [(List.mem_replicate.mp hx).2]
   exact Bool.false_ne_true
  rw [ea]
  have gl:=g6.trans (Grow.new hl (.lst ((List.replicate ys.length false).map V.bl)))
  exact q _ (G5.trans gl.wk) (pp5.grow gl)
theorem zx:FnScope ["_law_pot_here","_law_board","_law_calls","_law_hands","_law_more","_law_places","_law_values","_law_scale","_law_shift","_law_found","_law_hand","_law_box","_law_deed","_law_begun","_law_ended","_law_answer"] ["_law_pot_here","_law_board","_law_calls"] (zi (top 51)):=⟨rfl,rfl,rfl,by decide +kernel,rfl,by decide +kernel,by decide +kernel⟩
theorem su (F:Fun K "_law_moved" "_law_moved" (top 51) f fd) (B:Blt mg) (qc0:zo P w K mg base n "_law_shuffled" ["_law_pot_here","_law_row"] (ug K)) (qc1:zo P w K mg base n "_law_take" ["_law_pot_here","_law_many"] (r0 K))     :
  FnOk P w K mg base CX0 (n + 1) f fd ["_law_pot_here","_law_board","_law_calls"] (jS K):=by
 refine F.ok zx xb (fun cdv A outer s H vs Q E hr h=>?_)
 obtain ⟨x,y,z,rfl,p,rfl,pp,hb,hc,q⟩:=h
 refine ⟨_,(ze (zI (i:=3) zx.nd rfl (Or.inl rfl) (zj qc0 hr rfl (za (pv 0) (za (yB rfl rfl B.list rfl B.range (za zf zd)) zd)))) (ze (zI (i:=4) zx.nd rfl (Or.inr rfl) (zQ (CSc.of (N':=["_law_k","_law_pot_here"]) (sub:=[none,some 0]) (zi (top 51)) ["_law_pot_here","_law_board","_law_calls","_law_hands","_law_more","_law_places","_law_values","_law_scale","_law_shift","_law_found","_law_hand","_law_box","_law_deed","_law_begun","_law_ended","_law_answer"] rfl rfl (by decide +kernel) rfl) rfl (xt rfl B.range (za (zj qc1 hr rfl (za (pv 0) (za (zJ qZ zf (zn zp rfl B.len yA (za (pv 1) zd))) zd))) zd)) (fun _ _ _ _ _ _=>zh (i:=0) (show (["_law_k","_law_pot_here"]:List Str).Nodup by decide +kernel) rfl (Or.inl rfl)) (fun _ _ _ _ _ _=>zM) (fun _ _ _ _ _ _=>(zJ qZ (zj qc1 hr rfl (za (pv 1) (za zf zd))) zf)))) (ze (zI (i:=5) zx.nd rfl (Or.inl rfl) (zj qc0 hr rfl (za (pv 0) (za (yB rfl rfl B.list rfl B.range (za (zJ xn (zn zp rfl B.len yA (za (pv 1) zd)) (zn zp rfl B.len yA (za (pv 4) zd))) zd)) zd)))) (ze (vn (i:=6) zx.nd rfl rfl (CSc.of (N':=["_law_k","_law_board","_law_more"]) (sub:=[none,some 1,some 4]) (zi (top 51)) ["_law_pot_here","_law_board","_law_calls","_law_hands","_law_more","_law_places","_law_values","_law_scale","_law_shift","_law_found","_law_hand","_law_box","_law_deed","_law_begun","_law_ended","_law_answer"] rfl rfl (by decide +kernel) rfl) rfl (vB (pv 5)) (fun _ _ _ _ _ _=>zh (i:=0) (show (["_law_k","_law_board","_law_more"]:List Str).Nodup by decide +kernel) rfl (Or.inl rfl)) (fun _ _ _ _ _ _=>zM) (fun _ _ _ _ _ _=>(zG (Wm (K:=K) rfl) (zJ Vl (yp (Zm (K:=K) rfl) rfl B.list sM (za (pv 1) zd)) (pv 2)) (pv 0) (fun _ _=>rfl)))) (ze (UK (i:=7) (j:=8) rfl zx.nd rfl rfl (by decide) rfl rfl (za (zJ xn zf (zj qc1 hr rfl (za (pv 0) (za (zJ sy zf zf) zd)))) (za (zj qc1 hr rfl (za (pv 0) (za (zJ sy zf zf) zd))) zd)) rfl) (ze (zW (zF sC (zn (Yp rfl) rfl B.max VP (za (zJ Vl (zQ (CSc.of (N':=["_law_call"]) (sub:=[none]) (zi (top 51)) ["_law_pot_here","_law_board","_law_calls","_law_hands","_law_more","_law_places","_law_values","_law_scale","_law_shift","_law_found","_law_hand","_law_box","_law_deed","_law_begun","_law_ended","_law_answer"] rfl rfl (by decide +kernel) rfl) rfl (yL (pv 2)) (fun _ _ _ _ _ _=>zh (i:=0) (show (["_law_call"]:List Str).Nodup by decide +kernel) rfl (Or.inl rfl)) (fun _ _ _ _ _ _=>zM) (fun _ _ _ _ _ _=>(zG (yd (K:=K) rfl) (pv 0) zf (fun _ _=>rfl)))) (ja (za zf zd))) zd)) (zJ sy zf zf) (zD _)) (zg (yU (z8 (za zf (za zf zd))) (yo rfl (zm (zh (i:=7) zx.nd rfl (Or.inl rfl)) (zm (zh (i:=8) zx.nd rfl (Or.inl rfl)) zU))))) zu) (ze (zI (i:=9) zx.nd rfl (Or.inl rfl) (ja zd)) (ze (xm PassesOwn.never rfl (vB (zj qc0 hr rfl (za (pv 0) (za (pv 2) zd)))) (yo rfl (zm (zh (i:=10) zx.nd rfl (Or.inl rfl)) (zm (zh (i:=11) zx.nd rfl (Or.inl rfl)) (zm (zh (i:=12) zx.nd rfl (Or.inl rfl)) (zm (zh (i:=13) zx.nd rfl (Or.inl rfl)) (zm (zh (i:=14) zx.nd rfl (Or.inl rfl)) (zm (zh (i:=15) zx.nd rfl (Or.inl rfl)) zU))))))) (zg (wz (Wh PySem.F.plainAttrs_list PySem.F.slot_list_append PySem.F.type_list_append sL (pv 9) (za (z8 (za (zG yE (pv 3) (pv 10) (fun _ _=>rfl)) (za (Wh PySem.F.plainAttrs_list PySem.F.slot_list_index PySem.F.type_list_index (Ws (K:=K) rfl) (pv 5) (za (pv 11) zd)) (za (pv 12) (za (zJ xn (zJ wB (pv 13) (pv 7)) (pv 8)) (za (zJ xn (zJ wB (pv 14) (pv 7)) (pv 8)) (za (pv 15) zd))))))) zd))))) (zg (zq (z8 (za (yp yq rfl B.tuple ye (za (pv 6) zd)) (za (yp yq rfl B.tuple ye (za (pv 9) zd)) zd))))))))))))),?_⟩
 obtain ⟨rb,rfl,hrb⟩:=id hb
 obtain ⟨rc,xs,rfl,hrc,hall⟩:=id hc
 have xl:xs.length = 4:=hall.len
 have bml:(List.map V.int ([0,0]:List Int)).length = 2:=rfl
 refine yC (fun v H'=>∃ (l3:Addr) (hs:List Nat),v = .ref l3 /\ hs.Perm (List.range 16) /\ H' l3 = some (.lst (zH hs)) /\ l3 ≠ p /\ Grow [p] H H' /\ Pot H' p) (fun Kk hk=>⟨_,rfl,16,rfl,by decide,fun l1 hl1=>⟨_,_,rfl,p,zH (List.range 16),rfl,pp.grow (Grow.new hl1 _),⟨l1,rfl,.inl (SqL.of zb)⟩,by decide,fun l2 zs H2 hz g2 pp2 _ l2p h2=>?_⟩⟩) ?_
 ·obtain ⟨ms,hm,rfl⟩:=xW hz
  exact hk _ _ ⟨l2,ms,rfl,hm,h2,l2p,(Grow.new hl1 _).wk.trans g2,pp2⟩
 rintro _ H3 ⟨l3,hs,rfl,hhs,hl3,np3,g3,pp3⟩
 refine yC (fun v H'=>∃ (l4:Addr) (ws:List Int),v = .ref l4 /\ H' l4 = some (.lst (ws.map V.int)) /\ 2 + ws.length <= 16 /\ l4 ≠ p /\ Grow [p] H3 H' /\ Pot H' p) (fun Kk hk=>⟨_,rfl,_,rfl,rb,_,rfl,.inr (g3.sqT hrb),_,_,rfl,rfl,_,_,rfl,p,_,rfl,rfl,pp3,by omega,Int.lt_of_le_of_lt (b:=100) (by omega) (by decide),fun m H4 m0 m1 g4 pp4=>⟨_,rfl,by omega,by omega,tF (fun j ys H'=>∃ ws:List Int,ys = ws.map V.int /\ ws.length = j /\ Grow [p] H4 H' /\ Pot H' p) ⟨[],rfl,rfl,Grow.refl _ _,pp4⟩ ?_ ?_⟩⟩) ?_
 ·rintro j ys H5 hj ⟨ws,rfl,wl,g5,pp5⟩
  exact ⟨_,rfl,_,_,rfl,p,9,rfl,rfl,pp5,by decide,by decide,fun t H6 t0 t1 g6 pp6=>⟨_,_,rfl,rfl,lt72 (by rw [List.length_map]; omega),ws ++ [t - 4],by rw [List.map_append]; rfl,by rw [List.length_append,wl]; rfl,g5.trans g6,pp6⟩⟩
 ·rintro ys H5 ⟨ws,rfl,wl,g5,pp5⟩ l hl
  exact hk _ _ ⟨l,ws,rfl,zb,by omega,fun z=>wo pp5 hl (by rw [z]; simp),g4.trans (g5.trans (Grow.new hl _)),pp5.new hl _⟩
 rintro _ H4 ⟨l4,ws,rfl,hl4,n16,np4,g4,pp4⟩
 have wml:(ws.map V.int).length = ws.length:=List.length_map ..
 have g04:=g3.trans g4
 have hl34:=g4.keep _ _ (by simp [np3]) hl3
 refine yC (fun v H'=>∃ (l5:Addr) (bs:List Nat),v = .ref l5 /\ bs.Perm (List.range (2 + ws.length)) /\ H' l5 = some (.lst (zH bs)) /\ l5 ≠ p /\ Grow [p] H4 H' /\ Pot H' p) (fun Kk hk=>⟨_,rfl,_,rfl,rb,_,rfl,.inr (g04.sqT hrb),_,rfl,l4,_,rfl,.inl (SqL.of hl4),_,_,rfl,rfl,2 + ws.length,by rw [List.length_map,List.length_map]; rfl,by omega,fun l1 hl1=>⟨_,_,rfl,p,zH (List.range (2 + ws.length)),rfl,pp4.grow (Grow.new hl1 _),⟨l1,rfl,.inl (SqL.of zb)⟩,by rw [zR,List.length_range]; omega,fun l2 zs H2 hz g2 pp2 _ l2p h2=>?_⟩⟩) ?_
 ·obtain ⟨ms,hm,rfl⟩:=xW hz
  exact hk _ _ ⟨l2,ms,rfl,hm,h2,l2p,(Grow.new hl1 _).wk.trans g2,pp2⟩
 rintro _ H5 ⟨l5,bs,rfl,hbs,hl5,np5,g5,pp5⟩
 have bsl:bs.length = 2 + ws.length:=by rw [hbs.length_eq,List.length_range]
 have g05:=g04.trans g5
 have hl35:=g5.keep _ _ (by simp [np3]) hl34
 have hl45:=g5.keep _ _ (by simp [np4]) hl4
 refine yC (fun v H'=>∃ l6:Addr,v = .ref l6 /\ H' l6 = some (.lst ((bs.map fun k=>([0,0] ++ ws).getD k 0).map V.int)) /\ l6 ≠ p /\ Grow [] H5 H') (fun Kk hk=>⟨_,rfl,l5,rfl,⟨_,SqL.of hl5⟩,wE (xs:=zH bs) (fun i ys H'=>ys = ((bs.take i).map fun k=>([0,0] ++ ws).getD k 0).map V.int /\ Grow [] H5 H') ⟨rfl,Grow.refl _ _⟩ (fun i ys H' z=>SqL.of (z.2.keep _ _ (by simp) hl5)) ?_ ?_⟩) ?_
 ·rintro i x ys H' hx ⟨rfl,g⟩
  obtain ⟨k,hki,rfl⟩:=yK hx
  have hk':k < ([0,0] ++ ws).length:=by rw [List.length_append]; exact List.mem_range.mp (hbs.mem_iff.mp (List.mem_of_getElem? hki))
  refine ⟨_,rfl,rb,_,rfl,.inr ((g05.trans g.wk).sqT hrb),fun l1 hl1=>⟨_,rfl,l1,l4,_,_,rfl,rfl,zb,(Grow.new (m:=[]) hl1 _).keep _ _ (by simp) (g.keep _ _ (by simp) hl45),?_,fun p3 hp3=>⟨_,rfl,p3,_,_,.int (([0,0] ++ ws).getD k 0),rfl,rfl,SqL.of zb,zt ?_,?_,?_,g.trans ((Grow.new hl1 _).trans (Grow.new hp3 _))⟩⟩⟩
  ·exact le72 (by omega)
  ·rw [← List.map_append,List.getElem?_map,List.getElem?_eq_getElem hk',List.getD_eq_getElem?_getD,List.getElem?_eq_getElem hk']; rfl
  ·exact lt72 (by rw [List.length_map,List.length_map,List.length_take]; omega)
  ·rw [List.take_succ,hki,List.map_append,List.map_append]; rfl
 ·rintro ys H' ⟨rfl,g⟩ l hl
  rw [zR,List.take_length]
  exact hk _ _ ⟨l,rfl,zb,fun z=>wo (pp5.grow g) hl (by rw [z]; simp),g.trans (Grow.new hl _)⟩
 rintro _ H6 ⟨l6,rfl,hl6,np6,g6⟩
 have pp6:=pp5.grow g6
 refine ⟨_,rfl,_,_,rfl,rfl,⟨by decide,by decide,by decide⟩,_,_,rfl,p,10 ^ 15,rfl,rfl,pp6,by decide,by decide,fun s0 H7 s00 s01 g7 pp7=>⟨_,_,rfl,rfl,_,rfl,_,_,rfl,rfl,⟨by decide,by decide,by decide⟩,_,_,rfl,p,10 ^ 25,rfl,rfl,pp7,by decide,by decide,fun t H8 t0 t1 g8 pp8=>⟨_,_,rfl,?_⟩⟩⟩
 try dsimp only
 have g78:=g7.trans g8
 have s1:1 <= 1 + s0:=by omega
 have s3:1 + s0 <= 10 ^ 15:=by omega
 generalize 1 + s0 = s at s1 s3 ⊢
 have g08:=g05.trans (g6.wk.trans g78)
 refine yv (fun c H'=>c = false /\ Grow [] H8 H') (fun Kk hk=>⟨_,rfl,rc,rfl,⟨_,g08.sqT hrc⟩,yj (xs:=xs) (fun i ys H'=>ys = ((nt77.take i).map fun c=>V.int c.ended) /\ Grow [] H8 H') ⟨rfl,Grow.refl _ _⟩ (fun i ys H' z=>(g08.trans z.2.wk).sqT hrc) ?_ ?_⟩) ?_
 ·rintro i x ys H' hx ⟨rfl,g⟩
  obtain ⟨c,hc2,rz,rd,rfl,sz,sd⟩:=hall.get hx
  refine ⟨_,rfl,rz,_,4,.int c.ended,rfl,rfl,(g08.trans g.wk).sqT sz,zt (j:=4) rfl,?_,?_,g⟩
  ·exact lt72 (by rw [List.length_map,List.length_take]; have:nt77.length = 4:=rfl; omega)
  ·rw [List.take_succ,hc2,List.map_append]; rfl
 ·rintro ys H' ⟨rfl,g⟩ l hl
  rw [xl,show nt77.take 4 = nt77 from rfl]
  refine ⟨szl rfl,fun l2 hl2=>⟨l,l2,_,_,rfl,rfl,(Grow.new (m:=[]) hl2 _).keep _ _ (by simp) zb,zb,le72 (by decide),fun p3 hp3=>⟨p3,[1,3,1,3,0],rfl,SqL.of zb,by decide,fun M hM _=>⟨_,_,rfl,rfl,⟨by decide,by decide,by decide⟩,_,_,rfl,rfl,_,rfl,hk _ _ ⟨?_,g.trans ((Grow.new hl _).trans ((Grow.new hl2 _).trans (Grow.new hp3 _)))⟩⟩⟩⟩⟩
  have hM2:M <= 3:=by
   simp only [List.mem_cons,List.not_mem_nil,or_false] at hM
   omega
  have e9:(10:Int) ^ (9:Int).toNat = 1000000000:=by decide
  exact decide_eq_false (by omega)
 rintro _ H9 ⟨rfl,g9⟩
 refine iteF (yn ?_)
 have g09:=g08.trans g9.wk
 have pp9:=pp8.grow g9
 refine yC (fun v H'=>∃ l0:Addr,v = .ref l0 /\ H9 l0 = none /\ H' l0 = some (.lst []) /\ Grow [] H9 H') (fun Kk hk=>⟨szl rfl,fun l0 hl0=>hk _ _ ⟨l0,rfl,hl0,zb,Grow.new hl0 _⟩⟩) ?_
 rintro _ H10 ⟨l0,rfl,nl0,hl0,g10⟩
 have g0A:=g09.trans g10.wk
 have ppA:=pp9.grow g10
 have npl:l0 ≠ p:=fun z=>wo pp9 nl0 (by rw [z]; simp)
 refine ⟨_,rfl,_,rfl,_,_,rfl,p,xs,rfl,ppA,⟨rc,rfl,.inr (g0A.sqT hrc)⟩,by omega,fun l2 zs H11 hz g11 pp11 nl2 l2p h2=>?_⟩
 obtain ⟨ds,hp,hd⟩:=uY hz hall
 have dl:ds.length = 4:=hp.length_eq
 have zl:zs.length = 4:=by rw [hd.len,dl]
 have ne20:l2 ≠ l0:=fun z=>by rw [z,hl0] at nl2; cases nl2
 have G11:Grow [p] H H11:=g0A.trans g11
 have g5B:Grow [p] H5 H11:=(g6.wk.trans g78).trans (g9.wk.trans (g10.wk.trans g11))
 have hl3B:=g5B.keep _ _ (by simp [np3]) hl35
 have hl5B:=g5B.keep _ _ (by simp [np5]) hl5
 have hl6B:=(g78.trans (g9.wk.trans (g10.wk.trans g11))).keep _ _ (by simp [np6]) hl6
 have hl0B:=g11.keep _ _ (by simp [npl]) hl0
 have n93:∀ {l:Addr} {o:HO},H9 l = some o -> l ≠ l0:=fun h z=>by rw [z,nl0] at h; cases h
 have ne3:l3 ≠ l0:=n93 (((g6.wk.trans g78).trans g9.wk).keep _ _ (by simp [np3]) hl35)
 have ne5:l5 ≠ l0:=n93 (((g6.wk.trans g78).trans g9.wk).keep _ _ (by simp [np5]) hl5)
 have ne6:l6 ≠ l0:=n93 ((g78.trans g9.wk).keep _ _ (by simp [np6]) hl6)
 refine ⟨l2,rfl,⟨_,SqL.of h2⟩,Wb (xs:=zs) (fun i σ H'=>∃ (e10 e11 e12 e13 e14 e15:Option V) (ys:List V),σ = [some (.ref p),some (.ref rb),some (.ref rc),some (.ref l3),some (.ref l4),some (.ref l5),some (.ref l6),some (.int s),some (.int t),some (.ref l0),e10,e11,e12,e13,e14,e15] /\ H' l0 = some (.lst ys) /\ AllR (yz K H') ys ((ds.take i).map (Uo hs bs s t)) /\ ys.length = i /\ Grow [l0] H11 H') ⟨_,_,_,_,_,_,[],rfl,hl0B,trivial,rfl,Grow.refl _ _⟩ (fun i σ H' _ z=>by obtain ⟨_,_,_,_,_,_,_,_,_,_,_,g⟩:=z; exact SqL.of (g.keep _ _ (by simp [ne20]) h2)) ?_ ?_⟩
 ·rintro i v σ H12 hv ⟨e10,e11,e12,e13,e14,e15,ys,rfl,hy,hA,yl,g12⟩
  obtain ⟨c,hci,rz,rd,rfl,sz,sd⟩:=hd.get hv
  have i4:i < 4:=by have:=(List.getElem?_eq_some_iff.mp hv).1; omega
  have cm:c ∈ nt77:=hp.mem_iff.mp (List.mem_of_getElem? hci)
  have co:0 <= c.hand /\ c.hand <= 1 /\ 0 <= c.box /\ c.box <= 1:=by
   unfold nt77 at cm
   simp only [List.mem_cons,List.not_mem_nil,or_false] at cm
   rcases cm with rfl | rfl | rfl | rfl <;> decide
  obtain ⟨o1,o2,o3,o4⟩:=co
  have g0B:Grow [p,l0] H H12:=(G11.mono (by simp)).trans (g12.mono (by simp))
  have hl3C:=g12.keep _ _ (by simp [ne3]) hl3B
  have hl5C:=g12.keep _ _ (by simp [ne5]) hl5B
  have hsl:c.hand.toNat < hs.length:=by rw [hhs.length_eq,List.length_range]; omega
  have hat:atI (zH hs) c.hand = some (.int ((hs.getD c.hand.toNat 0:Nat):Int)):=by
   have e:c.hand = (c.hand.toNat:Int):=by omega
   rw [e]
   refine zt ?_
   unfold zH
   rw [List.getElem?_map,List.getElem?_eq_getElem hsl,Int.toNat_natCast,List.getD_eq_getElem?_getD,List.getElem?_eq_getElem hsl]; rfl
  have hbm:c.box.toNat ∈ bs:=hbs.mem_iff.mpr (List.mem_range.mpr (by omega))
  try dsimp only
  refine ⟨rz,_,rfl,g0B.sqT sz,rfl,_,_,rfl,_,_,rfl,_,_,rfl,_,_,rfl,_,_,rfl,_,_,rfl,rfl,?_⟩
  try dsimp only
  refine ⟨_,rfl,.inl ⟨rfl,_,SqL.of hy⟩,_,rfl,_,rfl,l3,_,_,_,rfl,rfl,SqL.of hl3C,hat,_,rfl,.inl ⟨rfl,_,SqL.of hl5C⟩,_,rfl,l5,bs,c.box.toNat,rfl,by rw [Int.toNat_of_nonneg o3],SqL.of hl5C,hbm,by omega,_,rfl,_,rfl,_,rfl,_,_,rfl,rfl,sP ⟨by omega,by omega⟩,_,rfl,_,_,rfl,rfl,_,rfl,_,rfl,_,_,rfl,rfl,sP ⟨by omega,by omega⟩,_,rfl,_,_,rfl,rfl,_,rfl,szl rfl,fun tc htc=>?_⟩
  have gn:=Grow.new (m:=[]) htc (.tup ((Uo hs bs s t c).vs rd))
  have hyc:=gn.keep _ _ (by simp) hy
  have gs:=Grow.set (m:=[l0]) hyc (by simp) (ys ++ [.ref tc])
  have ga:Grow [l0] H12 _:=gn.wk.trans gs
  refine ⟨l0,ys,_,rfl,rfl,hyc,lt72 (by omega),⟨_,_,_,_,_,_,ys ++ [.ref tc],rfl,zb,?_,by rw [List.length_append,List.length_singleton,yl],g12.trans ga⟩⟩
  rw [List.take_succ,hci,List.map_append]
  refine AllR.app (ga.callsR hA) ⟨?_,trivial⟩
  exact ⟨tc,rd,rfl,gs.sqT (SqT.of zb),(g0B.trans (ga.mono (by simp))).sqT sd⟩
 ·rintro σ H12 ⟨e10,e11,e12,e13,e14,e15,ys,rfl,hy,hA,yl,g12⟩
  rw [zl,← dl,List.take_length] at hA
  have M:=Ve hhs hbs n16 s1 t0 hp
  have g9B:Grow [p,l0] H9 H12:=((g10.wk.trans g11).mono (by simp)).trans (g12.mono (by simp))
  have gB:Grow [p] H H12:=g09.trans (Grow.shrink2 (f:=p) (l:=l0) g9B nl0)
  have ppB:Pot H12 p:=by
   obtain ⟨u0,u1,e,z⟩:=pp11
   exact ⟨u0,u1,g12.keep _ _ (by simp [Ne.symm npl]) e,z⟩
  have hl6C:=g12.keep _ _ (by simp [ne6]) hl6B
  refine ⟨_,rfl,l6,_,rfl,.inl ⟨SqL.of hl6C,fun r5 hr5=>?_⟩⟩
  have gr5:=Grow.new (m:=[]) hr5 (.tup ((bs.map fun k=>([0,0] ++ ws).getD k 0).map V.int))
  refine ⟨_,rfl,l0,ys,rfl,.inl ⟨SqL.of (gr5.keep _ _ (by simp) hy),fun r6 hr6=>⟨szl rfl,fun r hr=>?_⟩⟩⟩
  have gr6:=Grow.new (m:=[]) hr6 (.tup ys)
  have gr:=Grow.new (m:=[]) hr (.tup [.ref r5,.ref r6])
  have ge:=gr5.trans (gr6.trans gr)
  exact q _ _ r (.ref r5) (.ref r6) _ M (gB.trans ge.wk) (ppB.grow ge) (SqT.of zb) ⟨r5,rfl,(gr6.trans gr).sqT (SqT.of zb)⟩ ⟨r6,ys,rfl,gr.sqT (SqT.of zb),ge.callsR hA⟩
theorem ZV:FnScope ["_law_script","_law_k"] ["_law_script","_law_k"] (zi (top 39)):=⟨rfl,rfl,rfl,by decide +kernel,rfl,by decide +kernel,by decide +kernel⟩
theorem ZW (F:Fun K "_law_at" "_law_at" (top 39) f fd) (B:Blt mg)      :
  FnOk P w K mg base CX0 (n + 1) f fd ["_law_script","_law_k"] (YI K):=by
 refine F.ok ZV yf (fun cdv A outer s H vs Q E hr h=>?_)
 obtain ⟨x,y,rfl,a,ns,k,rfl,rfl,hs,k0,q⟩:=h
 refine ⟨_,(ze (zW (zF jY (pv 1) (zn zp rfl B.len yA (za (pv 0) zd)) (zD _)) (zg (zq (zG yE (pv 0) (pv 1) (fun _ _=>rfl)))) zu) (zg (zq zf))),?_⟩
 refine ⟨_,rfl,_,rfl,a,_,rfl,.inl hs.sq,_,_,rfl,rfl,_,rfl,?_⟩
 refine ite2 (fun c=>?_) (fun c=>?_)
 ·have c':k < ((ns.map V.int).length:Int):=of_decide_eq_true c
  rw [List.length_map] at c'
  have hk:k.toNat < ns.length:=by omega
  have ek:k = ((k.toNat:Nat):Int):=by omega
  have hat:atI (ns.map V.int) k = some (.int ns[k.toNat]):=by
   have z:atI (ns.map V.int) ((k.toNat:Nat):Int) = some (.int ns[k.toNat]):=zt (by rw [List.getElem?_map,List.getElem?_eq_getElem hk]; rfl)
   rw [← ek] at z; exact z
  exact ⟨_,rfl,_,rfl,a,_,_,_,rfl,rfl,hs.sq,hat,q _ (.inr (List.getElem_mem hk))⟩
 ·exact q 0 (.inl rfl)
theorem x8:FnScope ["_law_script","_law_k","_law_cell","_law_seed"] ["_law_script","_law_k"] (zi (top 40)):=⟨rfl,rfl,rfl,by decide +kernel,rfl,by decide +kernel,by decide +kernel⟩
theorem qV (F:Fun K "_law_pot" "_law_pot" (top 40) f fd) (B:Blt mg) (qc0:zo P w K mg base n "_law_at" ["_law_script","_law_k"] (YI K))     :
  FnOk P w K mg base CX0 (n + 1) f fd ["_law_script","_law_k"] (Vo K):=by
 refine F.ok x8 yf (fun cdv A outer s H vs Q E hr h=>?_)
 obtain ⟨x,y,rfl,a,ns,k,rfl,rfl,hs,k0,k1,q⟩:=h
 refine ⟨_,(ze (zI (i:=2) x8.nd rfl (Or.inl rfl) (zj qc0 hr rfl (za (pv 0) (za (pv 1) zd)))) (ze (zI (i:=3) x8.nd rfl (Or.inl rfl) (zJ uv (zJ sy (zJ xn (zJ wB (zJ xn (zJ uv (pv 2) zf) zf) (zJ xn (zJ wB zf (pv 1)) zf)) zf) zf) zf)) (zg (zq (ja (za (zn (sE rfl) rfl B.max VP (za zf (za (zJ qZ (pv 2) (zJ sy zf zf)) zd))) (za (pv 3) zd))))))),?_⟩
 refine ⟨_,rfl,_,rfl,_,_,rfl,a,ns,k,rfl,rfl,hs,k0,fun c _=>?_⟩
 have c0:0 <= c % 2147483629:=Int.emod_nonneg _ (by decide)
 have c1:c % 2147483629 < 2147483629:=Int.emod_lt_of_pos _ (by decide)
 have m0:0 <= (c % 2147483629 + 11) * (977 * k + 131):=Int.mul_nonneg (by omega) (by omega)
 have m1:(c % 2147483629 + 11) * (977 * k + 131) <= 2147483640 * 1000000:=Int.mul_le_mul (by omega) (by omega) (by omega) (by decide)
 refine ⟨_,rfl,_,_,rfl,rfl,(by show (0:Int) < 2147483629; decide),_,_,rfl,rfl,_,rfl,_,_,rfl,rfl,U3 ⟨by decide,by decide⟩,_,_,rfl,rfl,_,_,rfl,rfl,sP ⟨by omega,by omega⟩,_,_,rfl,rfl,_,_,rfl,rfl,⟨by decide,by decide,by omega⟩,_,_,rfl,rfl,(by show (0:Int) < 2147483647; decide),?_⟩
 refine ⟨_,rfl,_,_,rfl,rfl,⟨by decide,by decide,by decide⟩,_,_,rfl,rfl,_,_,rfl,_,rfl,szl rfl,fun p hp=>?_⟩
 refine q p _ hp (Grow.new hp _) ⟨_,_,zb,?_⟩
 split <;> omega
theorem vg:FnScope ["_law_thing"] ["_law_thing"] (zi (top 45)):=⟨rfl,rfl,rfl,by decide +kernel,rfl,by decide +kernel,by decide +kernel⟩
theorem vh (F:Fun K "_law_is_board" "_law_is_board" (top 45) f fd) (B:Blt mg) (qc0:zo P w K mg base n "_law_is_whole" ["_law_thing"] (wM K))     :
  FnOk P w K mg base CX0 (n + 1) f fd ["_law_thing"] (jQ K):=by
 refine F.ok vg yZ (fun cdv A outer s H vs Q E hr h=>?_)
 obtain ⟨x,rfl,b,⟨r,rfl,hs⟩,b1,b2,q⟩:=h
 refine ⟨_,(ze (zW (PW.pt (xS (z5 (zN (zn zL rfl B.isinstance zB (za (pv 0) (za (y6 rfl B.tuple ye) zd))))) (y4 (z5 (q9 u9 u9 zf (zn zp rfl B.len yA (za (pv 0) zd)) zf))))) (zg (zq yc)) zu) (zg (zq (zn (y7 rfl) rfl B.all j8 (za (zQ (CSc.of (N':=["_law_value"]) (sub:=[none]) (zi (top 45)) ["_law_thing"] rfl rfl (by decide +kernel) rfl) rfl (yL (pv 0)) (fun _ _ _ _ _ _=>zh (i:=0) (show (["_law_value"]:List Str).Nodup by decide +kernel) rfl (Or.inl rfl)) (fun _ _ _ _ _ _=>zM) (fun _ _ _ _ _ _=>(zj qc0 hr rfl (za (pv 0) zd)))) zd))))),?_⟩
 have hl:(b.map V.int).length = b.length:=List.length_map ..
 refine ⟨_,rfl,_,_,_,true,rfl,.inl ⟨rfl,_,hs⟩,rfl,_,rfl,iteF ?_⟩
 refine ⟨_,rfl,r,_,rfl,.inr hs,_,_,rfl,rfl,_,rfl,xT (decide_eq_true (by rw [hl]; omega)) ⟨_,_,rfl,rfl,_,rfl,xK (by rw [decide_eq_true (show ((b.map V.int).length:Int) <= 16 by rw [hl]; omega)]; rfl) ?_⟩⟩
 refine ⟨_,rfl,r,rfl,⟨_,hs⟩,vL (fun _=>V.bl true) hs (by rw [hl]; omega) ?_ ?_⟩
 ·intro x H1 R hx g k
  obtain ⟨i,_,rfl⟩:=List.mem_map.mp hx
  exact ⟨_,rfl,_,rfl,i,rfl,k _ (Grow.refl _ _)⟩
 ·intro H1 p g hp
  refine ⟨p,b.map (fun _=>true),rfl,SqL.of (by rw [zb,jl]),?_⟩
  rw [sS]
  exact q _ (g.trans (Grow.new hp _))
theorem w4:FnScope ["_law_script","_law_told","_law_board","_law_calls","_law_k","_law_pot_here","_law_values","_law_moved_here"] ["_law_script"] (zi (top 52)):=⟨rfl,rfl,rfl,by decide +kernel,rfl,by decide +kernel,by decide +kernel⟩
theorem T9 (F:Fun K "law" "law" (top 52) f fd) (B:Blt mg) (qc0:zo P w K mg base n "not_together" [] (XE K)) (qc1:zo P w K mg base n "_law_right" ["_law_pot_here","_law_board","_law_calls"] (u6 K)) (qc2:zo P w K mg base n "_law_moved" ["_law_pot_here","_law_board","_law_calls"] (jS K)) (qc3:zo P w K mg base n "_law_pot" ["_law_script","_law_k"] (Vo K)) (qc4:zo P w K mg base n "are_calls" ["board","thing"] (tP K)) (qc5:zo P w K mg base n "_law_is_board" ["_law_thing"] (jQ K))     :
  FnOk P w K mg base CX0 (n + 1) f fd ["_law_script"] (jf K):=by
 refine F.ok w4 yZ (fun cdv A outer s H vs Q E hr h=>?_)
 obtain ⟨x,rfl,a,ns,rfl,hs,h63,q⟩:=h
 refine ⟨_,(ze (zI (i:=1) w4.nd rfl (Or.inl rfl) (rJ qc0 hr rfl)) (ze (zW (PW.pt (xS (z5 (zN (zn zL rfl B.isinstance zB (za (pv 1) (za (y6 rfl B.tuple ye) zd))))) (xS (zF sB (zn zp rfl B.len yA (za (pv 1) zd)) zf (zD _)) (y4 (z5 (zN (zj qc5 hr rfl (za (zG zX (pv 1) zf (fun _ _=>rfl)) zd)))))))) (zg (zq yc)) zu) (ze (yU (pv 1) (yo rfl (zm (zh (i:=2) w4.nd rfl (Or.inl rfl)) (zm (zh (i:=3) w4.nd rfl (Or.inl rfl)) zU)))) (ze (zW (zF Yt (zj qc4 hr rfl (za (pv 2) (za (pv 3) zd))) yc (zD _)) (zg (zq yc)) zu) (ze (xm PassesOwn.never rfl (xt rfl B.range (za (zn (sE rfl) rfl B.max VP (za zf (za (zn (Z9 rfl) rfl B.min Ss (za zf (za (zn zp rfl B.len yA (za (pv 0) zd)) zd))) zd))) zd)) (zh (i:=4) w4.nd rfl (Or.inl rfl)) (ze (zI (i:=5) w4.nd rfl (Or.inl rfl) (zj qc3 hr rfl (za (pv 0) (za (pv 4) zd)))) (ze (yU (zj qc2 hr rfl (za (pv 5) (za (pv 2) (za (pv 3) zd)))) (yo rfl (zm (zh (i:=6) w4.nd rfl (Or.inl rfl)) (zm (zh (i:=7) w4.nd rfl (Or.inl rfl)) zU)))) (zg (zW (PW.pt (xS (z5 (zN (zj qc1 hr rfl (za (pv 5) (za (pv 2) (za (pv 3) zd)))))) (y4 (z5 (zN (zj qc1 hr rfl (za (pv 5) (za (pv 6) (za (pv 7) zd))))))))) (zg (zq yc)) zu))))) (zg (zq (yN (U7 (K:=K) rfl hr) (rJ qc0 hr rfl) (pv 1) (zD _))))))))),?_⟩
 have hl:(ns.map V.int).length = ns.length:=List.length_map ..
 refine yC (fun v H'=>∃ (r:Addr) (vb vc:V),v = .ref r /\ SqT K H' r [vb,vc] /\ zr K H' vb [0,0] /\ zw K H' vc nt77 /\ Grow [] H H') (fun Kk hk=>⟨rfl,fun r vb vc H' g h1 h2 h3=>hk _ _ ⟨r,vb,vc,rfl,h1,h2,h3,g⟩⟩) ?_
 rintro _ H1 ⟨r,vb,vc,rfl,hr1,hb1,hc1,g1⟩
 have M:=Ux
 refine yv (fun c H'=>c = false /\ Grow [] H1 H') (fun Kk hk=>⟨_,rfl,_,_,_,true,rfl,.inl ⟨rfl,_,hr1⟩,rfl,_,rfl,iteF ⟨_,rfl,r,_,rfl,.inr hr1,rfl,_,rfl,xK (by simp) ⟨_,rfl,r,_,0,vb,rfl,rfl,hr1,zt (j:=0) rfl,_,rfl,[0,0],hb1,by decide,by decide,fun H' g=>⟨_,rfl,hk _ _ ⟨rfl,g⟩⟩⟩⟩⟩) ?_
 rintro _ H2 ⟨rfl,g2⟩
 refine iteF (yn ?_)
 refine ⟨_,rfl,r,_,rfl,g2.sqT hr1,rfl,_,_,rfl,_,_,rfl,rfl,?_⟩
 try dsimp only
 have G2:=g1.trans g2
 have hb2:=g2.board hb1
 have hc2:=g2.calls72 hc1
 refine yv (fun c H'=>c = false /\ Grow [] H2 H') (fun Kk hk=>⟨_,rfl,_,rfl,_,_,rfl,[0,0],nt77,hb2,M.b1,M.b16,hc2,M.ok,fun H' g=>⟨true,true,rfl,rfl,_,rfl,hk _ _ ⟨rfl,g⟩⟩⟩) ?_
 rintro _ H3 ⟨rfl,g3⟩
 refine iteF (yn ?_)
 have G3:=G2.trans g3
 have hb3:=g3.board hb2
 have hc3:=g3.calls72 hc2
 refine ⟨_,rfl,a,_,rfl,.inl (G3.scr hs).sq,_,_,rfl,_,_,rfl,_,rfl,?_,?_,?_⟩
 ·split <;> split <;> omega
 ·rw [hl]; split <;> split <;> omega
 refine sx (fun i σ H'=>∃ (e4 e5 e6 e7:Option V),σ = [some (.ref a),some (.ref r),some vb,some vc,e4,e5,e6,e7] /\ Grow [] H3 H') ⟨_,_,_,_,rfl,Grow.refl _ _⟩ ?_ ?_
 rotate_left
 ·rintro σ H4 ⟨e4,e5,e6,e7,rfl,g4⟩
  refine ⟨rfl,fun r' vb' vc' H5 g5 h1 h2 h3=>?_⟩
  exact ⟨_,rfl,Uy,jU h1 h2 h3,jU ((g4.trans g5).sqT ((g2.trans g3).sqT hr1)) ((g4.trans g5).board hb3) ((g4.trans g5).calls72 hc3),⟨_,rfl⟩,Vf,q _⟩
 rintro i σ H4 hi ⟨e4,e5,e6,e7,rfl,g4⟩
 have i63:i < 1000:=by
  have hi':=hi
  revert hi'
  split <;> split <;> omega
 try dsimp only
 refine yC (fun v H'=>∃ p,v = .ref p /\ H4 p = none /\ Grow [] H4 H' /\ Pot H' p) (fun Kk hk=>⟨_,rfl,_,rfl,_,_,rfl,a,ns,_,rfl,rfl,(G3.trans g4).scr hs,by omega,by omega,fun p H2 hp g2 pp=>hk _ _ ⟨p,rfl,hp,g2,pp⟩⟩) ?_
 rintro _ H5 ⟨p,rfl,np,g5,pp5⟩
 have hb5:=(g4.trans g5).board hb3
 have hc5:=(g4.trans g5).calls72 hc3
 refine ⟨_,rfl,_,rfl,_,rfl,_,_,_,rfl,p,rfl,pp5,hb5,hc5,fun b' cs' r6 vb6 vc6 H6 M6 g6 pp6 hr6 hb6 hc6=>⟨r6,_,rfl,hr6,rfl,_,_,rfl,_,_,rfl,rfl,?_⟩⟩
 try dsimp only
 refine vy (fun c H'=>c = false /\ Grow [p] H6 H') (fun Kk hk=>⟨_,rfl,_,rfl,_,rfl,_,_,_,rfl,p,[0,0],nt77,rfl,pp6,g6.board hb5,g6.calls72 hc5,M,fun H7 g7 pp7=>⟨_,rfl,iteF ⟨_,rfl,_,rfl,_,rfl,_,_,_,rfl,p,b',cs',rfl,pp7,g7.board hb6,g7.calls72 hc6,M6,fun H8 g8 pp8=>⟨_,rfl,hk _ _ ⟨rfl,g7.trans g8⟩⟩⟩⟩⟩) ?_
 rintro _ H7 ⟨rfl,g7⟩
 exact iteF ⟨_,_,_,_,rfl,g4.trans ((g5.wk.trans (g6.trans g7)).shrink np)⟩
end
theorem UA:∀ {us:List Value},us.length = 0 -> us = []
 | [],_=>rfl
theorem xi:∀ {us:List Value},us.length = 1 -> ∃ x0,us = [x0]
 | [x0],_=>⟨x0,rfl⟩
theorem yk:∀ {us:List Value},us.length = 2 -> ∃ x0,∃ x1,us = [x0,x1]
 | [x0,x1],_=>⟨x0,x1,rfl⟩
theorem xj:∀ {us:List Value},us.length = 3 -> ∃ x0,∃ x1,∃ x2,us = [x0,x1,x2]
 | [x0,x1,x2],_=>⟨x0,x1,x2,rfl⟩
theorem X6:∀ {us:List Value},us.length = 4 -> ∃ x0,∃ x1,∃ x2,∃ x3,us = [x0,x1,x2,x3]
 | [x0,x1,x2,x3],_=>⟨x0,x1,x2,x3,rfl⟩
def FA (K:FG7) (x:Str) (t:Stmt) (f:Addr) (d:FuncData):Prop:=PySem.W.nsIn K mainGlobals x = some (some (.ref f)) /\ Fun K x x t f d
theorem FA.cl {P:Program} {w:World} {K:FG7} {h base:Heap} {mg:Str -> Option Value} {x:Str} {t:Stmt} {f:Addr} {d:FuncData} {k:Nat} {ps:List Str} {sp:Sp} (a:FA K x t f d) (X:K.In h) (G:h.Ns mainGlobals mg) (F:FnOk P w K mg base CX0 k f d ps sp) (b:w5 K d ps []):zo P w K mg base k x ps sp:=⟨_,_,F,b,a.2.kp,PySem.W.mg_of X G a.1⟩
theorem all_mk {l:PySem.W.OpenLaw} {w:World} {K:FG7} {h:Heap} {mg:Str -> Option Value} {fa f1 f2 f3 f4 f5 f6 f7 f8 f9 f10 f11 f12 f13 f14 f15 f16 f17 f18 f19 f20 f21 f22 f23 f24 f25 f26 f27 f28 f29 f30 f31 f32 f33 f34 f35 f36 f37:Addr} (X:K.In h) (G:h.Ns mainGlobals mg) (hfa:mg "law" = some (.ref fa))
    {d1 d2 d3 d4 d5 d6 d7 d8 d9 d10 d11 d12 d13 d14 d15 d16 d17 d18 d19 d20 d21 d22 d23 d24 d25 d26 d27 d28 d29 d30 d31 d32 d33 d34 d35 d36 d37:FuncData}
 (h1:FA K "not_together" ((top 37)) f1 d1)
 (h2:FA K "made" ((top 11)) f2 d2)
 (h3:FA K "are_answered" ((top 26)) f3 d3)
 (h4:FA K "keeps_hands" ((top 33)) f4 d4)
 (h5:FA K "is_whole" ((top 6)) f5 d5)
 (h6:FA K "is_order" ((top 25)) f6 d6)
 (h7:FA K "by_boxes" ((top 22)) f7 d7)
 (h8:FA K "is_end" ((top 9)) f8 d8)
 (h9:FA K "is_deed" ((top 10)) f9 d9)
 (h10:FA K "is_within" ((top 7)) f10 d10)
 (h11:FA K "is_ask" ((top 17)) f11 d11)
 (h12:FA K "is_call" ((top 21)) f12 d12)
 (h13:FA K "is_board" ((top 15)) f13 d13)
 (h14:FA K "need_board" ((top 16)) f14 d14)
 (h15:FA K "are_calls" ((top 23)) f15 d15)
 (h16:FA K "need_calls" ((top 24)) f16 d16)
 (h17:FA K "need_own_times" ((top 32)) f17 d17)
 (h18:FA K "is_serial" ((top 34)) f18 d18)
 (h19:FA K "_law_take" ((top 41)) f19 d19)
 (h20:FA K "_law_shuffled" ((top 42)) f20 d20)
 (h21:FA K "one_more" ((top 28)) f21 d21)
 (h22:FA K "order_by" ((top 29)) f22 d22)
 (h23:FA K "as_mask" ((top 27)) f23 d23)
 (h24:FA K "hand_masks" ((top 35)) f24 d24)
 (h25:FA K "a_serial" ((top 36)) f25 d25)
 (h26:FA K "_law_may" ((top 46)) f26 d26)
 (h27:FA K "_law_done" ((top 43)) f27 d27)
 (h28:FA K "_law_behind" ((top 47)) f28 d28)
 (h29:FA K "_law_can" ((top 48)) f29 d29)
 (h30:FA K "_law_is_whole" ((top 44)) f30 d30)
 (h31:FA K "_law_is_serial" ((top 49)) f31 d31)
 (h32:FA K "_law_right" ((top 50)) f32 d32)
 (h33:FA K "_law_moved" ((top 51)) f33 d33)
 (h34:FA K "_law_at" ((top 39)) f34 d34)
 (h35:FA K "_law_pot" ((top 40)) f35 d35)
 (h36:FA K "_law_is_board" ((top 45)) f36 d36)
 (h37:FA K "law" ((top 52)) f37 d37)
    {t_LAST_HAND:Tok} (ga_LAST_HAND:PySem.W.nsIn K mainGlobals "LAST_HAND" = some (some (.int 15 t_LAST_HAND)))
    {t_MOST_AT_A_BOX:Tok} (ga_MOST_AT_A_BOX:PySem.W.nsIn K mainGlobals "MOST_AT_A_BOX" = some (some (.int 8 t_MOST_AT_A_BOX)))
    {t_MOST_BOXES:Tok} (ga_MOST_BOXES:PySem.W.nsIn K mainGlobals "MOST_BOXES" = some (some (.int 16 t_MOST_BOXES)))
    {t_MOST_CALLS:Tok} (ga_MOST_CALLS:PySem.W.nsIn K mainGlobals "MOST_CALLS" = some (some (.int 40 t_MOST_CALLS)))
    {t_MOST_FOR_SERIAL:Tok} (ga_MOST_FOR_SERIAL:PySem.W.nsIn K mainGlobals "MOST_FOR_SERIAL" = some (some (.int 8 t_MOST_FOR_SERIAL)))
    (ga_any:PySem.W.nsIn K mainGlobals "any" = some none)
    (ga_enumerate:PySem.W.nsIn K mainGlobals "enumerate" = some none)
    (ga_set:PySem.W.nsIn K mainGlobals "set" = some none)
    (ga_sorted:PySem.W.nsIn K mainGlobals "sorted" = some none)
    (ga_sum:PySem.W.nsIn K mainGlobals "sum" = some none)
    (z_abs:PySem.W.nsIn K mainGlobals "abs" = some none)
    (z_len:PySem.W.nsIn K mainGlobals "len" = some none)
    (z_max:PySem.W.nsIn K mainGlobals "max" = some none)
    (z_min:PySem.W.nsIn K mainGlobals "min" = some none)
    (z_divmod:PySem.W.nsIn K mainGlobals "divmod" = some none)
    (z_repr:PySem.W.nsIn K mainGlobals "repr" = some none)
    (z_isinstance:PySem.W.nsIn K mainGlobals "isinstance" = some none)
    (z_all:PySem.W.nsIn K mainGlobals "all" = some none)
    (z_range:PySem.W.nsIn K mainGlobals "range" = some none)
    (z_int:PySem.W.nsIn K mainGlobals "int" = some none)
    (z_bool:PySem.W.nsIn K mainGlobals "bool" = some none)
    (z_str:PySem.W.nsIn K mainGlobals "str" = some none)
    (z_tuple:PySem.W.nsIn K mainGlobals "tuple" = some none)
    (z_list:PySem.W.nsIn K mainGlobals "list" = some none)
    (z_dict:PySem.W.nsIn K mainGlobals "dict" = some none)
    :
    ∃ fd:FuncData,(∀ (s:Shared) (v:Value),BindsTo s fd ⟨[v],[]⟩ [("_law_script",v)]) /\ ∀ base:Heap,K.In base -> base.Ns mainGlobals mg -> FnOk l.prog w K mg base CX0 13 fa fd ["_law_script"] (jf K):=by
  have e:=hfa.symm.trans (PySem.W.mg_of X G h37.1)
  cases e
  have b29:=h29.2.binds (ps:=["_law_calls","_law_left","_law_values","_law_dead"]) fun _ _ _ _ _ _ us hl=>by obtain ⟨_,_,_,_,rfl⟩:=X6 hl; rfl
  have B:Blt mg:=⟨PySem.W.mg_none_of X G z_abs,PySem.W.mg_none_of X G z_len,PySem.W.mg_none_of X G z_max,PySem.W.mg_none_of X G z_min,PySem.W.mg_none_of X G z_divmod,PySem.W.mg_none_of X G z_repr,PySem.W.mg_none_of X G z_isinstance,PySem.W.mg_none_of X G z_all,PySem.W.mg_none_of X G z_range,PySem.W.mg_none_of X G z_int,PySem.W.mg_none_of X G z_bool,PySem.W.mg_none_of X G z_str,PySem.W.mg_none_of X G z_tuple,PySem.W.mg_none_of X G z_list,PySem.W.mg_none_of X G z_dict⟩
  obtain ⟨oc,od,kV,dc,pm,an,cd,ct,sl,rfl,lk,hc⟩:=h37.2.ex
  refine ⟨PySem.W.fnOf "law" "law" (vF (top 52)) (wA (top 52)) (zi (top 52)) .none kV dc pm an cd ct,fun s v=>.of_eq rfl,fun base _ _=>?_⟩
  have C1:zo l.prog w K mg base 1 _ _ _:=h1.cl X G (ul h1.2 B       ) (h1.2.binds fun _ _ _ _ _ _ us hl=>by obtain ⟨rfl⟩:=UA hl; rfl)
  have C2:zo l.prog w K mg base 1 _ _ _:=h2.cl X G (Uz h2.2 B       ) (h2.2.binds fun _ _ _ _ _ _ us hl=>by obtain ⟨_,_,rfl⟩:=yk hl; rfl)
  have C3:zo l.prog w K mg base 2 _ _ _:=h3.cl X G (um h3.2 B    (C2.mono (by decide))   ) (h3.2.binds fun _ _ _ _ _ _ us hl=>by obtain ⟨_,_,_,rfl⟩:=xj hl; rfl)
  have C4:zo l.prog w K mg base 1 _ _ _:=h4.cl X G (ut h4.2 B       ) (h4.2.binds fun _ _ _ _ _ _ us hl=>by obtain ⟨_,_,rfl⟩:=yk hl; rfl)
  have C5:zo l.prog w K mg base 1 _ _ _:=h5.cl X G (qI h5.2 B       ) (h5.2.binds fun _ _ _ _ _ _ us hl=>by obtain ⟨_,rfl⟩:=xi hl; rfl)
  have C6:zo l.prog w K mg base 2 _ _ _:=h6.cl X G (qK h6.2 B    (C5.mono (by decide)) (PySem.W.mg_none_of X G ga_sorted)  ) (h6.2.binds fun _ _ _ _ _ _ us hl=>by obtain ⟨_,_,rfl⟩:=yk hl; rfl)
  have C7:zo l.prog w K mg base 1 _ _ _:=h7.cl X G (qL h7.2 B     (PySem.W.mg_none_of X G ga_enumerate)  ) (h7.2.binds fun _ _ _ _ _ _ us hl=>by obtain ⟨_,_,rfl⟩:=yk hl; rfl)
  have C8:zo l.prog w K mg base 2 _ _ _:=h8.cl X G (X4 h8.2 B    (C5.mono (by decide))   ) (h8.2.binds fun _ _ _ _ _ _ us hl=>by obtain ⟨_,rfl⟩:=xi hl; rfl)
  have C9:zo l.prog w K mg base 3 _ _ _:=h9.cl X G (ZR h9.2 B    (C8.mono (by decide)) (C5.mono (by decide))   ) (h9.2.binds fun _ _ _ _ _ _ us hl=>by obtain ⟨_,rfl⟩:=xi hl; rfl)
  have C10:zo l.prog w K mg base 2 _ _ _:=h10.cl X G (rM h10.2 B    (C5.mono (by decide))   ) (h10.2.binds fun _ _ _ _ _ _ us hl=>by obtain ⟨_,_,_,rfl⟩:=xj hl; rfl)
  have C11:zo l.prog w K mg base 4 _ _ _:=h11.cl X G (X5 h11.2 B    (C9.mono (by decide)) (C10.mono (by decide))  (PySem.W.mg_of X G ga_LAST_HAND) ) (h11.2.binds fun _ _ _ _ _ _ us hl=>by obtain ⟨_,_,rfl⟩:=yk hl; rfl)
  have C12:zo l.prog w K mg base 5 _ _ _:=h12.cl X G (ZS h12.2 B    (C5.mono (by decide)) (C11.mono (by decide))   ) (h12.2.binds fun _ _ _ _ _ _ us hl=>by obtain ⟨_,_,rfl⟩:=yk hl; rfl)
  have C13:zo l.prog w K mg base 2 _ _ _:=h13.cl X G (qN h13.2 B    (C5.mono (by decide))  (PySem.W.mg_of X G ga_MOST_BOXES) ) (h13.2.binds fun _ _ _ _ _ _ us hl=>by obtain ⟨_,rfl⟩:=xi hl; rfl)
  have C14:zo l.prog w K mg base 3 _ _ _:=h14.cl X G (sh h14.2 B    (C13.mono (by decide))   ) (h14.2.binds fun _ _ _ _ _ _ us hl=>by obtain ⟨_,rfl⟩:=xi hl; rfl)
  have C15:zo l.prog w K mg base 6 _ _ _:=h15.cl X G (rO h15.2 B    (C7.mono (by decide)) (C12.mono (by decide)) (C14.mono (by decide))  (PySem.W.mg_of X G ga_MOST_AT_A_BOX) (PySem.W.mg_of X G ga_MOST_CALLS) ) (h15.2.binds fun _ _ _ _ _ _ us hl=>by obtain ⟨_,_,rfl⟩:=yk hl; rfl)
  have C16:zo l.prog w K mg base 7 _ _ _:=h16.cl X G (sj h16.2 B    (C15.mono (by decide))   ) (h16.2.binds fun _ _ _ _ _ _ us hl=>by obtain ⟨_,_,rfl⟩:=yk hl; rfl)
  have C17:zo l.prog w K mg base 8 _ _ _:=h17.cl X G (wN h17.2 B    (C16.mono (by decide)) (PySem.W.mg_none_of X G ga_set)  ) (h17.2.binds fun _ _ _ _ _ _ us hl=>by obtain ⟨_,_,rfl⟩:=yk hl; rfl)
  have C18:zo l.prog w K mg base 9 _ _ _:=h18.cl X G (rQ h18.2 B    (C3.mono (by decide)) (C4.mono (by decide)) (C6.mono (by decide)) (C17.mono (by decide))   ) (h18.2.binds fun _ _ _ _ _ _ us hl=>by obtain ⟨_,_,_,rfl⟩:=xj hl; rfl)
  have C19:zo l.prog w K mg base 1 _ _ _:=h19.cl X G (rR h19.2 B       ) (h19.2.binds fun _ _ _ _ _ _ us hl=>by obtain ⟨_,_,rfl⟩:=yk hl; rfl)
  have C20:zo l.prog w K mg base 2 _ _ _:=h20.cl X G (vd h20.2 B    (C19.mono (by decide))   ) (h20.2.binds fun _ _ _ _ _ _ us hl=>by obtain ⟨_,_,rfl⟩:=yk hl; rfl)
  have C21:zo l.prog w K mg base 2 _ _ _:=h21.cl X G (qO h21.2 B    (C2.mono (by decide))   ) (h21.2.binds fun _ _ _ _ _ _ us hl=>by obtain ⟨_,_,_,rfl⟩:=xj hl; rfl)
  have C22:zo l.prog w K mg base 3 _ _ _:=h22.cl X G (qP h22.2 B    (C21.mono (by decide))   ) (h22.2.binds fun _ _ _ _ _ _ us hl=>by obtain ⟨_,_,_,rfl⟩:=xj hl; rfl)
  have C23:zo l.prog w K mg base 1 _ _ _:=h23.cl X G (ZU h23.2 B     (PySem.W.mg_none_of X G ga_sum)  ) (h23.2.binds fun _ _ _ _ _ _ us hl=>by obtain ⟨_,rfl⟩:=xi hl; rfl)
  have C24:zo l.prog w K mg base 2 _ _ _:=h24.cl X G (sr h24.2 B    (C23.mono (by decide)) (PySem.W.mg_none_of X G ga_enumerate)  ) (h24.2.binds fun _ _ _ _ _ _ us hl=>by obtain ⟨_,rfl⟩:=xi hl; rfl)
  have C25:zo l.prog w K mg base 9 _ _ _:=h25.cl X G (qR h25.2 B    (C22.mono (by decide)) (C24.mono (by decide)) (C17.mono (by decide))  (PySem.W.mg_of X G ga_MOST_FOR_SERIAL) ) (h25.2.binds fun _ _ _ _ _ _ us hl=>by obtain ⟨_,_,rfl⟩:=yk hl; rfl)
  have C26:zo l.prog w K mg base 1 _ _ _:=h26.cl X G (qT h26.2 B     (PySem.W.mg_none_of X G ga_any)  ) (h26.2.binds fun _ _ _ _ _ _ us hl=>by obtain ⟨_,_,_,_,rfl⟩:=X6 hl; rfl)
  have C27:zo l.prog w K mg base 1 _ _ _:=h27.cl X G (rS h27.2 B       ) (h27.2.binds fun _ _ _ _ _ _ us hl=>by obtain ⟨_,_,rfl⟩:=yk hl; rfl)
  have C28:zo l.prog w K mg base 2 _ _ _:=h28.cl X G (uu h28.2 B    (C27.mono (by decide))   ) (h28.2.binds fun _ _ _ _ _ _ us hl=>by obtain ⟨_,_,_,rfl⟩:=xj hl; rfl)
  have R29:∀ N:Nat,FnOk l.prog w K mg base CX0 (2 + N) f29 d29 ["_law_calls","_law_left","_law_values","_law_dead"] (xg l.prog w N K):=by
    intro N
    induction N with
    | zero=>exact Wn XY
    | succ N ih=>exact qU (P:=l.prog) (w:=w) (base:=base) (n:=2 + N) h29.2 B (C26.mono (Nat.le_trans (show 1 <= 2 by decide) (Nat.le_add_right 2 N))) ⟨_,_,ih,b29,h29.2.kp,PySem.W.mg_of X G h29.1⟩ (C28.mono (Nat.le_trans (show 2 <= 2 by decide) (Nat.le_add_right 2 N)))
  have C29:zo l.prog w K mg base 11 "_law_can" ["_law_calls","_law_left","_law_values","_law_dead"] (xg l.prog w 9 K):=⟨_,_,R29 9,b29,h29.2.kp,PySem.W.mg_of X G h29.1⟩
  have C30:zo l.prog w K mg base 1 _ _ _:=h30.cl X G (vf h30.2 B       ) (h30.2.binds fun _ _ _ _ _ _ us hl=>by obtain ⟨_,rfl⟩:=xi hl; rfl)
  have C31:zo l.prog w K mg base 3 _ _ _:=h31.cl X G (wO h31.2 B    (C28.mono (by decide)) (C26.mono (by decide)) (C30.mono (by decide)) (PySem.W.mg_none_of X G ga_enumerate) (PySem.W.mg_none_of X G ga_sorted)  ) (h31.2.binds fun _ _ _ _ _ _ us hl=>by obtain ⟨_,_,_,rfl⟩:=xj hl; rfl)
  have C32:zo l.prog w K mg base 12 _ _ _:=h32.cl X G (ss h32.2 B    (C18.mono (by decide)) (C20.mono (by decide)) (C25.mono (by decide)) (C29.mono (by decide)) (C31.mono (by decide)) (PySem.W.mg_none_of X G ga_any) (PySem.W.mg_none_of X G ga_enumerate)  ) (h32.2.binds fun _ _ _ _ _ _ us hl=>by obtain ⟨_,_,_,rfl⟩:=xj hl; rfl)
  have C33:zo l.prog w K mg base 3 _ _ _:=h33.cl X G (su h33.2 B    (C20.mono (by decide)) (C19.mono (by decide))   ) (h33.2.binds fun _ _ _ _ _ _ us hl=>by obtain ⟨_,_,_,rfl⟩:=xj hl; rfl)
  have C34:zo l.prog w K mg base 1 _ _ _:=h34.cl X G (ZW h34.2 B       ) (h34.2.binds fun _ _ _ _ _ _ us hl=>by obtain ⟨_,_,rfl⟩:=yk hl; rfl)
  have C35:zo l.prog w K mg base 2 _ _ _:=h35.cl X G (qV h35.2 B    (C34.mono (by decide))   ) (h35.2.binds fun _ _ _ _ _ _ us hl=>by obtain ⟨_,_,rfl⟩:=yk hl; rfl)
  have C36:zo l.prog w K mg base 2 _ _ _:=h36.cl X G (vh h36.2 B    (C30.mono (by decide))   ) (h36.2.binds fun _ _ _ _ _ _ us hl=>by obtain ⟨_,rfl⟩:=xi hl; rfl)
  exact T9 (P:=l.prog) (w:=w) (base:=base) (n:=12) h37.2 B    (C1.mono (by decide)) (C32.mono (by decide)) (C33.mono (by decide)) (C35.mono (by decide)) (C15.mono (by decide)) (C36.mono (by decide))
theorem walk {l:PySem.W.OpenLaw} {q:Program} {loose:List Str} {XP:(Str -> Option Value) -> Heap -> Prop} {YP:World -> Heap -> Prop} {d:DefRec} {K:Params -> FG7} (hn:l.most = some 63) (hdf:d.params.defaults = [])
  (hY:∀ (w:World) (h:Heap),YP w h -> (K w.params).In h)
  (F:∀ (w:World) (mg:Str -> Option Value) (fa:Addr) (h:Heap),(K w.params).In h -> h.Ns mainGlobals mg -> mg d.name = some (.ref fa) →
   ∃ fd:FuncData,(∀ (s:Shared) (u:Value),BindsTo s fd ⟨[u],[]⟩ [("_law_script",u)]) /\ ∀ base:Heap,(K w.params).In base -> base.Ns mainGlobals mg -> FnOk l.prog w (K w.params) mg base CX0 13 fa fd ["_law_script"] (jf (K w.params))) :
  PySem.W.WalkO q loose XP YP l.row.toRowW d [] (fun f vs=>PySem.call f vs) :=
 L2.walk_of (n:=63) (k:=13) (x:="_law_script") (CX:=fun _=>CX0) (sp:=fun w=>jf (K w.params)) hn (by decide) hdf ⟨rfl,by decide,by decide,rfl⟩ hY F (fun _ _ a ns hl hO hS=>⟨_,rfl,a,ns,rfl,Scr.of hO hS,hl,fun _=>rfl⟩) fun _ _ _ _ _ z=>z
theorem walkX {q:Program} {loose:List Str} {XP:(Str -> Option Value) -> Heap -> Prop} {K:Params -> FG7} {as:List Addr} {n t:Nat} {r:PySem.W.RowW} {d:DefRec} {kwd:List (Str × Expr)} {run:Value -> List Value -> Sem Value}
  (e:∀ P,as = (K P).map (·.1)) (W:PySem.W.WalkO q loose XP (PySem.W.InK K) r d kwd run):PySem.W.WalkX q loose XP (PySem.W.X.obsZ as) (PySem.W.X.valZ K n t) r d kwd run :=
 fun w s₀ s₁ mg mb G Y a o pm cd doc dV kV h2 h3 h4 h5 h6 h7 args vals as' L hpre hlay hrd hwl hlo =>
  W w s₀ s₁ mg mb G (PySem.W.InK.keeps w s₀.heap s₁.heap (PySem.W.X.z_facts e Y).2.1 L.keeps) a o pm cd doc dV kV h2 h3 h4 h5 h6 h7 args vals as' hpre hlay hrd hwl hlo
end My
open PySem PySem.W PyProof.Rows
def PySem.W.Fast.tw14394584428623003687:Unit:=()
def PySem.W.Fast.tw14106461483621080544:Unit:=()
def PySem.W.Fast.tw9226812821856573854:Unit:=()
def PySem.W.Fast.tw7613774811061924:Unit:=()
def PySem.W.Fast.tw7521757875297175372:Unit:=()
def PySem.W.Fast.tw8088740473295864594:Unit:=()
def PySem.W.Fast.tw15108589266157416435:Unit:=()
def PySem.W.Fast.tw15277984567660863829:Unit:=()
def PySem.W.Fast.tw16870639891751159041:Unit:=()
def PySem.W.Fast.tw5739298133840241350:Unit:=()
def PySem.W.Fast.tw7576368670889084141:Unit:=()
def PySem.W.Fast.tw8840005912365767702:Unit:=()
def PySem.W.Fast.tw16821647732302046279:Unit:=()
def PySem.W.Fast.tw9852297459773820669:Unit:=()
def PySem.W.Fast.tw4567348786888937253:Unit:=()
def PySem.W.Fast.tw12153053610648269141:Unit:=()
def PySem.W.Fast.tw2937777255809910297:Unit:=()
def PySem.W.Fast.tw411355891682672288:Unit:=()
def PySem.W.Fast.tw4429623536927103741:Unit:=()
def PySem.W.Fast.tw7885345438018121407:Unit:=()
def PySem.W.Fast.tw9901579480007195323:Unit:=()
def PySem.W.Fast.tw9380391988500215824:Unit:=()
def PySem.W.Fast.tw10714348222959763854:Unit:=()
def PySem.W.Fast.tw8196027440417575033:Unit:=()
def PySem.W.Fast.tw17065568575501336672:Unit:=()
def PySem.W.Fast.tw10235782157079461406:Unit:=()
def PySem.W.Fast.tw3298840350873985232:Unit:=()
def PySem.W.Fast.tw8540603483125370383:Unit:=()
def PySem.W.Fast.tw5662372868786850194:Unit:=()
def PySem.W.Fast.tw4898740583479347985:Unit:=()
def PySem.W.Fast.tw16307389227051810733:Unit:=()
def PySem.W.Fast.tw14502273600652176837:Unit:=()
def PySem.W.Fast.tw11743213683557370576:Unit:=()
def PySem.W.Fast.tw8348844094822829190:Unit:=()
def PySem.W.Fast.tw5008473985754877626:Unit:=()
def PySem.W.Fast.tw9970004968599375490:Unit:=()
def PySem.W.Fast.tw15075585679214026934:Unit:=()
def PySem.W.Fast.tw14517868519171974223:Unit:=()
def PySem.W.Fast.tw5736468505333009739:Unit:=()
def PySem.W.Fast.tw13037006148838180288:Unit:=()
def PySem.W.Fast.tw16488834241486336143:Unit:=()
def PySem.W.Fast.tw17835382941712657442:Unit:=()
def PySem.W.Fast.tw10664736916939023727:Unit:=()
def PySem.W.Fast.tw5917144940625393076:Unit:=()
def PySem.W.Fast.tw5875691198169774794:Unit:=()
def PySem.W.Fast.tw6289135180515513997:Unit:=()
def PySem.W.Fast.tw4695238493799710766:Unit:=()
def PySem.W.Fast.tw11058821416722252391:Unit:=()
def PySem.W.Fast.tw16342645851621655832:Unit:=()
def PySem.W.Fast.tw16243920627097252280:Unit:=()
def PySem.W.Fast.tw17853040110982128551:Unit:=()
def PySem.W.Fast.tw369667617545068627:Unit:=()
def PySem.W.Fast.tw12237038674395561726:Unit:=()
def PySem.W.Fast.tw14043250592498691577:Unit:=()
def PySem.W.Fast.tw9551696061581167009:Unit:=()
def PySem.W.Fast.tw6561053546349873608:Unit:=()
def PySem.W.Fast.tw12587433337713616882:Unit:=()
def PySem.W.Fast.tw16643811196416811466:Unit:=()
def PySem.W.Fast.tw13247376675644815361:Unit:=()
def PySem.W.Fast.tw13490443918051905856:Unit:=()
def PySem.W.Fast.tw16138722249653329160:Unit:=()
def PySem.W.Fast.tw83655715594006760:Unit:=()
def PySem.W.Fast.tw16891544876506798707:Unit:=()
def PySem.W.Fast.tw347656140752768446:Unit:=()
def PySem.W.Fast.tw15135301700665384524:Unit:=()
def PySem.W.Fast.tw3417723433566139565:Unit:=()
def PySem.W.Fast.tw6887905695760738769:Unit:=()
def PySem.W.Fast.tw11579255765903776986:Unit:=()
def PySem.W.Fast.tw15879385042638195119:Unit:=()
def PySem.W.Fast.tw4655317745399525362:Unit:=()
def PySem.W.Fast.tw11599233775716200091:Unit:=()
def PySem.W.Fast.tw4150299867774844776:Unit:=()
def PySem.W.Fast.tw11255281752843593122:Unit:=()
def PySem.W.Fast.tw7354493140845313555:Unit:=()
def PySem.W.Fast.tw12181291841322269460:Unit:=()
def PySem.W.Fast.tw4192912470903531746:Unit:=()
def PySem.W.Fast.tw14212001306280448797:Unit:=()
def PySem.W.Fast.tw17679783318592727197:Unit:=()
def PySem.W.Fast.tw1473752095956999028:Unit:=()
def PySem.W.Fast.tw14895756090931480497:Unit:=()
def PySem.W.Fast.tw17756184291358229017:Unit:=()
def PySem.W.Fast.tw16488637796613532859:Unit:=()
def PySem.W.Fast.tw7002954691715373940:Unit:=()
def PySem.W.Fast.tw5972067422124277134:Unit:=()
def PySem.W.Fast.tw8700257237130407503:Unit:=()
def PySem.W.Fast.tw6460366200732934557:Unit:=()
def PySem.W.Fast.tw8536125982857305144:Unit:=()
def PySem.W.Fast.tw1628090353701728673:Unit:=()
def PySem.W.Fast.tw4869843200774648764:Unit:=()
def PySem.W.Fast.tw8800563644469889435:Unit:=()
def PySem.W.Fast.tw3531549050589819271:Unit:=()
def PySem.W.Fast.tw14006996020738332349:Unit:=()
def PySem.W.Fast.tw91950634644200050:Unit:=()
def PySem.W.Fast.tw16168487066840223341:Unit:=()
def PySem.W.Fast.tw6032547475130455608:Unit:=()
def PySem.W.Fast.tw16933205973735682428:Unit:=()
def PySem.W.Fast.tw1610605421839222973:Unit:=()
def PySem.W.Fast.tw2091391437777731193:Unit:=()
def PySem.W.Fast.tw4438581254095703894:Unit:=()
def PySem.W.Fast.tw9795163657972654267:Unit:=()
def PySem.W.Fast.tw8594093448915625430:Unit:=()
def PySem.W.Fast.tw1812281405886769612:Unit:=()
def PySem.W.Fast.tw18116523218140428463:Unit:=()
def PySem.W.Fast.tw166935192442634565:Unit:=()
def PySem.W.Fast.tw15787508881836198484:Unit:=()
def PySem.W.Fast.tw12579292859033459220:Unit:=()
def PySem.W.Fast.tw10374410836213307057:Unit:=()
def PySem.W.Fast.tw18185326986570556711:Unit:=()
def PySem.W.Fast.tw11430990853235584178:Unit:=()
def PySem.W.Fast.tw8262222250614758553:Unit:=()
def PySem.W.Fast.tw5706890039469799417:Unit:=()
def PySem.W.Fast.tw18252479443469562480:Unit:=()
def PySem.W.Fast.tw1929694734479703723:Unit:=()
def PySem.W.Fast.tw9294873260335512710:Unit:=()
def PySem.W.Fast.tw7461148085694631066:Unit:=()
def PySem.W.Fast.tw4960837316340592612:Unit:=()
def PySem.W.Fast.tw11109131764554413071:Unit:=()
def PySem.W.Fast.tw7114494278568448756:Unit:=()
def PySem.W.Fast.tw18089156418380000449:Unit:=()
def PySem.W.Fast.tw6583808995549556346:Unit:=()
def PySem.W.Fast.tw1180628129134596577:Unit:=()
def PySem.W.Fast.tw16023803945097338988:Unit:=()
def PySem.W.Fast.tw6816181859846678014:Unit:=()
def PySem.W.Fast.tw10206586737133856290:Unit:=()
def PySem.W.Fast.tw9323113771563665230:Unit:=()
def PySem.W.Fast.tw3009446696387439324:Unit:=()
def PySem.W.Fast.tw5163629178162694481:Unit:=()
def PySem.W.Fast.tw11475711456758472968:Unit:=()
def PySem.W.Fast.tw17654145061599279558:Unit:=()
def PySem.W.Fast.tw537886239499971188:Unit:=()
def PySem.W.Fast.tw16870397234063510747:Unit:=()
def PySem.W.Fast.tw6337234734396157768:Unit:=()
def PySem.W.Fast.tw8242627992579965624:Unit:=()
def PySem.W.Fast.tw9225479532140603002:Unit:=()
def PySem.W.Fast.tw17175498957278185753:Unit:=()
def PySem.W.Fast.tw12581808493932837085:Unit:=()
def PySem.W.Fast.tw12092713743623814414:Unit:=()
def PySem.W.Fast.tw13009773637013404543:Unit:=()
def PySem.W.Fast.tw8710592174962344403:Unit:=()
def PySem.W.Fast.tw11981412768108150442:Unit:=()
def PySem.W.Fast.tw17967318164461935701:Unit:=()
set_option maxRecDepth 100000 in
theorem PySem.Challenge.cw_joinedasks_k77_whole_serial_not_together_holds : PySem.Challenge.rw_joinedasks_k77_whole_serial_not_together.Holds := by
 w_on; o_law; z_head; (case hw=>w_witness2)
 refine My.walkX (fun _=>by kernel_rfl) (My.walk (l:=PySem.Challenge.rw_joinedasks_k77_whole_serial_not_together) rfl rfl (fun w h Y=>Y) ?F)
 case F =>
  intro w mg fa h KX G hmg
  refine' My.all_mk KX G hmg        ?h1 ?h2 ?h3 ?h4 ?h5 ?h6 ?h7 ?h8 ?h9 ?h10 ?h11 ?h12 ?h13 ?h14 ?h15 ?h16 ?h17 ?h18 ?h19 ?h20 ?h21 ?h22 ?h23 ?h24 ?h25 ?h26 ?h27 ?h28 ?h29 ?h30 ?h31 ?h32 ?h33 ?h34 ?h35 ?h36 ?h37 ?ga_LAST_HAND ?ga_MOST_AT_A_BOX ?ga_MOST_BOXES ?ga_MOST_CALLS ?ga_MOST_FOR_SERIAL ?ga_any ?ga_enumerate ?ga_set ?ga_sorted ?ga_sum ?z_abs ?z_len ?z_max ?z_min ?z_divmod ?z_repr ?z_isinstance ?z_all ?z_range ?z_int ?z_bool ?z_str ?z_tuple ?z_list ?z_dict
  (case h1=>exact ⟨by k_is,L2.fun_mk (by k_is) (by k_is) (by k_is)⟩)
  (case h2=>exact ⟨by k_is,L2.fun_mk (by k_is) (by k_is) (by k_is)⟩)
  (case h3=>exact ⟨by k_is,L2.fun_mk (by k_is) (by k_is) (by k_is)⟩)
  (case h4=>exact ⟨by k_is,L2.fun_mk (by k_is) (by k_is) (by k_is)⟩)
  (case h5=>exact ⟨by k_is,L2.fun_mk (by k_is) (by k_is) (by k_is)⟩)
  (case h6=>exact ⟨by k_is,L2.fun_mk (by k_is) (by k_is) (by k_is)⟩)
  (case h7=>exact ⟨by k_is,L2.fun_mk (by k_is) (by k_is) (by k_is)⟩)
  (case h8=>exact ⟨by k_is,L2.fun_mk (by k_is) (by k_is) (by k_is)⟩)
  (case h9=>exact ⟨by k_is,L2.fun_mk (by k_is) (by k_is) (by k_is)⟩)
  (case h10=>exact ⟨by k_is,L2.fun_mk (by k_is) (by k_is) (by k_is)⟩)
  (case h11=>exact ⟨by k_is,L2.fun_mk (by k_is) (by k_is) (by k_is)⟩)
  (case h12=>exact ⟨by k_is,L2.fun_mk (by k_is) (by k_is) (by k_is)⟩)
  (case h13=>exact ⟨by k_is,L2.fun_mk (by k_is) (by k_is) (by k_is)⟩)
  (case h14=>exact ⟨by k_is,L2.fun_mk (by k_is) (by k_is) (by k_is)⟩)
  (case h15=>exact ⟨by k_is,L2.fun_mk (by k_is) (by k_is) (by k_is)⟩)
  (case h16=>exact ⟨by k_is,L2.fun_mk (by k_is) (by k_is) (by k_is)⟩)
  (case h17=>exact ⟨by k_is,L2.fun_mk (by k_is) (by k_is) (by k_is)⟩)
  (case h18=>exact ⟨by k_is,L2.fun_mk (by k_is) (by k_is) (by k_is)⟩)
  (case h19=>exact ⟨by k_is,L2.fun_mk (by k_is) (by k_is) (by k_is)⟩)
  (case h20=>exact ⟨by k_is,L2.fun_mk (by k_is) (by k_is) (by k_is)⟩)
  (case h21=>exact ⟨by k_is,L2.fun_mk (by k_is) (by k_is) (by k_is)⟩)
  (case h22=>exact ⟨by k_is,L2.fun_mk (by k_is) (by k_is) (by k_is)⟩)
  (case h23=>exact ⟨by k_is,L2.fun_mk (by k_is) (by k_is) (by k_is)⟩)
  (case h24=>exact ⟨by k_is,L2.fun_mk (by k_is) (by k_is) (by k_is)⟩)
  (case h25=>exact ⟨by k_is,L2.fun_mk (by k_is) (by k_is) (by k_is)⟩)
  (case h26=>exact ⟨by k_is,L2.fun_mk (by k_is) (by k_is) (by k_is)⟩)
  (case h27=>exact ⟨by k_is,L2.fun_mk (by k_is) (by k_is) (by k_is)⟩)
  (case h28=>exact ⟨by k_is,L2.fun_mk (by k_is) (by k_is) (by k_is)⟩)
  (case h29=>exact ⟨by k_is,L2.fun_mk (by k_is) (by k_is) (by k_is)⟩)
  (case h30=>exact ⟨by k_is,L2.fun_mk (by k_is) (by k_is) (by k_is)⟩)
  (case h31=>exact ⟨by k_is,L2.fun_mk (by k_is) (by k_is) (by k_is)⟩)
  (case h32=>exact ⟨by k_is,L2.fun_mk (by k_is) (by k_is) (by k_is)⟩)
  (case h33=>exact ⟨by k_is,L2.fun_mk (by k_is) (by k_is) (by k_is)⟩)
  (case h34=>exact ⟨by k_is,L2.fun_mk (by k_is) (by k_is) (by k_is)⟩)
  (case h35=>exact ⟨by k_is,L2.fun_mk (by k_is) (by k_is) (by k_is)⟩)
  (case h36=>exact ⟨by k_is,L2.fun_mk (by k_is) (by k_is) (by k_is)⟩)
  (case h37=>exact ⟨by k_is,L2.fun_mk (by k_is) (by k_is) (by k_is)⟩)
  (case ga_LAST_HAND=>k_is)
  (case ga_MOST_AT_A_BOX=>k_is)
  (case ga_MOST_BOXES=>k_is)
  (case ga_MOST_CALLS=>k_is)
  (case ga_MOST_FOR_SERIAL=>k_is)
  (case ga_any=>k_is)
  (case ga_enumerate=>k_is)
  (case ga_set=>k_is)
  (case ga_sorted=>k_is)
  (case ga_sum=>k_is)
  (case z_abs=>k_is); (case z_len=>k_is); (case z_max=>k_is); (case z_min=>k_is); (case z_divmod=>k_is); (case z_repr=>k_is); (case z_isinstance=>k_is); (case z_all=>k_is); (case z_range=>k_is); (case z_int=>k_is); (case z_bool=>k_is); (case z_str=>k_is); (case z_tuple=>k_is); (case z_list=>k_is); (case z_dict=>k_is)
