import PyProof.Rows.All
import Wide.All
import OpenK.AllK
import Wide.FinOn
import Lean
import PyProof.EqAt
import PyProof.EqKinds
import PyProof.TupleCall
import PyProof.NeKinds
import PyProof.ReprRoads
import PyProof.ReprLen
import PyProof.Rows.RegStrFacts
import PyProof.Draws
import PyProof.EnumStmt
import PyProof.ZipIter
import PyProof.ListNew
import PyProof.TupleOfGen
import PyProof.ListRange
import PyProof.Rows.Range3
import PyProof.SumWalkG
import PyProof.Rows.RuleB_lshift
import PyProof.AutoSeq1
import PyProof.Cells
import PyProof.AutoListH
import PyProof.DictTable
import PyProof.RulesAs
import PyProof.NsDelKeeps
import KE.KDictList
import PyProof.ExcBaseAll.ValueError
import PyProof.ExcAttrAll.ValueError
import PyProof.StrLawsRepr
import PySem.Challenge.RW_joinedasks_k24_asks_and_trees_refused
set_option Elab.async false
set_option linter.all false
set_option maxRecDepth 100000
set_option maxHeartbeats 0
abbrev FG7:=PySem.W.Frag
abbrev VS7:=PySem.Value -> PySem.Shared -> Prop
namespace L2
open PySem PySem.Spec PyProof.Rows
abbrev Key:=Sum Int Str
def uF:Key -> Value -> Bool
 | .inl k,v=>Value.isInt k v
 | .inr x,v=>Value.isStrOf x v
def keyH (w:World):Key -> Int
 | .inl k=>hashInt k
 | .inr x=>hashStr w x
theorem zH:∀ {k:Key} {v:Value},uF k v = true -> (∃ i t,k = Sum.inl i /\ v = Value.int i t) \/ (∃ x t,k = Sum.inr x /\ v = Value.str x t)
 | .inl i,v,h=>by
  obtain ⟨t,e⟩:=Value.isInt_shape (k:=i) (v:=v) h
  exact .inl ⟨i,t,rfl,e⟩
 | .inr x,v,h=>by
  obtain ⟨t,e⟩:=Value.isStrOf_shape (x:=x) (v:=v) h
  exact .inr ⟨x,t,rfl,e⟩
theorem jf (i:Int) (t:Tok):uF (.inl i) (.int i t) = true:=by simp [uF,Value.isInt]
theorem jg (x:Str) (t:Tok):uF (.inr x) (.str x t) = true:=by simp [uF,Value.isStrOf]
theorem Xj (a b:Int):decide ((Sum.inl a:Key) = Sum.inl b) = (a == b):=by
 by_cases e:a = b
 ·subst e; simp
 ·have h:¬ (Sum.inl a:Key) = Sum.inl b:=fun q=>e (Sum.inl.inj q)
  rw [decide_eq_false h]
  exact (beq_eq_false_iff_ne.mpr e).symm
theorem Xk (a b:Str):decide ((Sum.inr a:Key) = Sum.inr b) = decide (a = b):=by
 by_cases e:a = b
 ·subst e; simp
 ·have h:¬ (Sum.inr a:Key) = Sum.inr b:=fun q=>e (Sum.inr.inj q)
  rw [decide_eq_false h,decide_eq_false e]
theorem Xl (a:Int) (b:Str):decide ((Sum.inl a:Key) = Sum.inr b) = false:=decide_eq_false (fun q=>nomatch q)
theorem Xm (a:Str) (b:Int):decide ((Sum.inr a:Key) = Sum.inl b) = false:=decide_eq_false (fun q=>nomatch q)
def xy (prog:Program) (w:World):PySem.KeyKind prog w Key where
 is:=uF
 hash:=keyH w
 inj:=fun v a b ha hb=>by
  rcases zH ha with ⟨i,t,rfl,rfl⟩ | ⟨x,t,rfl,rfl⟩
  ·rcases zH hb with ⟨j,u,rfl,e⟩ | ⟨y,u,rfl,e⟩
   ·injection e with e1 _; rw [e1]
   ·exact nomatch e
  ·rcases zH hb with ⟨j,u,rfl,e⟩ | ⟨y,u,rfl,e⟩
   ·exact nomatch e
   ·injection e with e1 _; rw [e1]
 byValue:=fun k v h=>by
  rcases zH h with ⟨i,t,rfl,rfl⟩ | ⟨x,t,rfl,rfl⟩ <;> rfl
 pyHash:=fun hv h=>by
  rcases zH hv with ⟨i,t,rfl,rfl⟩ | ⟨x,t,rfl,rfl⟩
  ·exact wpAny_pyHash_int h
  ·exact wpAny_pyHash_str h
 eqBool:=fun hu hv h=>by
  rcases zH hu with ⟨i,t,rfl,rfl⟩ | ⟨x,t,rfl,rfl⟩
  ·rcases zH hv with ⟨j,u,rfl,rfl⟩ | ⟨y,u,rfl,rfl⟩
   ·rw [Xj] at h; exact wpAny_eqBool_int h
   ·rw [Xl] at h; exact SeqAt.EqAt.int_str i t y u _ _ _ _ h
  ·rcases zH hv with ⟨j,u,rfl,rfl⟩ | ⟨y,u,rfl,rfl⟩
   ·rw [Xm] at h; exact SeqAt.EqAt.str_int x t j u _ _ _ _ h
   ·rw [Xk] at h; exact wpAny_eqBool_str h
 «strs»:=fun k x t v h=>by
  rcases zH h with ⟨i,u,rfl,e⟩ | ⟨y,u,rfl,e⟩
  ·exact nomatch e
  ·injection e with e1 _
   subst e1
   cases v <;> rfl
end L2
namespace L2
open PySem PySem.Spec PyProof.Rows
inductive V where
 | non | bl (b:Bool) | int (i:Int) | str (x:Str) | byt (b:Array UInt8) | flt (b:UInt64) | ref (a:Addr) | ty (n:String)
 deriving DecidableEq
def RelV:V -> Value -> Prop
 | .non,u=>u = Value.none
 | .bl b,u=>u = Value.bool b
 | .int i,u=>∃ t,u = Value.int i t
 | .str x,u=>∃ t,u = Value.str x t
 | .byt b,u=>∃ t,u = Value.bytes b t
 | .flt b,u=>∃ t,u = Value.float b t
 | .ref a,u=>u = Value.ref a
 | .ty n,u=>u = Value.type n
abbrev Vals:List V -> List Value -> Prop:=Paired RelV
theorem Vals.length {xs:List V} {us:List Value} (r:Vals xs us):xs.length = us.length:=Paired.length r
theorem Vals.get:∀ {xs:List V} {us:List Value} {i:Nat} {x:V},Vals xs us -> xs[i]? = some x -> ∃ u,us[i]? = some u /\ RelV x u
 | _,_,_,_,.nil,e=>by simp at e
 | _,_,0,_,.cons r _,e=>by simp at e; subst e; exact ⟨_,rfl,r⟩
 | _,_,i + 1,x,.cons _ t,e=>by
  obtain ⟨u,h1,h2⟩:=Vals.get (i:=i) (x:=x) t (by simpa using e)
  exact ⟨u,by simpa using h1,h2⟩
theorem Vals.set {x:V} {u:Value} (r:RelV x u):∀ {xs:List V} {us:List Value} (i:Nat),Vals xs us -> Vals (xs.set i x) (us.set i u)
 | _,_,_,.nil=>.nil
 | _,_,0,.cons _ t=>.cons r t
 | _,_,i + 1,.cons q t=>.cons q (Vals.set r i t)
theorem Vals.append:∀ {xs ys:List V} {us ws:List Value},Vals xs us -> Vals ys ws -> Vals (xs ++ ys) (us ++ ws)
 | _,_,_,_,.nil,s=>s
 | _,_,_,_,.cons r t,s=>.cons r (Vals.append t s)
theorem Vals.take:∀ {xs:List V} {us:List Value} (n:Nat),Vals xs us -> Vals (xs.take n) (us.take n)
 | _,_,0,_=>.nil
 | _,_,_ + 1,.nil=>.nil
 | _,_,n + 1,.cons r t=>.cons r (Vals.take n t)
theorem Vals.drop:∀ {xs:List V} {us:List Value} (n:Nat),Vals xs us -> Vals (xs.drop n) (us.drop n)
 | _,_,0,r=>r
 | _,_,_ + 1,.nil=>.nil
 | _,_,n + 1,.cons _ t=>Vals.drop n t
def RelO:Option V -> Option Value -> Prop
 | some v,some u=>RelV v u
 | none,none=>True
 | _,_=>False
def KV {κ:Type}:List (κ × V) -> List (κ × Value) -> Prop:=Paired fun (p:κ × V) (q:κ × Value)=>p.1 = q.1 /\ RelV p.2 q.2
def kV:Key -> V
 | .inl i=>.int i
 | .inr x=>.str x
inductive HO where
 /-- a list -/
 | lst (xs:List V)
 /-- a tuple (never changes) -/
 | tup (xs:List V)
 /-- a dict whose keys are ints and texts; one whose keys are tuples of ints and texts (the empty one is both) -/
 | dK (kvs:List (Key × V)) | dT (kvs:List (List Key × V))
 /-- a set of ints: its members,its size -/
 | set (S:Int -> Bool) (n:Nat)
 /-- an instance of the class at C,its dict at dx,its attributes -/
 | ins (C dx:Addr) (fs:List (Str × V))
 /-- the dict of the instance at x -/
 | own (x:Addr)
 /-- the dict of an exception -/
 | xd (fs:List (Str × V))
 /-- a bound method,f of x -/
 | met (f x:Addr)
 /-- a range object lo,lo + 1,.. below hi -/
 | rng (lo hi:Int)
 /-- a thing that is known to the object (the script; a dict while a loop walks it): read,never written while it is so -/
 | frz (o:Obj) (u:HO)
 /-- a code object's table -/
 | tbl (ps:Array Value)
 /-- any other thing,by what is true of its one object (a def of one's own: SetO a S n:=HO.ext fun h=>..) -/
 | ext (φ:Heap -> Prop)
abbrev Hp:=Addr -> Option HO
def upd (H:Hp) (a:Addr) (o:HO):Hp:=fun b=>if b = a then some o else H b
theorem zc {H:Hp} {a:Addr} {o:HO}:upd H a o a = some o:=by unfold upd; rw [if_pos rfl]
theorem zp {H:Hp} {a b:Addr} {o:HO} (h:b ≠ a):upd H a o b = H b:=by unfold upd; rw [if_neg h]
theorem zq {H:Hp} {a b:Addr} {o:HO} (h:H a = some o) (h':H b = none):a ≠ b:=by
 intro e; subst e; rw [h] at h'; cases h'
section
variable (P:Program) (w:World)
def yu (H:Hp) (h:Heap) (a:Addr):HO -> Prop
 | .lst xs=>xs.length <= sizeLine /\ ∃ (its:List Value) (n:Nat),Vals xs its /\ h.get? a = some { cls:=.type "list",data:=.seq its.toArray n }
 | .tup xs=>xs.length <= sizeLine /\ ∃ its:List Value,Vals xs its /\ IsTup h a its.toArray
 | .dK kvs=>kvs.length <= sizeLine /\ (a == sysModules) = false /\ ∃ vs,KV kvs vs /\ h.DictOf (xy P w) a vs
 | .dT kvs=>kvs.length <= sizeLine /\ (a == sysModules) = false /\ ∃ xs:List (List Key × Addr × Value),
   Paired (fun (p:List Key × V) (q:List Key × Addr × Value)=>p.1 = q.1 /\ H q.2.1 = some (.tup (p.1.map kV)) /\ RelV p.2 q.2.2) kvs xs ∧
   ∃ o es ep,h.get? a = some o /\ o.ExactDict /\ o.data = .dict es ep /\ es.toList = xs.map (entryOfKey (tupleKind (xy P w))) /\ (xs.map (·.1)).Nodup
 | .set S n=>h.SetOf (intKind P w) a S n
 | .ins C dx fs=>H dx = some (.own a) /\ fs.length <= 1000 /\ dx ≠ a /\ h.get? a = some (PySem.W.instObj C dx) ∧
   ∃ mA,h.Ns1 dx mA /\ (∀ f,RelO (fs.lookup f) (mA f)) /\ PySem.Within mA (fs.map (·.1))
 | .own _=>∃ o,h.get? a = some o
 | .xd fs=>∃ mA,h.Ns1 a mA /\ ∀ f,RelO (fs.lookup f) (mA f)
 | .rng lo hi=>∃ t u v,h.get? a = some { cls:=.type "range",data:=.fields #[.int lo t,.int hi u,.int 1 v] }
 | .frz o u=>h.get? a = some o /\ yu H h a u
 | .tbl ps=>h.get? a = some { cls:=.none,data:=.fields ps }
 | .met f x=>h.get? a = some (PySem.W.methodObj (.ref f) (.ref x))
 | .ext φ=>φ h /\ (∃ o,h.get? a = some o) /\ ∀ h1 h2:Heap,φ h1 -> (∀ o,h1.get? a = some o -> h2.get? a = some o) -> φ h2
def HOk (H:Hp) (h:Heap):Prop:=∀ a o,H a = some o -> yu P w H h a o
end
section
variable {P:Program} {w:World} {H H':Hp} {h h':Heap} {a:Addr} {o:HO}
theorem yu.lt (x:yu P w H h a o):a < h.objs.size:=by
 cases o with
 | lst xs=>obtain ⟨_,_,_,_,e⟩:=x; exact Heap.lt_size e
 | tup xs=>obtain ⟨_,_,_,p⟩:=x; exact p.lt
 | dK kvs=>obtain ⟨_,_,_,_,o,_,_,e,_⟩:=x; exact Heap.lt_size e
 | dT kvs=>obtain ⟨_,_,_,_,o,_,_,e,_⟩:=x; exact Heap.lt_size e
 | set S n=>obtain ⟨o,_,_,_,e,_⟩:=x; exact Heap.lt_size e
 | ins C dx fs=>obtain ⟨_,_,_,e,_⟩:=x; exact Heap.lt_size e
 | own y=>obtain ⟨_,e⟩:=x; exact Heap.lt_size e
 | xd fs=>obtain ⟨_,⟨_,_,_,e,_⟩,_⟩:=x; exact Heap.lt_size e
 | rng lo hi=>obtain ⟨_,_,_,e⟩:=x; exact Heap.lt_size e
 | frz ob u=>obtain ⟨e,_⟩:=x; exact Heap.lt_size e
 | tbl ps=>exact Heap.lt_size (show h.get? a = some _ from x)
 | met f y=>exact Heap.lt_size (show h.get? a = some _ from x)
 | ext φ=>obtain ⟨_,⟨_,e⟩,_⟩:=x; exact Heap.lt_size e
theorem Paired.mapP {α β:Type} {F G:α -> β -> Prop}:∀ {l₁:List α} {l₂:List β},Paired F l₁ l₂ -> (∀ a b,F a b -> G a b) -> Paired G l₁ l₂
 | _,_,.nil,_=>.nil
 | _,_,.cons r t,f=>.cons (f _ _ r) (Paired.mapP t f)
theorem yu.stay (x:yu P w H h a o) (k:∀ b u,(b = a \/ H b = some (.own a)) -> h.get? b = some u -> h'.get? b = some u)
  (ho:∀ b,H b = some (.own a) -> H' b = some (.own a)) (ht:∀ b xs,H b = some (.tup xs) -> H' b = some (.tup xs)):yu P w H' h' a o:=by
 induction o with
 | lst xs=>obtain ⟨z,its,n,r,e⟩:=x; exact ⟨z,its,n,r,k _ _ (.inl rfl) e⟩
 | tup xs=>obtain ⟨z,its,r,ob,e,c⟩:=x; exact ⟨z,its,r,ob,k _ _ (.inl rfl) e,c⟩
 | dK kvs=>obtain ⟨z,y,vs,r,ob,es,ep,e,c⟩:=x; exact ⟨z,y,vs,r,ob,es,ep,k _ _ (.inl rfl) e,c⟩
 | dT kvs =>
  obtain ⟨z,y,xs,r,ob,es,ep,e,c⟩:=x
  exact ⟨z,y,xs,Paired.mapP r fun p q z=>⟨z.1,ht _ _ z.2.1,z.2.2⟩,ob,es,ep,k _ _ (.inl rfl) e,c⟩
 | set S n=>obtain ⟨ob,es,ep,t,e,c⟩:=x; exact ⟨ob,es,ep,t,k _ _ (.inl rfl) e,c⟩
 | ins C dx fs =>
  obtain ⟨d,z,ne,e,mA,⟨od,es,ep,e2,c⟩,r⟩:=x
  exact ⟨ho _ d,z,ne,k _ _ (.inl rfl) e,mA,⟨od,es,ep,k _ _ (.inr d) e2,c⟩,r⟩
 | own y=>obtain ⟨ob,e⟩:=x; exact ⟨ob,k _ _ (.inl rfl) e⟩
 | xd fs=>obtain ⟨mA,⟨od,es,ep,e,c⟩,r⟩:=x; exact ⟨mA,⟨od,es,ep,k _ _ (.inl rfl) e,c⟩,r⟩
 | rng lo hi=>obtain ⟨t,u,v,e⟩:=x; exact ⟨t,u,v,k _ _ (.inl rfl) e⟩
 | frz ob u ih=>obtain ⟨e,q⟩:=x; exact ⟨k _ _ (.inl rfl) e,ih q⟩
 | tbl ps =>
  have e:h.get? a = some { cls:=.none,data:=.fields ps }:=x
  show h'.get? a = some { cls:=.none,data:=.fields ps }
  exact k a _ (.inl rfl) e
 | met f y =>
  have e:h.get? a = some (PySem.W.methodObj (.ref f) (.ref y)):=x
  show h'.get? a = some (PySem.W.methodObj (.ref f) (.ref y))
  exact k a _ (.inl rfl) e
 | ext φ=>obtain ⟨p,⟨o,e⟩,st⟩:=x; exact ⟨st _ _ p fun o q=>k _ _ (.inl rfl) q,⟨o,k _ _ (.inl rfl) e⟩,st⟩
theorem HOk.lt (x:HOk P w H h) (e:H a = some o):a < h.objs.size:=(x a o e).lt
theorem HOk.fresh (x:HOk P w H h) (e:h.objs.size <= a):H a = none:=by
 cases q:H a with
 | none=>rfl
 | some u=>exact absurd (Nat.lt_of_lt_of_le (x.lt q) e) (Nat.lt_irrefl _)
theorem HOk.kept (x:HOk P w H h) (k:∀ b u,h.get? b = some u -> h'.get? b = some u):HOk P w H h':=fun a o e =>
 (x a o e).stay (fun b u _ q=>k b u q) (fun _ q=>q) fun _ _ q=>q
theorem HOk.laid (x:HOk P w H h) (k:∀ b u,h.get? b = some u -> h'.get? b = some u) (hp:h.objs.size <= a) (new:yu P w (upd H a o) h' a o):HOk P w (upd H a o) h':=fun b u e=>by
 have hn:=x.fresh hp
 by_cases hb:b = a
 ·subst hb; rw [zc] at e; cases e; exact new
 ·rw [zp hb] at e
  exact (x b u e).stay (fun c v _ q=>k c v q) (fun c q=>by rw [zp (zq q hn)]; exact q) fun c xs q=>by rw [zp (zq q hn)]; exact q
end
def Rd (H:Hp) (a:Addr) (u:HO):Prop:=H a = some u \/ ∃ o,H a = some (.frz o u)
theorem Rd.of {H:Hp} {a:Addr} {u:HO} (h:H a = some u):Rd H a u:=.inl h
theorem Rd.ok {P:Program} {w:World} {H:Hp} {h:Heap} {a:Addr} {u:HO} (r:Rd H a u) (x:HOk P w H h):yu P w H h a u:=by
 rcases r with r | ⟨o,r⟩
 ·exact x a u r
 ·obtain ⟨_,q⟩:=x a _ r
  exact q
def Mut:Option HO -> Prop
 | some (.lst _)=>True
 | some (.dK _)=>True
 | some (.dT _)=>True
 | some (.set _ _)=>True
 | some (.ins _ _ _)=>True
 | some (.ext _)=>True
 | _=>False
section
variable {P:Program} {w:World} {H:Hp} {h h':Heap} {x e:Addr} {o':HO}
theorem HOk.write (ok:HOk P w H h) (mu:Mut (H x)) (he:e = x \/ H e = some (.own x)) (k:∀ b u,b ≠ e -> h.get? b = some u -> h'.get? b = some u) (heo:∃ u,h'.get? e = some u)
  (new:yu P w (upd H x o') h' x o'):HOk P w (upd H x o') h':=fun b u q=>by
 have nown:∀ c y,H c = some (.own y) -> c ≠ x:=fun c y r z=>by subst z; rw [r] at mu; exact mu
 have ntup:∀ c xs,H c = some (.tup xs) -> c ≠ x:=fun c xs r z=>by subst z; rw [r] at mu; exact mu
 by_cases hb:b = x
 ·subst hb; rw [zc] at q; cases q; exact new
 ·rw [zp hb] at q
  by_cases hbe:b = e
  ·have q':H b = some (.own x):=by
    rcases he with z | z
    ·exact absurd (hbe.trans z) hb
    ·rw [hbe]; exact z
   rw [q] at q'; cases q'
   obtain ⟨v,hv⟩:=heo
   exact ⟨v,by rw [hbe]; exact hv⟩
  ·refine (ok b u q).stay (fun c v hc r=>k c v ?_ r) (fun c r=>by rw [zp (nown c b r)]; exact r) fun c xs r=>by rw [zp (ntup c xs r)]; exact r
   rcases hc with rfl | hc
   ·exact hbe
   ·rintro rfl
    rcases he with z | z
    ·exact nown c b hc z
    ·rw [hc] at z; cases z; exact hb rfl
end
structure Un (fs ex:List Addr) (H H':Hp) (h h':Heap):Prop where
 keep:∀ b o,h.get? b = some o -> H b = none -> b ∉ fs -> b ∉ ex -> h'.get? b = some o
 slot:∀ b o,h.get? b = some o -> H b = none -> b ∈ fs -> b ∉ ex -> ∃ sl,h'.get? b = some { o with slots:=sl }
 free:∀ b o,h.get? b = some o -> H b = none -> b ∉ ex -> H' b = none
 there:∀ b o,h.get? b = some o -> b ∉ ex -> ∃ o',h'.get? b = some o'
 tups:∀ b xs,H b = some (.tup xs) -> H' b = some (.tup xs)
 frzs:∀ b o u,H b = some (.frz o u) -> H' b = some (.frz o u)
 tbls:∀ b ps,H b = some (.tbl ps) -> ∃ more,H' b = some (.tbl (ps ++ more))
section
variable {fs fs' ex ex':List Addr} {H H1 H2:Hp} {h h1 h2 h':Heap} {a x e:Addr} {o:HO}
theorem Un.any (u:Un fs ex H H1 h h1) {b:Addr} {ob:Obj} (q:h.get? b = some ob) (n:H b = none) (hx:b ∉ ex):∃ sl,h1.get? b = some { ob with slots:=sl }:=by
 by_cases hb:b ∈ fs
 ·exact u.slot b ob q n hb hx
 ·exact ⟨ob.slots,u.keep b ob q n hb hx⟩
theorem Un.trans (a:Un fs ex H H1 h h1) (b:Un fs ex H1 H2 h1 h2):Un fs ex H H2 h h2 where
 keep:=fun c ob q n hc hx=>b.keep c ob (a.keep c ob q n hc hx) (a.free c ob q n hx) hc hx
 slot:=fun c ob q n hc hx=>by
  obtain ⟨sl,e1⟩:=a.slot c ob q n hc hx
  obtain ⟨sl',e2⟩:=b.slot c _ e1 (a.free c ob q n hx) hc hx
  exact ⟨sl',e2⟩
 free:=fun c ob q n hx=>by
  obtain ⟨o',e1⟩:=a.there c ob q hx
  exact b.free c o' e1 (a.free c ob q n hx) hx
 there:=fun c ob q hx=>by
  obtain ⟨o',e1⟩:=a.there c ob q hx
  exact b.there c o' e1 hx
 tups:=fun c xs q=>b.tups c xs (a.tups c xs q)
 frzs:=fun c ob xs q=>b.frzs c ob xs (a.frzs c ob xs q)
 tbls:=fun c ps q=>by
  obtain ⟨m1,e1⟩:=a.tbls c ps q
  obtain ⟨m2,e2⟩:=b.tbls c _ e1
  exact ⟨m1 ++ m2,by rw [e2,Array.append_assoc]⟩
theorem Un.kept (k:∀ b u,h.get? b = some u -> h'.get? b = some u):Un fs ex H H h h' :=
 ⟨fun b ob q _ _ _=>k b ob q,fun b ob q _ _ _=>⟨ob.slots,k b ob q⟩,fun _ _ _ n _=>n,fun b ob q _=>⟨ob,k b ob q⟩,fun _ _ q=>q,fun _ _ _ q=>q,fun _ ps q=>⟨#[],by rw [q]; simp⟩⟩
theorem Un.refl:Un fs ex H H h h:=Un.kept fun _ _ q=>q
theorem Un.laid (k:∀ b u,h.get? b = some u -> h'.get? b = some u) (hp:h.objs.size <= a) (hn:H a = none):Un fs ex H (upd H a o) h h' where
 keep:=fun b u q _ _ _=>k b u q
 slot:=fun b u q _ _ _=>⟨u.slots,k b u q⟩
 free:=fun b u q n _=>by rw [zp (Nat.ne_of_lt (Nat.lt_of_lt_of_le (Heap.lt_size q) hp))]; exact n
 there:=fun b u q _=>⟨u,k b u q⟩
 tups:=fun b xs q=>by rw [zp (zq q hn)]; exact q
 frzs:=fun b u xs q=>by rw [zp (zq q hn)]; exact q
 tbls:=fun b ps q=>⟨#[],by rw [zp (zq q hn),q]; simp⟩
theorem Un.write (mu:Mut (H x)) (he:e = x \/ H e = some (.own x)) (k:∀ b u,b ≠ e -> h.get? b = some u -> h'.get? b = some u) (heo:∃ u,h'.get? e = some u):Un fs ex H (upd H x o) h h':=by
 have hx:∀ b,H b = none -> b ≠ x:=fun b n z=>by subst z; rw [n] at mu; exact mu
 have hb:∀ b,H b = none -> b ≠ e:=fun b n z=>by
  subst z
  rcases he with r | r
  ·exact hx b n r
  ·rw [n] at r; cases r
 have hm:∀ b u,H b = some u -> ¬ Mut (some u) -> b ≠ x:=fun b u q nm z=>by subst z; rw [q] at mu; exact nm mu
 refine ⟨fun b u q n _ _=>k b u (hb b n) q,fun b u q n _ _=>⟨u.slots,k b u (hb b n) q⟩,fun b u q n _=>by rw [zp (hx b n)]; exact n,fun b u q _=>?_,
  fun b xs q=>by rw [zp (hm b _ q fun z=>z)]; exact q,fun b u xs q=>by rw [zp (hm b _ q fun z=>z)]; exact q,fun b ps q=>⟨#[],by rw [zp (hm b _ q fun z=>z),q]; simp⟩⟩
 by_cases hbe:b = e
 ·subst hbe; exact heo
 ·exact ⟨u,k b u hbe q⟩
theorem Un.mono (u:Un fs ex H H1 h h1) (hs:∀ b ∈ fs,b ∈ fs') (hx:∀ b ∈ ex,b ∈ ex'):Un fs' ex' H H1 h h1 :=
 ⟨fun b ob q n hb he=>u.keep b ob q n (fun z=>hb (hs b z)) fun z=>he (hx b z),fun _ _ q n _ he=>u.any q n fun z=>he (hx _ z),fun b ob q n he=>u.free b ob q n fun z=>he (hx b z),fun b ob q he=>u.there b ob q fun z=>he (hx b z),u.tups,u.frzs,u.tbls⟩
end
def trk (h:Heap) (H:Hp):List Addr:=(List.range h.objs.size).filter fun a=>(H a).isSome
def hidT (h:Heap) (H:Hp):Heap:=PySem.W.hideAll h (trk h H)
theorem jh (h:Heap) (H:Hp):(hidT h H).objs.size = h.objs.size:=PySem.W.hideAll_size _ _
theorem ZI {h:Heap} {H:Hp} {b:Addr} {o:Obj} (e:h.get? b = some o) (n:H b = none):(hidT h H).get? b = some o :=
 PySem.W.hideAll_get _ e fun hm=>by
  have q:(H b).isSome = true:=(List.mem_filter.mp hm).2
  rw [n] at q; simp at q
theorem YF {h:Heap} {H:Hp} {b:Addr} {o:Obj} (e:(hidT h H).get? b = some o):h.get? b = some o /\ H b = none:=by
 have e':h.get? b = some o:=PySem.W.of_hideAll (trk h H) e
 refine ⟨e',?_⟩
 cases q:H b with
 | none=>rfl
 | some x =>
  have hm:b ∈ trk h H:=List.mem_filter.mpr ⟨List.mem_range.mpr (Heap.lt_size e'),by simp [q]⟩
  have z:(hidT h H).get? b = none:=PySem.W.hideAll_none (trk h H) hm
  rw [z] at e; cases e
def YG (g h:Heap) (L:Addr):List (Addr × Obj):=(List.range h.objs.size).filterMap fun a=>if a = L \/ (g.get? a).isSome = true then none else (h.get? a).map fun o=>(a,o)
def rest (g h:Heap) (L d:Addr):List (Addr × Obj):=(YG g h L).filter fun p=>decide (p.1 ≠ d)
end L2
namespace L2
open PySem PySem.Spec PyProof.Rows
structure Mod (K:FG7) (mg:Str -> Option Value) (base:Heap):Prop where
 kin:K.In base
 glob:base.Ns mainGlobals mg
 blt:∃ mb,base.Ns builtinsNs mb /\ ∀ x:Str,x ≠ "__name__" -> mb x = bootBuiltins x
 nolimit:base.NoLimit
structure Cx where
 prog:Program
 w:World
 K:FG7
 mg:Str -> Option Value
 base:Heap
 A:Around
 N:List Str
 s₀:Shared
 H₀:Hp
 env:Env
 outer:List Env
 stack:List Env
 ex:List Addr
 fn:Str -> Bool
 calm:Bool
 pn:List (Addr × Obj)
 xe:VS7
def frs (l:List Env):List Addr:=l.filterMap (·.frame)
abbrev Cx.fs (X:Cx):List Addr:=frs X.outer
def Vis (sc:Scope) (x:Str):Prop:=sc.names.lookup x = some .local \/ sc.names.lookup x = some .cell \/ sc.names.lookup x = some .free
def Loc (sc:Scope) (x:Str):Prop:=sc.names.lookup x = some .local \/ sc.names.lookup x = some .cell
def Look (env:Env) (h:Heap) (m:Str -> Option Value) (x:Str) (u:Value):Prop :=
 (env.kindOf x = some .local /\ m x = some u) \/ ((env.kindOf x = some .cell \/ env.kindOf x = some .free) /\ ∃ c,env.cells.lookup x = some c /\ h.IsCell c (some u))
structure Cx.Ok (X:Cx):Prop where
 mod:Mod X.K X.mg X.base
 kind:X.env.scope.kind = .function
 glob:X.env.globals = mainGlobals
 blt:X.env.builtins = builtinsNs
 above:X.s₀.heap.objs.size <= X.env.locals
 inj:∀ x y c,X.env.cells.lookup x = some c -> X.env.cells.lookup y = some c -> x = y
 has:∀ x,(X.env.kindOf x = some .cell \/ X.env.kindOf x = some .free) -> ∃ c,X.env.cells.lookup x = some c
 cab:∀ x c,X.fn x = true -> X.env.cells.lookup x = some c -> X.s₀.heap.objs.size <= c
 hd:X.calm = true -> X.A.handled = none
 frames:X.A.frames = some X.stack
 stk:X.stack = X.outer \/ (X.stack = X.env :: X.outer /\ X.env.frame = some X.env.locals)
 exf:∀ b ∈ X.ex,b ≠ X.env.locals /\ ∀ x c,X.env.cells.lookup x = some c -> c ≠ b
 bs:∀ b o,X.base.get? b = some o -> X.s₀.heap.get? b = some o /\ X.H₀ b = none
 bsz:X.base.objs.size <= X.s₀.heap.objs.size
 noex:∀ b o,X.base.get? b = some o -> b ∉ X.ex
 exfs:∀ b ∈ X.ex,b ∉ X.fs
 funs:X.s₀.heap.FunFrames X.base X.outer
 frf:∀ b ∈ X.fs,X.H₀ b = none
structure Inv (X:Cx) (pins:List (Addr × Obj)) (σ:List (Option V)) (H:Hp) (s:Shared):Prop where
 ok:X.Ok
 os:s.os = X.s₀.os
 bare:AllBare s.gens
 base:Un X.fs X.ex X.H₀ H X.s₀.heap s.heap
 loc:∃ m,s.heap.Ns X.env.locals m /\ ∀ (i:Nat) (x:Str) (v:V),X.N[i]? = some x -> σ[i]? = some (some v) -> Vis X.env.scope x -> ∃ u,RelV v u /\ Look X.env s.heap m x u
 cell:∀ x c,X.env.cells.lookup x = some c -> ∃ v,s.heap.IsCell c v
 free:H X.env.locals = none
 freeC:∀ x c,X.env.cells.lookup x = some c -> H c = none
 pin:∀ p ∈ X.pn ++ pins,s.heap.get? p.1 = some p.2 /\ H p.1 = none /\ p.1 ≠ X.env.locals /\ p.1 ∉ X.fs /\ ∀ v,p.2.data ≠ .cell v
 hok:HOk X.prog X.w H s.heap
 len:σ.length = X.N.length
section
variable {X:Cx} {pins:List (Addr × Obj)} {σ:List (Option V)} {H H':Hp} {s:Shared} {h':Heap}
theorem Cx.Ok.nofr (ok:X.Ok) {b:Addr} {o:Obj} (e:X.base.get? b = some o):b ∉ X.fs:=fun hb=>by
 have:=(ok.funs.mem hb).1
 rw [e] at this; cases this
theorem Inv.bs (I:Inv X pins σ H s):∀ b o,X.base.get? b = some o -> s.heap.get? b = some o /\ H b = none:=fun b o e =>
 ⟨I.base.keep b o (I.ok.bs b o e).1 (I.ok.bs b o e).2 (I.ok.nofr e) (I.ok.noex b o e),I.base.free b o (I.ok.bs b o e).1 (I.ok.bs b o e).2 (I.ok.noex b o e)⟩
theorem Inv.bk (I:Inv X pins σ H s):∀ b o,X.base.get? b = some o -> s.heap.get? b = some o:=fun b o e=>(I.bs b o e).1
theorem Inv.mod (I:Inv X pins σ H s):Mod X.K X.mg X.base:=I.ok.mod
theorem Inv.kIn (I:Inv X pins σ H s):X.K.In s.heap:=I.ok.mod.kin.keeps I.bk
theorem Inv.nolimit (I:Inv X pins σ H s):s.heap.NoLimit:=I.ok.mod.nolimit.keeps I.bk
theorem Inv.fr (I:Inv X pins σ H s):∃ m,Fr X.base X.env.locals s.heap m :=
 let ⟨m,hn,_⟩:=I.loc
 ⟨m,hn,I.bk,Nat.le_trans I.ok.bsz I.ok.above⟩
theorem Inv.lt (I:Inv X pins σ H s):X.env.locals < s.heap.objs.size:=let ⟨_,hn,_⟩:=I.loc; hn.lt
theorem Inv.sz (I:Inv X pins σ H s):X.s₀.heap.objs.size <= s.heap.objs.size:=Nat.le_trans I.ok.above (Nat.le_of_lt I.lt)
theorem Inv.nofs (I:Inv X pins σ H s) {a:Addr} (h:s.heap.objs.size <= a):a ∉ X.fs:=fun hb=>by
 obtain ⟨_,o,ho,_⟩:=I.ok.funs.mem hb
 exact absurd (Nat.lt_of_lt_of_le (Heap.lt_size ho) (Nat.le_trans I.sz h)) (Nat.lt_irrefl _)
theorem Inv.cne (I:Inv X pins σ H s):∀ x c,X.env.cells.lookup x = some c -> c ≠ X.env.locals:=fun x c e z=>by
 obtain ⟨v,o,ho,hd⟩:=I.cell x c e
 obtain ⟨m,⟨o',es,ep,ho',hd',_⟩,_⟩:=I.loc
 rw [z,ho'] at ho; cases ho; rw [hd'] at hd; cases hd
theorem Inv.funs (I:Inv X pins σ H s):s.heap.FunFrames X.base X.outer:=by
 have all:∀ (l:List Env),(∀ b ∈ frs l,b ∈ X.fs) -> X.s₀.heap.FunFrames X.base l -> s.heap.FunFrames X.base l:=by
  intro l
  induction l with
  | nil=>intro _ _; trivial
  | cons env r ih =>
   intro hs hl
   obtain ⟨hk,⟨L,o,hf,hn,ho,hd⟩,hr⟩:=hl
   have hL:L ∈ X.fs:=hs L (by unfold frs; rw [List.filterMap_cons,hf]; exact List.mem_cons_self)
   obtain ⟨sl,e⟩:=I.base.slot L o ho (I.ok.frf L hL) hL fun z=>I.ok.exfs L z hL
   exact ⟨hk,⟨L,_,hf,hn,e,hd⟩,ih (fun b hb=>hs b (by unfold frs; rw [List.filterMap_cons,hf]; exact List.mem_cons_of_mem _ hb)) hr⟩
 exact all X.outer (fun _ hb=>hb) I.ok.funs
theorem Inv.stack (I:Inv X pins σ H s):s.heap.FunFrames X.base X.stack:=by
 rcases I.ok.stk with e | ⟨e,hf⟩
 ·rw [e]; exact I.funs
 ·rw [e]
  obtain ⟨m,hn,_⟩:=I.loc
  refine .cons (by rw [I.ok.kind]; decide) hf hn ?_ I.funs
  exact Heap.get?_none_of_le (Nat.le_trans I.ok.bsz I.ok.above)
theorem Inv.stkSub (I:Inv X pins σ H s):∀ b ∈ frs X.stack,b ∈ X.env.locals :: X.fs:=fun b hb=>by
 rcases I.ok.stk with e | ⟨e,hf⟩
 ·rw [e] at hb; exact List.mem_cons_of_mem _ hb
 ·rw [e] at hb
  unfold frs at hb
  rw [List.filterMap_cons,hf] at hb
  exact hb
theorem Inv.stkFree (I:Inv X pins σ H s):∀ b ∈ frs X.stack,H b = none:=fun b hb=>by
 rcases List.mem_cons.mp (I.stkSub b hb) with e | hb
 ·rw [e]; exact I.free
 ·obtain ⟨_,o,ho,_⟩:=I.ok.funs.mem hb
  exact I.base.free b o ho (I.ok.frf b hb) fun z=>I.ok.exfs b z hb
theorem Inv.step {g':Array GenState} {t':Nat} {d':Drawn} {ch:List Addr} (I:Inv X pins σ H s)
  (hch:∀ b ∈ ch,(b ∈ X.ex \/ X.s₀.heap.objs.size <= b) /\ b ≠ X.env.locals /\ (∀ x c,X.env.cells.lookup x = some c -> c ≠ b) /\ ∀ p ∈ X.pn ++ pins,p.1 ≠ b)
  (keep:∀ b o,b ≠ X.env.locals -> b ∉ X.fs -> b ∉ ch -> s.heap.get? b = some o -> H b = none -> h'.get? b = some o)
  (slot:∀ b o,b ≠ X.env.locals -> b ∈ X.fs -> b ∉ ch -> s.heap.get? b = some o -> H b = none -> ∃ sl,h'.get? b = some { o with slots:=sl }) (free:∀ b o,b ∉ ch -> s.heap.get? b = some o -> H b = none -> H' b = none)
  (there:∀ b o,b ∉ ch -> s.heap.get? b = some o -> ∃ o',h'.get? b = some o')
  (tups:∀ b xs,H b = some (.tup xs) -> H' b = some (.tup xs)) (frzs:∀ b o u,H b = some (.frz o u) -> H' b = some (.frz o u)) (tbls:∀ b ps,H b = some (.tbl ps) -> ∃ more,H' b = some (.tbl (ps ++ more)))
  (ns:∀ m,s.heap.Ns X.env.locals m -> h'.Ns X.env.locals m) (hok:HOk X.prog X.w H' h') (hg:AllBare g') :
  Inv X pins σ H' { s with heap:=h',gens:=g',drawn:=d',toks:=t' }:=by
 have neL:∀ b o,X.s₀.heap.get? b = some o -> b ≠ X.env.locals:=fun b o e=>Nat.ne_of_lt (Nat.lt_of_lt_of_le (Heap.lt_size e) I.ok.above)
 have neC:∀ b o,X.s₀.heap.get? b = some o -> b ∉ X.ex -> b ∉ ch:=fun b o e hx hb=>by
  rcases (hch b hb).1 with z | z
  ·exact hx z
  ·exact absurd (Nat.lt_of_lt_of_le (Heap.lt_size e) z) (Nat.lt_irrefl _)
 have cellK:∀ x c,X.env.cells.lookup x = some c -> ∀ v,s.heap.IsCell c v -> h'.IsCell c v:=fun x c e v ⟨o,ho,hd⟩=>by
  have nch:c ∉ ch:=fun z=>(hch c z).2.2.1 x c e rfl
  by_cases hc:c ∈ X.fs
  ·obtain ⟨sl,q⟩:=slot c o (I.cne x c e) hc nch ho (I.freeC x c e)
   exact ⟨_,q,hd⟩
  ·exact ⟨o,keep c o (I.cne x c e) hc nch ho (I.freeC x c e),hd⟩
 refine ⟨I.ok,I.os,hg,⟨fun b o e n hb hx=>?_,fun b o e n hb hx=>?_,fun b o e n hx=>?_,fun b o e hx=>?_,fun b xs e=>tups b xs (I.base.tups b xs e),fun b o xs e=>frzs b o xs (I.base.frzs b o xs e),fun b ps e=>?_⟩,?_,fun x c e=>?_,?_,fun x c e=>?_,fun p hp=>?_,hok,I.len⟩
 ·exact keep b o (neL b o e) hb (neC b o e hx) (I.base.keep b o e n hb hx) (I.base.free b o e n hx)
 ·obtain ⟨sl,e1⟩:=I.base.slot b o e n hb hx
  obtain ⟨sl',e2⟩:=slot b _ (neL b o e) hb (neC b o e hx) e1 (I.base.free b o e n hx)
  exact ⟨sl',e2⟩
 ·obtain ⟨o',e1⟩:=I.base.there b o e hx
  exact free b o' (neC b o e hx) e1 (I.base.free b o e n hx)
 ·obtain ⟨o',e1⟩:=I.base.there b o e hx
  exact there b o' (neC b o e hx) e1
 ·obtain ⟨m1,e1⟩:=I.base.tbls b ps e
  obtain ⟨m2,e2⟩:=tbls b _ e1
  exact ⟨m1 ++ m2,by rw [e2,Array.append_assoc]⟩
 ·obtain ⟨m,hn,hl⟩:=I.loc
  refine ⟨m,ns m hn,fun i x v e1 e2 e3=>?_⟩
  obtain ⟨u,r,l⟩:=hl i x v e1 e2 e3
  refine ⟨u,r,?_⟩
  rcases l with l | ⟨k,c,e,z⟩
  ·exact .inl l
  ·exact .inr ⟨k,c,e,cellK x c e _ z⟩
 ·obtain ⟨v,z⟩:=I.cell x c e
  exact ⟨v,cellK x c e v z⟩
 ·obtain ⟨m,⟨o,_,_,ho,_⟩,_⟩:=I.loc
  exact free _ o (fun z=>(hch _ z).2.1 rfl) ho I.free
 ·obtain ⟨v,o,ho,hd⟩:=I.cell x c e
  exact free c o (fun z=>(hch c z).2.2.1 x c e rfl) ho (I.freeC x c e)
 ·obtain ⟨e,n,ne,nf,d⟩:=I.pin p hp
  have nch:p.1 ∉ ch:=fun z=>(hch p.1 z).2.2.2 p hp rfl
  exact ⟨keep p.1 p.2 ne nf nch e n,free p.1 p.2 nch e n,ne,nf,d⟩
theorem Inv.un {t':Nat} (I:Inv X pins σ H s) (u:Un X.fs [] H H' s.heap h') (hok:HOk X.prog X.w H' h'):Inv X pins σ H' { s with heap:=h',toks:=t' }:=by
 obtain ⟨m,⟨o,es,ep,ho,r⟩,_⟩:=id I.loc
 obtain ⟨sl,hL⟩:=u.any ho I.free (by simp)
 exact I.step (g':=s.gens) (d':=s.drawn) (ch:=[]) (fun _ z=>nomatch z) (fun b o _ hb _ e n=>u.keep b o e n hb (by simp)) (fun b o _ hb _ e n=>u.slot b o e n hb (by simp)) (fun b o _ e n=>u.free b o e n (by simp)) (fun b o _ e=>u.there b o e (by simp)) u.tups u.frzs u.tbls (fun m' hm=>by
  obtain ⟨o',es',ep',ho',r'⟩:=hm
  rw [ho] at ho'; cases ho'
  exact ⟨_,es',ep',hL,r'⟩) hok I.bare
theorem Inv.call {g':Array GenState} {t':Nat} {d':Drawn} {ch:List Addr} (I:Inv X pins σ H s) (u:Un (frs X.stack) ch H H' s.heap h') (hok:HOk X.prog X.w H' h') (hg:AllBare g')
  (hch:∀ b ∈ ch,(b ∈ X.ex \/ X.s₀.heap.objs.size <= b) /\ b ≠ X.env.locals /\ (∀ x c,X.env.cells.lookup x = some c -> c ≠ b) /\ ∀ p ∈ X.pn ++ pins,p.1 ≠ b) :
  Inv X pins σ H' { s with heap:=h',gens:=g',drawn:=d',toks:=t' }:=by
 obtain ⟨m,⟨o,es,ep,ho,r⟩,_⟩:=id I.loc
 obtain ⟨sl,hL⟩:=u.any ho I.free fun z=>(hch _ z).2.1 rfl
 exact I.step (ch:=ch) hch (fun b o hL hb hc e n=>u.keep b o e n (fun z=>(List.mem_cons.mp (I.stkSub b z)).elim hL hb) hc) (fun b o _ _ hc e n=>u.any e n hc) (fun b o hc e n=>u.free b o e n hc) (fun b o hc e=>u.there b o e hc) u.tups u.frzs u.tbls (fun m' hm=>by
  obtain ⟨o',es',ep',ho',r'⟩:=hm
  rw [ho] at ho'; cases ho'
  exact ⟨_,es',ep',hL,r'⟩) hok hg
theorem Inv.turned {t':Nat} {it:Addr} (I:Inv X pins σ H s) (k:∀ b o,b ≠ it -> s.heap.get? b = some o -> h'.get? b = some o) (hn:H it = none) (hL:it ≠ X.env.locals)
  (h1:it ∈ X.ex \/ X.s₀.heap.objs.size <= it) (h2:∀ x c,X.env.cells.lookup x = some c -> c ≠ it) (h3:∀ p ∈ X.pn ++ pins,p.1 ≠ it):Inv X pins σ H { s with heap:=h',toks:=t' }:=by
 have nit:∀ b u,H b = some u -> b ≠ it:=fun b u e z=>by rw [z,hn] at e; cases e
 refine I.step (g':=s.gens) (d':=s.drawn) (ch:=[it]) (fun b hb=>?_) (fun b o _ _ hc e _=>k b o (fun z=>hc (by simp [z])) e) (fun b o _ _ hc e _=>⟨o.slots,k b o (fun z=>hc (by simp [z])) e⟩) (fun _ _ _ _ n=>n)
  (fun b o hc e=>⟨o,k b o (fun z=>hc (by simp [z])) e⟩) (fun _ _ e=>e) (fun _ _ _ e=>e) (fun b ps e=>⟨#[],by rw [e]; simp⟩) (fun m hm=>?_) (fun b u e=>?_) I.bare
 ·have e:b = it:=by simpa using hb
  subst e
  exact ⟨h1,hL,h2,h3⟩
 ·obtain ⟨o,es,ep,ho,r⟩:=hm
  exact ⟨o,es,ep,k _ o (Ne.symm hL) ho,r⟩
 ·refine (I.hok b u e).stay (fun c v hc q=>k c v ?_ q) (fun _ q=>q) fun _ _ q=>q
  rcases hc with z | z
  ·rw [z]; exact nit b u e
  ·exact nit c _ z
theorem Inv.tok (I:Inv X pins σ H s) (t:Nat):Inv X pins σ H { s with toks:=t }:=I.un (h':=s.heap) (t':=t) Un.refl I.hok
theorem Inv.kept {t':Nat} (I:Inv X pins σ H s) (k:∀ b u,s.heap.get? b = some u -> h'.get? b = some u):Inv X pins σ H { s with heap:=h',toks:=t' }:=I.un (Un.kept k) (I.hok.kept k)
theorem Inv.laid {a:Addr} {o:HO} {t':Nat} (I:Inv X pins σ H s) (k:∀ b u,s.heap.get? b = some u -> h'.get? b = some u) (hp:s.heap.objs.size <= a) (new:yu X.prog X.w (upd H a o) h' a o) :
  Inv X pins σ (upd H a o) { s with heap:=h',toks:=t' }:=I.un (Un.laid k hp (I.hok.fresh hp)) (I.hok.laid k hp new)
theorem Inv.write {x e:Addr} {o:HO} {t':Nat} (I:Inv X pins σ H s) (mu:Mut (H x)) (he:e = x \/ H e = some (.own x)) (k:∀ b u,b ≠ e -> s.heap.get? b = some u -> h'.get? b = some u) (heo:∃ u,h'.get? e = some u)
  (new:yu X.prog X.w (upd H x o) h' x o):Inv X pins σ (upd H x o) { s with heap:=h',toks:=t' }:=I.un (Un.write mu he k heo) (I.hok.write mu he k heo new)
theorem Inv.pins_of {pins':List (Addr × Obj)} (I:Inv X pins σ H s) (h:∀ p ∈ pins',s.heap.get? p.1 = some p.2 /\ H p.1 = none /\ p.1 ≠ X.env.locals /\ p.1 ∉ X.fs /\ ∀ v,p.2.data ≠ .cell v):Inv X pins' σ H s :=
 ⟨I.ok,I.os,I.bare,I.base,I.loc,I.cell,I.free,I.freeC,fun p hp=>(List.mem_append.mp hp).elim (fun z=>I.pin p (List.mem_append_left _ z)) (h p),I.hok,I.len⟩
theorem uG {N:List Str} (hN:N.Nodup) {i j:Nat} {x:Str} (a:N[i]? = some x) (b:N[j]? = some x):i = j:=by
 obtain ⟨h1,e1⟩:=List.getElem?_eq_some_iff.mp a
 obtain ⟨h2,e2⟩:=List.getElem?_eq_some_iff.mp b
 exact (List.getElem_inj hN).mp (e1.trans e2.symm)
theorem ji {M:Model} {A:Around} {E:VS7} {i:Nat} {x:Str} {v:V} {u:Value} {Q:Unit -> Shared -> Prop} (I:Inv X pins σ H s) (hN:X.N.Nodup) (hi:X.N[i]? = some x) (hx:Loc X.env.scope x) (r:RelV v u)
  (h:∀ s',Inv X pins (σ.set i (some v)) H s' -> (∃ a,Heap.SameBut a s.heap s'.heap /\ (a = X.env.locals \/ X.env.cells.lookup x = some a)) -> Q () s') (hf:X.fn x = true \/ X.env.scope.names.lookup x = some .local :=by first | exact .inl rfl | exact .inr rfl | assumption):wpAny M A (storeName X.env x u) Q E s:=by
 obtain ⟨m,hn,hl⟩:=id I.loc
 have hcls:(X.env.scope.kind == .class || (X.env.scope.kind == .module && X.env.locals != X.env.globals)) = false:=by rw [I.ok.kind]; rfl
 have hiσ:i < σ.length:=by rw [I.len]; exact (List.getElem?_eq_some_iff.mp hi).1
 have cne:=I.cne
 have tracked:∀ {a:Addr} {h':Heap},(∃ o,s.heap.get? a = some o /\ H a = none) -> Heap.SameBut a s.heap h' -> HOk X.prog X.w H h':=fun {a h'} ha hs b ob e=>by
  obtain ⟨_,_,hfree⟩:=ha
  refine (I.hok b ob e).stay (fun c w' hc q=>(hs.2 c ?_).trans q) (fun _ q=>q) fun _ _ q=>q
  rintro rfl
  rcases hc with rfl | hc
  ·rw [hfree] at e; cases e
  ·rw [hfree] at hc; cases hc
 rcases hx with hk | hk
 ·refine wpAny_storeName_local hk hn (fun h' hn' hs=>?_) hcls
  obtain ⟨oL,_,_,hoL,_⟩:=id hn
  refine h _ ⟨I.ok,I.os,I.bare,⟨fun b o e n hb hx=>?_,fun b o e n hb hx=>?_,I.base.free,fun b o e hx=>?_,I.base.tups,I.base.frzs,I.base.tbls⟩,⟨_,hn',fun j y v' e1 e2 e3=>?_⟩,fun y c e=>?_,I.free,I.freeC,fun p hp=>?_,tracked ⟨oL,hoL,I.free⟩ hs,by simpa using I.len⟩ ⟨_,hs,.inl rfl⟩
  ·exact (hs.2 b (Nat.ne_of_lt (Nat.lt_of_lt_of_le (Heap.lt_size e) I.ok.above))).trans (I.base.keep b o e n hb hx)
  ·obtain ⟨sl,e1⟩:=I.base.slot b o e n hb hx
   exact ⟨sl,(hs.2 b (Nat.ne_of_lt (Nat.lt_of_lt_of_le (Heap.lt_size e) I.ok.above))).trans e1⟩
  ·obtain ⟨o',e1⟩:=I.base.there b o e hx
   exact ⟨o',(hs.2 b (Nat.ne_of_lt (Nat.lt_of_lt_of_le (Heap.lt_size e) I.ok.above))).trans e1⟩
  ·by_cases hj:j = i
   ·subst hj
    rw [hi] at e1; cases e1
    rw [List.getElem?_set_self hiσ] at e2
    cases e2
    exact ⟨u,r,.inl ⟨hk,by simp⟩⟩
   ·rw [List.getElem?_set_ne (Ne.symm hj)] at e2
    obtain ⟨u',r',q⟩:=hl j y v' e1 e2 e3
    refine ⟨u',r',?_⟩
    rcases q with ⟨k,e⟩ | ⟨k,c,e,z⟩
    ·refine .inl ⟨k,?_⟩
     have:y ≠ x:=fun e=>hj (uG hN e1 (e ▸ hi))
     simp [this,e]
    ·exact .inr ⟨k,c,e,z.sameBut hs (cne y c e)⟩
  ·obtain ⟨w',z⟩:=I.cell y c e
   exact ⟨w',z.sameBut hs (cne y c e)⟩
  ·obtain ⟨e,n,ne,nf,d⟩:=I.pin p hp
   exact ⟨(hs.2 p.1 ne).trans e,n,ne,nf,d⟩
 ·have hfn:X.fn x = true:=by
   rcases hf with z | z
   ·exact z
   ·rw [z] at hk; cases hk
  obtain ⟨c,hc⟩:=I.ok.has x (.inl hk)
  obtain ⟨w',z⟩:=I.cell x c hc
  refine wpAny_storeName_cell I.ok.kind hk hc z (fun h' hc' hs=>?_)
  obtain ⟨oc,hoc,hocd⟩:=id z
  refine h { s with heap:=h' } ⟨I.ok,I.os,I.bare,⟨fun b o e n hb hx=>?_,fun b o e n hb hx=>?_,I.base.free,fun b o e hx=>?_,I.base.tups,I.base.frzs,I.base.tbls⟩,⟨m,hn.sameBut hs (Ne.symm (cne x c hc)),fun j y v' e1 e2 e3=>?_⟩,fun y c' e=>?_,I.free,I.freeC,fun p hp=>?_,tracked ⟨oc,hoc,I.freeC x c hc⟩ hs,by simpa using I.len⟩ ⟨c,hs,.inr hc⟩
  ·exact (hs.2 b (Nat.ne_of_lt (Nat.lt_of_lt_of_le (Heap.lt_size e) (I.ok.cab x c hfn hc)))).trans (I.base.keep b o e n hb hx)
  ·obtain ⟨sl,e1⟩:=I.base.slot b o e n hb hx
   exact ⟨sl,(hs.2 b (Nat.ne_of_lt (Nat.lt_of_lt_of_le (Heap.lt_size e) (I.ok.cab x c hfn hc)))).trans e1⟩
  ·obtain ⟨o',e1⟩:=I.base.there b o e hx
   exact ⟨o',(hs.2 b (Nat.ne_of_lt (Nat.lt_of_lt_of_le (Heap.lt_size e) (I.ok.cab x c hfn hc)))).trans e1⟩
  ·by_cases hj:j = i
   ·subst hj
    rw [hi] at e1; cases e1
    rw [List.getElem?_set_self hiσ] at e2
    cases e2
    exact ⟨u,r,.inr ⟨.inl hk,c,hc,hc'⟩⟩
   ·rw [List.getElem?_set_ne (Ne.symm hj)] at e2
    obtain ⟨u',r',q⟩:=hl j y v' e1 e2 e3
    refine ⟨u',r',?_⟩
    rcases q with q | ⟨k,c',e,z'⟩
    ·exact .inl q
    ·refine .inr ⟨k,c',e,z'.sameBut hs ?_⟩
     rintro rfl
     exact hj (uG hN e1 (I.ok.inj _ _ _ e hc ▸ hi))
  ·by_cases hcc:c' = c
   ·subst hcc; exact ⟨_,hc'⟩
   ·obtain ⟨w2,z2⟩:=I.cell y c' e
    exact ⟨w2,z2.sameBut hs hcc⟩
  ·obtain ⟨e,n,ne,nf,d⟩:=I.pin p hp
   refine ⟨(hs.2 p.1 ?_).trans e,n,ne,nf,d⟩
   intro q
   rw [q,hoc] at e
   have q':oc = p.2:=Option.some.inj e
   exact d w' (by rw [← q']; exact hocd)
theorem wj {M:Model} {A:Around} {E:VS7} {i:Nat} {x:Str} {v:V} {u:Value} {Q:Unit -> Shared -> Prop} (I:Inv X pins σ H s) (hN:X.N.Nodup) (hi:X.N[i]? = some x) (hx:Loc X.env.scope x) (r:RelV v u)
  (h:∀ s',Inv X pins (σ.set i (some v)) H s' -> Q () s') (hf:X.fn x = true \/ X.env.scope.names.lookup x = some .local :=by first | exact .inl rfl | exact .inr rfl | assumption):wpAny M A (storeName X.env x u) Q E s :=
 ji I hN hi hx r (fun s' I' _=>h s' I') hf
theorem Inv.call' {s':Shared} {ch:List Addr} (I:Inv X pins σ H s) (ho:s'.os = s.os) (u:Un (frs X.stack) ch H H' s.heap s'.heap) (hok:HOk X.prog X.w H' s'.heap) (hg:AllBare s'.gens)
  (hch:∀ b ∈ ch,(b ∈ X.ex \/ X.s₀.heap.objs.size <= b) /\ b ≠ X.env.locals /\ (∀ x c,X.env.cells.lookup x = some c -> c ≠ b) /\ ∀ p ∈ X.pn ++ pins,p.1 ≠ b):Inv X pins σ H' s':=by
 obtain ⟨h',g',d',t',o'⟩:=s'
 have e:o' = s.os:=ho
 subst e
 exact I.call (g':=g') (t':=t') (d':=d') u hok hg hch
end
abbrev XK:=Value -> Option Addr -> Hp -> Prop
abbrev St:=List (Option V)
abbrev VK:=V -> Hp -> Prop
abbrev TE:=St -> Hp -> VK -> Prop
abbrev TT:=St -> Hp -> (Bool -> Hp -> Prop) -> Prop
abbrev TA:=St -> Hp -> (List V -> Hp -> Prop) -> Prop
structure Ends where
 nx:St -> Hp -> Prop
 rt:VK
 bk:St -> Hp -> Prop:=fun _ _=>False
 ct:St -> Hp -> Prop:=fun _ _=>False
abbrev TS:=Ends -> St -> Hp -> Prop
def EP (X:Cx) (pins:List (Addr × Obj)) (σ:St) (Q:VK) (u:Value) (s':Shared):Prop:=∃ v H',Inv X pins σ H' s' /\ RelV v u /\ Q v H'
def TP (X:Cx) (pins:List (Addr × Obj)) (σ:St) (Q:Bool -> Hp -> Prop) (b:Bool) (s':Shared):Prop:=∃ H',Inv X pins σ H' s' /\ Q b H'
def AP (X:Cx) (pins:List (Addr × Obj)) (σ:St) (Q:List V -> Hp -> Prop) (us:List Value) (s':Shared):Prop:=∃ vs H',Inv X pins σ H' s' /\ Vals vs us /\ Q vs H'
def SP (X:Cx) (pins:List (Addr × Obj)) (D:Ends) (f:Flow) (s':Shared):Prop :=
 match f with
 | .next=>∃ σ' H',Inv X pins σ' H' s' /\ D.nx σ' H'
 | .brk=>∃ σ' H',Inv X pins σ' H' s' /\ D.bk σ' H'
 | .cont=>∃ σ' H',Inv X pins σ' H' s' /\ D.ct σ' H'
 | .ret u=>∃ v σ' H',Inv X pins σ' H' s' /\ RelV v u /\ D.rt v H'
def PE (X:Cx) (e:Expr) (t:TE):Prop :=
 ∀ (pins:List (Addr × Obj)) (s:Shared) (σ:St) (H:Hp) (Q:VK),Inv X pins σ H s -> t σ H Q -> wpAny (model X.prog X.w) X.A (eval e X.env) (EP X pins σ Q) X.xe s
def PT (X:Cx) (e:Expr) (t:TT):Prop :=
 ∀ (pins:List (Addr × Obj)) (s:Shared) (σ:St) (H:Hp) (Q:Bool -> Hp -> Prop),Inv X pins σ H s -> t σ H Q -> wpAny (model X.prog X.w) X.A (isTrue e X.env (eval e X.env)) (TP X pins σ Q) X.xe s
def PW (X:Cx) (e:Expr) (t:TT):Prop :=
 ∀ (whole:Sem Value) (pins:List (Addr × Obj)) (s:Shared) (σ:St) (H:Hp) (Q:Bool -> Hp -> Prop),Inv X pins σ H s -> t σ H Q -> wpAny (model X.prog X.w) X.A (isTrue e X.env whole) (TP X pins σ Q) X.xe s
theorem PW.pt {X:Cx} {e:Expr} {t:TT} (h:PW X e t):PT X e t:=h _
def PA (X:Cx) (es:List Expr) (t:TA):Prop :=
 ∀ (pos:Pos) (pins:List (Addr × Obj)) (s:Shared) (σ:St) (H:Hp) (Q:List V -> Hp -> Prop),Inv X pins σ H s -> t σ H Q -> wpAny (model X.prog X.w) X.A (spliced (backTo pos (starEach es X.env))) (AP X pins σ Q) X.xe s
def PS (X:Cx) (st:Stmt) (t:TS):Prop :=
 ∀ (pins:List (Addr × Obj)) (s:Shared) (σ:St) (H:Hp) (D:Ends),Inv X pins σ H s -> t D σ H -> wpAny (model X.prog X.w) X.A (exec st X.env) (SP X pins D) X.xe s
def PSs (X:Cx) (st:List Stmt) (t:TS):Prop :=
 ∀ (pins:List (Addr × Obj)) (s:Shared) (σ:St) (H:Hp) (D:Ends),Inv X pins σ H s -> t D σ H -> wpAny (model X.prog X.w) X.A (execs st X.env) (SP X pins D) X.xe s
theorem thn {α:Type} {t:Sem α} {Q Q':α -> Shared -> Prop} {M:Model} {A:Around} {E:VS7} {s:Shared} (h:wpAny M A t Q E s) (hQ:∀ a s,Q a s -> Q' a s):wpAny M A t Q' E s:=wpAny_mono h hQ fun _ _ x=>x
end L2
namespace L2
open PySem PySem.Spec PyProof.Rows
section
variable {X:Cx}
def tVar (i:Nat):TE:=fun σ H Q=>∃ v,σ[i]? = some (some v) /\ Q v H
def tC (v:V):TE:=fun _ H Q=>Q v H
theorem Xn {i:Nat} {x:Str} {pos:Pos} (hN:X.N[i]? = some x) (hv:Vis X.env.scope x) (hd:(x == ("__debug__":Str)) = false:=by decide) (hcd:(x == ("__classdict__":Str)) = false:=by decide):PE X (.Name x pos) (tVar i):=by
 intro pins s σ H Q I h
 obtain ⟨v,e,h⟩:=h
 obtain ⟨m,hn,hl⟩:=I.loc
 obtain ⟨u,r,l⟩:=hl i x v hN e hv
 have fin:EP X pins σ Q u s:=⟨v,H,I,r,h⟩
 rcases l with ⟨hk,hm⟩ | ⟨hk,c,hc,hcell⟩
 ·exact wpAny_Name (wpAny_loadName_local I.ok.kind hk hn hm fin) hd
 ·rcases hk with hk | hk
  ·exact wpAny_Name (wpAny_loadName_cell I.ok.kind hk hc hcell fin) hd
  ·exact wpAny_Name (wpAny_loadName_free I.ok.kind hk hc hcell fin hcd) hd
theorem ze {i j pos}:PE X (.Constant (.int i) j pos) (tC (.int i)):=fun _ _ _ H _ I h=>wpAny_Constant_int ⟨.int i,H,I.tok _,⟨_,rfl⟩,h⟩
theorem x6 {b j pos}:PE X (.Constant (.bool b) j pos) (tC (.bl b)):=fun _ _ _ H _ I h=>Constant_bool ⟨.bl b,H,I,rfl,h⟩
theorem vq {j pos}:PE X (.Constant .none j pos) (tC .non):=fun _ _ _ H _ I h=>Constant_none ⟨.non,H,I,rfl,h⟩
theorem z7 {x j pos}:PE X (.Constant (.str x) j pos) (tC (.str x)):=fun _ _ _ H _ I h=>Calls.Constant_str ⟨.str x,H,I.tok _,⟨_,rfl⟩,h⟩
def Gl (X:Cx) (x:Str):Prop:=X.env.kindOf x = some .globalImplicit
theorem uH {E:VS7} {pins:List (Addr × Obj)} {s:Shared} {σ:St} {H:Hp} {x:Str} {u:Value} {pos:Pos} {Q:VS7} (I:Inv X pins σ H s) (hg:Gl X x) (hm:X.mg x = some u) (h:Q u s)
  (hd:(x == ("__debug__":Str)) = false:=by decide):wpAny (model X.prog X.w) X.A (eval (.Name x pos) X.env) Q E s :=
 Calls.Name_function_global I.ok.kind hg (Calls.loadGlobal_global (by rw [I.ok.glob]; exact I.mod.glob.keeps I.bk) hm h) hd
theorem wU {E:VS7} {pins:List (Addr × Obj)} {s:Shared} {σ:St} {H:Hp} {x:Str} {u:Value} {pos:Pos} {Q:VS7} (I:Inv X pins σ H s) (hg:Gl X x) (hm:X.mg x = none) (hv:bootBuiltins x = some u) (h:Q u s)
  (hn:x ≠ "__name__":=by decide) (hd:(x == ("__debug__":Str)) = false:=by decide):wpAny (model X.prog X.w) X.A (eval (.Name x pos) X.env) Q E s:=by
 obtain ⟨mb,h1,h2⟩:=I.mod.blt
 exact Calls.Name_function_global I.ok.kind hg (Calls.loadGlobal_builtin (by rw [I.ok.glob]; exact I.mod.glob.keeps I.bk) hm (by rw [I.ok.blt]; exact h1.keeps I.bk) ((h2 x hn).trans hv) h) hd
theorem zL {x:Str} {v:V} {u:Value} {pos:Pos} (hg:Gl X x) (hm:X.mg x = some u) (r:RelV v u) (hd:(x == ("__debug__":Str)) = false:=by decide):PE X (.Name x pos) (tC v) :=
 fun _ _ _ H _ I h=>uH I hg hm ⟨v,H,I,r,h⟩ hd
theorem YH {x:Str} {v:V} {u:Value} {pos:Pos} (hg:Gl X x) (hm:X.mg x = none) (hv:bootBuiltins x = some u) (r:RelV v u) (hn:x ≠ "__name__":=by decide) (hd:(x == ("__debug__":Str)) = false:=by decide):PE X (.Name x pos) (tC v) :=
 fun _ _ _ H _ I h=>wU I hg hm hv ⟨v,H,I,r,h⟩ hn hd
variable {a b:Expr} {ta tb:TE} {pos:Pos}
def PC (X:Cx) (op:CmpOp) (a b:Expr) (t:TE):Prop :=
 ∀ (pins:List (Addr × Obj)) (s:Shared) (σ:St) (H:Hp) (Q:VK),Inv X pins σ H s -> t σ H Q →
  wpAny (model X.prog X.w) X.A (eval a X.env) (fun v s₁=>wpAny (model X.prog X.w) X.A (eval b X.env) (fun u s₂=>wpAny (model X.prog X.w) X.A (compareOp op v u) (EP X pins σ Q) X.xe s₂) X.xe s₁) X.xe s
theorem rG (b:Expr) {op:CmpOp} (h:op ≠ .In) (h2:op ≠ .NotIn):behindInMarks op b = false:=by
 have e1:(op == CmpOp.In) = false:=by cases op <;> first | rfl | exact absurd rfl h
 have e2:(op == CmpOp.NotIn) = false:=by cases op <;> first | rfl | exact absurd rfl h2
 cases b <;> simp [behindInMarks,e1,e2]
def tIsN (ta:TE):TE:=fun σ H Q=>ta σ H fun x H1=>Q (.bl (decide (x = .non))) H1
def Wb (ta:TE):TE:=fun σ H Q=>ta σ H fun x H1=>Q (.bl (!decide (x = .non))) H1
theorem RelV.none_iff {x:V} {v:Value} (r:RelV x v):(v == Value.none) = decide (x = .non):=by
 cases x with
 | non=>cases r; rfl
 | bl _=>cases r; rfl
 | int _=>obtain ⟨t,rfl⟩:=r; rfl
 | str _=>obtain ⟨t,rfl⟩:=r; rfl
 | byt _=>obtain ⟨t,rfl⟩:=r; rfl
 | flt _=>obtain ⟨t,rfl⟩:=r; rfl
 | ref _=>cases r; rfl
 | ty _=>cases r; rfl
theorem uo {j pos'} (ha:PE X a ta):PC X .Is a (.Constant .none j pos') (tIsN ta):=by
 intro pins s σ H Q I h
 refine thn (ha pins s σ H _ I h) fun v s1 ⟨x,H1,I1,r1,q1⟩=>?_
 exact Constant_none (is_none_gen ⟨.bl _,H1,I1,by rw [r1.none_iff]; rfl,q1⟩)
theorem sL {j pos'} (ha:PE X a ta):PC X .IsNot a (.Constant .none j pos') (Wb ta):=by
 intro pins s σ H Q I h
 refine thn (ha pins s σ H _ I h) fun v s1 ⟨x,H1,I1,r1,q1⟩=>?_
 exact Constant_none (isnot_none_gen ⟨.bl _,H1,I1,by rw [r1.none_iff]; rfl,q1⟩)
def tB (t:TE):TT:=fun σ H Q=>t σ H fun x H1=>∃ c,x = .bl c /\ Q c H1
theorem Yh {op:CmpOp} {t:TE} (h:PC X op a b t) (h1:behindInMarks op b = false:=by first | exact rG _ (by decide) (by decide) | rfl):PE X (.Compare a [op] [b] pos) t:=fun pins s σ H Q I hw=>wpAny_Compare1 (h pins s σ H Q I hw) h1
theorem vt {op:CmpOp} {t:TE} (h:PC X op a b t) (h1:behindInMarks op b = false:=by first | exact rG _ (by decide) (by decide) | rfl):PT X (.Compare a [op] [b] pos) (tB t):=by
 intro pins s σ H Q I hw
 refine wpAny_isTrue_Compare1 (thn (h pins s σ H _ I hw) fun v s1 h1=>thn h1 fun u s2 h2=>thn h2 fun c s3 ⟨x,H1,I1,r1,q1⟩=>?_) h1
 obtain ⟨d,rfl,q⟩:=q1
 cases r1
 exact wpAny_truthy_bool ⟨H1,I1,q⟩
theorem zP {e:Expr} {t:TE} (h:PE X e t) (he:∀ whole,isTrue e X.env whole = (do let v ← whole; standAt e.pos; holding [v] (truthy v)):=by intro _; rfl):PT X e (tB t):=by
 intro pins s σ H Q I hw
 refine isTrue_plain (thn (h pins s σ H _ I hw) fun v s1 ⟨x,H1,I1,r1,q1⟩=>?_) (he _)
 obtain ⟨d,rfl,q⟩:=q1
 cases r1
 exact wpAny_truthy_bool ⟨H1,I1,q⟩
variable {tA tB':TT} {rest:List Expr}
def tAnd (t u:TT):TT:=fun σ H Q=>t σ H fun c H1=>if c = true then u σ H1 Q else Q false H1
def tOr (t u:TT):TT:=fun σ H Q=>t σ H fun c H1=>if c = true then Q true H1 else u σ H1 Q
def tNot (t:TT):TT:=fun σ H Q=>t σ H fun c H1=>Q (!c) H1
theorem xz (ha:PT X a tA):PW X (.BoolOp .And [a] pos) tA:=by
 intro wh pins s σ H Q I h
 refine isTrue_and (thn (ha pins s σ H Q I h) fun c s1 e=>?_)
 cases c with
 | true=>exact isTrue_and_nil e
 | false=>exact e
theorem xq (ha:PT X a tA):PW X (.BoolOp .Or [a] pos) tA:=by
 intro wh pins s σ H Q I h
 refine isTrue_or (thn (ha pins s σ H Q I h) fun c s1 e=>?_)
 cases c with
 | false=>exact isTrue_or_nil e
 | true=>exact e
theorem xA (ha:PT X a tA) (hb:PW X (.BoolOp .And (b :: rest) pos) tB'):PW X (.BoolOp .And (a :: b :: rest) pos) (tAnd tA tB'):=by
 intro wh pins s σ H Q I h
 refine isTrue_and (thn (ha pins s σ H _ I h) fun c s1 ⟨H1,I1,q1⟩=>?_)
 cases c with
 | true=>exact hb wh pins s1 σ H1 Q I1 q1
 | false=>exact ⟨H1,I1,q1⟩
theorem xT (ha:PT X a tA) (hb:PW X (.BoolOp .Or (b :: rest) pos) tB'):PW X (.BoolOp .Or (a :: b :: rest) pos) (tOr tA tB'):=by
 intro wh pins s σ H Q I h
 refine isTrue_or (thn (ha pins s σ H _ I h) fun c s1 ⟨H1,I1,q1⟩=>?_)
 cases c with
 | true=>exact ⟨H1,I1,q1⟩
 | false=>exact hb wh pins s1 σ H1 Q I1 q1
theorem zZ (ha:PT X a tA):PT X (.UnaryOp .Not a pos) (tNot tA):=by
 intro pins s σ H Q I h
 exact isTrue_not (ha pins s σ H (fun c H1=>Q (!c) H1) I h)
def Wc (ta tb:TE):TE:=fun σ H Q=>ta σ H fun x H1=>∃ c,x = .bl c /\ if c = true then tb σ H1 Q else Q (.bl false) H1
def tOrV (ta tb:TE):TE:=fun σ H Q=>ta σ H fun x H1=>∃ c,x = .bl c /\ if c = true then Q (.bl true) H1 else tb σ H1 Q
def Wd (ta:TE):TE:=fun σ H Q=>ta σ H fun x H1=>∃ c,x = .bl c /\ Q (.bl (!c)) H1
theorem yF {op} {t:TE} (h:PE X a t):PE X (.BoolOp op [a] pos) t:=fun pins s σ H Q I hw=>BoolOp_one (h pins s σ H Q I hw)
theorem yI (ha:PE X a ta) (hb:PE X (.BoolOp .And (b :: rest) pos) tb):PE X (.BoolOp .And (a :: b :: rest) pos) (Wc ta tb):=by
 intro pins s σ H Q I h
 refine BoolOp_and (thn (ha pins s σ H _ I h) fun v s1 ⟨x,H1,I1,r1,q1⟩=>?_)
 obtain ⟨c,rfl,q1⟩:=q1
 cases r1
 refine wpAny_truthy_bool ?_
 cases c with
 | true=>exact hb pins s1 σ H1 Q I1 q1
 | false=>exact ⟨.bl false,H1,I1,rfl,q1⟩
theorem ZJ (ha:PE X a ta) (hb:PE X (.BoolOp .Or (b :: rest) pos) tb):PE X (.BoolOp .Or (a :: b :: rest) pos) (tOrV ta tb):=by
 intro pins s σ H Q I h
 refine BoolOp_or (thn (ha pins s σ H _ I h) fun v s1 ⟨x,H1,I1,r1,q1⟩=>?_)
 obtain ⟨c,rfl,q1⟩:=q1
 cases r1
 refine wpAny_truthy_bool ?_
 cases c with
 | false=>exact hb pins s1 σ H1 Q I1 q1
 | true=>exact ⟨.bl true,H1,I1,rfl,q1⟩
theorem Yi (ha:PE X a ta):PE X (.UnaryOp .Not a pos) (Wd ta):=by
 intro pins s σ H Q I h
 refine UnaryOp_ (thn (ha pins s σ H _ I h) fun v s1 ⟨x,H1,I1,r1,q1⟩=>?_)
 obtain ⟨c,rfl,q1⟩:=q1
 cases r1
 exact not_of (wpAny_truthy_bool ⟨.bl (!c),H1,I1,rfl,q1⟩)
def tIf (t:TT) (ta tb:TE):TE:=fun σ H Q=>t σ H fun c H1=>if c = true then ta σ H1 Q else tb σ H1 Q
theorem rH {c:Expr} (hc:PT X c tA) (ha:PE X a ta) (hb:PE X b tb):PE X (.IfExp c a b pos) (tIf tA ta tb):=by
 intro pins s σ H Q I h
 refine wpAny_IfExp (thn (hc pins s σ H _ I h) fun d s1 ⟨H1,I1,q1⟩=>?_)
 cases d with
 | true=>exact ha pins s1 σ H1 Q I1 q1
 | false=>exact hb pins s1 σ H1 Q I1 q1
end
end L2
namespace L2
open PySem PySem.Spec PyProof.Rows
def SqL (K:FG7) (H:Hp) (a:Addr) (xs:List V):Prop :=
 Rd H a (.lst xs) ∨
  ∃ (o:Obj) (its:Array Value) (n:Nat),K.lookup a = some o /\ o.cls = .type "list" /\ o.dict = none /\ o.data = .seq its n /\ its.size <= sizeLine /\ Vals xs its.toList
def SqT (K:FG7) (H:Hp) (a:Addr) (xs:List V):Prop :=
 Rd H a (.tup xs) ∨
  ∃ (o:Obj) (its:Array Value) (n:Nat),K.lookup a = some o /\ o.cls = .type "tuple" /\ o.data = .seq its n /\ its.size <= sizeLine /\ Vals xs its.toList
def absV:Value -> Option V
 | .none=>some .non
 | .bool b=>some (.bl b)
 | .int i _=>some (.int i)
 | .str x _=>some (.str x)
 | .bytes b _=>some (.byt b)
 | .float b _=>some (.flt b)
 | .ref a=>some (.ref a)
 | .type n=>some (.ty n)
 | _=>none
theorem RelV.abs {x:V} {u:Value} (r:RelV x u):absV u = some x:=by
 cases x with
 | non=>cases r; rfl
 | bl _=>cases r; rfl
 | int _=>obtain ⟨t,rfl⟩:=r; rfl
 | str _=>obtain ⟨t,rfl⟩:=r; rfl
 | byt _=>obtain ⟨t,rfl⟩:=r; rfl
 | flt _=>obtain ⟨t,rfl⟩:=r; rfl
 | ref _=>cases r; rfl
 | ty _=>cases r; rfl
theorem RelV.inj {x y:V} {u:Value} (r:RelV x u) (q:RelV y u):x = y:=Option.some.inj (r.abs.symm.trans q.abs)
theorem Vals.inj:∀ {xs ys:List V} {us:List Value},Vals xs us -> Vals ys us -> xs = ys
 | _,_,_,.nil,.nil=>rfl
 | _,_,_,.cons r t,.cons r' t'=>by rw [r.inj r',Vals.inj t t']
section
variable {X:Cx} {pins:List (Addr × Obj)} {σ:St} {H:Hp} {s:Shared} {a:Addr} {xs ys:List V}
theorem SqL.of {K:FG7} (h:H a = some (.lst xs)):SqL K H a xs:=.inl (.inl h)
theorem SqT.of {K:FG7} (h:H a = some (.tup xs)):SqT K H a xs:=.inl (.inl h)
theorem Inv.list (I:Inv X pins σ H s) (h:SqL X.K H a xs):∃ its:List Value,Vals xs its /\ PlainL s.heap a its.toArray /\ xs.length <= sizeLine:=by
 rcases h with h | ⟨o,its,n,hk,hc,hd,hs,hz,r⟩
 ·obtain ⟨z,its,n,r,e⟩:=h.ok I.hok
  exact ⟨its,r,⟨_,n,e,rfl,rfl,rfl⟩,z⟩
 ·refine ⟨its.toList,r,⟨o,n,I.kIn a o hk,hc,hd,by simpa using hs⟩,?_⟩
  have e:=r.length
  simp only [Array.length_toList] at e
  omega
theorem Inv.tuple (I:Inv X pins σ H s) (h:SqT X.K H a xs):∃ its:List Value,Vals xs its /\ IsTup s.heap a its.toArray /\ xs.length <= sizeLine:=by
 rcases h with h | ⟨o,its,n,hk,hc,hs,hz,r⟩
 ·obtain ⟨z,its,r,p⟩:=h.ok I.hok
  exact ⟨its,r,p,z⟩
 ·refine ⟨its.toList,r,⟨o,I.kIn a o hk,hc,n,by simpa using hs⟩,?_⟩
  have e:=r.length
  simp only [Array.length_toList] at e
  omega
theorem Inv.list_inj (I:Inv X pins σ H s) (h:SqL X.K H a xs) (h':SqL X.K H a ys):xs = ys:=by
 obtain ⟨its,r,⟨o,n,e,_,_,d⟩,_⟩:=I.list h
 obtain ⟨its',r',⟨o',n',e',_,_,d'⟩,_⟩:=I.list h'
 rw [e] at e'; cases e'
 rw [d] at d'
 injection d' with d1 _
 have:its = its':=by simpa using congrArg Array.toList d1
 subst this
 exact r.inj r'
theorem Inv.tuple_inj (I:Inv X pins σ H s) (h:SqT X.K H a xs) (h':SqT X.K H a ys):xs = ys:=by
 obtain ⟨its,r,⟨o,e,_,n,d⟩,_⟩:=I.tuple h
 obtain ⟨its',r',⟨o',e',_,n',d'⟩,_⟩:=I.tuple h'
 rw [e] at e'; cases e'
 rw [d] at d'
 injection d' with d1 _
 have:its = its':=by simpa using congrArg Array.toList d1
 subst this
 exact r.inj r'
end
abbrev Cx.wish (X:Cx) (E:VS7):Cx:={ X with xe:=E }
abbrev Cx.nox (X:Cx):Cx:=X.wish fun _ _=>False
theorem Cx.Ok.wish {X:Cx} (ok:X.Ok) (E:VS7):(X.wish E).Ok :=
 ⟨ok.mod,ok.kind,ok.glob,ok.blt,ok.above,ok.inj,ok.has,ok.cab,ok.hd,ok.frames,ok.stk,ok.exf,ok.bs,ok.bsz,ok.noex,ok.exfs,ok.funs,ok.frf⟩
theorem Cx.Ok.unwish {X:Cx} {E:VS7} (ok:(X.wish E).Ok):X.Ok :=
 ⟨ok.mod,ok.kind,ok.glob,ok.blt,ok.above,ok.inj,ok.has,ok.cab,ok.hd,ok.frames,ok.stk,ok.exf,ok.bs,ok.bsz,ok.noex,ok.exfs,ok.funs,ok.frf⟩
section
variable {X:Cx} {pins:List (Addr × Obj)} {σ:St} {H:Hp} {s:Shared} {E:VS7}
theorem Inv.wish (I:Inv X pins σ H s) (E:VS7):Inv (X.wish E) pins σ H s:=⟨I.ok.wish E,I.os,I.bare,I.base,I.loc,I.cell,I.free,I.freeC,I.pin,I.hok,I.len⟩
theorem Inv.unwish (I:Inv (X.wish E) pins σ H s):Inv X pins σ H s:=⟨I.ok.unwish,I.os,I.bare,I.base,I.loc,I.cell,I.free,I.freeC,I.pin,I.hok,I.len⟩
theorem SP.unwish {D:Ends} {f:Flow} {s':Shared} (h:SP (X.wish E) pins D f s'):SP X pins D f s':=by
 cases f with
 | next=>obtain ⟨σ',H',I,q⟩:=h; exact ⟨σ',H',I.unwish,q⟩
 | brk=>obtain ⟨σ',H',I,q⟩:=h; exact ⟨σ',H',I.unwish,q⟩
 | cont=>obtain ⟨σ',H',I,q⟩:=h; exact ⟨σ',H',I.unwish,q⟩
 | ret u=>obtain ⟨v,σ',H',I,r,q⟩:=h; exact ⟨v,σ',H',I.unwish,r,q⟩
theorem PE.nox {e:Expr} {t:TE} (h:PE X.nox e t):PE X e t:=fun pins s σ H Q I hw =>
 wpAny_mono (h pins s σ H Q (I.wish _) hw) (fun _ _ ⟨v,H',I',r,q⟩=>⟨v,H',I'.unwish,r,q⟩) fun _ _ z=>False.elim z
theorem PT.nox {e:Expr} {t:TT} (h:PT X.nox e t):PT X e t:=fun pins s σ H Q I hw =>
 wpAny_mono (h pins s σ H Q (I.wish _) hw) (fun _ _ ⟨H',I',q⟩=>⟨H',I'.unwish,q⟩) fun _ _ z=>False.elim z
theorem PSs.nox {st:List Stmt} {t:TS} (h:PSs X.nox st t):PSs X st t:=fun pins s σ H D I hw =>
 wpAny_mono (h pins s σ H D (I.wish _) hw) (fun _ _ q=>q.unwish) fun _ _ z=>False.elim z
end
section
variable {X:Cx} {st:Stmt} {rest:List Stmt} {t u:TS} {e:Expr} {te:TE} {pos:Pos}
def Xo:TS:=fun D σ H=>D.nx σ H
def tSeq (t u:TS):TS:=fun D σ H=>t { D with nx:=u D } σ H
theorem zt:PSs X [] Xo:=fun _ _ σ H _ I h=>wpAny_execs_nil ⟨σ,H,I,h⟩
theorem zd (h1:PS X st t) (h2:PSs X rest u):PSs X (st :: rest) (tSeq t u):=by
 intro pins s σ H D I h
 refine wpAny_execs_cons (thn (h1 pins s σ H { D with nx:=u D } I h) fun f s1 q=>?_)
 cases f with
 | next =>
  obtain ⟨σ',H',I',q⟩:=q
  exact h2 pins s1 σ' H' D I' q
 | ret v=>exact q
 | brk=>exact q
 | cont=>exact q
theorem zf (h1:PS X st t):PSs X [st] t:=by
 intro pins s σ H D I h
 refine wpAny_execs_cons (thn (h1 pins s σ H D I h) fun f s1 q=>?_)
 cases f with
 | next=>exact wpAny_execs_nil q
 | ret v=>exact q
 | brk=>exact q
 | cont=>exact q
theorem Inv.quiet {pins:List (Addr × Obj)} {σ:St} {H:Hp} {s:Shared} (I:Inv X pins σ H s):interactive X.env = false:=by simp [interactive,I.ok.kind]
def We (te:TE):TS:=fun D σ H=>te σ H fun _ H1=>D.nx σ H1
theorem zI (he:PE X e te) (hs:swapsWith e none pos.line X.env = pure false:=by rfl):PS X (.Expr e pos) (We te):=by
 intro pins s σ H D I h
 exact wpAny_Expr_any (thn (he pins s σ H _ I h) fun v s1 ⟨x,H1,I1,r1,q1⟩=>⟨σ,H1,I1,q1⟩) I.quiet hs
def tRet (te:TE):TS:=fun D σ H=>te σ H D.rt
theorem zm (he:PE X e te):PS X (.Return (some e) pos) (tRet te):=by
 intro pins s σ H D I h
 exact wpAny_Return_some (thn (he pins s σ H _ I h) fun v s1 ⟨x,H1,I1,r1,q1⟩=>⟨x,σ,H1,I1,r1,q1⟩)
def tIfS (c:TT) (t u:TS):TS:=fun D σ H=>c σ H fun b H1=>if b = true then t D σ H1 else u D σ H1
theorem zM {c:Expr} {a b:List Stmt} {tc:TT} (hc:PT X c tc) (ha:PSs X a t) (hb:PSs X b u):PS X (.If c a b pos) (tIfS tc t u):=by
 intro pins s σ H D I h
 refine wpAny_If (thn (hc pins s σ H _ I h) fun d s1 ⟨H1,I1,q1⟩=>?_)
 cases d with
 | true=>exact ha pins s1 σ H1 D I1 q1
 | false=>exact hb pins s1 σ H1 D I1 q1
end
abbrev TG:=V -> St -> Hp -> (St -> Hp -> Prop) -> Prop
abbrev TGs:=List V -> St -> Hp -> (St -> Hp -> Prop) -> Prop
def PG (X:Cx) (target:Expr) (t:TG):Prop :=
 ∀ (pins:List (Addr × Obj)) (s:Shared) (σ:St) (H:Hp) (v:V) (u:Value) (Q:St -> Hp -> Prop),Inv X pins σ H s -> RelV v u -> t v σ H Q →
  wpAny (model X.prog X.w) X.A (assign target X.env u) (fun _ s'=>∃ σ' H',Inv X pins σ' H' s' /\ Q σ' H') X.xe s
def PGs (X:Cx) (ts:List Expr) (t:TGs):Prop :=
 ∀ (pins:List (Addr × Obj)) (s:Shared) (σ:St) (H:Hp) (vs:List V) (us:List Value) (Q:St -> Hp -> Prop),Inv X pins σ H s -> Vals vs us -> t vs σ H Q →
  wpAny (model X.prog X.w) X.A (assignInOrder ((assignEach ts X.env).map (·.2)) us) (fun _ s'=>∃ σ' H',Inv X pins σ' H' s' /\ Q σ' H') X.xe s
abbrev TSet:=V -> V -> V -> Hp -> (Hp -> Prop) -> Prop
def PSet (X:Cx) (t:TSet):Prop :=
 ∀ (pins:List (Addr × Obj)) (s:Shared) (σ:St) (H:Hp) (o i v:V) (ov iv u:Value) (Q:Hp -> Prop),Inv X pins σ H s -> RelV o ov -> RelV i iv -> RelV v u -> t o i v H Q →
  wpAny (model X.prog X.w) X.A (setItem ov iv u) (fun _ s'=>∃ H',Inv X pins σ H' s' /\ Q H') X.xe s
abbrev TIp:=V -> V -> Hp -> VK -> Prop
def PIp (X:Cx) (op:Operator) (t:TIp):Prop :=
 ∀ (pins:List (Addr × Obj)) (s:Shared) (σ:St) (H:Hp) (x y:V) (v u:Value) (Q:VK),Inv X pins σ H s -> RelV x v -> RelV y u -> t x y H Q →
  wpAny (model X.prog X.w) X.A (inplaceOp op v u) (EP X pins σ Q) X.xe s
section
variable {X:Cx} {pos:Pos}
def w9 (i:Nat):TG:=fun v σ H Q=>Q (σ.set i (some v)) H
theorem zr {i:Nat} {x:Str} (hN:X.N.Nodup) (hi:X.N[i]? = some x) (hx:Loc X.env.scope x) (hf:X.fn x = true \/ X.env.scope.names.lookup x = some .local :=by first | exact .inl rfl | exact .inr rfl | assumption):PG X (.Name x pos) (w9 i):=by
 intro pins s σ H v u Q I r h
 exact wpAny_assign_Name (wj I hN hi hx r (fun s' I'=>⟨_,H,I',h⟩) hf)
def gNil:TGs:=fun vs σ H Q=>vs = [] /\ Q σ H
def Wf (t:TG) (u:TGs):TGs:=fun vs σ H Q=>∃ v r,vs = v :: r /\ t v σ H fun σ' H'=>u r σ' H' Q
theorem xg:PGs X [] gNil:=by
 intro pins s σ H vs us Q I r h
 obtain ⟨e,h⟩:=h
 subst e
 cases r
 exact assignInOrder_nil ⟨σ,H,I,h⟩
theorem zz {e:Expr} {es:List Expr} {t:TG} {u:TGs} (h1:PG X e t) (h2:PGs X es u)
  (hs:(assignEach (e :: es) X.env).map (·.2) = assign e X.env :: (assignEach es X.env).map (·.2):=by rfl):PGs X (e :: es) (Wf t u):=by
 intro pins s σ H vs us Q I r h
 obtain ⟨v,vr,e1,h⟩:=h
 subst e1
 cases r with
 | cons r rr =>
  rw [hs]
  refine assignInOrder_cons (thn (h1 pins s σ H _ _ _ I r h) fun _ s1 ⟨σ1,H1,I1,q1⟩=>?_)
  exact h2 pins s1 σ1 H1 _ _ Q I1 rr q1
def gTup (K:FG7) (n:Nat) (t:TGs):TG:=fun v σ H Q=>∃ a xs,v = .ref a /\ SqT K H a xs /\ xs.length = n /\ t xs σ H Q
theorem vw {es:List Expr} {k:Nat} {t:TGs} {n:Nat} (hc:X.calm = true) (h:PGs X es t)
  (hn:(assignEach es X.env).length = n:=by rfl) (hst:(assignEach es X.env).findIdx? (·.1) = none:=by rfl):PG X (.Tuple es k pos) (gTup X.K n t):=by
 intro pins s σ H v u Q I r hw
 obtain ⟨a,xs,e1,hq,hl,hw⟩:=hw
 subst e1
 cases r
 obtain ⟨its,rv,ht,hz⟩:=I.tuple hq
 refine assign_Tuple_tuple (I.ok.hd hc) ht (by simp [hn,← hl,rv.length]) hst fun h' hx=>?_
 have I1:Inv X pins σ H { s with heap:=h' }:=I.kept (t':=s.toks) fun b o e=>hx b o (Nat.ne_of_lt (Heap.lt_size e)) e
 exact h pins _ σ H xs _ Q I1 (by simpa using rv) hw
def gSub (to ti:TE) (t:TSet):TG:=fun v σ H Q=>to σ H fun o H1=>ti σ H1 fun i H2=>t o i v H2 fun H3=>Q σ H3
theorem rJ {o i:Expr} {to ti:TE} {t:TSet} (ho:PE X o to) (hi:PE X i ti) (hs:PSet X t)
  (ha:∀ v,assign (.Subscript o i pos) X.env v = (do
   let ov ← holding [v] (eval o X.env)
   let iv ← holding [v,ov] (eval i X.env)
   standAt pos
   holding [v,ov,iv] (setItem ov iv v)
   release [v,ov,iv] []):=by intro _; rfl):PG X (.Subscript o i pos) (gSub to ti t):=by
 intro pins s σ H v u Q I r h
 rw [ha]
 refine wpAny_bind (wpAny_holding (thn (ho pins s σ H _ I h) fun ov s1 ⟨x,H1,I1,r1,q1⟩=>?_))
 refine wpAny_bind (wpAny_holding (thn (hi pins s1 σ H1 _ I1 q1) fun iv s2 ⟨y,H2,I2,r2,q2⟩=>?_))
 refine wpAny_bind (wpAny_standAt (wpAny_bind (wpAny_holding (thn (hs pins s2 σ H2 x y v ov iv u _ I2 r1 r2 r q2) fun _ s3 ⟨H3,I3,q3⟩=>?_))))
 exact wpAny_release ⟨σ,H3,I3,q3⟩
def tAsg (te:TE) (g:TG):TS:=fun D σ H=>te σ H fun x H1=>g x σ H1 D.nx
theorem wl {tg e:Expr} {te:TE} {g:TG} (he:PE X e te) (hg:PG X tg g) (hs:swapsWithSole [tg] e pos.line X.env = pure false:=by rfl) (hw:swappedStores [tg] e X.env = pure none:=by rfl)
  (h1:(assignEach [tg] X.env).map (·.2) = [assign tg X.env]:=by rfl):PS X (.Assign [tg] e pos) (tAsg te g):=by
 intro pins s σ H D I h
 refine wpAny_Assign_stores (thn (he pins s σ H _ I h) fun v s1 ⟨x,H1,I1,r1,q1⟩=>?_) hs hw
 rw [h1]
 exact thn (hg pins s1 σ H1 x v _ I1 r1 q1) fun _ s2 q=>q
theorem zA {i:Nat} {x:Str} {e:Expr} {te:TE} {pos':Pos} (hN:X.N.Nodup) (hi:X.N[i]? = some x) (hx:Loc X.env.scope x) (he:PE X e te) (hs:swapsWith e (some (.Name x pos')) pos.line X.env = pure false:=by rfl) (hf:X.fn x = true \/ X.env.scope.names.lookup x = some .local :=by first | exact .inl rfl | exact .inr rfl | assumption) :
  PS X (.Assign [.Name x pos'] e pos) (tAsg te (w9 i)):=by
 intro pins s σ H D I h
 refine wpAny_Assign_Name (thn (he pins s σ H _ I h) fun v s1 ⟨y,H1,I1,r1,q1⟩=>?_) hs
 exact wj I1 hN hi hx r1 (fun s2 I2=>⟨_,H1,I2,q1⟩) hf
def tAug (i:Nat) (te:TE) (ti:TIp):TS:=fun D σ H=>∃ x,σ[i]? = some (some x) /\ te σ H fun y H1=>ti x y H1 fun z H2=>D.nx (σ.set i (some z)) H2
theorem Xp {i:Nat} {x:Str} {e:Expr} {te:TE} {op:Operator} {ti:TIp} {pos':Pos} (hN:X.N.Nodup) (hi:X.N[i]? = some x) (hx:Loc X.env.scope x) (he:PE X e te) (ho:PIp X op ti) (hf:X.fn x = true \/ X.env.scope.names.lookup x = some .local :=by first | exact .inl rfl | exact .inr rfl | assumption) :
  PS X (.AugAssign (.Name x pos') op e pos) (tAug i te ti):=by
 intro pins s σ H D I h
 obtain ⟨v,e1,h⟩:=h
 obtain ⟨m,hn,hl⟩:=I.loc
 have vis:Vis X.env.scope x:=by rcases hx with k | k; exact .inl k; exact .inr (.inl k)
 obtain ⟨u,r,l⟩:=hl i x v hi e1 vis
 refine wpAny_AugAssign_Name ?_
 have go:wpAny (model X.prog X.w) X.A (eval e X.env) (fun w s₂=>wpAny (model X.prog X.w) X.A (inplaceOp op u w) (fun r s₃=>wpAny (model X.prog X.w) X.A (storeName X.env x r) (fun _=>SP X pins D .next) X.xe s₃) X.xe s₂) X.xe s:=by
  refine thn (he pins s σ H _ I h) fun w s1 ⟨y,H1,I1,r1,q1⟩=>?_
  refine thn (ho pins s1 σ H1 v y u w _ I1 r r1 q1) fun z s2 ⟨zv,H2,I2,r2,q2⟩=>?_
  exact wj I2 hN hi hx r2 (fun s3 I3=>⟨_,H2,I3,q2⟩) hf
 rcases l with ⟨hk,hm⟩ | ⟨hk,c,hc,hcell⟩
 ·exact wpAny_loadName_local I.ok.kind hk hn hm go
 ·rcases hk with hk | hk
  ·exact wpAny_loadName_cell I.ok.kind hk hc hcell go
  ·rcases hx with k | k
   ·have:X.env.scope.names.lookup x = some .free:=hk
    rw [k] at this; cases this
   ·have:X.env.scope.names.lookup x = some .free:=hk
    rw [k] at this; cases this
def ipI (f:Int -> Int -> Int):TIp:=fun x y H Q=>∃ i j,x = .int i /\ y = .int j /\ Q (.int (f i j)) H
theorem Xq:PIp X .Add (ipI fun i j=>i + j):=by
 intro pins s σ H x y v u Q I r1 r2 h
 obtain ⟨i,j,e1,e2,q⟩:=h
 subst e1; subst e2
 obtain ⟨t,rfl⟩:=r1
 obtain ⟨t',rfl⟩:=r2
 exact iadd_int ⟨.int _,H,I.tok _,⟨_,rfl⟩,q⟩
end
section
variable {X:Cx} {pos:Pos}
def Xr (c:TT) (tb:TS):TS:=fun D σ H=>∃ W:Nat -> St -> Hp -> Prop,(∃ m,W m σ H) /\ ∀ m σ H,W m σ H →
 c σ H fun b H1=>if b = true then ∃ N:St -> Hp -> Prop,(∀ σ' H',N σ' H' -> ∃ m',m' < m /\ W m' σ' H') /\ tb { D with nx:=N,ct:=N,bk:=D.nx } σ H1 else D.nx σ H1
theorem ZK {c:Expr} {body:List Stmt} {tc:TT} {tb:TS} (hp:PassesOwn (model X.prog X.w) X.A X.env X.xe) (hc:PT X c tc) (hb:PSs X body tb):PS X (.While c body [] pos) (Xr tc tb):=by
 intro pins s σ H D I h
 obtain ⟨W,⟨m0,w0⟩,turn⟩:=h
 refine wpAny_While (codeAny_whileLoop (fun n s'=>∃ σ' H',Inv X pins σ' H' s' /\ W n σ' H') ?_ m0 ⟨σ,H,I,w0⟩)
 rintro n s1 ⟨σ1,H1,I1,w1⟩
 refine wpAny_passesOwn hp (thn (hc pins s1 σ1 H1 _ I1 (turn n σ1 H1 w1)) fun b s2 ⟨H2,I2,q2⟩=>?_)
 cases b with
 | true =>
  obtain ⟨N,hN,q2⟩:=q2
  rw [if_pos rfl]
  refine wpAny_passesOwn hp (thn (hb pins s2 σ1 H2 _ I2 q2) fun f s3 q3=>?_)
  cases f with
  | next =>
   obtain ⟨σ3,H3,I3,n3⟩:=q3
   obtain ⟨m',hm,w3⟩:=hN σ3 H3 n3
   exact ⟨m',hm,σ3,H3,I3,w3⟩
  | cont =>
   obtain ⟨σ3,H3,I3,n3⟩:=q3
   obtain ⟨m',hm,w3⟩:=hN σ3 H3 n3
   exact ⟨m',hm,σ3,H3,I3,w3⟩
  | brk=>exact q3
  | ret v=>exact q3
 | false =>
  rw [if_neg Bool.false_ne_true]
  exact wpAny_execs_nil ⟨σ1,H2,I2,q2⟩
end
structure It where
 go:Nat -> Hp -> Prop
 yld:Nat -> Hp -> V -> Hp -> Prop
 stop:Nat -> Hp -> Prop
def FpOk (X:Cx) (pins:List (Addr × Obj)) (H:Hp) (b:Addr):Prop :=
 H b = none /\ b ≠ X.env.locals /\ b ∉ X.fs /\ (b ∈ X.ex \/ X.s₀.heap.objs.size <= b) /\ (∀ x c,X.env.cells.lookup x = some c -> c ≠ b) /\ ∀ p ∈ X.pn ++ pins,p.1 ≠ b
theorem Inv.fpOk {X:Cx} {pins:List (Addr × Obj)} {σ:St} {H H':Hp} {s:Shared} {b:Addr} (I:Inv X pins σ H s) (hb:s.heap.objs.size <= b) (hn:H' b = none):FpOk X pins H' b:=by
 refine ⟨hn,Nat.ne_of_gt (Nat.lt_of_lt_of_le I.lt hb),I.nofs hb,.inr (Nat.le_trans I.sz hb),fun x c e z=>?_,fun p hp z=>?_⟩
 ·obtain ⟨v,q⟩:=I.cell x c e
  exact absurd (Nat.lt_of_lt_of_le q.lt (by rw [z]; exact hb)) (Nat.lt_irrefl _)
 ·exact absurd (Nat.lt_of_lt_of_le (Heap.lt_size (I.pin p hp).1) (by rw [z]; exact hb)) (Nat.lt_irrefl _)
structure Turn (P:Program) (w:World) (K:FG7) (tg:Expr) (J:It) (fp:List Addr) (it:Addr) (tn:Nat -> Heap -> Prop):Prop where
 mem:it ∈ fp
 obj:∀ i h,tn i h -> ∀ b ∈ fp,∃ o,h.get? b = some o /\ ∀ v,o.data ≠ .cell v
 keep:∀ i h h',tn i h -> (∀ b ∈ fp,∀ o,h.get? b = some o -> h'.get? b = some o) -> tn i h'
 item:∀ (X:Cx),X.prog = P -> X.w = w -> X.K = K -> X.calm = true -> ∀ (i:Nat) (pins:List (Addr × Obj)) (s:Shared) (σ:St) (H:Hp) (E:VS7),Inv X pins σ H s -> (∀ b ∈ fp,FpOk X pins H b) -> tn i s.heap -> J.go i H →
  wpAny (model P w) X.A (pyNext (.ref it)) (fun r s1=>∃ u,r = some u ∧
   wpAny (model P w) X.A (letOwnedTupleGo tg (.ref it) u) (fun _ s2=>∃ x H',Inv X pins σ H' s2 /\ RelV x u /\ J.yld i H x H' /\ tn (i + 1) s2.heap /\ ∀ b ∈ fp,H' b = none) E s1) E s
 done:∀ (X:Cx),X.prog = P -> X.w = w -> X.K = K -> X.calm = true -> ∀ (i:Nat) (pins:List (Addr × Obj)) (s:Shared) (σ:St) (H:Hp) (E:VS7),Inv X pins σ H s -> (∀ b ∈ fp,FpOk X pins H b) -> tn i s.heap -> J.stop i H →
  wpAny (model P w) X.A (pyNext (.ref it)) (fun r s1=>r = none /\ Inv X pins σ H s1) E s
 self:∀ (A:Around) (i:Nat) (s:Shared) (Q:VS7) (E:VS7),tn i s.heap -> Q (.ref it) s -> wpAny (model P w) A (pyIter (.ref it)) Q E s
abbrev TI:=St -> Hp -> (It -> Hp -> Prop) -> Prop
def PIE (X:Cx) (pins:List (Addr × Obj)) (σ:St) (tg:Expr) (R:It -> Hp -> Prop) (itv:Value) (s2:Shared):Prop :=
 ∃ (it:Addr) (fp:List Addr) (tn:Nat -> Heap -> Prop) (J:It) (H':Hp),itv = .ref it /\ Inv X pins σ H' s2 /\ Turn X.prog X.w X.K tg J fp it tn /\ tn 0 s2.heap /\ (∀ b ∈ fp,FpOk X pins H' b) /\ R J H'
def PI (X:Cx) (tg iter:Expr) (wi:TI):Prop :=
 ∀ (pins:List (Addr × Obj)) (s:Shared) (σ:St) (H:Hp) (R:It -> Hp -> Prop),Inv X pins σ H s -> wi σ H R →
  wpAny (model X.prog X.w) X.A (eval iter X.env) (fun v s1=>wpAny (model X.prog X.w) X.A (pyIter v) (PIE X pins σ tg R) X.xe s1) X.xe s
theorem YI {M:Model} {A:Around} {E:VS7} {s:Shared} {tg:Expr} {it:Addr} {u:Value} {o:Obj} {n:String} {vs:Array Value} {Q:Unit -> Shared -> Prop} (ho:s.heap.get? it = some o) (hc:o.cls = .type n) (hd:o.data = .fields vs)
    (hn:["enumerate","zip","dict_itemiterator","dict_reverseitemiterator","odict_iterator","itertools.zip_longest","itertools.pairwise"].contains n = false) (hQ:Q () s):wpAny M A (letOwnedTupleGo tg (.ref it) u) Q E s:=by
  unfold letOwnedTupleGo
  cases tg <;> first
    | exact wpAny_pure hQ
    | (cases u <;> first
        | exact wpAny_pure hQ
        | (refine wpAny_bind (wpAny_load ho ?_)
           rw [hc,hd]
           show wpAny M A (if (["enumerate","zip","dict_itemiterator","dict_reverseitemiterator","odict_iterator","itertools.zip_longest","itertools.pairwise"].contains n && vs[0]? == some (rawInt _)) = true then _ else _) Q E s
           rw [if_neg (by intro h; rw [hn,Bool.false_and] at h; cases h)]
           exact wpAny_pure hQ))
def Itl (K:FG7) (a:Addr):It :=
 ⟨fun i H=>∃ xs x,SqL K H a xs /\ xs[i]? = some x,fun i H x H'=>H' = H /\ ∀ xs,SqL K H a xs -> xs[i]? = some x,fun i H=>∃ xs,SqL K H a xs /\ xs.length <= i⟩
def Itt (K:FG7) (a:Addr):It :=
 ⟨fun i H=>∃ xs x,SqT K H a xs /\ xs[i]? = some x,fun i H x H'=>H' = H /\ ∀ xs,SqT K H a xs -> xs[i]? = some x,fun i H=>∃ xs,SqT K H a xs /\ xs.length <= i⟩
def Itr (lo:Int) (n:Nat):It:=⟨fun i _=>i < n,fun i H x H'=>H' = H /\ x = .int (lo + i),fun i _=>n <= i⟩
theorem jj {P:Program} {w:World} {K:FG7} {tg:Expr} (a it:Addr):Turn P w K tg (Itl K a) [it] it (fun i h=>h.IsListIter it a i) where
 mem:=by simp
 obj:=fun i h st b hb=>by
  have e:b = it:=by simpa using hb
  subst e
  obtain ⟨o,e,c,d⟩:=st
  exact ⟨o,e,fun v z=>by rw [d] at z; cases z⟩
 keep:=fun i h h' st k=>st.at fun o e=>k it (by simp) o e
 item:=by
  intro X hP hw hK hc i pins s σ H E I hf st hg
  subst hP hw hK
  obtain ⟨xs,x,hq,hx⟩:=hg
  obtain ⟨its,rv,p,hz⟩:=I.list hq
  obtain ⟨u,hu,ru⟩:=rv.get hx
  obtain ⟨f0,f1,f2,f3,f4,f5⟩:=hf it (by simp)
  refine wpAny_pyNext_list_item st p.isList (x:=u) (by simpa using hu) fun h' st' sb=>?_
  have I1:Inv X pins σ H { s with heap:=h' }:=I.turned (t':=s.toks) (fun b o hb e=>(sb.2 b hb).trans e) f0 f1 f3 f4 f5
  obtain ⟨o,e,c,d⟩:=id st'
  exact ⟨u,rfl,YI (s:={ s with heap:=h' }) e c d (by decide) ⟨x,H,I1,ru,⟨rfl,fun ys hy=>by rw [I.list_inj hy hq]; exact hx⟩,st',fun b hb=>(hf b hb).1⟩⟩
 done:=by
  intro X hP hw hK hc i pins s σ H E I hf st hg
  subst hP hw hK
  obtain ⟨xs,hq,hx⟩:=hg
  obtain ⟨its,rv,p,hz⟩:=I.list hq
  obtain ⟨f0,f1,f2,f3,f4,f5⟩:=hf it (by simp)
  have hl:=rv.length
  exact wpAny_pyNext_list_end (I.ok.hd hc) st p.isList (by simp; omega) fun h' eb=>⟨rfl,I.turned (t':=s.toks) (fun b o hb e=>eb b o hb e) f0 f1 f3 f4 f5⟩
 self:=fun _ _ _ _ _ st h=>wpAny_pyIter_listiter st h
theorem qt {P:Program} {w:World} {K:FG7} {tg:Expr} (a it:Addr):Turn P w K tg (Itt K a) [it] it (fun i h=>h.IsTupleIter it a i) where
 mem:=by simp
 obj:=fun i h st b hb=>by
  have e:b = it:=by simpa using hb
  subst e
  obtain ⟨o,e,c,d⟩:=st
  exact ⟨o,e,fun v z=>by rw [d] at z; cases z⟩
 keep:=fun i h h' st k=>st.at fun o e=>k it (by simp) o e
 item:=by
  intro X hP hw hK hc i pins s σ H E I hf st hg
  subst hP hw hK
  obtain ⟨xs,x,hq,hx⟩:=hg
  obtain ⟨its,rv,p,hz⟩:=I.tuple hq
  obtain ⟨u,hu,ru⟩:=rv.get hx
  obtain ⟨f0,f1,f2,f3,f4,f5⟩:=hf it (by simp)
  refine wpAny_pyNext_tuple_item st (show s.heap.IsTuple a its.toArray from p) (x:=u) (by simpa using hu) fun h' st' sb=>?_
  have I1:Inv X pins σ H { s with heap:=h' }:=I.turned (t':=s.toks) (fun b o hb e=>(sb.2 b hb).trans e) f0 f1 f3 f4 f5
  obtain ⟨o,e,c,d⟩:=id st'
  exact ⟨u,rfl,YI (s:={ s with heap:=h' }) e c d (by decide) ⟨x,H,I1,ru,⟨rfl,fun ys hy=>by rw [I.tuple_inj hy hq]; exact hx⟩,st',fun b hb=>(hf b hb).1⟩⟩
 done:=by
  intro X hP hw hK hc i pins s σ H E I hf st hg
  subst hP hw hK
  obtain ⟨xs,hq,hx⟩:=hg
  obtain ⟨its,rv,p,hz⟩:=I.tuple hq
  obtain ⟨f0,f1,f2,f3,f4,f5⟩:=hf it (by simp)
  have hl:=rv.length
  exact wpAny_pyNext_tuple_end (I.ok.hd hc) st (show s.heap.IsTuple a its.toArray from p) (by simp; omega) fun h' eb=>⟨rfl,I.turned (t':=s.toks) (fun b o hb e=>eb b o hb e) f0 f1 f3 f4 f5⟩
 self:=fun _ _ _ _ _ st h=>wpAny_pyIter_tupleiter st h
theorem qu {P:Program} {w:World} {K:FG7} {tg:Expr} (it:Addr) (lo:Int) (n:Nat):Turn P w K tg (Itr lo n) [it] it (fun i h=>IsRangeIter h it (lo + (i:Nat) * 1) ((n:Int) - (i:Nat)) 1) where
 mem:=by simp
 obj:=fun i h st b hb=>by
  have e:b = it:=by simpa using hb
  subst e
  exact ⟨_,st,fun v z=>by
   have z':Data.fields _ = Data.cell v:=z
   cases z'⟩
 keep:=fun i h h' st k=>k it (by simp) _ st
 item:=by
  intro X hP hw hK hc i pins s σ H E I hf st hg
  subst hP hw hK
  obtain ⟨f0,f1,f2,f3,f4,f5⟩:=hf it (by simp)
  have W:=Walks.range (prog:=X.prog) (w:=X.w) (I.ok.hd hc) it lo 1 n
  refine W.item i s _ _ hg st fun v h' tk hv st' kk=>?_
  obtain ⟨t,rfl⟩:=hv
  have I1:Inv X pins σ H { s with heap:=h',toks:=tk }:=I.turned (fun b o hb e=>kk b o (by simpa using hb) e) f0 f1 f3 f4 f5
  refine ⟨_,rfl,YI (s:={ s with heap:=h',toks:=tk }) (n:="range_iterator") st' rfl rfl (by decide) ⟨.int (lo + i),H,I1,⟨t,?_⟩,⟨rfl,rfl⟩,st',fun b hb=>(hf b hb).1⟩⟩
  rw [Int.mul_one]
 done:=by
  intro X hP hw hK hc i pins s σ H E I hf st hg
  subst hP hw hK
  obtain ⟨f0,f1,f2,f3,f4,f5⟩:=hf it (by simp)
  exact wpAny_pyNext_range_end (I.ok.hd hc) st (by have:n <= i:=hg; omega) fun h' eb=>⟨rfl,I.turned (t':=s.toks) (fun b o hb e=>eb b o hb e) f0 f1 f3 f4 f5⟩
 self:=fun _ _ _ _ _ st h=>wpAny_pyIter_rangeiter st h
end L2
namespace L2
open PySem PySem.Spec PyProof.Rows
section
variable {X:Cx} {tg:Expr}
def Wg (K:FG7) (tl:TE):TI:=fun σ H R=>tl σ H fun x H1=>∃ a,x = .ref a /\ (∃ xs,SqL K H1 a xs) /\ R (Itl K a) H1
def iTup (K:FG7) (tl:TE):TI:=fun σ H R=>tl σ H fun x H1=>∃ a,x = .ref a /\ (∃ xs,SqT K H1 a xs) /\ R (Itt K a) H1
theorem jk {l:Expr} {tl:TE} (hl:PE X l tl):PI X tg l (Wg X.K tl):=by
 intro pins s σ H R I h
 refine thn (hl pins s σ H _ I h) fun v s1 ⟨x,H1,I1,r1,q1⟩=>?_
 obtain ⟨a,e,⟨xs,hq⟩,q⟩:=q1
 subst e
 cases r1
 obtain ⟨its,rv,p,hz⟩:=I1.list hq
 refine wpAny_pyIter_list p.isList ?_
 refine ⟨s1.heap.objs.size,[s1.heap.objs.size],_,_,H1,rfl,I1.kept (t':=s1.toks) fun b o e=>Heap.get?_push_of_some _ e,jj a _,⟨_,Heap.get?_push_size _ rfl,rfl,rfl⟩,fun b hb=>?_,q⟩
 have e:b = s1.heap.objs.size:=by simpa using hb
 subst e
 exact I1.fpOk (Nat.le_refl _) (I1.hok.fresh (Nat.le_refl _))
theorem xB {l:Expr} {tl:TE} (hl:PE X l tl):PI X tg l (iTup X.K tl):=by
 intro pins s σ H R I h
 refine thn (hl pins s σ H _ I h) fun v s1 ⟨x,H1,I1,r1,q1⟩=>?_
 obtain ⟨a,e,⟨xs,hq⟩,q⟩:=q1
 subst e
 cases r1
 obtain ⟨its,rv,p,hz⟩:=I1.tuple hq
 refine wpAny_pyIter_tuple (show s1.heap.IsTuple a its.toArray from p) ?_
 refine ⟨s1.heap.objs.size,[s1.heap.objs.size],_,_,H1,rfl,I1.kept (t':=s1.toks) fun b o e=>Heap.get?_push_of_some _ e,qt a _,⟨_,Heap.get?_push_size _ rfl,rfl,rfl⟩,fun b hb=>?_,q⟩
 have e:b = s1.heap.objs.size:=by simpa using hb
 subst e
 exact I1.fpOk (Nat.le_refl _) (I1.hok.fresh (Nat.le_refl _))
theorem rK {pins:List (Addr × Obj)} {σ:St} {H:Hp} {s:Shared} {R:It -> Hp -> Prop} {E:VS7} {lo hi:Int} {t u v:Tok} {tk:Nat} (I:Inv X pins σ H s) (h1:-(2 ^ 62) <= lo) (h2:lo < 2 ^ 62) (h3:-(2 ^ 62) <= hi) (h4:hi < 2 ^ 62)
  (q:R (Itr lo (hi - lo).toNat) H):wpAny (model X.prog X.w) X.A (pyIter (.ref s.heap.objs.size)) (PIE X pins σ tg R) E { s with heap:=s.heap.push { cls:=.type "range",data:=.fields #[.int lo t,.int hi u,.int 1 v] },toks:=tk }:=by
 refine wpAny_pyIter_range (IsRange.new ..) (small_one h1 h2 h3 h4) ?_
 have I1:Inv X pins σ H { s with heap:=s.heap.push { cls:=.type "range",data:=.fields #[.int lo t,.int hi u,.int 1 v] },toks:=tk }:=I.kept fun b o e=>Heap.get?_push_of_some _ e
 refine ⟨(s.heap.push { cls:=.type "range",data:=.fields #[.int lo t,.int hi u,.int 1 v] }).objs.size,[(s.heap.push { cls:=.type "range",data:=.fields #[.int lo t,.int hi u,.int 1 v] }).objs.size],_,_,H,rfl,
  I1.kept (t':=tk) fun b o e=>Heap.get?_push_of_some _ e,qu _ lo (hi - lo).toNat,?_,fun b hb=>?_,q⟩
 ·have e1:lo + ((0:Nat):Int) * 1 = lo:=by simp
  have e2:(((hi - lo).toNat:Nat):Int) - ((0:Nat):Int) = Builtin.Range.rangeSize lo hi 1:=by rw [rangeSize_one]; split <;> omega
  show IsRangeIter _ _ (lo + ((0:Nat):Int) * 1) ((((hi - lo).toNat:Nat):Int) - ((0:Nat):Int)) 1
  rw [e1,e2]
  exact Heap.get?_push_size _ rfl
 ·have e:b = (s.heap.push { cls:=.type "range",data:=.fields #[.int lo t,.int hi u,.int 1 v] }).objs.size:=by simpa using hb
  subst e
  exact I1.fpOk (Nat.le_refl _) (I1.hok.fresh (Nat.le_refl _))
def Wh (ta:TA):TI:=fun σ H R=>ta σ H fun vs H1=>∃ j:Int,vs = [.int j] /\ -(2 ^ 62) <= j /\ j < 2 ^ 62 /\ R (Itr 0 j.toNat) H1
def Wi (ta:TA):TI:=fun σ H R=>ta σ H fun vs H1=>∃ i j:Int,vs = [.int i,.int j] /\ (-(2 ^ 62) <= i /\ i < 2 ^ 62 /\ -(2 ^ 62) <= j /\ j < 2 ^ 62) /\ R (Itr i (j - i).toNat) H1
theorem yX {a:Expr} {ta:TA} {p pos:Pos} (hg:Gl X "range") (hm:X.mg "range" = none) (ha:PA X [a] ta) (hs:starEach [a] X.env = [(false,eval a X.env)]:=by rfl):PI X tg (.Call (.Name "range" p) [a] [] pos) (Wh ta):=by
 intro pins s σ H R I h
 refine Call_ (wU I hg hm boot_range (PyProof.Rows.callWith_type1 (thn (ha pos pins s σ H _ I h) fun us s1 ⟨vs,H1,I1,r1,q1⟩=>?_) hs rfl))
 obtain ⟨j,e,q1,q2,q⟩:=q1
 subst e
 cases r1 with
 | cons r rr =>
  cases rr
  obtain ⟨t,rfl⟩:=r
  exact call_range_1 (rK I1 (by omega) (by omega) q1 q2 (by simpa using q))
theorem jl {a b:Expr} {ta:TA} {p pos:Pos} (hg:Gl X "range") (hm:X.mg "range" = none) (ha:PA X [a,b] ta) (hs:starEach [a,b] X.env = [(false,eval a X.env),(false,eval b X.env)]:=by rfl) (hs2:starEach [b] X.env = [(false,eval b X.env)]:=by rfl) :
  PI X tg (.Call (.Name "range" p) [a,b] [] pos) (Wi ta):=by
 intro pins s σ H R I h
 refine Call_ (wU I hg hm boot_range (PyProof.Rows.callWith_type1 (thn (ha pos pins s σ H _ I h) fun us s1 ⟨vs,H1,I1,r1,q1⟩=>?_) (by rw [hs,hs2]) (by rw [hs2]; rfl)))
 obtain ⟨i,j,e,⟨q1,q2,q3,q4⟩,q⟩:=q1
 subst e
 cases r1 with
 | cons r rr =>
  cases rr with
  | cons r' rr =>
   cases rr
   obtain ⟨t,rfl⟩:=r
   obtain ⟨t',rfl⟩:=r'
   exact call_range_2 (rK I1 q1 q2 q3 q4 q)
def tFor (wi:TI) (g:TG) (tb:TS):TS:=fun D σ H=>wi σ H fun J H1=>∃ W:Nat -> Nat -> St -> Hp -> Prop,(∃ m,W 0 m σ H1) /\ ∀ i m σ H,W i m σ H →
 (J.stop i H /\ D.nx σ H) \/ (J.go i H /\ ∃ N:St -> Hp -> Prop,(∀ σ' H',N σ' H' -> ∃ m',m' < m /\ W (i + 1) m' σ' H') /\ ∀ x H',J.yld i H x H' -> g x σ H' fun σ2 H2=>tb { D with nx:=N,ct:=N,bk:=D.nx } σ2 H2)
def tF (fp:List Addr) (h:Heap):List (Addr × Obj):=fp.filterMap fun b=>(h.get? b).map fun o=>(b,o)
theorem xH {fp:List Addr} {h:Heap} {b:Addr} {o:Obj} (hb:b ∈ fp) (e:h.get? b = some o):(b,o) ∈ tF fp h:=List.mem_filterMap.mpr ⟨b,hb,by rw [e]; rfl⟩
theorem jm {fp:List Addr} {h:Heap} {p:Addr × Obj} (hp:p ∈ tF fp h):p.1 ∈ fp /\ h.get? p.1 = some p.2:=by
 obtain ⟨b,hb,e⟩:=List.mem_filterMap.mp hp
 cases q:h.get? b with
 | none=>rw [q] at e; cases e
 | some o =>
  rw [q] at e
  have e':(b,o) = p:=Option.some.inj e
  subst e'
  exact ⟨hb,q⟩
theorem Inv.pinned {pins:List (Addr × Obj)} {σ:St} {H:Hp} {s:Shared} {fp:List Addr} (I:Inv X pins σ H s) (hf:∀ b ∈ fp,FpOk X pins H b) (ho:∀ b ∈ fp,∃ o,s.heap.get? b = some o /\ ∀ v,o.data ≠ .cell v):Inv X (pins ++ tF fp s.heap) σ H s :=
 I.pins_of fun p hp=>(List.mem_append.mp hp).elim (fun z=>I.pin p (List.mem_append_right _ z)) fun z=>by
  obtain ⟨hb,e⟩:=jm z
  obtain ⟨f0,f1,f2,_⟩:=hf p.1 hb
  obtain ⟨o,e',d⟩:=ho p.1 hb
  rw [e] at e'; cases e'
  exact ⟨e,f0,f1,f2,d⟩
theorem Inv.unpinned {pins pl:List (Addr × Obj)} {σ:St} {H:Hp} {s:Shared} (I:Inv X (pins ++ pl) σ H s):Inv X pins σ H s:=I.pins_of fun p hp=>I.pin p (List.mem_append_right _ (List.mem_append_left _ hp))
theorem vx {iter:Expr} {body:List Stmt} {wi:TI} {g:TG} {tb:TS} {pos:Pos} (hp:PassesOwn (model X.prog X.w) X.A X.env X.xe) (hc:X.calm = true) (hi:PI X tg iter wi) (hg:PG X tg g) (hb:PSs X body tb)
  (hs:∀ x,foldedSetIterable iter X.env x = pure x:=by intro _; rfl):PS X (.For tg iter body [] pos) (tFor wi g tb):=by
 intro pins s σ H D I h
 refine wpAny_For (thn (hi pins s σ H _ I h) fun v s1 h1=>thn h1 fun itv s2 h2=>?_) hs
 obtain ⟨it,fp,tn,J,H2,e,I2,T,st2,f2,W,⟨m0,w0⟩,turn⟩:=h2
 subst e
 -- what stays true of the iterator's objects through the loop
 have stat:∀ {H':Hp},(∀ b ∈ fp,H' b = none) -> ∀ b ∈ fp,FpOk X pins H' b:=fun hn b hb=>⟨hn b hb,(f2 b hb).2⟩
 refine codeAny_forLoop_any (fun n s'=>∃ i σ' H',Inv X pins σ' H' s' /\ tn i s'.heap /\ (∀ b ∈ fp,H' b = none) /\ W i n σ' H') ?_ m0 ⟨0,σ,H2,I2,st2,fun b hb=>(f2 b hb).1,w0⟩
 rintro n s3 ⟨i,σ3,H3,I3,st3,fr3,w3⟩
 rcases turn i n σ3 H3 w3 with ⟨stop,qn⟩ | ⟨go,N,hN,step⟩
 ·refine wpAny_passesOwn hp (thn (T.done X rfl rfl rfl hc i pins s3 σ3 H3 X.xe I3 (stat fr3) st3 stop) fun r s4 ⟨hr,I4⟩=>?_)
  subst hr
  exact wpAny_execs_nil ⟨σ3,H3,I4,qn⟩
 ·refine wpAny_passesOwn hp (thn (T.item X rfl rfl rfl hc i pins s3 σ3 H3 X.xe I3 (stat fr3) st3 go) fun r s4 ⟨u,hr,h4⟩=>?_)
  subst hr
  refine wpAny_passesOwn hp (thn h4 fun _ s5 ⟨x,H5,I5,r5,y5,st5,fr5⟩=>?_)
  have I5':=I5.pinned (stat fr5) (T.obj _ _ st5)
  refine wpAny_passesOwn hp (thn (hg _ s5 σ3 H5 x u _ I5' r5 (step x H5 y5)) fun _ s6 ⟨σ6,H6,I6,q6⟩=>?_)
  refine wpAny_passesOwn hp (thn (hb _ s6 σ6 H6 _ I6 q6) fun f s7 q7=>?_)
  have again:∀ {σ7:St} {H7:Hp},Inv X (pins ++ tF fp s5.heap) σ7 H7 s7 -> N σ7 H7 -> ∃ m,m < n /\ ∃ i σ' H',Inv X pins σ' H' s7 /\ tn i s7.heap /\ (∀ b ∈ fp,H' b = none) /\ W i m σ' H':=fun {σ7 H7} I7 n7=>by
   obtain ⟨m',hm,w7⟩:=hN σ7 H7 n7
   refine ⟨m',hm,i + 1,σ7,H7,I7.unpinned,T.keep _ _ _ st5 fun b hb o e=>(I7.pin (b,o) (List.mem_append_right _ (List.mem_append_right _ (xH hb e)))).1,fun b hb=>?_,w7⟩
   obtain ⟨o,e,d⟩:=T.obj _ _ st5 b hb
   exact (I7.pin (b,o) (List.mem_append_right _ (List.mem_append_right _ (xH hb e)))).2.1
  cases f with
  | next=>obtain ⟨σ7,H7,I7,n7⟩:=q7; exact again I7 n7
  | cont=>obtain ⟨σ7,H7,I7,n7⟩:=q7; exact again I7 n7
  | brk=>obtain ⟨σ7,H7,I7,q7⟩:=q7; exact ⟨σ7,H7,I7.unpinned,q7⟩
  | ret v=>obtain ⟨x7,σ7,H7,I7,r7,q7⟩:=q7; exact ⟨x7,σ7,H7,I7.unpinned,r7,q7⟩
end
theorem ZL {K:FG7} {a:Addr} {xs:List V} {g:TG} {tb:TS} {D:Ends} {σ:St} {H:Hp} (Pv:Nat -> St -> Hp -> Prop) (h0:Pv 0 σ H) (hl:∀ i σ H,i <= xs.length -> Pv i σ H -> SqL K H a xs)
  (hs:∀ i x σ H,xs[i]? = some x -> Pv i σ H -> g x σ H fun σ2 H2=>tb { D with nx:=Pv (i + 1),ct:=Pv (i + 1),bk:=D.nx } σ2 H2) (hd:∀ σ H,Pv xs.length σ H -> D.nx σ H) :
  ∃ W:Nat -> Nat -> St -> Hp -> Prop,(∃ m,W 0 m σ H) /\ ∀ i m σ H,W i m σ H →
   ((Itl K a).stop i H /\ D.nx σ H) \/ ((Itl K a).go i H /\ ∃ N:St -> Hp -> Prop,(∀ σ' H',N σ' H' -> ∃ m',m' < m /\ W (i + 1) m' σ' H') /\ ∀ x H',(Itl K a).yld i H x H' -> g x σ H' fun σ2 H2=>tb { D with nx:=N,ct:=N,bk:=D.nx } σ2 H2):=by
 refine ⟨fun i m σ H=>m = xs.length - i /\ i <= xs.length /\ Pv i σ H,⟨xs.length,by simp,Nat.zero_le _,h0⟩,?_⟩
 rintro i m σ H ⟨rfl,hi,p⟩
 have q:=hl i σ H hi p
 by_cases hlt:i < xs.length
 ·refine .inr ⟨⟨xs,xs[i],q,by simp [hlt]⟩,Pv (i + 1),fun σ' H' p'=>⟨xs.length - (i + 1),by omega,rfl,hlt,p'⟩,fun x H' y=>?_⟩
  obtain ⟨e,y⟩:=y
  subst e
  exact hs i x σ _ (y xs q) p
 ·have e:i = xs.length:=by omega
  subst e
  exact .inl ⟨⟨xs,q,Nat.le_refl _⟩,hd σ H p⟩
theorem jn {K:FG7} {a:Addr} {xs:List V} {g:TG} {tb:TS} {D:Ends} {σ:St} {H:Hp} (Pv:Nat -> St -> Hp -> Prop) (h0:Pv 0 σ H) (hl:∀ i σ H,i <= xs.length -> Pv i σ H -> SqT K H a xs)
  (hs:∀ i x σ H,xs[i]? = some x -> Pv i σ H -> g x σ H fun σ2 H2=>tb { D with nx:=Pv (i + 1),ct:=Pv (i + 1),bk:=D.nx } σ2 H2) (hd:∀ σ H,Pv xs.length σ H -> D.nx σ H) :
  ∃ W:Nat -> Nat -> St -> Hp -> Prop,(∃ m,W 0 m σ H) /\ ∀ i m σ H,W i m σ H →
   ((Itt K a).stop i H /\ D.nx σ H) \/ ((Itt K a).go i H /\ ∃ N:St -> Hp -> Prop,(∀ σ' H',N σ' H' -> ∃ m',m' < m /\ W (i + 1) m' σ' H') /\ ∀ x H',(Itt K a).yld i H x H' -> g x σ H' fun σ2 H2=>tb { D with nx:=N,ct:=N,bk:=D.nx } σ2 H2):=by
 refine ⟨fun i m σ H=>m = xs.length - i /\ i <= xs.length /\ Pv i σ H,⟨xs.length,by simp,Nat.zero_le _,h0⟩,?_⟩
 rintro i m σ H ⟨rfl,hi,p⟩
 have q:=hl i σ H hi p
 by_cases hlt:i < xs.length
 ·refine .inr ⟨⟨xs,xs[i],q,by simp [hlt]⟩,Pv (i + 1),fun σ' H' p'=>⟨xs.length - (i + 1),by omega,rfl,hlt,p'⟩,fun x H' y=>?_⟩
  obtain ⟨e,y⟩:=y
  subst e
  exact hs i x σ _ (y xs q) p
 ·have e:i = xs.length:=by omega
  subst e
  exact .inl ⟨⟨xs,q,Nat.le_refl _⟩,hd σ H p⟩
theorem wm {lo:Int} {n:Nat} {g:TG} {tb:TS} {D:Ends} {σ:St} {H:Hp} (Pv:Nat -> St -> Hp -> Prop) (h0:Pv 0 σ H)
  (hs:∀ i σ H,i < n -> Pv i σ H -> g (.int (lo + i)) σ H fun σ2 H2=>tb { D with nx:=Pv (i + 1),ct:=Pv (i + 1),bk:=D.nx } σ2 H2) (hd:∀ σ H,Pv n σ H -> D.nx σ H) :
  ∃ W:Nat -> Nat -> St -> Hp -> Prop,(∃ m,W 0 m σ H) /\ ∀ i m σ H,W i m σ H →
   ((Itr lo n).stop i H /\ D.nx σ H) \/ ((Itr lo n).go i H /\ ∃ N:St -> Hp -> Prop,(∀ σ' H',N σ' H' -> ∃ m',m' < m /\ W (i + 1) m' σ' H') /\ ∀ x H',(Itr lo n).yld i H x H' -> g x σ H' fun σ2 H2=>tb { D with nx:=N,ct:=N,bk:=D.nx } σ2 H2):=by
 refine ⟨fun i m σ H=>m = n - i /\ i <= n /\ Pv i σ H,⟨n,by simp,Nat.zero_le _,h0⟩,?_⟩
 rintro i m σ H ⟨rfl,hi,p⟩
 by_cases hlt:i < n
 ·refine .inr ⟨hlt,Pv (i + 1),fun σ' H' p'=>⟨n - (i + 1),by omega,rfl,hlt,p'⟩,fun x H' y=>?_⟩
  obtain ⟨e,y⟩:=y
  subst e y
  exact hs i σ _ hlt p
 ·have e:i = n:=by omega
  subst e
  exact .inl ⟨Nat.le_refl _,hd σ H p⟩
end L2
namespace L2
open PySem PySem.Spec PyProof.Rows
abbrev R2:=V -> V -> Hp -> VK -> Prop
def OpR (X:Cx) (f:Value -> Value -> Sem Value) (r:R2):Prop :=
 ∀ (pins:List (Addr × Obj)) (s:Shared) (σ:St) (H:Hp) (x y:V) (v u:Value) (Q:VK),Inv X pins σ H s -> RelV x v -> RelV y u -> r x y H Q →
  wpAny (model X.prog X.w) X.A (f v u) (EP X pins σ Q) X.xe s
def UnR (X:Cx) (f:Value -> Sem Value) (r:V -> Hp -> VK -> Prop):Prop :=
 ∀ (pins:List (Addr × Obj)) (s:Shared) (σ:St) (H:Hp) (x:V) (v:Value) (Q:VK),Inv X pins σ H s -> RelV x v -> r x H Q →
  wpAny (model X.prog X.w) X.A (f v) (EP X pins σ Q) X.xe s
def xU (X:Cx) (f:Value) (r:List V -> Hp -> VK -> Prop):Prop :=
 ∀ (pins:List (Addr × Obj)) (s:Shared) (σ:St) (H:Hp) (xs:List V) (us:List Value) (Q:VK),Inv X pins σ H s -> Vals xs us -> r xs H Q →
  wpAny (model X.prog X.w) X.A (call f us) (EP X pins σ Q) X.xe s
def TruR (X:Cx) (r:V -> Hp -> (Bool -> Hp -> Prop) -> Prop):Prop :=
 ∀ (pins:List (Addr × Obj)) (s:Shared) (σ:St) (H:Hp) (x:V) (v:Value) (Q:Bool -> Hp -> Prop),Inv X pins σ H s -> RelV x v -> r x H Q →
  wpAny (model X.prog X.w) X.A (truthy v) (TP X pins σ Q) X.xe s
def tOp (r:R2) (ta tb:TE):TE:=fun σ H Q=>ta σ H fun x H1=>tb σ H1 fun y H2=>r x y H2 Q
def tUn (r:V -> Hp -> VK -> Prop) (ta:TE):TE:=fun σ H Q=>ta σ H fun x H1=>r x H1 Q
def rI (C:Int -> Int -> Prop) (g:Int -> Int -> V):R2:=fun x y H Q=>∃ i j,x = .int i /\ y = .int j /\ C i j /\ Q (g i j) H
def rI0 (g:Int -> Int -> V):R2:=fun x y H Q=>∃ i j,x = .int i /\ y = .int j /\ Q (g i j) H
def rU (g:Int -> V):V -> Hp -> VK -> Prop:=fun x H Q=>∃ i,x = .int i /\ Q (g i) H
section
variable {X:Cx} {a b c:Expr} {ta tb tc:TE} {pos:Pos}
theorem binT (ha:PE X a ta) (hb:PE X b tb) {pins:List (Addr × Obj)} {s:Shared} {σ:St} {H:Hp} {R:V -> V -> Hp -> Prop} (I:Inv X pins σ H s)
  (h:ta σ H fun x H1=>tb σ H1 fun y H2=>R x y H2) {Q:VS7} {f:Value -> Value -> Sem Value}
  (hf:∀ v u s2 x y H2,Inv X pins σ H2 s2 -> RelV x v -> RelV y u -> R x y H2 -> wpAny (model X.prog X.w) X.A (f v u) Q X.xe s2) :
  wpAny (model X.prog X.w) X.A (eval a X.env) (fun v s₁=>wpAny (model X.prog X.w) X.A (eval b X.env) (fun u s₂=>wpAny (model X.prog X.w) X.A (f v u) Q X.xe s₂) X.xe s₁) X.xe s:=by
 refine thn (ha pins s σ H _ I h) fun v s1 ⟨x,H1,I1,r1,q1⟩=>?_
 refine thn (hb pins s1 σ H1 _ I1 q1) fun u s2 ⟨y,H2,I2,r2,q2⟩=>?_
 exact hf v u s2 x y H2 I2 r1 r2 q2
theorem zD {op:Operator} {r:R2} (ho:OpR X (binaryOp op) r) (ha:PE X a ta) (hb:PE X b tb):PE X (.BinOp a op b pos) (tOp r ta tb):=by
 intro pins s σ H Q I h
 exact wpAny_BinOp (binT ha hb I h fun v u s2 x y H2 I2 rx ry q=>ho pins s2 σ H2 x y v u Q I2 rx ry q)
theorem Xs {op:UnaryOp} {r:V -> Hp -> VK -> Prop} (ho:UnR X (unaryOp op) r) (ha:PE X a ta):PE X (.UnaryOp op a pos) (tUn r ta):=by
 intro pins s σ H Q I h
 exact UnaryOp_ (thn (ha pins s σ H _ I h) fun v s1 ⟨x,H1,I1,r1,q1⟩=>ho pins s1 σ H1 x v Q I1 r1 q1)
theorem opI {f:Value -> Value -> Sem Value} {C:Int -> Int -> Prop} {g:Int -> Int -> Int}
  (rule:∀ (i j:Int) (t u:Tok) (s:Shared) (Q:VS7) (E:VS7),C i j -> Q (.int (g i j) s.toks) { s with toks:=s.toks + 1 } -> wpAny (model X.prog X.w) X.A (f (.int i t) (.int j u)) Q E s) :
  OpR X f (rI C fun i j=>.int (g i j)):=by
 intro pins s σ H x y v u Q I rx ry h
 obtain ⟨i,j,rfl,rfl,hc,q⟩:=h
 obtain ⟨t,rfl⟩:=rx
 obtain ⟨t',rfl⟩:=ry
 exact rule i j t t' s _ _ hc ⟨.int (g i j),H,I.tok _,⟨_,rfl⟩,q⟩
theorem opI0 {f:Value -> Value -> Sem Value} {g:Int -> Int -> Int}
  (rule:∀ (i j:Int) (t u:Tok) (s:Shared) (Q:VS7) (E:VS7),Q (.int (g i j) s.toks) { s with toks:=s.toks + 1 } -> wpAny (model X.prog X.w) X.A (f (.int i t) (.int j u)) Q E s) :
  OpR X f (rI0 fun i j=>.int (g i j)):=by
 intro pins s σ H x y v u Q I rx ry h
 obtain ⟨i,j,rfl,rfl,q⟩:=h
 obtain ⟨t,rfl⟩:=rx
 obtain ⟨t',rfl⟩:=ry
 exact rule i j t t' s _ _ ⟨.int (g i j),H,I.tok _,⟨_,rfl⟩,q⟩
theorem opB0 {f:Value -> Value -> Sem Value} {g:Int -> Int -> Bool}
  (rule:∀ (i j:Int) (t u:Tok) (s:Shared) (Q:VS7) (E:VS7),Q (.bool (g i j)) s -> wpAny (model X.prog X.w) X.A (f (.int i t) (.int j u)) Q E s) :
  OpR X f (rI0 fun i j=>.bl (g i j)):=by
 intro pins s σ H x y v u Q I rx ry h
 obtain ⟨i,j,rfl,rfl,q⟩:=h
 obtain ⟨t,rfl⟩:=rx
 obtain ⟨t',rfl⟩:=ry
 exact rule i j t t' s _ _ ⟨.bl (g i j),H,I,rfl,q⟩
def CPow (i j:Int):Prop:=0 <= j /\ j <= 1000000 /\ i.natAbs < 2 ^ 64
def CMul (i j:Int):Prop:=(-(2 ^ 64) < i /\ i < 2 ^ 64) \/ (-(2 ^ 64) < j /\ j < 2 ^ 64)
theorem CMul.ok {i j:Int} (h:CMul i j):IntMulOk i j:=by
 rcases h with ⟨h1,h2⟩ | ⟨h1,h2⟩
 ·exact .of_left (intBits_le_64 h1 h2)
 ·exact .of_right (intBits_le_64 h1 h2)
theorem yp:OpR X (binaryOp .Add) (rI0 fun i j=>.int (i + j)):=opI0 fun _ _ _ _ _ _ _ q=>add_int q
theorem yJ:OpR X (binaryOp .Sub) (rI0 fun i j=>.int (i - j)):=opI0 fun _ _ _ _ _ _ _ q=>sub_int q
theorem wn:OpR X (binaryOp .Mod) (rI (fun _ j=>0 < j) fun i j=>.int (i % j)):=opI fun i j _ _ _ _ _ hc q=>by
 have h1:(0:Int) < j:=hc
 exact mod_int' (by omega) (by rw [Int.fmod_eq_emod_of_nonneg i (by omega)]; exact q)
theorem vy:OpR X (binaryOp .Pow) (rI CPow fun i j=>.int (i ^ j.toNat)):=opI fun _ _ _ _ _ _ _ hc q=>pow_int_small hc.1 hc.2.1 hc.2.2 q
theorem unI {f:Value -> Sem Value} {g:Int -> Int}
  (rule:∀ (i:Int) (t:Tok) (s:Shared) (Q:VS7) (E:VS7),Q (.int (g i) s.toks) { s with toks:=s.toks + 1 } -> wpAny (model X.prog X.w) X.A (f (.int i t)) Q E s) :
  UnR X f (rU fun i=>.int (g i)):=by
 intro pins s σ H x v Q I rx h
 obtain ⟨i,rfl,q⟩:=h
 obtain ⟨t,rfl⟩:=rx
 exact rule i t s _ _ ⟨.int (g i),H,I.tok _,⟨_,rfl⟩,q⟩
theorem Yj:UnR X (unaryOp .USub) (rU fun i=>.int (-i)):=unI fun _ _ _ _ _ q=>neg_int q
end
def scal:V -> V -> Bool
 | .non,.non=>true | .non,.int _=>true | .int _,.non=>true | .non,.bl _=>true | .bl _,.non=>true | .non,.str _=>true | .str _,.non=>true
 | .int _,.int _=>true | .bl _,.bl _=>true | .str _,.str _=>true | .byt _,.byt _=>true
 | .int _,.str _=>true | .str _,.int _=>true | .bl _,.str _=>true | .str _,.bl _=>true
 | _,_=>false
def rEq:R2:=fun x y H Q=>scal x y = true /\ Q (.bl (decide (x = y))) H
def rNe:R2:=fun x y H Q=>scal x y = true /\ Q (.bl (!decide (x = y))) H
theorem jo {i j:Int}:decide (V.int i = V.int j) = (i == j):=by
 rw [Bool.eq_iff_iff]
 simp
theorem Yk {i j:Bool}:decide (V.bl i = V.bl j) = (i == j):=by
 rw [Bool.eq_iff_iff]
 simp
theorem jp {i j:Str}:decide (V.str i = V.str j) = (i == j):=by
 rw [Bool.eq_iff_iff]
 simp
theorem jq {i j:Array UInt8}:decide (V.byt i = V.byt j) = (i.toList == j.toList):=by
 rw [Bool.eq_iff_iff]
 cases i
 cases j
 simp
section
variable {X:Cx} {a b c:Expr} {ta tb tc:TE} {pos:Pos}
theorem zR {pins:List (Addr × Obj)} {σ:St} {H:Hp} {s:Shared} {Q:VK} {k k':Bool} (I:Inv X pins σ H s) (q:Q (.bl k) H) (e:k = k'):EP X pins σ Q (.bool k') s:=by
 subst e
 exact ⟨.bl k,H,I,rfl,q⟩
theorem yv:OpR X (compareOp .Eq) rEq:=by
 intro pins s σ H x y v u Q I rx ry h
 obtain ⟨hs,q⟩:=h
 cases x with
 | non =>
  cases rx
  cases y with
  | non=>cases ry; exact PySem.EqNone.eq_none_none (zR I q (by simp))
  | bl j=>cases ry; exact PySem.EqNone.eq_none_bool (zR I q (by simp))
  | int j=>obtain ⟨t',rfl⟩:=ry; exact PySem.EqNone.eq_none_int (zR I q (by simp))
  | str j=>obtain ⟨t',rfl⟩:=ry; exact PySem.EqNone.eq_none_str (zR I q (by simp))
  | _=>exact absurd (show false = true from hs) Bool.false_ne_true
 | bl i =>
  cases rx
  cases y with
  | non=>cases ry; exact PySem.EqNone.eq_bool_none (zR I q (by simp))
  | bl j=>cases ry; exact eq_bool (zR I q Yk)
  | str j=>obtain ⟨t',rfl⟩:=ry; exact PySem.EqMixed.eq_bool_str (zR I q (by simp))
  | _=>exact absurd (show false = true from hs) Bool.false_ne_true
 | int i =>
  obtain ⟨t,rfl⟩:=rx
  cases y with
  | non=>cases ry; exact PySem.EqNone.eq_int_none (zR I q (by simp))
  | int j=>obtain ⟨t',rfl⟩:=ry; exact eq_int (zR I q jo)
  | str j=>obtain ⟨t',rfl⟩:=ry; exact PySem.EqMixed.eq_int_str (zR I q (by simp))
  | _=>exact absurd (show false = true from hs) Bool.false_ne_true
 | str i =>
  obtain ⟨t,rfl⟩:=rx
  cases y with
  | non=>cases ry; exact PySem.EqNone.eq_str_none (zR I q (by simp))
  | bl j=>cases ry; exact PySem.EqMixed.eq_str_bool (zR I q (by simp))
  | int j=>obtain ⟨t',rfl⟩:=ry; exact PySem.EqMixed.eq_str_int (zR I q (by simp))
  | str j=>obtain ⟨t',rfl⟩:=ry; exact eq_str (zR I q jp)
  | _=>exact absurd (show false = true from hs) Bool.false_ne_true
 | byt i =>
  obtain ⟨t,rfl⟩:=rx
  cases y with
  | byt j=>obtain ⟨t',rfl⟩:=ry; exact PySem.W.eq_bytes (zR I q jq)
  | _=>exact absurd (show false = true from hs) Bool.false_ne_true
 | _=>cases y <;> exact absurd (show false = true from hs) Bool.false_ne_true
theorem qv:OpR X (compareOp .NotEq) rNe:=by
 intro pins s σ H x y v u Q I rx ry h
 obtain ⟨hs,q⟩:=h
 cases x with
 | non =>
  cases rx
  cases y with
  | non=>cases ry; exact PySem.EqNone.ne_none_none (zR I q (by simp))
  | bl j=>cases ry; exact PySem.EqNone.ne_none_bool (zR I q (by simp))
  | int j=>obtain ⟨t',rfl⟩:=ry; exact PySem.EqNone.ne_none_int (zR I q (by simp))
  | str j=>obtain ⟨t',rfl⟩:=ry; exact PySem.EqNone.ne_none_str (zR I q (by simp))
  | _=>exact absurd (show false = true from hs) Bool.false_ne_true
 | bl i =>
  cases rx
  cases y with
  | non=>cases ry; exact PySem.EqNone.ne_bool_none (zR I q (by simp))
  | bl j=>cases ry; exact ne_bool (zR I q (congrArg not Yk))
  | str j=>obtain ⟨t',rfl⟩:=ry; exact PySem.EqMixed.ne_bool_str (zR I q (by simp))
  | _=>exact absurd (show false = true from hs) Bool.false_ne_true
 | int i =>
  obtain ⟨t,rfl⟩:=rx
  cases y with
  | non=>cases ry; exact PySem.EqNone.ne_int_none (zR I q (by simp))
  | int j=>obtain ⟨t',rfl⟩:=ry; exact ne_int (zR I q (congrArg not jo))
  | str j=>obtain ⟨t',rfl⟩:=ry; exact PySem.EqMixed.ne_int_str (zR I q (by simp))
  | _=>exact absurd (show false = true from hs) Bool.false_ne_true
 | str i =>
  obtain ⟨t,rfl⟩:=rx
  cases y with
  | non=>cases ry; exact PySem.EqNone.ne_str_none (zR I q (by simp))
  | bl j=>cases ry; exact PySem.EqMixed.ne_str_bool (zR I q (by simp))
  | int j=>obtain ⟨t',rfl⟩:=ry; exact PySem.EqMixed.ne_str_int (zR I q (by simp))
  | str j=>obtain ⟨t',rfl⟩:=ry; exact ne_str (zR I q (congrArg not jp))
  | _=>exact absurd (show false = true from hs) Bool.false_ne_true
 | byt i =>
  obtain ⟨t,rfl⟩:=rx
  cases y with
  | byt j=>obtain ⟨t',rfl⟩:=ry; exact PySem.W.ne_bytes (zR I q (congrArg not jq))
  | _=>exact absurd (show false = true from hs) Bool.false_ne_true
 | _=>cases y <;> exact absurd (show false = true from hs) Bool.false_ne_true
theorem vz:OpR X (compareOp .Lt) (rI0 fun i j=>.bl (decide (i < j))):=opB0 fun _ _ _ _ _ _ _ q=>lt_int q
theorem va:OpR X (compareOp .LtE) (rI0 fun i j=>.bl (decide (i <= j))):=opB0 fun _ _ _ _ _ _ _ q=>le_int q
theorem ZM:OpR X (compareOp .Gt) (rI0 fun i j=>.bl (decide (j < i))):=opB0 fun _ _ _ _ _ _ _ q=>gt_int q
theorem zC (b:Expr) {op:CmpOp} (h:op ≠ .In:=by decide) (h2:op ≠ .NotIn:=by decide):behindInMarks op b = false:=by
 have e1:(op == CmpOp.In) = false:=by cases op <;> first | rfl | exact absurd rfl h
 have e2:(op == CmpOp.NotIn) = false:=by cases op <;> first | rfl | exact absurd rfl h2
 cases b <;> simp [behindInMarks,e1,e2]
theorem xh {op:CmpOp} {r:R2} (ho:OpR X (compareOp op) r) (ha:PE X a ta) (hb:PE X b tb) (hm:behindInMarks op b = false):PE X (.Compare a [op] [b] pos) (tOp r ta tb):=by
 intro pins s σ H Q I h
 exact wpAny_Compare1 (binT ha hb I h fun v u s2 x y H2 I2 rx ry q=>ho pins s2 σ H2 x y v u Q I2 rx ry q) hm
def Xt (t:TE):TT:=fun σ H Q=>t σ H fun x H'=>∃ k,x = .bl k /\ Q k H'
theorem zw {op:CmpOp} {r:R2} (ho:OpR X (compareOp op) r) (ha:PE X a ta) (hb:PE X b tb) (hm:behindInMarks op b = false):PT X (.Compare a [op] [b] pos) (Xt (tOp r ta tb)):=by
 intro pins s σ H Q I h
 refine wpAny_isTrue_Compare1 (thn (ha pins s σ H _ I h) fun v s1 ⟨x,H1,I1,r1,q1⟩=>thn (hb pins s1 σ H1 _ I1 q1) fun u s2 ⟨y,H2,I2,r2,q2⟩ =>
  thn (ho pins s2 σ H2 x y v u _ I2 r1 r2 q2) fun c s3 ⟨z,H3,I3,r3,k,e,q3⟩=>?_) hm
 subst e
 cases r3
 exact wpAny_truthy_bool ⟨H3,I3,q3⟩
def Yl (r r':R2) (ta tb tc:TE):TE:=fun σ H Q=>ta σ H fun x H1=>tb σ H1 fun y H2=>r x y H2 fun z H3=>∃ k,z = .bl k ∧
 (if k = true then tc σ H3 fun w' H4=>r' y w' H4 Q else Q (.bl false) H3)
theorem xI {op op':CmpOp} {r r':R2} (ho:OpR X (compareOp op) r) (ho':OpR X (compareOp op') r') (ha:PE X a ta) (hb:PE X b tb) (hc:PE X c tc)
  (hm:lastMarks [op,op'] [b,c] = false:=by with_unfolding_all rfl):PE X (.Compare a [op,op'] [b,c] pos) (Yl r r' ta tb tc):=by
 intro pins s σ H Q I h
 refine Compare_chain (thn (ha pins s σ H _ I h) fun v s1 ⟨x,H1,I1,r1,q1⟩=>chain_link (thn (hb pins s1 σ H1 _ I1 q1) fun u s2 ⟨y,H2,I2,r2,q2⟩ =>
  thn (ho pins s2 σ H2 x y v u _ I2 r1 r2 q2) fun d s3 ⟨z,H3,I3,r3,k,e,q3⟩=>?_)) hm
 subst e
 cases r3
 refine wpAny_truthy_bool ?_
 cases k with
 | false=>exact ite_ff ⟨.bl false,H3,I3,rfl,q3⟩
 | true=>exact ite_tt (chain_last (thn (hc pins s3 σ H3 _ I3 q3) fun w' s4 ⟨z',H4,I4,r4,q4⟩=>ho' pins s4 σ H4 y z' u w' Q I4 r2 r4 q4))
theorem ZN {op op':CmpOp} {r r':R2} (ho:OpR X (compareOp op) r) (ho':OpR X (compareOp op') r') (ha:PE X a ta) (hb:PE X b tb) (hc:PE X c tc)
  (hm:lastMarks [op,op'] [b,c] = false:=by with_unfolding_all rfl):PT X (.Compare a [op,op'] [b,c] pos) (Xt (Yl r r' ta tb tc)):=by
 intro pins s σ H Q I h
 refine isTrue_chain (thn (ha pins s σ H _ I h) fun v s1 ⟨x,H1,I1,r1,q1⟩=>test_link (thn (hb pins s1 σ H1 _ I1 q1) fun u s2 ⟨y,H2,I2,r2,q2⟩ =>
  thn (ho pins s2 σ H2 x y v u _ I2 r1 r2 q2) fun d s3 ⟨z,H3,I3,r3,k,e,q3⟩=>?_)) hm
 subst e
 cases r3
 refine wpAny_truthy_bool ?_
 cases k with
 | false =>
  obtain ⟨k',e',q'⟩:=q3
  cases e'
  exact ite_ff ⟨H3,I3,q'⟩
 | true =>
  refine ite_tt (test_last (thn (hc pins s3 σ H3 _ I3 q3) fun w' s4 ⟨z',H4,I4,r4,q4⟩=>thn (ho' pins s4 σ H4 y z' u w' _ I4 r2 r4 q4) fun d' s5 ⟨z2,H5,I5,r5,k2,e2,q5⟩=>?_))
  subst e2
  cases r5
  exact wpAny_truthy_bool ⟨H5,I5,q5⟩
def TruV (K:FG7) (x:V) (H:Hp) (k:Bool):Prop :=
 match x with
 | .non=>k = false
 | .bl b=>k = b
 | .int i=>k = (i != 0)
 | .str y=>y.length <= sizeLine /\ k = ((y.length:Int) != 0)
 | .byt y=>y.size <= sizeLine /\ k = ((y.size:Int) != 0)
 | .ref p=>(∃ xs,SqL K H p xs /\ k = !xs.isEmpty) \/ (∃ xs,SqT K H p xs /\ k = !xs.isEmpty) \/ ∃ kvs,H p = some (.dK kvs) /\ k = !kvs.isEmpty
 | _=>False
theorem qw {κ:Type} {kvs:List (κ × V)} {vs:List (κ × Value)} (r:KV kvs vs):(!vs.isEmpty) = !kvs.isEmpty:=by
 cases r <;> rfl
theorem up {xs:List V} {its:List Value} (r:Vals xs its):(!its.toArray.isEmpty) = !xs.isEmpty:=by
 cases r <;> simp
theorem tG:(sizeLine:Nat) < 2 ^ 63:=by rw [sizeLine_eq]; decide
theorem Xu:TruR X (fun x H Q=>∃ k,TruV X.K x H k /\ Q k H):=by
 intro pins s σ H x v Q I rx h
 obtain ⟨k,e,q⟩:=h
 have hl:=tG
 have hs:sizeLine = 16777216:=sizeLine_eq
 cases x with
 | non =>
  cases rx
  have e':k = false:=e
  subst e'
  exact truthy_none ⟨H,I,q⟩
 | bl b =>
  cases rx
  have e':k = b:=e
  subst e'
  exact wpAny_truthy_bool ⟨H,I,q⟩
 | int i =>
  obtain ⟨t,rfl⟩:=rx
  have e':k = (i != 0):=e
  subst e'
  exact PySem.P.truthy_int ⟨H,I,q⟩
 | str y =>
  obtain ⟨t,rfl⟩:=rx
  obtain ⟨hy,e'⟩:y.length <= sizeLine /\ k = ((y.length:Int) != 0):=e
  subst e'
  exact PySem.P.truthy_str (by omega) ⟨H,I.tok _,q⟩
 | byt y =>
  obtain ⟨t,rfl⟩:=rx
  obtain ⟨hy,e'⟩:y.size <= sizeLine /\ k = ((y.size:Int) != 0):=e
  subst e'
  exact PySem.W.truthy_bytes (by omega) ⟨H,I.tok _,q⟩
 | ref p =>
  cases rx
  have e':(∃ xs,SqL X.K H p xs /\ k = !xs.isEmpty) \/ (∃ xs,SqT X.K H p xs /\ k = !xs.isEmpty) \/ ∃ kvs,H p = some (.dK kvs) /\ k = !kvs.isEmpty:=e
  rcases e' with ⟨xs,hx,e'⟩ | ⟨xs,hx,e'⟩ | ⟨kvs,hx,e'⟩
  ·subst e'
   obtain ⟨its,r,pl,hz⟩:=I.list hx
   have hlen:=r.length
   exact wpAny_truthy_list pl.isList (by simp only [List.size_toArray]; omega) ⟨H,I.tok _,by rw [up r]; exact q⟩
  ·subst e'
   obtain ⟨its,r,pl,hz⟩:=I.tuple hx
   have hlen:=r.length
   exact truthy_tuple pl (by simp only [List.size_toArray]; omega) ⟨H,I.tok _,by rw [up r]; exact q⟩
  ·subst e'
   obtain ⟨hz,hS,vs,r,m⟩:kvs.length <= sizeLine /\ (p == sysModules) = false /\ ∃ vs,KV kvs vs /\ s.heap.DictOf (xy X.prog X.w) p vs:=I.hok p _ hx
   have hlen:kvs.length = vs.length:=Paired.length r
   exact wpAny_truthy_dict hS m (by omega) ⟨H,I.tok _,by rw [qw r]; exact q⟩
 | _=>exact (show False from e).elim
theorem ZO (ha:PE X a ta) (he:∀ whole,isTrue a X.env whole = (do let v ← whole; standAt a.pos; holding [v] (truthy v))) :
  PT X a (fun σ H Q=>ta σ H fun x H'=>∃ k,TruV X.K x H' k /\ Q k H'):=by
 intro pins s σ H Q I h
 exact isTrue_plain (thn (ha pins s σ H _ I h) fun v s1 ⟨x,H1,I1,r1,q1⟩=>Xu pins s1 σ H1 x v Q I1 r1 q1) (he _)
theorem wI {x:V} {us:List Value} (r:Vals [x] us):∃ u,us = [u] /\ RelV x u:=by
 cases r with
 | cons r1 r2=>cases r2; exact ⟨_,rfl,r1⟩
theorem qz {x y:V} {us:List Value} (r:Vals [x,y] us):∃ u w',us = [u,w'] /\ RelV x u /\ RelV y w':=by
 cases r with
 | cons r1 r2 =>
  cases r2 with
  | cons r3 r4=>cases r4; exact ⟨_,_,rfl,r1,r3⟩
theorem vA (hc:X.calm = true):xU X (.builtin "max") (fun xs H Q=>∃ i j,xs = [.int i,.int j] /\ Q (.int (if j > i then j else i)) H):=by
 intro pins s σ H xs us Q I r h
 obtain ⟨i,j,rfl,q⟩:=h
 obtain ⟨u,w',rfl,⟨t,rfl⟩,⟨t',rfl⟩⟩:=qz r
 refine max_two_ints (I.ok.hd hc) fun h' tk k=>⟨_,H,I.kept k,?_,q⟩
 by_cases hj:j > i
 ·rw [if_pos hj,if_pos hj]; exact ⟨_,rfl⟩
 ·rw [if_neg hj,if_neg hj]; exact ⟨_,rfl⟩
theorem tH (hc:X.calm = true):xU X (.builtin "min") (fun xs H Q=>∃ i j,xs = [.int i,.int j] /\ Q (.int (if j < i then j else i)) H):=by
 intro pins s σ H xs us Q I r h
 obtain ⟨i,j,rfl,q⟩:=h
 obtain ⟨u,w',rfl,⟨t,rfl⟩,⟨t',rfl⟩⟩:=qz r
 refine min_two_ints (I.ok.hd hc) fun h' tk k=>⟨_,H,I.kept k,?_,q⟩
 by_cases hj:j < i
 ·rw [if_pos hj,if_pos hj]; exact ⟨_,rfl⟩
 ·rw [if_neg hj,if_neg hj]; exact ⟨_,rfl⟩
theorem vB:xU X (.type "int") (fun xs H Q=>(∃ i,xs = [.int i] /\ Q (.int i) H) \/ ∃ k,xs = [.bl k] /\ Q (.int (if k then 1 else 0)) H):=by
 intro pins s σ H xs us Q I r h
 rcases h with ⟨i,rfl,q⟩ | ⟨k,rfl,q⟩
 ·obtain ⟨u,rfl,t,rfl⟩:=wI r
  exact call_int_int ⟨.int i,H,I,⟨_,rfl⟩,q⟩
 ·obtain ⟨u,rfl,r1⟩:=wI r
  cases r1
  exact call_int_bool ⟨.int (if k then 1 else 0),H,I.tok _,⟨_,rfl⟩,q⟩
theorem tI:xU X (.type "str") (fun xs H Q=>∃ i,xs = [.int i] /\ i.natAbs.log2 < 1920 /\ Q (.str (toString i)) H):=by
 intro pins s σ H xs us Q I r h
 obtain ⟨i,rfl,hz,q⟩:=h
 obtain ⟨u,rfl,t,rfl⟩:=wI r
 exact PySem.P.str_of_int hz ⟨.str _,H,I.tok _,⟨_,rfl⟩,q⟩
end
end L2
namespace L2
open PySem PySem.Spec PyProof.Rows
structure ObjM (h:Heap) (x dx C:Addr) (mA:Str -> Option Value):Prop where
 obj:h.get? x = some (PySem.W.instObj C dx)
 ns:h.Ns1 dx mA
 ne:dx ≠ x
theorem jr {h:Heap} {dx:Addr} {mA:Str -> Option Value} (n:h.Ns1 dx mA):∃ od,h.get? dx = some od /\ ∀ name,PySem.W.lookIn name od = some (mA name):=by
 obtain ⟨o,es,ep,ho,hd,hk,_,hm⟩:=n
 refine ⟨o,ho,fun name=>?_⟩
 have e:=hm name
 unfold nsFind findBy at e
 rw [← Array.find?_toList] at e
 unfold PySem.W.lookIn
 rw [hd]
 dsimp only
 split
 ·rename_i y q
  rw [q] at e
  exact congrArg some e
 ·rename_i q
  rw [q] at e
  have a:es.toList.any (·.refKey) = false:=by
   rw [List.any_eq_false]
   intro y hy
   obtain ⟨z,t,hkey⟩:=hk y (Array.mem_toList_iff.mp hy)
   simp [DictEntry.refKey,hkey]
  have a':¬ es.toList.any (·.refKey) = true:=by rw [a]; exact Bool.false_ne_true
  rw [if_neg a']
  exact congrArg some e
theorem ObjM.look {h:Heap} {x dx C:Addr} {mA:Str -> Option Value} (I:ObjM h x dx C mA):∃ od,PySem.W.InstAt h x (PySem.W.instObj C dx) C (some od) /\ ∀ name,PySem.W.lookIn name od = some (mA name) :=
 let ⟨od,ho,hl⟩:=jr I.ns
 ⟨od,⟨I.obj,rfl,rfl,ho⟩,hl⟩
section
variable {P:Program} {w:World} {H H':Hp} {h h':Heap} {a C dx:Addr} {fs fs':List (Str × V)}
theorem YJ (hok:HOk P w H h) (e:H a = some (.ins C dx fs)):∃ mA,ObjM h a dx C mA /\ (∀ f,RelO (fs.lookup f) (mA f)) /\ PySem.Within mA (fs.map (·.1)) /\ fs.length <= 1000 /\ H dx = some (.own a):=by
 obtain ⟨d,z,ne,ob,mA,n,r,q⟩:=(show yu P w H h a (.ins C dx fs) from hok a _ e)
 exact ⟨mA,⟨ob,n,ne⟩,r,q,z,d⟩
end
structure Cls (K:FG7) (C:Addr):Prop where
 pg:PySem.W.plainGet K C Str.empty = true
 hd:PySem.W.hasDictIn K C = true
 po:PySem.W.plainOver K C = true
 sa:PySem.W.findIn K (.ref C) "__setattr__" = some (some (.builtin "object.__setattr__"))
theorem Cls.get {K:FG7} {C:Addr} (c:Cls K C) (f:Str):PySem.W.plainGet K C f = true:=c.pg
def vC (K:FG7) (C:Addr) (f:Str):Prop:=PySem.W.findIn K (.ref C) f = some none
structure Con (K:FG7) (C:Addr) (f:Str) (v:V) (u:Value):Prop where
 at_:PySem.W.findIn K (.ref C) f = some (some u)
 rel:RelV v u
 get:PySem.W.specialIn K u "__get__" = some none
 cp:PySem.W.copiedNames.contains f = false
structure Meth (K:FG7) (C:Addr) (m:Str) (f:Addr):Prop where
 at_:PySem.W.findIn K (.ref C) m = some (some (.ref f))
 fn:PySem.W.isFn K (.ref f) = true
 kp:PySem.W.keepIn K (.ref f) = true
section
variable {X:Cx} {pins:List (Addr × Obj)} {σ:St} {H:Hp} {s:Shared} {a C dx:Addr} {fs:List (Str × V)} {f:Str} {v:V} {A:Around} {E:VS7}
theorem Inv.made (I:Inv X pins σ H s):Inv X pins σ (upd (upd H s.heap.objs.size (.own (s.heap.objs.size + 1))) (s.heap.objs.size + 1) (.ins C s.heap.objs.size []))
  { s with heap:=(s.heap.push PySem.W.emptyDict).push (PySem.W.instObj C s.heap.objs.size) }:=by
 have e1:(s.heap.push PySem.W.emptyDict).get? s.heap.objs.size = some PySem.W.emptyDict:=Heap.get?_push_size s.heap rfl
 have e2:((s.heap.push PySem.W.emptyDict).push (PySem.W.instObj C s.heap.objs.size)).get? (s.heap.objs.size + 1) = some (PySem.W.instObj C s.heap.objs.size):=by
  have:=Heap.get?_push_size (s.heap.push PySem.W.emptyDict) (o:=PySem.W.instObj C s.heap.objs.size) rfl
  rwa [Heap.size_push] at this
 have e3:(s.heap.push PySem.W.emptyDict).Ns s.heap.objs.size (fun _=>none):=⟨PySem.W.emptyDict,#[],_,e1,rfl,(fun e he=>absurd he (by simp)),fun _=>rfl⟩
 have I1:=I.laid (a:=s.heap.objs.size) (o:=.own (s.heap.objs.size + 1)) (h':=s.heap.push PySem.W.emptyDict) (t':=s.toks) (fun b u q=>Heap.get?_push_of_some _ q) (Nat.le_refl _) ⟨_,e1⟩
 refine I1.laid (a:=s.heap.objs.size + 1) (o:=.ins C s.heap.objs.size []) (t':=s.toks) (fun b u q=>Heap.get?_push_of_some _ q) (Nat.le_of_eq (Heap.size_push _ _)) ?_
 have ne:s.heap.objs.size ≠ s.heap.objs.size + 1:=Nat.ne_of_lt (Nat.lt_succ_self _)
 refine ⟨by rw [zp ne,zc],Nat.zero_le _,ne,e2,fun _=>none,(Heap.Ns1.of_empty e3).at fun o q=>Heap.get?_push_of_some _ q,fun _=>True.intro,fun y hy=>absurd rfl hy⟩
end
section
variable {X:Cx} {pins:List (Addr × Obj)} {σ:St} {H:Hp} {s:Shared} {A:Around} {E:VS7} {Q:VS7} {c:Value} {b:Bool}
inductive TyOf (K:FG7) (H:Hp):V -> Value -> Prop where
 | non:TyOf K H .non (.type "NoneType")
 | bl (x:Bool):TyOf K H (.bl x) (.type "bool")
 | int (i:Int):TyOf K H (.int i) (.type "int")
 | str (x:Str):TyOf K H (.str x) (.type "str")
 | flt (x:UInt64):TyOf K H (.flt x) (.type "float")
 | lst {a:Addr} {xs:List V} (e:H a = some (.lst xs)):TyOf K H (.ref a) (.type "list")
 | frz {a:Addr} {o:Obj} {xs:List V} (e:H a = some (.frz o (.lst xs))):TyOf K H (.ref a) (.type "list")
 | tup {a:Addr} {xs:List V} (e:H a = some (.tup xs)):TyOf K H (.ref a) (.type "tuple")
 | dK {a:Addr} {kvs:List (Key × V)} (e:H a = some (.dK kvs)):TyOf K H (.ref a) (.type "dict")
 | dT {a:Addr} {kvs:List (List Key × V)} (e:H a = some (.dT kvs)):TyOf K H (.ref a) (.type "dict")
 | ins {a C dx:Addr} {fs:List (Str × V)} (e:H a = some (.ins C dx fs)) (cl:Cls K C) (ha:PySem.W.findIn K (.ref C) "__class__" = some (some (.builtin "object.__class__")))
   (hn:PySem.W.specialIn K (.builtin "object.__class__") "__get__" = some (some (.builtin "getset_descriptor.__get__"))) (htk:PySem.W.takesIn K (.builtin "object.__class__") = some true)
   (hm:PySem.W.mroIn K C (.type "object") = some true):TyOf K H (.ref a) (.ref C)
theorem xC {x:V} {u t:Value} (I:Inv X pins σ H s) (rx:RelV x u) (ty:TyOf X.K H x t) (e:PySem.W.kitOne X.K t c = some b) (h:∀ tk,Q (.bool b) { s with toks:=tk }) :
  wpAny (model X.prog X.w) A (call (.builtin "isinstance") [u,c]) Q E s:=by
 cases ty with
 | non=>cases (show u = Value.none from rx); exact PySem.W.kia_one PySem.W.kitx_none I.kIn True.intro e (fun z=>nomatch z) h
 | bl y=>cases (show u = Value.bool y from rx); exact PySem.W.kia_one PySem.W.kitx_bool I.kIn True.intro e (fun z=>nomatch z) h
 | int i=>obtain ⟨t,q⟩:=(show ∃ t,u = Value.int i t from rx); cases q; exact PySem.W.kia_one PySem.W.kitx_int I.kIn True.intro e (fun z=>nomatch z) h
 | str y=>obtain ⟨t,q⟩:=(show ∃ t,u = Value.str y t from rx); cases q; exact PySem.W.kia_one PySem.W.kitx_str I.kIn True.intro e (fun z=>nomatch z) h
 | flt y=>obtain ⟨t,q⟩:=(show ∃ t,u = Value.float y t from rx); cases q; exact PySem.W.kia_one PySem.W.kitx_float I.kIn True.intro e (fun z=>nomatch z) h
 | @lst a xs ea =>
  cases (show u = Value.ref a from rx)
  obtain ⟨_,_,n,_,h1⟩:=(show yu X.prog X.w H s.heap a (.lst xs) from I.hok a _ ea)
  exact PySem.W.kia_one PySem.W.kitx_list I.kIn ⟨_,h1,rfl⟩ e (fun z=>nomatch z) h
 | @frz a ob xs ea =>
  cases (show u = Value.ref a from rx)
  obtain ⟨_,_,_,n,_,h1⟩:=(show yu X.prog X.w H s.heap a (.frz ob (.lst xs)) from I.hok a _ ea)
  exact PySem.W.kia_one PySem.W.kitx_list I.kIn ⟨_,h1,rfl⟩ e (fun z=>nomatch z) h
 | @tup a xs ea =>
  cases (show u = Value.ref a from rx)
  obtain ⟨_,_,_,p⟩:=(show yu X.prog X.w H s.heap a (.tup xs) from I.hok a _ ea)
  obtain ⟨o,h1,h2,_⟩:=p
  exact PySem.W.kia_one PySem.W.kitx_tuple I.kIn ⟨o,h1,h2⟩ e (fun z=>nomatch z) h
 | @dK a kvs ea =>
  cases (show u = Value.ref a from rx)
  obtain ⟨_,_,vs,_,p⟩:=(show yu X.prog X.w H s.heap a (.dK kvs) from I.hok a _ ea)
  obtain ⟨o,es,ep,h1,h2,_⟩:=p
  exact PySem.W.kia_one PySem.W.kitx_dict I.kIn ⟨o,h1,h2.1⟩ e (fun z=>nomatch z) h
 | @dT a kvs ea =>
  cases (show u = Value.ref a from rx)
  obtain ⟨_,_,xs,_,o,es,ep,h1,h2,_⟩:=(show yu X.prog X.w H s.heap a (.dT kvs) from I.hok a _ ea)
  exact PySem.W.kia_one PySem.W.kitx_dict I.kIn ⟨o,h1,h2.1⟩ e (fun z=>nomatch z) h
 | @ins a C dx fs ea cl ha hn htk hm =>
  cases (show u = Value.ref a from rx)
  obtain ⟨mA,O,_⟩:=YJ I.hok ea
  obtain ⟨od,J,_⟩:=O.look
  exact PySem.W.kia_one (PySem.W.kitx_own (cl.get _) cl.hd ha hn htk hm) I.kIn J e (fun z=>nomatch z) h
end
end L2
namespace L2
open PySem PySem.Spec PyProof.Rows
structure Room (k:Nat) (A:Around):Prop where
 hd:A.handled = none
 dp:A.depth + 3 * k + 5 < recursionLimit
 un:A.units + 16 * k + 200 < cLine
 gd:A.guards = some []
theorem Room.mono {j k:Nat} {A:Around} (r:Room k A) (h:j <= k):Room j A:=⟨r.hd,by have:=r.dp; omega,by have:=r.un; omega,r.gd⟩
theorem Room.deeper {k:Nat} {A:Around} (r:Room (k + 1) A) (env:Env):Room k (A.deeper env) :=
 ⟨r.hd,by have:=r.dp; show A.depth + 1 + 3 * k + 5 < _; omega,by have:=r.un; show A.units + 3 + 16 * k + 200 < _; omega,r.gd⟩
theorem Room.in1 {k:Nat} {A:Around} (r:Room (k + 1) A):Room k A.in1 :=
 ⟨r.hd,by have:=r.dp; show A.depth + 3 * k + 5 < _; omega,by have:=r.un; show A.units + 1 + 16 * k + 200 < _; omega,r.gd⟩
theorem Room.depth {k:Nat} {A:Around} (r:Room k A):A.depth < recursionLimit:=by have:=r.dp; omega
theorem Room.units {k:Nat} {A:Around} (r:Room k A):A.units + 64 < cLine:=by have:=r.un; omega
theorem Room.units0 {k:Nat} {A:Around} (r:Room k A):A.units < cLine:=by have:=r.un; omega
def tNil:TA:=fun _ H Q=>Q [] H
def ZP (ta:TE) (tr:TA):TA:=fun σ H Q=>ta σ H fun x H1=>tr σ H1 fun xs H2=>Q (x :: xs) H2
section
variable {X:Cx} {e:Expr} {es:List Expr} {te:TE} {t:TA} {pos:Pos}
theorem zb:PA X [] tNil:=fun _ _ _ _ H Q I h=>Calls.spliced_nil ⟨[],H,I,.nil,h⟩
theorem za (ha:PE X e te) (hr:PA X es t) (hs:starEach (e :: es) X.env = (false,eval e X.env) :: starEach es X.env:=by rfl):PA X (e :: es) (ZP te t):=by
 intro pos pins s σ H Q I h
 rw [hs]
 show wpAny _ _ (spliced ((false,eval e X.env) :: backTo pos (starEach es X.env))) _ _ s
 refine Calls.spliced_cons (thn (ha pins s σ H _ I h) fun u s1 ⟨x,H1,I1,r1,q1⟩=>?_)
 exact thn (hr pos pins s1 σ H1 _ I1 q1) fun us s2 ⟨xs,H2,I2,r2,q2⟩=>⟨x :: xs,H2,I2,.cons r1 r2,q2⟩
def tTup (t:TA):TE:=fun σ H Q=>t σ H fun xs H1=>xs.length <= sizeLine /\ ∀ p,H1 p = none -> Q (.ref p) (upd H1 p (.tup xs))
def tLst (t:TA):TE:=fun σ H Q=>t σ H fun xs H1=>xs.length <= sizeLine /\ ∀ p,H1 p = none -> Q (.ref p) (upd H1 p (.lst xs))
theorem z8 {x1} (h:PA X es t):PE X (.Tuple es x1 pos) (tTup t):=by
 intro pins s σ H Q I hq
 refine wpAny_Tuple_spliced (thn (h pos pins s σ H _ I hq) fun us s1 ⟨xs,H1,I1,r,z,q⟩=>⟨by rw [← r.length]; exact z,?_⟩)
 have hf:H1 s1.heap.objs.size = none:=I1.hok.fresh (Nat.le_refl _)
 refine ⟨.ref s1.heap.objs.size,upd H1 s1.heap.objs.size (.tup xs),I1.laid (t':=s1.toks) (fun b u e=>Heap.get?_push_of_some _ e) (Nat.le_refl _) ?_,rfl,q _ hf⟩
 exact ⟨z,us,r,⟨_,Heap.get?_push_size _ rfl,rfl,_,rfl⟩⟩
theorem yf (h:PA X es t):PE X (.List es pos) (tLst t):=by
 intro pins s σ H Q I hq
 refine wpAny_List_spliced (thn (h pos pins s σ H _ I hq) fun us s1 ⟨xs,H1,I1,r,z,q⟩=>⟨by rw [← r.length]; exact z,?_⟩)
 have hf:H1 s1.heap.objs.size = none:=I1.hok.fresh (Nat.le_refl _)
 refine ⟨.ref s1.heap.objs.size,upd H1 s1.heap.objs.size (.lst xs),I1.laid (t':=s1.toks) (fun b u e=>Heap.get?_push_of_some _ e) (Nat.le_refl _) ?_,rfl,q _ hf⟩
 exact ⟨z,us,0,r,Heap.get?_push_size _ rfl⟩
end
abbrev Sp:=List V -> Hp -> VK -> XK -> Prop
abbrev CXT:=List Env -> Hp -> Shared -> XK -> Value -> Shared -> Prop
structure Env0 (P:Program) (w:World) (K:FG7) (mg:Str -> Option Value) (base:Heap) (A:Around) (outer:List Env) (s:Shared) (H:Hp):Prop where
 frames:A.frames = some outer
 mod:Mod K mg base
 bs:∀ b o,base.get? b = some o -> s.heap.get? b = some o /\ H b = none
 bsz:base.objs.size <= s.heap.objs.size
 funs:s.heap.FunFrames base outer
 frf:∀ b ∈ frs outer,H b = none
 hok:HOk P w H s.heap
 bare:AllBare s.gens
def CE (outer:List Env) (P:Program) (w:World) (H:Hp) (s:Shared) (Q:VK) (u:Value) (s':Shared):Prop :=
 ∃ v H',s'.os = s.os /\ AllBare s'.gens /\ Un (frs outer) [] H H' s.heap s'.heap /\ HOk P w H' s'.heap /\ RelV v u /\ Q v H'
def CR (CX:CXT) (outer:List Env) (P:Program) (w:World) (H:Hp) (s:Shared) (Q:VK) (E:XK) (r:Result) (s':Shared):Prop :=
 match r with
 | .ok (.ret u)=>CE outer P w H s Q u s'
 | .ok _=>False
 | .error e=>CX outer H s E e s'
structure FnOk (P:Program) (w:World) (K:FG7) (mg:Str -> Option Value) (base:Heap) (CX:CXT) (k:Nat) (f:Addr) (fd:FuncData) (ps:List Str) (sp:Sp):Prop where
 len:∀ vs H Q E,sp vs H Q E -> vs.length = ps.length
 run:∀ (A:Around) (outer:List Env) (s:Shared) (H:Hp) (args:Args) (us:List Value) (vs:List V) (Q:VK) (E:XK),Room k A -> Env0 P w K mg base A outer s H -> BindsTo s fd args (ps.zip us) -> Vals vs us -> sp vs H Q E →
  codeAny (model P w) A (.call (.ref f) args) (CR CX outer P w H s Q E) s
theorem FnOk.mono {P:Program} {w:World} {K:FG7} {mg:Str -> Option Value} {base:Heap} {CX:CXT} {j k:Nat} {f:Addr} {fd:FuncData} {ps:List Str} {sp:Sp} (F:FnOk P w K mg base CX j f fd ps sp) (h:j <= k) :
  FnOk P w K mg base CX k f fd ps sp:=⟨F.len,fun A outer s H args us vs Q E hr=>F.run A outer s H args us vs Q E (hr.mono h)⟩
theorem FnOk.imp {P:Program} {w:World} {K:FG7} {mg:Str -> Option Value} {base:Heap} {CX:CXT} {k:Nat} {f:Addr} {fd:FuncData} {ps:List Str} {sp sp':Sp} (F:FnOk P w K mg base CX k f fd ps sp)
  (h:∀ vs H Q E,sp' vs H Q E -> sp vs H Q E):FnOk P w K mg base CX k f fd ps sp' :=
 ⟨fun vs H Q E q=>F.len vs H Q E (h _ _ _ _ q),fun A outer s H args us vs Q E hr he hb hv hs=>F.run A outer s H args us vs Q E hr he hb hv (h _ _ _ _ hs)⟩
theorem Env0.in1 {P:Program} {w:World} {K:FG7} {mg:Str -> Option Value} {base:Heap} {A:Around} {outer:List Env} {s:Shared} {H:Hp} (e:Env0 P w K mg base A outer s H) :
  Env0 P w K mg base A.in1 outer s H:=⟨e.frames,e.mod,e.bs,e.bsz,e.funs,e.frf,e.hok,e.bare⟩
section
variable {X:Cx} {pins:List (Addr × Obj)} {σ:St} {H:Hp} {s s':Shared}
theorem Inv.env0 (I:Inv X pins σ H s):Env0 X.prog X.w X.K X.mg X.base X.A X.stack s H :=
 ⟨I.ok.frames,I.ok.mod,I.bs,Nat.le_trans I.ok.bsz I.sz,I.stack,I.stkFree,I.hok,I.bare⟩
theorem Inv.after {Q:VK} {u:Value} (I:Inv X pins σ H s) (h:CE X.stack X.prog X.w H s Q u s'):EP X pins σ Q u s':=by
 obtain ⟨v,H',os,bare,un,hok,r,q⟩:=h
 obtain ⟨hh,g,d,t,os'⟩:=s'
 obtain rfl:os' = s.os:=os
 exact ⟨v,H',I.call (h':=hh) (g':=g) (d':=d) (t':=t) (ch:=[]) un hok bare (fun b z=>absurd z (by simp)),r,q⟩
end
def ju (sp:Sp) (dvs:List V) (E:XK) (t:TA):TE:=fun σ H Q=>t σ H fun vs H1=>sp (vs ++ dvs) H1 Q E
def xV (K:FG7) (fd:FuncData) (ps:List Str) (ds:List Value):Prop :=
 ∀ (s:Shared) (us:List Value),K.In s.heap -> (us ++ ds).length = ps.length -> BindsTo s fd ⟨us,[]⟩ (ps.zip (us ++ ds))
theorem xV.all {K:FG7} {fd:FuncData} {ps:List Str} (h:∀ us:List Value,us.length = ps.length -> bindArgs fd ⟨us,[]⟩ = pure (ps.zip us)):xV K fd ps []:=fun s us _ hl=>by
 rw [List.append_nil] at hl ⊢
 exact .of_eq (h us hl)
def vD (CX:CXT) (X:Cx) (E:XK):Prop:=∀ (pins:List (Addr × Obj)) (σ:St) (H:Hp) (s:Shared) (e:Value) (s':Shared),Inv X pins σ H s -> CX X.stack H s E e s' -> X.xe e s'
section
variable {X:Cx} {CX:CXT} {k:Nat} {f C:Addr} {fd:FuncData} {ps:List Str} {sp:Sp} {dvs:List V} {ds:List Value} {E:XK} {x m:Str} {p pos apos:Pos} {e o:Expr} {es:List Expr} {ta:TE} {t:TA}
theorem Ym {pins:List (Addr × Obj)} {σ:St} {H:Hp} {s:Shared} {Q:VK} {us:List Value} {vs:List V} (F:FnOk X.prog X.w X.K X.mg X.base CX k f fd ps sp) (hr:Room k X.A) (hb:xV X.K fd ps ds) (hd:Vals dvs ds) (hx:vD CX X E)
  (I:Inv X pins σ H s) (r:Vals vs us) (h:sp (vs ++ dvs) H Q E):wpAny (model X.prog X.w) X.A (call (.ref f) us) (EP X pins σ Q) X.xe s:=by
 have r2:Vals (vs ++ dvs) (us ++ ds):=r.append hd
 have hl:(us ++ ds).length = ps.length:=by rw [← r2.length]; exact F.len _ _ _ _ h
 refine wpAny_call (codeAny_mono (F.run X.A X.stack s H ⟨us,[]⟩ (us ++ ds) (vs ++ dvs) Q E hr I.env0 (hb s us I.kIn hl) r2 h) fun r s' hq=>?_)
 cases r with
 | error e=>exact hx pins σ H s e s' I hq
 | ok fl =>
  cases fl with
  | ret u=>exact I.after hq
  | next=>exact False.elim hq
  | brk=>exact False.elim hq
  | cont=>exact False.elim hq
theorem jv (F:FnOk X.prog X.w X.K X.mg X.base CX k f fd ps sp) (hr:Room k X.A) (hg:Gl X x) (hm:X.mg x = some (.ref f)) (hk:PySem.W.keepIn X.K (.ref f) = true) (hb:xV X.K fd ps ds) (hd:Vals dvs ds) (hx:vD CX X E)
  (ha:PA X (e :: es) t) (hdb:(x == ("__debug__":Str)) = false:=by decide) (he:starEach (e :: es) X.env = (false,eval e X.env) :: starEach es X.env:=by rfl) (hpl:(backTo pos (starEach es X.env)).any (·.1) = false:=by rfl) :
  PE X (.Call (.Name x p) (e :: es) [] pos) (ju sp dvs E t):=by
 intro pins s σ H Q I h
 refine wpAny_Call_Name_kw (uH I hg hm ?_ hdb)
 refine PySem.W.callWith_K (h₀:=X.base) I.ok.mod.kin hk (thn (ha pos pins s σ H _ I h) fun us s1 ⟨vs,H1,I1,r,q⟩=>⟨I1.kIn,?_⟩) he hpl
 exact Ym F hr hb hd hx I1 r q
structure Mk (K:FG7) (C f:Addr):Prop where
 makes:PySem.W.makesIn K C = true
 init:PySem.W.findIn K (.ref C) "__init__" = some (some (.ref f))
 fn:PySem.W.isFn K (.ref f) = true
 kp:PySem.W.keepIn K (.ref C) = true
end
section
variable {X:Cx} {CX:CXT} {k:Nat} {f C:Addr} {fd:FuncData} {ps ks:List Str} {sp:Sp} {E:XK} {x m:Str} {p pos apos kpos:Pos} {e o:Expr} {es:List Expr} {kws:List Keyword} {te ta:TE} {t tk:TA} {nm:Option Str}
structure KBinds (K:FG7) (fd:FuncData) (ps ks:List Str) (g:List Value -> List Value -> List Value) (gV:List V -> List V -> List V):Prop where
 to:∀ (s:Shared) (us ws:List Value),K.In s.heap -> (g us ws).length = ps.length -> BindsTo s fd ⟨us,ks.zip ws⟩ (ps.zip (g us ws))
 rel:∀ {vs:List V} {us:List Value} {zs:List V} {ws:List Value},Vals vs us -> Vals zs ws -> Vals (gV vs zs) (g us ws)
variable {g:List Value -> List Value -> List Value} {gV:List V -> List V -> List V}
end
structure FnScope (N P:List Str) (sc:Scope):Prop where
 kind:sc.kind = .function
 co:sc.isCoroutine = false
 gen:sc.isGenerator = false
 nd:N.Nodup
 pre:N.take P.length = P
 par:∀ x ∈ P,sc.names.lookup x = some .local \/ sc.names.lookup x = some .cell
 nofree:∀ y ∈ sc.names,y.2 ≠ .free
theorem tJ {kindOf:Str -> Option NameKind} {x:Str}:∀ {binds:List (Str × Value)} {m:Str -> Option Value},(∀ v,(x,v) ∉ binds) -> bindL kindOf binds m x = m x
 | [],_,_=>rfl
 | (n,v) :: r,m,h=>by
  unfold bindL
  rw [tJ fun w hw=>h w (List.mem_cons_of_mem _ hw)]
  split
  ·have:x ≠ n:=by rintro rfl; exact h v List.mem_cons_self
   simp [this]
  ·rfl
theorem tK {kindOf:Str -> Option NameKind} {x:Str}:∀ {binds:List (Str × Value)} {m:Str -> Option Value},(∀ v,(x,v) ∉ binds) -> bindC kindOf binds m x = m x
 | [],_,_=>rfl
 | (n,v) :: r,m,h=>by
  unfold bindC
  rw [tK fun w hw=>h w (List.mem_cons_of_mem _ hw)]
  split
  ·rfl
  ·have:x ≠ n:=by rintro rfl; exact h v List.mem_cons_self
   simp [this]
theorem tL {kindOf:Str -> Option NameKind} {x:Str} {v:Value}:∀ {P:List Str} {vs:List Value} {i:Nat} {m:Str -> Option Value},P.Nodup -> P[i]? = some x -> vs[i]? = some v -> kindOf x = some .local →
  bindL kindOf (P.zip vs) m x = some v
 | [],_,_,_,_,h,_,_=>by simp at h
 | _ :: _,[],_,_,_,_,h,_=>by simp at h
 | p :: P,w :: vs,0,m,nd,h1,h2,hk=>by
  simp at h1 h2; subst h1; subst h2
  show bindL kindOf ((p,w) :: P.zip vs) m p = _
  unfold bindL
  rw [tJ fun v hv=>(List.nodup_cons.mp nd).1 (List.of_mem_zip hv).1,if_pos hk]
  simp
 | p :: P,w :: vs,i + 1,m,nd,h1,h2,hk=>by
  show bindL kindOf ((p,w) :: P.zip vs) m x = _
  unfold bindL
  exact tL (i:=i) (List.nodup_cons.mp nd).2 (by simpa using h1) (by simpa using h2) hk
theorem tM {kindOf:Str -> Option NameKind} {x:Str} {v:Value}:∀ {P:List Str} {vs:List Value} {i:Nat} {m:Str -> Option Value},P.Nodup -> P[i]? = some x -> vs[i]? = some v -> kindOf x ≠ some .local →
  bindC kindOf (P.zip vs) m x = some v
 | [],_,_,_,_,h,_,_=>by simp at h
 | _ :: _,[],_,_,_,_,h,_=>by simp at h
 | p :: P,w :: vs,0,m,nd,h1,h2,hk=>by
  simp at h1 h2; subst h1; subst h2
  show bindC kindOf ((p,w) :: P.zip vs) m p = _
  unfold bindC
  rw [tK fun v hv=>(List.nodup_cons.mp nd).1 (List.of_mem_zip hv).1,if_neg hk]
  simp
 | p :: P,w :: vs,i + 1,m,nd,h1,h2,hk=>by
  show bindC kindOf ((p,w) :: P.zip vs) m x = _
  unfold bindC
  exact tM (i:=i) (List.nodup_cons.mp nd).2 (by simpa using h1) (by simpa using h2) hk
def start (N:List Str) (vs:List V):St:=vs.map some ++ List.replicate (N.length - vs.length) none
def cxOf (CX:CXT) (P:Program) (w:World) (K:FG7) (mg:Str -> Option Value) (base:Heap) (N:List Str) (qual:Str) (scope:Scope) (f:Addr) (cd:Value) (A:Around) (outer:List Env) (s:Shared) (H:Hp) (E:XK):Cx where
 prog:=P
 w:=w
 K:=K
 mg:=mg
 base:=base
 A:=A.deeper (envOfC qual scope s.heap.objs.size f cd)
 N:=N
 s₀:=s
 H₀:=H
 env:=envOfC qual scope s.heap.objs.size f cd
 outer:=outer
 stack:=envOfC qual scope s.heap.objs.size f cd :: outer
 ex:=[]
 calm:=true
 fn:=fun _=>true
 pn:=[]
 xe:=fun e s'=>wpAny (model P w) (A.deeper (envOfC qual scope s.heap.objs.size f cd)) (leaving (envOfC qual scope s.heap.objs.size f cd) e) (fun _ s''=>CX outer H s E e s'') (fun e' s''=>CX outer H s E e' s'') s'
theorem rL {sc:Scope} {n:Nat} {x:Str} (h:sc.names.lookup x = some .cell):∃ c,(cellsFrom n sc.names []).lookup x = some c:=by
 have q:=PySem.W.cellsFrom_some sc.names n [] (.inl h)
 exact Option.isSome_iff_exists.mp q
theorem jw {CX:CXT} {P:Program} {w:World} {K:FG7} {mg:Str -> Option Value} {base:Heap} {N ps:List Str} {qual:Str} {scope:Scope} {f:Addr} {cd:Value} {A:Around} {outer:List Env} {s s1:Shared} {H:Hp} {E:XK} {us:List Value} {vs:List V}
  (S:FnScope N ps scope) (hd:A.handled = none) (e0:Env0 P w K mg base A outer s H) (hl:vs.length = ps.length) (r:Vals vs us)
  (x:InCallC s s.heap.objs.size (bindL (envOfC qual scope s.heap.objs.size f cd).kindOf (ps.zip us) fun _=>none) (cellsFrom (s.heap.objs.size + 1) scope.names []) (bindC (envOfC qual scope s.heap.objs.size f cd).kindOf (ps.zip us) fun _=>none) s1) :
  Inv (cxOf CX P w K mg base N qual scope f cd A outer s H E) [] (start N vs) H s1:=by
 have hpl:ps.length <= N.length:=by have:=congrArg List.length S.pre; rw [List.length_take] at this; omega
 obtain ⟨h1,tk,rfl,hk⟩:=x.done
 have noA:∀ b:Addr,b ∉ (cxOf CX P w K mg base N qual scope f cd A outer s H E).ex:=fun b z=>absurd (show b ∈ ([]:List Addr) from z) (by simp)
 refine ⟨⟨e0.mod,S.kind,rfl,rfl,Nat.le_refl _,fun y z c h1 h2=>?_,fun y hy=>?_,fun y c _ h=>?_,fun _=>hd,Around.frames_deeper e0.frames,.inr ⟨rfl,rfl⟩,fun b z=>absurd z (noA b),e0.bs,e0.bsz,fun b _ _=>noA b,fun b z=>absurd z (noA b),e0.funs,e0.frf⟩,
  rfl,e0.bare,Un.kept hk,⟨_,x.toInCall.ns,fun i y v h1 h2 h3=>?_⟩,fun y c h=>⟨_,x.cell y c h⟩,e0.hok.fresh (Nat.le_refl _),fun y c h=>?_,fun p hp=>absurd (show p ∈ ([]:List (Addr × Obj)) from hp) (by simp),e0.hok.kept hk,?_⟩
 ·exact name_of_addr x.apart (PySem.mem_of_lookup h1) (PySem.mem_of_lookup h2)
 ·have hy:scope.names.lookup y = some .cell \/ scope.names.lookup y = some .free:=hy
  rcases hy with hy | hy
  ·exact rL hy
  ·exact absurd rfl (S.nofree _ (PySem.mem_of_lookup hy))
 ·exact Nat.le_of_lt (x.above y c (PySem.mem_of_lookup h))
 ·have hi:i < vs.length:=by
   unfold start at h2
   by_cases hi:i < vs.length
   ·exact hi
   ·rw [List.getElem?_append_right (by simpa using hi)] at h2
    rw [List.getElem?_replicate] at h2
    split at h2 <;> cases h2
  have ha:vs[i]? = some v:=by
   unfold start at h2
   rw [List.getElem?_append_left (by simpa using hi),List.getElem?_map] at h2
   cases e:vs[i]? with
   | none=>rw [e] at h2; cases h2
   | some a=>rw [e] at h2; cases h2; rfl
  obtain ⟨u,hu,rv⟩:=r.get ha
  have hp:ps[i]? = some y:=by
   rw [← S.pre,List.getElem?_take_of_lt (by omega)]; exact h1
  have ndP:ps.Nodup:=by rw [← S.pre]; exact S.nd.sublist (List.take_sublist _ _)
  refine ⟨u,rv,?_⟩
  rcases S.par y (List.mem_of_getElem? hp) with k | k
  ·exact .inl ⟨k,tL ndP hp hu k⟩
  ·obtain ⟨c,e⟩:=rL (n:=s.heap.objs.size + 1) k
   refine .inr ⟨.inl k,c,e,?_⟩
   have q:=x.cell y c e
   rw [tM ndP hp hu (by show scope.names.lookup y ≠ _; rw [k]; decide)] at q
   exact q
 ·exact e0.hok.fresh (Nat.le_of_lt (x.above y c (PySem.mem_of_lookup h)))
 ·unfold start
  show _ = N.length
  rw [List.length_append,List.length_map,List.length_replicate]
  omega
theorem Xv {CX:CXT} {P:Program} {w:World} {K:FG7} {mg:Str -> Option Value} {base:Heap} {k:Nat} {f:Addr} {name qual:Str} {params:Arguments} {body:List Stmt} {scope:Scope} {dV kV doc pm cdv ct oc:Value} {an od:Option Addr}
  {osl:Array (Option Value)} {N ps:List Str} {sp:Sp} (lk:K.lookup f = some ⟨oc,od,.func (PySem.W.fnOf name qual params body scope dV kV doc pm an cdv ct),osl⟩) (hcd:PySem.W.codeIn K cdv qual = true) (S:FnScope N ps scope)
  (len:∀ vs H Q E,sp vs H Q E -> vs.length = ps.length)
  (hbody:∀ (A:Around) (outer:List Env) (s:Shared) (H:Hp) (vs:List V) (Q:VK) (E:XK),Room k (A.deeper (envOfC qual scope s.heap.objs.size f cdv)) -> sp vs H Q E →
   ∃ t,PSs (cxOf CX P w K mg base N qual scope f cdv A outer s H E) body t /\ t { nx:=fun _ H'=>Q .non H',rt:=Q } (start N vs) H) :
  FnOk P w K mg base CX (k + 1) f (PySem.W.fnOf name qual params body scope dV kV doc pm an cdv ct) ps sp:=by
 refine ⟨len,fun A outer s H args us vs Q E hr e0 hb r hsp=>?_⟩
 have hl:=len _ _ _ _ hsp
 have KX:K.In s.heap:=e0.mod.kin.keeps fun b o e=>(e0.bs b o e).1
 have lim:s.heap.NoLimit:=e0.mod.nolimit.keeps fun b o e=>(e0.bs b o e).1
 have hkind:∀ y ∈ ps.zip us,scope.names.lookup y.1 = some .local \/ (scope.names.lookup y.1 = some .cell /\ ((cellsFrom (s.heap.objs.size + 1) scope.names []).lookup y.1).isSome = true):=fun ⟨n,v⟩ hy=>by
  rcases S.par n (List.of_mem_zip hy).1 with q | q
  ·exact .inl q
  ·exact .inr ⟨q,PySem.W.cellsFrom_some _ _ _ (.inl q)⟩
 refine codeAny_call_function hr.depth (KX _ _ lk) rfl S.co S.gen rfl (PySem.W.codeRec_of KX hcd) (hb _ _ _ _ ?_)
 refine wpAny_newFunctionEnv_cells S.kind hkind fun env he s1 x=>?_
 subst he
 refine ⟨lim.keeps x.toInCall.keep,codeAny_func ?_⟩
 obtain ⟨t,ht,hq⟩:=hbody A outer s H vs Q E (hr.deeper _) hsp
 have I:Inv (cxOf CX P w K mg base N qual scope f cdv A outer s H E) [] (start N vs) H s1:=jw S hr.hd e0 hl r x
 refine wpAny_mono (ht [] s1 (start N vs) H _ I hq) (fun fl s' hs=>?_) fun e s' hs=>hs
 have fin:∀ {σ':St} {H':Hp} {v:V} {u:Value},Inv (cxOf CX P w K mg base N qual scope f cdv A outer s H E) [] σ' H' s' -> RelV v u -> Q v H' -> CE outer P w H s Q u s' :=
  fun {σ' H' v u} J rv q=>⟨v,H',J.os,J.bare,J.base,J.hok,rv,q⟩
 cases fl with
 | ret u =>
  obtain ⟨v,σ',H',J,rv,q⟩:=hs
  exact fin J rv q
 | next =>
  obtain ⟨σ',H',J,q⟩:=hs
  exact fin (v:=V.non) (u:=Value.none) J rfl q
 | brk =>
  obtain ⟨_,_,_,q⟩:=hs
  exact False.elim q
 | cont =>
  obtain ⟨_,_,_,q⟩:=hs
  exact False.elim q
end L2
namespace L2
open PySem PySem.Spec PyProof.Rows
section
variable {X:Cx} {x:Str} {p pos:Pos} {e:Expr} {es:List Expr} {t:TA} {id T:String} {r:List V -> Hp -> VK -> Prop}
def tCB (r:List V -> Hp -> VK -> Prop) (t:TA):TE:=fun σ H Q=>t σ H fun vs H1=>r vs H1 Q
theorem zi (hc:xU X (.builtin id) r) (hg:Gl X x) (hm:X.mg x = none) (hv:bootBuiltins x = some (.builtin id)) (ha:PA X (e :: es) t) (hn:x ≠ "__name__":=by decide) (hdb:(x == ("__debug__":Str)) = false:=by decide)
  (he:starEach (e :: es) X.env = (false,eval e X.env) :: starEach es X.env:=by rfl) (hpl:(backTo pos (starEach es X.env)).any (·.1) = false:=by rfl):PE X (.Call (.Name x p) (e :: es) [] pos) (tCB r t):=by
 intro pins s σ H Q I h
 refine wpAny_Call_Name_kw (wU I hg hm hv ?_ hn hdb)
 exact PyProof.Rows.callWith_builtin1 (thn (ha pos pins s σ H _ I h) fun us s1 ⟨vs,H1,I1,r1,q1⟩=>hc pins s1 σ H1 vs us Q I1 r1 q1) he hpl
theorem zV (hc:xU X (.type T) r) (hg:Gl X x) (hm:X.mg x = none) (hv:bootBuiltins x = some (.type T)) (ha:PA X (e :: es) t) (hn:x ≠ "__name__":=by decide) (hdb:(x == ("__debug__":Str)) = false:=by decide)
  (he:starEach (e :: es) X.env = (false,eval e X.env) :: starEach es X.env:=by rfl) (hpl:(backTo pos (starEach es X.env)).any (·.1) = false:=by rfl):PE X (.Call (.Name x p) (e :: es) [] pos) (tCB r t):=by
 intro pins s σ H Q I h
 refine wpAny_Call_Name_kw (wU I hg hm hv ?_ hn hdb)
 exact PyProof.Rows.callWith_type1 (thn (ha pos pins s σ H _ I h) fun us s1 ⟨vs,H1,I1,r1,q1⟩=>hc pins s1 σ H1 vs us Q I1 r1 q1) he hpl
end
end L2
namespace HT
open PySem PyProof.Rows
section
variable {prog:Program} {w:World} {A:Around} {E:VS7} {s:Shared}
theorem cat_tup {t b:Addr} {vs ws:List Value} {Q:VS7} (ht:IsTup s.heap t vs.toArray) (hb:IsTup s.heap b ws.toArray) (hv:vs ≠ [])
  (h1:ws = [] -> Q (.ref t) s) (h2:ws ≠ [] -> Q (.ref s.heap.objs.size) { s with heap:=s.heap.push { cls:=.type "tuple",data:=.seq (vs ++ ws).toArray } })
  (hsz:vs.length + ws.length <= sizeLine):wpAny (model prog w) A (binaryOp .Add (.ref t) (.ref b)) Q E s:=by
 obtain ⟨⟨cls,dd,data,sl⟩,ho,hc,n,hd⟩:=id ht
 obtain ⟨⟨cls2,dd2,data2,sl2⟩,ho2,hc2,n2,hd2⟩:=id hb
 simp only at hc hd hc2 hd2
 subst hc hd hc2 hd2
 have e:vs.toArray ++ ws.toArray = (vs ++ ws).toArray:=by simp
 by_cases hw:ws = []
 ·exact concat_meets ⟨_,ho,rfl⟩ ⟨_,ho2,rfl⟩ noFill_tuple_add seq_tuple_add PySem.F.slot_tuple_add PySem.F.entry_tuple_add (PySem.F.args_tuple_add_2 _ _)
   (tuple_addW1 t b vs.toArray ws.toArray n n2 dd dd2 sl sl2 (by simpa using hv) (by simp [hw])) ⟨ho,ho2,h1 hw⟩
 ·refine concat_meets ⟨_,ho,rfl⟩ ⟨_,ho2,rfl⟩ noFill_tuple_add seq_tuple_add PySem.F.slot_tuple_add PySem.F.entry_tuple_add (PySem.F.args_tuple_add_2 _ _)
   (tuple_addW2 t b vs.toArray ws.toArray n n2 dd dd2 sl sl2 (by simpa using hv) (by simpa using hw) (by rw [List.size_toArray,List.size_toArray]; exact hsz)) ⟨ho,ho2,?_⟩
  rw [e]
  exact h2 hw
def sIx (n d:Nat):Option Int -> Nat
 | none=>d
 | some v=>if v < 0 then (v + (n:Int)).toNat else min v.toNat n
theorem sIx_none (n d:Nat):sIx n d none = d:=rfl
theorem sIx_nat (n d k:Nat):sIx n d (some (k:Int)) = min k n:=by
 show (if (k:Int) < 0 then ((k:Int) + (n:Int)).toNat else min (k:Int).toNat n) = min k n
 rw [if_neg (by omega),Int.toNat_natCast]
theorem Xw (n d:Nat) (hd:d <= n) (o:Option Int):sIx n d o <= n:=by
 cases o with
 | none=>exact hd
 | some v =>
  show (if v < 0 then (v + (n:Int)).toNat else min v.toNat n) <= n
  by_cases hv:v < 0
  ·rw [if_pos hv]; omega
  ·rw [if_neg hv]; exact Nat.min_le_right _ _
theorem jx (v:Int) (n d:Nat):(if v < 0 then max (v + (n:Int)) 0 else min v (n:Int)) = ((sIx n d (some v):Nat):Int):=by
 show (if v < 0 then max (v + (n:Int)) 0 else min v (n:Int)) = (((if v < 0 then (v + (n:Int)).toNat else min v.toNat n):Nat):Int)
 by_cases hv:v < 0
 ·simp only [if_pos hv]; omega
 ·simp only [if_neg hv]; omega
theorem qA (lo hi:Option Int) (n:Nat):Builtin.Slice.sliceAdjust lo hi 1 (n:Int) = (((sIx n 0 lo:Nat):Int),((sIx n n hi:Nat):Int)):=by
 have h1:¬ ((1:Int) < 0):=by omega
 unfold Builtin.Slice.sliceAdjust
 simp only [h1,if_false]
 refine Prod.ext ?_ ?_
 ·cases lo with
  | none=>rfl
  | some v=>exact jx v n 0
 ·cases hi with
  | none=>rfl
  | some v=>exact jx v n n
theorem qB (i j:Nat):Builtin.Slice.slicePlaces (i:Int) (j:Int) 1 = j - i:=by
 unfold Builtin.Slice.slicePlaces
 have h1:(1:Int) > 0:=by omega
 simp only [h1,if_true,Int.ediv_one]
 split <;> omega
theorem uq {v:Value} {o:Option Int} {Q:Option Int -> Shared -> Prop} (p:IsPart v o) (h:Q o s):wpAny (model prog w) A (Builtin.Slice.slicePartIndex v) Q E s:=by
 cases p with
 | none=>exact slicePart_none h
 | int i t=>exact slicePart_int h
theorem xt {sl:Addr} {vl vu:Value} {lo hi:Option Int} {n:Nat} {Q:Int × Int × Nat -> Shared -> Prop} (hs:s.heap.IsSliceOf sl vl vu .none) (pl:IsPart vl lo) (pu:IsPart vu hi)
  (h:Q (((sIx n 0 lo:Nat):Int),1,sIx n n hi - sIx n 0 lo) s):wpAny (model prog w) A (Builtin.Slice.sliceApplied (.ref sl) (pure (n:Int))) Q E s:=by
 obtain ⟨os,hos,hcs,hds⟩:=id hs
 unfold Builtin.Slice.sliceApplied Builtin.Slice.sliceFields
 refine wpAny_bind (wpAny_bind (wpAny_field hos hds (x:=vl) rfl (wpAny_bind (wpAny_field hos hds (x:=vu) rfl (wpAny_bind (wpAny_field hos hds (x:=.none) rfl (wpAny_pure ?_)))))))
 refine wpAny_bind (slicePart_none ?_)
 show wpAny _ _ (if ((1:Int) == 0) = true then _ else _) _ _ s
 rw [if_neg (by decide)]
 refine wpAny_bind (uq pl (wpAny_bind (uq pu (wpAny_bind (wpAny_pure ?_)))))
 show wpAny _ _ (match Builtin.Slice.sliceAdjust lo hi 1 (n:Int) with | (lo,hi)=>pure (lo,(1:Int),Builtin.Slice.slicePlaces lo hi 1)) _ _ s
 rw [qA lo hi n]
 show wpAny _ _ (pure (((sIx n 0 lo:Nat):Int),(1:Int),Builtin.Slice.slicePlaces ((sIx n 0 lo:Nat):Int) ((sIx n n hi:Nat):Int) 1)) _ _ s
 rw [qB]
 exact wpAny_pure h
theorem ZQ (xs:Array Value) (i k:Nat):((List.range k).filterMap fun (m:Nat)=>xs[((i:Int) + (m:Int) * 1).toNat]?).toArray = ((xs.toList.drop i).take k).toArray:=by
 have e:(fun (m:Nat)=>xs[((i:Int) + (m:Int) * 1).toNat]?) = fun m=>xs[i + m]?:=by
  funext m
  have:((i:Int) + (m:Int) * 1).toNat = i + m:=by omega
  rw [this]
 rw [e]
 have:=pick_run xs i k
 rw [List.filterMap_map] at this
 have e2:((fun x=>xs[x]?) ∘ fun x=>i + x) = fun m=>xs[i + m]?:=rfl
 rw [e2] at this
 rw [this]
theorem getItem_tuple_cut {t sl:Addr} {items:Array Value} {vl vu:Value} {lo hi:Option Int} {Q:VS7} (ht:IsTup s.heap t items) (hs:s.heap.IsSliceOf sl vl vu .none) (pl:IsPart vl lo) (pu:IsPart vu hi)
  (hw:¬ (sIx items.size 0 lo = 0 /\ sIx items.size items.size hi = items.size))
  (h:Q (.ref s.heap.objs.size) { s with heap:=s.heap.push { cls:=.type "tuple",data:=.seq ((items.toList.drop (sIx items.size 0 lo)).take (sIx items.size items.size hi - sIx items.size 0 lo)).toArray } })
  (hsz:items.size <= sizeLine):wpAny (model prog w) A (getItem (.ref t) (.ref sl)) Q E s:=by
 have htake:sizeOk (.seq ((items.toList.drop (sIx items.size 0 lo)).take (sIx items.size items.size hi - sIx items.size 0 lo)).toArray):=by
  show ((items.toList.drop (sIx items.size 0 lo)).take (sIx items.size items.size hi - sIx items.size 0 lo)).toArray.size <= sizeLine
  rw [List.size_toArray,List.length_take,List.length_drop,Array.length_toList]
  omega
 have hj:sIx items.size items.size hi <= items.size:=Xw _ _ (Nat.le_refl _) hi
 obtain ⟨os,hos,hcs,hds⟩:=id hs
 have hTs:s.TypeIs (.ref sl) "slice":=⟨os,hos,hcs⟩
 unfold getItem
 try with_reducible refine wpAny_holding ?_
 first | refine wpAny_bind (wpAny_pure ?_) | skip
 refine wpAny_bind (wpAny_sequenceKey ht.typeIs (by decide) ?_)
 refine wpAny_bind (wpAny_callSpecial?_slot (name:=Str.ofString "__getitem__") ht.typeIs PyProof.Rows.slot_tuple_getitem
  (wpAny_call_entry PyProof.Rows.slot_tuple_getitem ht.typeIs entry_tuple_getitem ?_ (args_tuple_getitem _ _)))
 show wpAny _ _ (Builtin.Tuple.tupleItemsOf (.ref t) >>= _) _ _ s
 refine wpAny_bind (tupleItemsOf_ ht ?_)
 refine wpAny_bind (wpAny_typeOf hTs ?_)
 rw [if_pos (by decide)]
 refine wpAny_bind (xt hs pl pu ?_)
 have hno:¬ ((((sIx items.size 0 lo:Nat):Int) == 0 && (1:Int) == 1 && (sIx items.size items.size hi - sIx items.size 0 lo) == items.size) = true):=by
  intro q
  rw [Bool.and_eq_true,Bool.and_eq_true] at q
  have q1:((sIx items.size 0 lo:Nat):Int) = 0:=eq_of_beq q.1.1
  have q2:sIx items.size items.size hi - sIx items.size 0 lo = items.size:=eq_of_beq q.2
  exact hw ⟨by omega,by omega⟩
 show wpAny _ _ (if (((sIx items.size 0 lo:Nat):Int) == 0 && (1:Int) == 1 && (sIx items.size items.size hi - sIx items.size 0 lo) == items.size) = true then _ else _) _ _ s
 rw [if_neg hno,ZQ]
 first
  | exact wpAny_bind (m:=Builtin.Tuple.tupleExact _) (wpAny_newObj_type (wpAny_pure ⟨_,rfl,wpAny_pure h⟩) htake)
  | exact wpAny_bind (m:=Builtin.Tuple.tupleExact _) (wpAny_newObj_type (wpAny_bind (wpAny_pure (wpAny_pure ⟨_,rfl,wpAny_pure h⟩))) htake)
  | exact wpAny_bind (wpAny_bind (m:=Builtin.Tuple.tupleExact _) (wpAny_newObj_type (wpAny_pure (wpAny_pure ⟨_,rfl,wpAny_pure h⟩)) htake))
  | exact wpAny_bind (wpAny_bind (m:=Builtin.Tuple.tupleExact _) (wpAny_newObj_type (wpAny_pure ⟨_,rfl,wpAny_pure h⟩) htake))
end
end HT
namespace L2
open PySem PySem.Spec PyProof.Rows
abbrev TO:=St -> Hp -> (Option Int -> Hp -> Prop) -> Prop
def PO (X:Cx) (e:Option Expr) (t:TO):Prop :=
 ∀ (pins:List (Addr × Obj)) (s:Shared) (σ:St) (H:Hp) (Q:Option Int -> Hp -> Prop),Inv X pins σ H s -> t σ H Q →
  wpAny (model X.prog X.w) X.A (evalPart e X.env) (fun u s'=>∃ o H',Inv X pins σ H' s' /\ IsPart u o /\ Q o H') X.xe s
def sM:TO:=fun _ H Q=>Q none H
def YK (t:TE):TO:=fun σ H Q=>t σ H fun x H1=>∃ i,x = .int i /\ Q (some i) H1
section
variable {X:Cx} {e:Expr} {te:TE} {lo hi:Option Expr} {tl th:TO} {pos p2:Pos}
theorem yN:PO X none sM:=by
 intro pins s σ H Q I h
 rw [evalPart_none]
 exact wpAny_pure ⟨none,H,I,.none,h⟩
theorem yA (h:PE X e te):PO X (some e) (YK te):=by
 intro pins s σ H Q I hw
 rw [evalPart_some]
 refine thn (h pins s σ H _ I hw) fun u s1 ⟨x,H1,I1,r1,q1⟩=>?_
 obtain ⟨i,rfl,q⟩:=q1
 obtain ⟨t,rfl⟩:=r1
 exact ⟨some i,H1,I1,.int i t,q⟩
def SlR (X:Cx) (r:V -> Option Int -> Option Int -> Hp -> VK -> Prop):Prop :=
 ∀ (pins:List (Addr × Obj)) (s:Shared) (σ:St) (H:Hp) (x:V) (v vl vu:Value) (lo hi:Option Int) (sl:Addr) (Q:VK),Inv X pins σ H s -> RelV x v -> s.heap.IsSliceOf sl vl vu .none -> IsPart vl lo -> IsPart vu hi -> r x lo hi H Q →
  ∃ T id,typeLookup (.type T) "__getitem__" = pure (some (.builtin id)) /\ s.TypeIs v T /\ wpAny (model X.prog X.w) X.A (getItem v (.ref sl)) (EP X pins σ Q) X.xe s
def tSl (r:V -> Option Int -> Option Int -> Hp -> VK -> Prop) (te:TE) (tl th:TO):TE:=fun σ H Q=>te σ H fun x H1=>tl σ H1 fun l H2=>th σ H2 fun u H3=>r x l u H3 Q
theorem yk {r:V -> Option Int -> Option Int -> Hp -> VK -> Prop} (hr:SlR X r) (he:PE X e te) (hl:PO X lo tl) (hu:PO X hi th):PE X (.Subscript e (.Slice lo hi none p2) pos) (tSl r te tl th):=by
 intro pins s σ H Q I h
 refine Subscript_ (thn (he pins s σ H _ I h) fun v s1 ⟨x,H1,I1,r1,q1⟩=>?_)
 refine wpAny_Slice (thn (hl pins s1 σ H1 _ I1 q1) fun vl s2 ⟨l,H2,I2,pl,q2⟩=>thn (hu pins s2 σ H2 _ I2 q2) fun vu s3 ⟨u,H3,I3,pu,q3⟩=>?_)
 rw [evalPart_none]
 refine wpAny_pure ?_
 have I4:Inv X pins σ H3 { s3 with heap:=s3.heap.push { cls:=.type "slice",data:=.fields #[vl,vu,.none] } }:=I3.kept (t':=s3.toks) fun b ob q=>Heap.get?_push_of_some _ q
 obtain ⟨T,id,hT,ht,hg⟩:=hr pins { s3 with heap:=s3.heap.push { cls:=.type "slice",data:=.fields #[vl,vu,.none] } } σ H3 x v vl vu l u s3.heap.objs.size Q I4 r1 (Heap.IsSliceOf.new ..) pl pu q3
 show wpAny (model X.prog X.w) X.A (subscriptTail e (.Slice lo hi none p2) v (.ref s3.heap.objs.size)) (EP X pins σ Q) X.xe { s3 with heap:=s3.heap.push { cls:=.type "slice",data:=.fields #[vl,vu,.none] } }
 exact tail_any (ops:=[.ref s3.heap.objs.size,v]) ht hT hg (by with_unfolding_all rfl)
def cutV (xs:List V) (lo hi:Option Int):List V:=(xs.drop (HT.sIx xs.length 0 lo)).take (HT.sIx xs.length xs.length hi - HT.sIx xs.length 0 lo)
theorem vE (xs:List V) (lo hi:Option Int):(cutV xs lo hi).length <= xs.length:=by
 unfold cutV
 rw [List.length_take,List.length_drop]
 omega
def rSlT (K:FG7):V -> Option Int -> Option Int -> Hp -> VK -> Prop:=fun x lo hi H Q=>∃ a xs,x = .ref a /\ SqT K H a xs ∧
 ¬ (HT.sIx xs.length 0 lo = 0 /\ HT.sIx xs.length xs.length hi = xs.length) /\ ∀ p,H p = none -> Q (.ref p) (upd H p (.tup (cutV xs lo hi)))
theorem Xx:SlR X (rSlT X.K):=by
 intro pins s σ H x v vl vu lo hi sl Q I rx hs pl pu h
 obtain ⟨a,xs,rfl,hx,hw,q⟩:=h
 cases rx
 obtain ⟨its,r,ht,hz⟩:=I.tuple hx
 have hlen:its.toArray.size = xs.length:=by rw [List.size_toArray]; exact r.length.symm
 refine ⟨"tuple",_,PyProof.Rows.slot_tuple_getitem.lookup,ht.typeIs,?_⟩
 refine HT.getItem_tuple_cut ht hs pl pu (by rw [hlen]; exact hw) ?_ (by rw [hlen]; exact hz)
 rw [hlen]
 refine ⟨.ref s.heap.objs.size,_,I.laid (t':=s.toks) (o:=.tup (cutV xs lo hi)) (fun b ob q=>Heap.get?_push_of_some _ q) (Nat.le_refl _) ?_,rfl,q _ (I.hok.fresh (Nat.le_refl _))⟩
 exact ⟨Nat.le_trans (vE xs lo hi) hz,_,(r.drop (HT.sIx xs.length 0 lo)).take (HT.sIx xs.length xs.length hi - HT.sIx xs.length 0 lo),IsTup.new _ _⟩
def Wj (K:FG7):R2:=fun x y H Q=>∃ a b xs ys,x = .ref a /\ y = .ref b /\ SqT K H a xs /\ SqT K H b ys /\ xs ≠ [] /\ xs.length + ys.length <= sizeLine ∧
 (ys = [] -> Q (.ref a) H) /\ (ys ≠ [] -> ∀ p,H p = none -> Q (.ref p) (upd H p (.tup (xs ++ ys))))
theorem Vals.nil_iff {xs:List V} {us:List Value} (r:Vals xs us):us = [] ↔ xs = []:=by
 cases r with
 | nil=>simp
 | cons _ _=>simp
theorem YL:OpR X (binaryOp .Add) (Wj X.K):=by
 intro pins s σ H x y v u Q I rx ry h
 obtain ⟨a,b,xs,ys,rfl,rfl,ha,hb,hx,hz,q1,q2⟩:=h
 cases rx
 cases ry
 obtain ⟨its,r1,p1,_⟩:=I.tuple ha
 obtain ⟨its2,r2,p2,_⟩:=I.tuple hb
 refine HT.cat_tup p1 p2 (fun z=>hx (r1.nil_iff.mp z)) (fun z=>⟨.ref a,H,I,rfl,q1 (r2.nil_iff.mp z)⟩) (fun z=>?_) (by rw [← r1.length,← r2.length]; exact hz)
 refine ⟨.ref s.heap.objs.size,_,I.laid (t':=s.toks) (o:=.tup (xs ++ ys)) (fun b ob q=>Heap.get?_push_of_some _ q) (Nat.le_refl _) ?_,rfl,q2 (fun w=>z (r2.nil_iff.mpr w)) _ (I.hok.fresh (Nat.le_refl _))⟩
 exact ⟨by rw [List.length_append]; exact hz,_,r1.append r2,IsTup.new _ _⟩
end
end L2
namespace L2
open PySem PySem.Spec PyProof.Rows
def ixN (n:Nat) (i:Int):Option Nat:=if 0 <= i then (if i < n then some i.toNat else none) else if -(n:Int) <= i then some (i + n).toNat else none
def atI {α:Type} (xs:List α) (i:Int):Option α:=(ixN xs.length i).bind fun j=>xs[j]?
theorem jy {n:Nat} {i:Int} {j:Nat} (h:ixN n i = some j):seqIndex? i n = some j /\ j < n /\ -(n:Int) <= i /\ i < n:=by
 unfold ixN at h
 by_cases h0:0 <= i
 ·rw [if_pos h0] at h
  by_cases h1:i < n
  ·rw [if_pos h1] at h
   have e:i.toNat = j:=Option.some.inj h
   exact ⟨by rw [seqIndex_of h0 h1,e],by omega,by omega,h1⟩
  ·rw [if_neg h1] at h; cases h
 ·rw [if_neg h0] at h
  by_cases h1:-(n:Int) <= i
  ·rw [if_pos h1] at h
   have e:(i + n).toNat = j:=Option.some.inj h
   exact ⟨by rw [seqIndex_neg (by omega) h1,e],by omega,h1,by omega⟩
  ·rw [if_neg h1] at h; cases h
theorem jz {α:Type} {xs:List α} {i:Int} {v:α} (h:atI xs i = some v):∃ j,seqIndex? i xs.length = some j /\ xs[j]? = some v /\ j < xs.length /\ -(xs.length:Int) <= i /\ i < xs.length:=by
 unfold atI at h
 cases e:ixN xs.length i with
 | none=>rw [e] at h; cases h
 | some j =>
  rw [e] at h
  obtain ⟨h1,h2,h3,h4⟩:=jy e
  exact ⟨j,h1,h,h2,h3,h4⟩
theorem zT {α:Type} {xs:List α} {j:Nat} {v:α} (h:xs[j]? = some v):atI xs (j:Int) = some v:=by
 have hj:j < xs.length:=(List.getElem?_eq_some_iff.mp h).1
 have e:ixN xs.length (j:Int) = some j:=by
  unfold ixN
  rw [if_pos (by omega),if_pos (by omega)]; simp
 unfold atI; rw [e]; exact h
def YM (b:Expr):Prop:=∀ o i,subscripted b false o i = operate [o,i] (getItem o i)
def IxR (X:Cx) (r:R2):Prop :=
 ∀ (value slice:Expr) (pins:List (Addr × Obj)) (s:Shared) (σ:St) (H:Hp) (x y:V) (v u:Value) (Q:VK),Inv X pins σ H s -> RelV x v -> RelV y u -> r x y H Q →
  subscripted slice false v u = operate [v,u] (getItem v u) -> wpAny (model X.prog X.w) X.A (subscriptTail value slice v u) (EP X pins σ Q) X.xe s
def MtR (X:Cx) (id:String) (r:V -> List V -> Hp -> VK -> Prop):Prop :=
 ∀ (pins:List (Addr × Obj)) (s:Shared) (σ:St) (H:Hp) (x:V) (xs:List V) (v:Value) (us:List Value) (Q:VK),Inv X pins σ H s -> RelV x v -> Vals xs us -> r x xs H Q →
  wpAny (model X.prog X.w) X.A (call (.builtin id) (v :: us)) (EP X pins σ Q) X.xe s
section
variable {X:Cx} {a b:Expr} {ta tb:TE} {pos:Pos}
theorem zK {r:R2} (hr:IxR X r) (ha:PE X a ta) (hb:PE X b tb) (hs:YM b):PE X (.Subscript a b pos) (tOp r ta tb):=by
 intro pins s σ H Q I h
 exact Subscript_ (binT ha hb I h fun v u s2 x y H2 I2 rx ry q=>hr a b pins s2 σ H2 x y v u Q I2 rx ry q (hs _ _))
def rIxL (K:FG7):R2:=fun x y H Q=>∃ p xs i v,x = .ref p /\ y = .int i /\ SqL K H p xs /\ atI xs i = some v /\ Q v H
def rIxT (K:FG7):R2:=fun x y H Q=>∃ p xs i v,x = .ref p /\ y = .int i /\ SqT K H p xs /\ atI xs i = some v /\ Q v H
theorem zU:IxR X (rIxL X.K):=by
 intro value slice pins s σ H x y v u Q I rx ry h hs
 obtain ⟨p,xs,i,z,rfl,rfl,hq,he,q⟩:=h
 cases rx
 obtain ⟨t,rfl⟩:=ry
 obtain ⟨its,r,pl,hz⟩:=I.list hq
 obtain ⟨j,h1,h2,h3,h4,h5⟩:=jz he
 obtain ⟨w,ew,rw'⟩:=r.get h2
 have hl:=r.length
 have hn:=tG
 have fin:EP X pins σ Q w s:=⟨z,H,I,rw',q⟩
 by_cases h0:0 <= i
 ·have hj:i.toNat = j:=by
   rw [seqIndex_of h0 h5] at h1
   exact Option.some.inj h1
  exact item_listR pl.isList h0 (by omega) (by rw [hj]; simpa using ew) fin hs
 ·have hj:(i + (its.toArray.size:Int)).toNat = j:=by
   rw [seqIndex_neg (by omega) h4] at h1
   rw [List.size_toArray,← hl]
   exact Option.some.inj h1
  exact subscriptTail_builtinR (x:=w) pl.isList.typeIs slot_list_getitem.lookup
   (wpAny_getItem_list_neg (Q:=fun r s'=>r = w /\ EP X pins σ Q r s') pl.isList (by omega) (by rw [List.size_toArray] <;> omega) (by omega) (by rw [hj]; simpa using ew) ⟨rfl,fin⟩) hs
theorem zS:IxR X (rIxT X.K):=by
 intro value slice pins s σ H x y v u Q I rx ry h hs
 obtain ⟨p,xs,i,z,rfl,rfl,hq,he,q⟩:=h
 cases rx
 obtain ⟨t,rfl⟩:=ry
 obtain ⟨its,r,pl,hz⟩:=I.tuple hq
 obtain ⟨j,h1,h2,h3,h4,h5⟩:=jz he
 obtain ⟨w,ew,rw'⟩:=r.get h2
 have hl:=r.length
 have hn:=tG
 have fin:EP X pins σ Q w s:=⟨z,H,I,rw',q⟩
 exact subscriptTail_builtinR (x:=w) pl.typeIs slot_tuple_getitem.lookup
  (getItem_tuple (j:=j) (Q:=fun r s'=>r = w /\ EP X pins σ Q r s') pl (by omega) (by omega) (by rw [List.size_toArray,← hl]; exact h1) (by simpa using ew) ⟨rfl,fin⟩) hs
theorem qC (its:List Value) (n j:Nat) (u:Value):Obj.mapSeq (·.setIfInBounds j u) { cls:=.type "list",data:=.seq its.toArray n } = { cls:=.type "list",data:=.seq (its.set j u).toArray n }:=by
 simp [Obj.mapSeq]
theorem Inv.lst {pins:List (Addr × Obj)} {σ:St} {H:Hp} {s:Shared} {p:Addr} {xs:List V} (I:Inv X pins σ H s) (h:H p = some (.lst xs)) :
  ∃ (its:List Value) (n:Nat),Vals xs its /\ s.heap.get? p = some { cls:=.type "list",data:=.seq its.toArray n } /\ xs.length <= sizeLine:=by
 obtain ⟨z,its,n,r,e⟩:=I.hok p _ h
 exact ⟨its,n,r,e,z⟩
theorem Inv.lstUpd {pins:List (Addr × Obj)} {σ:St} {H:Hp} {s:Shared} {p:Addr} {xs ys:List V} {its its':List Value} {n n':Nat} {f:Obj -> Obj} (I:Inv X pins σ H s) (h:H p = some (.lst xs))
  (ho:s.heap.get? p = some { cls:=.type "list",data:=.seq its.toArray n }) (hf:f { cls:=.type "list",data:=.seq its.toArray n } = { cls:=.type "list",data:=.seq its'.toArray n' }) (r:Vals ys its') (hz:ys.length <= sizeLine) (t:Nat) :
  Inv X pins σ (upd H p (.lst ys)) { s with heap:=s.heap.update p f,toks:=t }:=by
 have e:(s.heap.update p f).get? p = some { cls:=.type "list",data:=.seq its'.toArray n' }:=by
  rw [Heap.get?_update_self f ho (by rw [hf] <;> rfl),hf]
 refine I.write (x:=p) (e:=p) (by rw [h]; trivial) (.inl rfl) (fun b u hb q=>(Heap.get?_update_other _ _ (Ne.symm hb)).trans q) ⟨_,e⟩ ?_
 exact ⟨hz,its',n',r,e⟩
def Wl:V -> V -> V -> Hp -> (Hp -> Prop) -> Prop:=fun o i v H Q=>∃ p xs k j,o = .ref p /\ i = .int k /\ H p = some (.lst xs) /\ ixN xs.length k = some j /\ Q (upd H p (.lst (xs.set j v)))
theorem vi:PSet X Wl:=by
 intro pins s σ H o i v ov iv u Q I ro ri rv h
 obtain ⟨p,xs,k,j,rfl,rfl,hp,hj,q⟩:=h
 cases ro
 obtain ⟨t,rfl⟩:=ri
 obtain ⟨its,n,r,ho,hz⟩:=I.lst hp
 obtain ⟨h1,h2,h3,h4⟩:=jy hj
 have hl:=r.length
 have hn:=tG
 have I':Inv X pins σ (upd H p (.lst (xs.set j v))) { s with heap:=s.heap.update p (Obj.mapSeq (·.setIfInBounds j u)) } :=
  I.lstUpd hp ho (qC its n j u) (r.set rv j) (by rw [List.length_set]; exact hz) s.toks
 by_cases h0:0 <= k
 ·have hk:k.toNat = j:=by
   rw [seqIndex_of h0 h4] at h1
   exact Option.some.inj h1
  exact PySem.W.ki_setAt ho h0 (by omega) (by rw [List.size_toArray,← hl]; exact h4) (by rw [hk]; exact ⟨_,I',q⟩)
 ·have hk:(k + (its.toArray.size:Int)).toNat = j:=by
   rw [seqIndex_neg (by omega) h3] at h1
   rw [List.size_toArray,← hl]
   exact Option.some.inj h1
  exact PySem.W.ki_setBack ho (by omega) (by rw [List.size_toArray,← hl]; exact h3) (by omega) (by rw [hk]; exact ⟨_,I',q⟩)
def xW:V -> Bool
 | .non=>true
 | .bl _=>true
 | .int _=>true
 | .str _=>true
 | _=>false
def eqV:V -> V -> Bool
 | .non,.non=>true
 | .bl a,.bl b=>a == b
 | .bl a,.int b=>(if a then 1 else 0) == b
 | .int a,.bl b=>a == (if b then 1 else 0)
 | .int a,.int b=>a == b
 | .str a,.str b=>a == b
 | _,_=>false
theorem Yn {A:Around} {s:Shared} {y x:V} {u v:Value} (ry:RelV y u) (rx:RelV x v) (fy:xW y = true) (fx:xW x = true):SeqAt.EqAt A s u v (eqV y x):=by
 cases y with
 | non =>
  cases ry
  cases x with
  | non=>cases rx; exact SeqAt.EqAt.same _
  | bl b=>cases rx; exact SeqAt.EqAt.none_bool b
  | int b=>obtain ⟨t,rfl⟩:=rx; exact SeqAt.EqAt.none_int b t
  | str b=>obtain ⟨t,rfl⟩:=rx; exact SeqAt.EqAt.none_str b t
  | _=>exact absurd (show false = true from fx) Bool.false_ne_true
 | bl a =>
  cases ry
  cases x with
  | non=>cases rx; exact SeqAt.EqAt.bool_none a
  | bl b=>cases rx; exact SeqAt.EqAt.bool_bool a b
  | int b=>obtain ⟨t,rfl⟩:=rx; exact SeqAt.EqAt.bool_int a b t
  | str b=>obtain ⟨t,rfl⟩:=rx; exact SeqAt.EqAt.bool_str a b t
  | _=>exact absurd (show false = true from fx) Bool.false_ne_true
 | int a =>
  obtain ⟨t',rfl⟩:=ry
  cases x with
  | non=>cases rx; exact SeqAt.EqAt.int_none a t'
  | bl b=>cases rx; exact SeqAt.EqAt.int_bool a t' b
  | int b=>obtain ⟨t,rfl⟩:=rx; exact SeqAt.EqAt.int_int a t' b t
  | str b=>obtain ⟨t,rfl⟩:=rx; exact SeqAt.EqAt.int_str a t' b t
  | _=>exact absurd (show false = true from fx) Bool.false_ne_true
 | str a =>
  obtain ⟨t',rfl⟩:=ry
  cases x with
  | non=>cases rx; exact SeqAt.EqAt.str_none a t'
  | bl b=>cases rx; exact SeqAt.EqAt.str_bool a t' b
  | int b=>obtain ⟨t,rfl⟩:=rx; exact SeqAt.EqAt.str_int a t' b t
  | str b=>obtain ⟨t,rfl⟩:=rx; exact SeqAt.EqAt.str_str a t' b t
  | _=>exact absurd (show false = true from fx) Bool.false_ne_true
 | _=>exact absurd (show false = true from fy) Bool.false_ne_true
def eqU (x:V) (u:Value):Bool:=match u with
 | .none=>eqV .non x
 | .bool b=>eqV (.bl b) x
 | .int i _=>eqV (.int i) x
 | .str z _=>eqV (.str z) x
 | _=>false
theorem Yo {x y:V} {u:Value} (r:RelV y u) (f:xW y = true):eqU x u = eqV y x:=by
 cases y with
 | non=>cases r; rfl
 | bl b=>cases r; rfl
 | int i=>obtain ⟨t,rfl⟩:=r; rfl
 | str z=>obtain ⟨t,rfl⟩:=r; rfl
 | _=>exact absurd (show false = true from f) Bool.false_ne_true
theorem sN {x:V}:∀ {xs:List V} {us:List Value},Vals xs us -> xs.all xW = true -> us.any (eqU x) = xs.any fun y=>eqV y x
 | _,_,.nil,_=>rfl
 | y :: xs,u :: us,.cons r t,f=>by
  rw [List.all_cons,Bool.and_eq_true] at f
  rw [List.any_cons,List.any_cons,Yo r f.1,sN t f.2]
theorem uI {A:Around} {s:Shared} {x:V} {v:Value} (rx:RelV x v) (fx:xW x = true):∀ {xs:List V} {us:List Value},Vals xs us -> xs.all xW = true -> ∀ u ∈ us,SeqAt.EqAt A s u v (eqU x u)
 | _,_,.nil,_=>fun u hu=>by cases hu
 | y :: xs,u :: us,.cons r t,f=>fun u' hu=>by
  rw [List.all_cons,Bool.and_eq_true] at f
  rcases List.mem_cons.mp hu with rfl | hu
  ·rw [Yo r f.1]; exact Yn r rx f.1 fx
  ·exact uI rx fx t f.2 u' hu
def inV (x:V) (xs:List V):Bool:=xs.any fun y=>eqV y x
def rIn (K:FG7) (neg:Bool):R2:=fun x y H Q=>∃ p xs,y = .ref p /\ (SqL K H p xs \/ SqT K H p xs) /\ xW x = true /\ xs.all xW = true /\ Q (.bl (if neg then !inV x xs else inV x xs)) H
theorem jA:OpR X (compareOp .In) (rIn X.K false):=by
 intro pins s σ H x y v u Q I rx ry h
 obtain ⟨p,xs,rfl,hq,fx,fs,q⟩:=h
 cases ry
 rcases hq with hq | hq
 ·obtain ⟨its,r,pl,hz⟩:=I.list hq
  refine SeqAt.in_listAt (eqU x) pl.isList (fun w hw=>uI rx fx r fs w (by simpa using hw)) ⟨.bl _,H,I,rfl,?_⟩
  rw [show its.toArray.any (eqU x) = its.any (eqU x) by simp,sN r fs]
  exact q
 ·obtain ⟨its,r,pl,hz⟩:=I.tuple hq
  refine SeqAt.in_tupleAt (eqU x) pl (fun w hw=>uI rx fx r fs w (by simpa using hw)) ⟨.bl _,H,I,rfl,?_⟩
  rw [show its.toArray.any (eqU x) = its.any (eqU x) by simp,sN r fs]
  exact q
theorem zo:xU X (.builtin "len") (fun xs H Q=>∃ p ys,xs = [.ref p] /\ (SqL X.K H p ys \/ SqT X.K H p ys) /\ Q (.int ys.length) H):=by
 intro pins s σ H xs us Q I r h
 obtain ⟨p,ys,rfl,hq,q⟩:=h
 obtain ⟨u,rfl,rx⟩:=wI r
 cases rx
 have hn:=tG
 rcases hq with hq | hq
 ·obtain ⟨its,r',pl,hz⟩:=I.list hq
  have hlen:=r'.length
  exact Calls.call_len_list pl.isList (by simp only [List.size_toArray] <;> omega) ⟨.int ys.length,H,I.tok _,⟨s.toks + 1,by rw [List.size_toArray,hlen]⟩,q⟩
 ·obtain ⟨its,r',pl,hz⟩:=I.tuple hq
  have hlen:=r'.length
  exact len_tuple pl (by simp only [List.size_toArray] <;> omega) ⟨.int ys.length,H,I.tok _,⟨s.toks + 1,by rw [List.size_toArray,hlen]⟩,q⟩
theorem tN:xU X (.type "list") (fun xs H Q=>∃ p ys,xs = [.ref p] /\ (SqL X.K H p ys \/ SqT X.K H p ys) /\ ∀ l,H l = none -> Q (.ref l) (upd H l (.lst ys))):=by
 intro pins s σ H xs us Q I r h
 obtain ⟨p,ys,rfl,hq,q⟩:=h
 obtain ⟨u,rfl,rx⟩:=wI r
 cases rx
 have fin:∀ (its:List Value),Vals ys its -> ys.length <= sizeLine -> ∀ (h':Heap) (c':Nat),(∀ b o',s.heap.get? b = some o' -> h'.get? b = some o') →
   h'.get? s.heap.objs.size = some { cls:=.type "list",dict:=none,data:=.seq its.toArray c',slots:=#[] } -> EP X pins σ Q (.ref s.heap.objs.size) { s with heap:=h' }:=fun its r' hz h' c' kp e =>
  ⟨.ref s.heap.objs.size,_,I.laid (t':=s.toks) kp (Nat.le_refl _) (show yu X.prog X.w _ h' _ (.lst ys) from ⟨hz,its,c',r',e⟩),rfl,q _ (I.hok.fresh (Nat.le_refl _))⟩
 rcases hq with hq | hq
 ·obtain ⟨its,r',pl,hz⟩:=I.list hq
  have hlen:=r'.length
  obtain ⟨o,ho,hc,n,hd⟩:=pl.isList
  exact call_list_seq p (.inl rfl) ho hc hd (fun h' c' kp e=>fin its r' hz h' c' kp e) (by simp only [List.size_toArray] <;> omega)
 ·obtain ⟨its,r',pl,hz⟩:=I.tuple hq
  have hlen:=r'.length
  obtain ⟨o,ho,hc,n,hd⟩:=pl
  exact call_list_seq p (.inr rfl) ho hc hd (fun h' c' kp e=>fin its r' hz h' c' kp e) (by simp only [List.size_toArray] <;> omega)
theorem zW:xU X (.type "tuple") (fun xs H Q=>∃ p ys,xs = [.ref p] /\ ((SqL X.K H p ys /\ ∀ l,H l = none -> Q (.ref l) (upd H l (.tup ys))) \/ (SqT X.K H p ys /\ Q (.ref p) H))):=by
 intro pins s σ H xs us Q I r h
 obtain ⟨p,ys,rfl,h⟩:=h
 obtain ⟨u,rfl,rx⟩:=wI r
 cases rx
 rcases h with ⟨hq,q⟩ | ⟨hq,q⟩
 ·obtain ⟨its,r',pl,hz⟩:=I.list hq
  have hlen:=r'.length
  refine call_tuple_list pl.isList (fun h' kp=>?_) (by simp only [List.size_toArray] <;> omega)
  have I1:Inv X pins σ H { s with heap:=h' }:=I.kept (t':=s.toks) kp
  have I2:Inv X pins σ (upd H h'.objs.size (.tup ys)) { s with heap:=h'.push { cls:=.type "tuple",data:=.seq its.toArray } } :=
   I1.laid (t':=s.toks) (fun b o e=>Heap.get?_push_of_some _ e) (Nat.le_refl _) (show yu X.prog X.w _ _ _ (.tup ys) from ⟨hz,its,r',IsTup.new _ _⟩)
  exact ⟨.ref h'.objs.size,_,I2,rfl,q _ (I1.hok.fresh (Nat.le_refl _))⟩
 ·obtain ⟨its,r',pl,hz⟩:=I.tuple hq
  exact call_tuple_same pl ⟨.ref p,H,I,rfl,q⟩
def tyV (K:FG7) (T:String) (x:V) (H:Hp):Prop:=match x with
 | .str _=>T = "str"
 | .int _=>T = "int"
 | .ref p=>(T = "list" /\ ∃ xs,SqL K H p xs) \/ (T = "tuple" /\ ∃ o,K.lookup p = some o /\ o.cls = .type "tuple" /\ o.dict = none) ∨
   (T = "dict" /\ ((∃ kvs,H p = some (.dK kvs)) \/ ∃ kvs,H p = some (.dT kvs))) \/ (T = "set" /\ ∃ S n,H p = some (.set S n))
 | _=>False
theorem Yp {pins:List (Addr × Obj)} {σ:St} {H:Hp} {s:Shared} {T:String} {x:V} {v:Value} (I:Inv X pins σ H s) (r:RelV x v) (ty:tyV X.K T x H) :
  s.TypeIs v T /\ ∀ a,v = .ref a -> ∃ ob,s.heap.get? a = some ob /\ ob.dict = none:=by
 cases x with
 | str z =>
  obtain ⟨t,rfl⟩:=r
  cases (show T = "str" from ty)
  exact ⟨typeIs_str s z t,fun _ e=>nomatch e⟩
 | int i =>
  obtain ⟨t,rfl⟩:=r
  cases (show T = "int" from ty)
  exact ⟨typeIs_int s i t,fun _ e=>nomatch e⟩
 | ref p =>
  cases r
  rcases ty with ⟨rfl,xs,hq⟩ | ⟨rfl,o,hk,hc,hd⟩ | ⟨rfl,hk⟩ | ⟨rfl,S,n,hk⟩
  ·obtain ⟨its,_,pl,_⟩:=I.list hq
   refine ⟨pl.isList.typeIs,fun a e=>?_⟩
   cases e
   obtain ⟨o,n,e,c,hd,_⟩:=pl
   exact ⟨o,e,hd⟩
  ·refine ⟨⟨o,I.kIn p o hk,hc⟩,fun a e=>?_⟩
   cases e
   exact ⟨o,I.kIn _ o hk,hd⟩
  ·have z:∃ o,s.heap.get? p = some o /\ o.ExactDict:=by
    rcases hk with ⟨kvs,hk⟩ | ⟨kvs,hk⟩
    ·obtain ⟨_,_,_,_,o,_,_,e,ex,_⟩:=I.hok p _ hk
     exact ⟨o,e,ex⟩
    ·obtain ⟨_,_,_,_,o,_,_,e,ex,_⟩:=I.hok p _ hk
     exact ⟨o,e,ex⟩
   obtain ⟨o,e,ex⟩:=z
   refine ⟨⟨o,e,ex.1⟩,fun a e2=>?_⟩
   cases e2
   exact ⟨o,e,ex.2.1⟩
  ·obtain ⟨o,_,_,_,e,ex,_⟩:=I.hok p _ hk
   refine ⟨⟨o,e,ex.1⟩,fun a e2=>?_⟩
   cases e2
   exact ⟨o,e,ex.2.1⟩
 | _=>exact False.elim ty
def tBM0 (K:FG7) (T:String) (r:V -> List V -> Hp -> VK -> Prop) (to:TE):TE:=fun σ H Q=>to σ H fun x H1=>tyV K T x H1 /\ r x [] H1 Q
def tBM (K:FG7) (T:String) (r:V -> List V -> Hp -> VK -> Prop) (to:TE) (t:TA):TE:=fun σ H Q=>to σ H fun x H1=>tyV K T x H1 /\ t σ H1 fun xs H2=>r x xs H2 Q
variable {o e:Expr} {es:List Expr} {to:TE} {t:TA} {name:Str} {apos cpos:Pos} {T id:String} {r:V -> List V -> Hp -> VK -> Prop}
theorem Xy (pa:PlainAttrs T) (slot:Slot T name id) (hty:typeOf (.builtin id) = pure (.type "method_descriptor")) (hm:MtR X id r) (ho:PE X o to)
  (hbase:attributeBase o name X.env (eval o X.env) = eval o X.env:=by rfl) (hline:(apos.endLine == cpos.line) = true:=by rfl):PE X (.Call (.Attribute o name apos) [] [] cpos) (tBM0 X.K T r to):=by
 intro pins s σ H Q I h
 refine wpAny_Call_method0_late hbase hline (thn (ho pins s σ H _ I h) fun v s1 ⟨x,H1,I1,r1,ty,q1⟩=>?_)
 obtain ⟨h1,h2⟩:=Yp I1 r1 ty
 exact ⟨T,id,pa,slot,hty,h1,h2,Calls.callWith_builtin rfl (PySem.evalArgs_none (hm pins s1 σ H1 x [] v [] Q I1 r1 .nil q1))⟩
theorem vF (pa:PlainAttrs T) (slot:Slot T name id) (hty:typeOf (.builtin id) = pure (.type "method_descriptor")) (hm:MtR X id r) (ho:PE X o to) (ha:PA X (e :: es) t)
  (hbase:attributeBase o name X.env (eval o X.env) = eval o X.env:=by rfl)
  (hfew:((backTo cpos (starEach (e :: es) X.env)).all (fun x=>!x.1) && (backToKw cpos (keywordEach [] X.env)).all (fun x=>x.1.isSome)
   && decide ((e :: es).length + ([]:List Keyword).length + (if ([]:List Keyword).isEmpty then 0 else 1) < 30)) = true:=by rfl)
  (hline:(apos.endLine == cpos.line) = true:=by rfl) (hs:starEach (e :: es) X.env = (false,eval e X.env) :: starEach es X.env:=by rfl) (hplain:(backTo cpos (starEach es X.env)).any (·.1) = false:=by rfl) :
  PE X (.Call (.Attribute o name apos) (e :: es) [] cpos) (tBM X.K T r to t):=by
 intro pins s σ H Q I h
 refine wpAny_Call_method_late hbase hfew hline rfl (thn (ho pins s σ H _ I h) fun v s1 ⟨x,H1,I1,r1,ty,q1⟩=>?_)
 obtain ⟨h1,h2⟩:=Yp I1 r1 ty
 refine ⟨T,id,pa,slot,hty,h1,h2,?_⟩
 have hA:=ha cpos pins s1 σ H1 _ I1 q1
 rw [hs] at hA ⊢
 refine Calls.callWith_builtin (by show (false || (backTo cpos (starEach es X.env)).any (·.1)) = false; rw [hplain] <;> rfl) (Calls.evalArgs_plain ?_)
 exact thn hA fun us s2 ⟨vs,H2,I2,r2,q2⟩=>hm pins s2 σ H2 x vs v us Q I2 r1 r2 q2
end
end L2
namespace L2
open PySem PySem.Spec PyProof.Rows
def MtM (X:Cx) (id:String) (r:V -> List V -> Hp -> VK -> Prop):Prop :=
 ∀ (pins:List (Addr × Obj)) (s:Shared) (σ:St) (H:Hp) (x:V) (xs:List V) (v:Value) (us:List Value) (Q:VK),Inv X pins σ H s -> RelV x v -> Vals xs us -> r x xs H Q →
  wpAny (model X.prog X.w) X.A (call (.builtin id) (v :: us)) (EP X pins σ Q) X.xe s
theorem Vals.one:∀ {x:V} {us:List Value},Vals [x] us -> ∃ u,us = [u] /\ RelV x u
 | _,_,.cons r .nil=>⟨_,rfl,r⟩
theorem Vals.zero:∀ {us:List Value},Vals [] us -> us = []
 | _,.nil=>rfl
theorem Vals.dropLast {xs:List V} {us:List Value} (h:Vals xs us):Vals xs.dropLast us.dropLast:=by
 induction h with
 | nil=>exact .nil
 | cons r t ih =>
  cases t with
  | nil=>exact .nil
  | cons q t'=>exact .cons r ih
theorem Vals.eraseIdx:∀ {xs:List V} {us:List Value} (i:Nat),Vals xs us -> Vals (xs.eraseIdx i) (us.eraseIdx i)
 | _,_,_,.nil=>.nil
 | _,_,0,.cons _ t=>t
 | _,_,i + 1,.cons r t=>.cons r (Vals.eraseIdx i t)
theorem Vals.reverse {xs:List V} {us:List Value} (h:Vals xs us):Vals xs.reverse us.reverse:=by
 induction h with
 | nil=>exact .nil
 | cons r t ih=>rw [List.reverse_cons,List.reverse_cons]; exact Vals.append ih (.cons r .nil)
theorem Vals.rep {xs:List V} {us:List Value} (h:Vals xs us):∀ k:Nat,Vals (List.replicate k xs).flatten (List.replicate k us).flatten
 | 0=>.nil
 | k + 1=>by
  rw [List.replicate_succ,List.replicate_succ,List.flatten_cons,List.flatten_cons]
  exact Vals.append h (Vals.rep h k)
theorem qD {α:Type} (l:List α):l.eraseIdx (l.length - 1) = l.dropLast:=by
 induction l with
 | nil=>rfl
 | cons a r ih =>
  cases r with
  | nil=>rfl
  | cons b r =>
   have e:(a :: b :: r).length - 1 = ((b :: r).length - 1) + 1:=by
    have h1:(a :: b :: r).length = r.length + 2:=rfl
    have h2:(b :: r).length = r.length + 1:=rfl
    omega
   rw [e,List.eraseIdx_cons_succ,ih]
   all_goals rfl
theorem tO (its:List Value):∀ (k:Nat) (acc:List Value),
  List.foldl (fun x1 x2=>x1 ++ x2) acc.toArray (List.replicate k its.toArray) = (acc ++ (List.replicate k its).flatten).toArray
 | 0,acc=>by simp
 | k + 1,acc=>by
  have e:acc.toArray ++ its.toArray = (acc ++ its).toArray:=by simp
  have e2:(acc ++ its) ++ (List.replicate k its).flatten = acc ++ (List.replicate (k + 1) its).flatten:=by
   rw [List.replicate_succ,List.flatten_cons,List.append_assoc]
  rw [← e2,← tO its k (acc ++ its),← e,List.replicate_succ,List.foldl_cons]
section
variable {X:Cx} {pins:List (Addr × Obj)} {σ:St} {H:Hp} {s:Shared} {l b:Addr} {xs ys zs:List V}
theorem Inv.lset {its its':List Value} {n:Nat} {f:Array Value -> Array Value} {t':Nat} (I:Inv X pins σ H s) (hH:H l = some (.lst xs))
  (e:s.heap.get? l = some { cls:=.type "list",data:=.seq its.toArray n }) (hf:f its.toArray = its'.toArray) (hv:Vals ys its') (hz:ys.length <= sizeLine) :
  Inv X pins σ (upd H l (.lst ys)) { s with heap:=s.heap.update l (Obj.mapSeq f),toks:=t' }:=by
 have q:=PySem.IsL.update e f
 rw [hf] at q
 refine I.write (x:=l) (e:=l) (by rw [hH]; exact trivial) (.inl rfl) (fun b' u hb hu=>(Heap.get?_update_other s.heap (Obj.mapSeq f) (Ne.symm hb)).trans hu) ⟨_,q⟩ ?_
 exact ⟨hz,its',_,hv,q⟩
theorem Inv.lnew {its:List Value} {t':Nat} (I:Inv X pins σ H s) (hv:Vals ys its) (hz:ys.length <= sizeLine) :
  Inv X pins σ (upd H s.heap.objs.size (.lst ys)) { s with heap:=s.heap.push { cls:=.type "list",data:=.seq its.toArray },toks:=t' } :=
 I.laid (fun _ _ q=>Heap.get?_push_of_some _ q) (Nat.le_refl _) ⟨hz,its,0,hv,Heap.get?_push_size _ rfl⟩
theorem Inv.fresh (I:Inv X pins σ H s):H s.heap.objs.size = none:=I.hok.fresh (Nat.le_refl _)
theorem Inv.lstM (I:Inv X pins σ H s) (hH:H l = some (.lst xs)):xs.length <= sizeLine /\ ∃ (its:List Value) (n:Nat),Vals xs its /\ xs.length = its.length /\ s.heap.get? l = some { cls:=.type "list",data:=.seq its.toArray n }:=by
 obtain ⟨z,its,n,r,e⟩:=I.hok l _ hH
 exact ⟨z,its,n,r,r.length,e⟩
theorem ZR {n:Nat} (h:n <= sizeLine):Builtin.List.listTooLong n = false:=by
 unfold Builtin.List.listTooLong
 exact decide_eq_false (by omega)
end
section
variable {X:Cx}
def YN:V -> List V -> Hp -> VK -> Prop:=fun x vs H Q=>∃ l xs y,x = .ref l /\ vs = [y] /\ H l = some (.lst xs) /\ xs.length < sizeLine /\ Q .non (upd H l (.lst (xs ++ [y])))
theorem yw:MtM X "list.append" YN:=by
 intro pins s σ H x vs v us Q I rx rv h
 obtain ⟨l,xs,y,rfl,rfl,hH,hz,q⟩:=h
 cases rx
 obtain ⟨u,rfl,ru⟩:=rv.one
 obtain ⟨z,its,n,r,hl,e⟩:=I.lstM hH
 refine call_meets F.slot_list_append ⟨_,e,rfl⟩ F.entry_list_append (F.args_list_append_2 _ _) (PySem.list_append l its.toArray n u (by rw [List.size_toArray]; omega)) ⟨e,?_⟩
 refine ⟨.non,_,I.lset (its':=its ++ [u]) hH e (by simp) (r.append (.cons ru .nil)) ?_,rfl,q⟩
 rw [List.length_append,List.length_singleton]
 omega
def rPop:V -> List V -> Hp -> VK -> Prop:=fun x vs H Q=>∃ l xs y,x = .ref l /\ vs = [] /\ H l = some (.lst xs) /\ xs[xs.length - 1]? = some y /\ Q y (upd H l (.lst xs.dropLast))
theorem Xz:MtM X "list.pop" rPop:=by
 intro pins s σ H x vs v us Q I rx rv h
 obtain ⟨l,xs,y,rfl,rfl,hH,hy,q⟩:=h
 cases rx
 have hus:=rv.zero
 subst hus
 obtain ⟨z,its,n,r,hl,e⟩:=I.lstM hH
 obtain ⟨u,hu,ru⟩:=r.get hy
 have hy':its.toArray[its.toArray.size - 1]? = some u:=by
  show its.toArray[its.length - 1]? = some u
  rw [← Array.getElem?_toList,← hl]
  exact hu
 refine call_meets F.slot_list_pop ⟨_,e,rfl⟩ F.entry_list_pop (F.args_list_pop_1 _) (MeetsSeq.list_pop_last l its.toArray n u hy' (by rw [List.size_toArray]; omega)) ⟨e,?_⟩
 refine ⟨y,_,I.lset (its':=its.dropLast) hH e ?_ r.dropLast ?_,ru,q⟩
 ·show its.toArray.eraseIdxIfInBounds (its.toArray.size - 1) = its.dropLast.toArray
  rw [List.size_toArray,List.eraseIdxIfInBounds_toArray,qD]
 ·rw [List.length_dropLast]
  omega
def rCat:R2:=fun x y H Q=>∃ l b xs zs,x = .ref l /\ y = .ref b /\ H l = some (.lst xs) /\ H b = some (.lst zs) /\ xs.length + zs.length <= sizeLine /\ ∀ p,H p = none -> Q (.ref p) (upd H p (.lst (xs ++ zs)))
theorem rM:OpR X (binaryOp .Add) rCat:=by
 intro pins s σ H x y v u Q I rx ry h
 obtain ⟨l,b,xs,zs,rfl,rfl,hH,hB,hz,q⟩:=h
 cases rx
 cases ry
 obtain ⟨z,its,n,r,hl,e⟩:=I.lstM hH
 obtain ⟨z2,its2,n2,r2,hl2,e2⟩:=I.lstM hB
 refine PySem.P.add_list e e2 ?_ (by rw [List.size_toArray,List.size_toArray]; omega)
 have ea:its.toArray ++ its2.toArray = (its ++ its2).toArray:=by simp
 rw [ea]
 exact ⟨.ref _,_,I.lnew (t':=s.toks) (r.append r2) (by rw [List.length_append]; omega),rfl,q _ I.fresh⟩
def rRep:R2:=fun x y H Q=>∃ l k xs,x = .ref l /\ y = .int k /\ H l = some (.lst xs) /\ -(2 ^ 63) <= k /\ k < 2 ^ 63 /\ xs.length * k.toNat <= sizeLine ∧
 ∀ p,H p = none -> Q (.ref p) (upd H p (.lst (List.replicate k.toNat xs).flatten))
theorem YO {α:Type} (xs:List α) (k:Nat):(List.replicate k xs).flatten.length = k * xs.length:=by
 induction k with
 | zero=>simp
 | succ k ih=>rw [List.replicate_succ,List.flatten_cons,List.length_append,ih,Nat.succ_mul,Nat.add_comm]
theorem XA:OpR X (binaryOp .Mult) rRep:=by
 intro pins s σ H x y v u Q I rx ry h
 obtain ⟨l,k,xs,rfl,rfl,hH,h1,h2,hz,q⟩:=h
 cases rx
 obtain ⟨t,rfl⟩:=ry
 obtain ⟨z,its,n,r,hl,e⟩:=I.lstM hH
 have hlen:its.toArray.size * k.toNat <= sizeLine:=by rw [List.size_toArray,← hl]; exact hz
 have hcap:¬ its.toArray.size * k.toNat > (2 ^ 63 - 1) / 8:=by
  have:(sizeLine:Nat) <= (2 ^ 63 - 1) / 8:=by decide
  omega
 have hfit:¬ (!Builtin.List.listFitsIndex k) = true:=by
  rw [fitsIndex_both h1 h2]
  exact Bool.false_ne_true
 have hlong:¬ Builtin.List.listTooLong (its.toArray.size * k.toNat) = true:=by
  rw [ZR hlen]
  exact Bool.false_ne_true
 have hnew:List.foldl (fun x1 x2=>x1 ++ x2) #[] (List.replicate (if its.toArray.isEmpty = true then 0 else k.toNat) its.toArray) = (List.replicate k.toNat its).flatten.toArray:=by
  have f0:∀ m:Nat,List.foldl (fun x1 x2=>x1 ++ x2) #[] (List.replicate m its.toArray) = (List.replicate m its).flatten.toArray:=fun m=>by
   have:=tO its m []
   rw [List.nil_append] at this
   exact this
  rw [f0]
  cases its with
  | nil=>simp
  | cons a r'=>rw [if_neg (by simp)]
 refine wpAny_binaryOp_repeat_ref (T:="list") (U:="int") (by decide) ⟨_,e,rfl⟩ (fun s'=>typeIs_int s' k t) noFill_list_mul F.fills_int_mul F.slot_int_rmul repeat_list F.slot_int_index.lookup
  (call_meets F.slot_int_rmul (typeIs_int s k t) F.entry_int_rmul (F.args_int_rmul_2 _ _) (int___rmul___int_list k t l its.toArray n)
   ⟨e,rfl,⟨_,e,rfl⟩,call_meets F.slot_list_mul ⟨_,e,rfl⟩ F.entry_list_mul (F.args_list_mul_2 _ _) (AutoListH.list___mul___list_int_3 l its.toArray n k t hfit hcap hlong) ⟨e,?_⟩⟩)
 rw [hnew]
 exact ⟨.ref _,_,I.lnew (t':=s.toks) (r.rep k.toNat) (by rw [YO,Nat.mul_comm]; exact hz),rfl,q _ I.fresh⟩
end
end L2
namespace Att
open PySem PySem.W PySem.Calls PyProof.Rows
theorem vG {P:Params} {h:Heap}:∀ (ns:List Int) (vs:List Value),WellAll P h vs (ns.map WData.int) -> IntsAre vs ns:=by
 intro ns
 induction ns with
 | nil =>
  intro vs w
  rw [List.map_nil] at w
  cases w
  exact .nil
 | cons n ns ih =>
  intro vs w
  rw [List.map_cons] at w
  cases w with
  | cons a b =>
   cases a
   exact .cons _ _ (ih _ b)
theorem jB {l:OpenLaw} {n:Nat} (hn:l.most = some n) {P:Params} {h:Heap} {args:List WData} {vals:List Value}
  (hpre:l.row.toRowW.claim.pre args = true) (hwl:WellAll P h vals args) :
  ∃ a vs ns,vals = [Value.ref a] /\ args = [WData.list (ns.map WData.int)] /\ h.get? a = some { cls:=.type "list",data:=.seq vs.toArray } /\ IntsAre vs ns /\ ns.length <= n:=by
 have hsh:WShape.hasAll [] args [.list .int] = true:=(pre_splitW hpre).1
 have hc:l.pre.holds [] { args:=args } = true:=(pre_splitW hpre).2
 obtain ⟨d,r,rfl,h1,h2⟩:=hasAllW_cons hsh
 obtain rfl:=hasAllW_nil h2
 obtain ⟨xs,rfl,h3⟩:=hasW_list h1
 obtain ⟨ns,rfl⟩:=items_int h3
 have hlen:ns.length <= n:=by
  unfold OpenLaw.pre at hc
  have h4:(WTm.not (.lt (.lit (.int (n:Int))) (.len (.arg 0)))).holds [] { args:=[.list (ns.map .int)] } = true:=by
   have h4:=(holds_andW hc).1
   rw [hn] at h4
   exact h4
  have h5:=condW_of h4 (w_not (w_lt w_lit (w_len_list (w_arg rfl))))
  rw [List.length_map] at h5
  refine Nat.le_of_not_lt fun q=>?_
  have q':(n:Int) < ((ns.length:Nat):Int):=by omega
  first
   | (rw [decide_eq_true q'] at h5; exact absurd h5 (by decide))
   | (simp at h5; omega)
 cases hwl with
 | cons w1 w2 =>
  cases w2
  cases w1 with
  | list ho hall=>exact ⟨_,_,ns,rfl,rfl,ho,vG ns _ hall,hlen⟩
theorem jC (l:OpenLaw) (args:List WData):l.row.toRowW.claim.post args (.bool true) args = true :=
 postW_of (r:=l.row.toRowW) (X:=(true == true))
  (show WShape.has [] (.bool true) .bool = true by first | rfl | decide | simp [WShape.has,WShape.arms,WShape.armsAll])
  (show (WTm.eq .res (.lit (.bool true))).value [] { args:=args,res:=some (.bool true),after:=args } = some (.bool (true == true)) from w_eq_bool (w_res rfl) w_lit) rfl
theorem attach_call {l:OpenLaw} {n:Nat} {q:Program} {loose:List Str} {XP:(Str -> Option Value) -> Heap -> Prop} {YP:World -> Heap -> Prop} {d:DefRec}
  (hn:l.most = some n) (hdf:d.params.defaults = [])
  (call:∀ (w:World) (s₀ s₁:Shared) (mg mb:Str -> Option Value) (fa:Addr) (o:Obj) (pm cd doc:Value) (a:Addr) (vs:List Value) (ns:List Int),
   Ground q loose [] XP w s₀ mg mb s₁.heap -> YP w s₁.heap →
   s₁.heap.get? fa = some o -> o.data = .func (docDef d.name d.params d.body d.scope pm cd doc) -> s₁.heap.CodeRec cd d.name -> mg d.name = some (.ref fa) →
   s₁.heap.get? a = some { cls:=.type "list",data:=.seq vs.toArray } -> IntsAre vs ns -> ns.length <= n -> s₁.gens = #[] →
   codeAny (model l.prog w) callerA (.call (.ref fa) ⟨[.ref a],[]⟩) (fun r s'=>r = .ok (.ret (.bool true)) /\ OldK s₁.heap s'.heap /\ s'.os = s₁.os /\ AllBare s'.gens) s₁) :
  WalkO q loose XP YP l.row.toRowW d [] (fun f vs=>PySem.call f vs):=by
 intro w s₀ s₁ mg mb G Y fa o pm cd doc dV kV ho hd hcd hD hmg hg args vals as hpre hlay hrd hwl hlo
 obtain rfl:dV = .none:=Dflts.none hD hdf
 obtain rfl:kV = .none:=Dflts.noKw hD
 obtain ⟨a,vs,ns,rfl,rfl,hobj,hints,hlen⟩:=jB hn hpre hwl
 refine enter_call (codeAny_mono (call w s₀ s₁ mg mb fa o pm cd doc a vs ns G Y ho (fd_plain hd) hcd hmg hobj hints hlen hg) fun r s' hq=>?_)
 obtain ⟨rfl,h2,h3,h4⟩:=hq
 exact ⟨.inl ⟨.bool true,.bool true,[],rfl,fun _=>rfl,.bool true,jC l _,fun _=>⟨List.Pairwise.nil,fun _ hm=>(nomatch hm)⟩⟩,h2,h3,h4⟩
end Att
namespace L2
open PySem PySem.Spec PyProof.Rows
theorem vH:∀ {vs:List Value} {ns:List Int},IntsAre vs ns -> Vals (ns.map V.int) vs
 | _,_,.nil=>.nil
 | _,_,.cons n t h=>.cons ⟨t,rfl⟩ (vH h)
def Only (H:Hp):Prop:=∀ b,H b = none \/ ∃ o xs,H b = some (.frz o (.lst xs))
theorem ZS {P:Program} {w:World} {K:FG7} {mg mb:Str -> Option Value} {CX:CXT} {k:Nat} {fa a:Addr} {fd:FuncData} {x:Str} {sp:Sp} {s₁:Shared} {vs:List Value} {ns:List Int}
  (KX:K.In s₁.heap) (hns:s₁.heap.Ns mainGlobals mg) (hb:s₁.heap.Ns builtinsNs mb) (hbb:∀ x:Str,x ≠ "__name__" -> mb x = bootBuiltins x) (hlim:s₁.heap.NoLimit) (hg:s₁.gens = #[])
  (ha:s₁.heap.get? a = some { cls:=.type "list",data:=.seq vs.toArray }) (hi:IntsAre vs ns) (hl:ns.length <= sizeLine) (hr:Room k callerA)
  (F:∀ base:Heap,K.In base -> base.Ns mainGlobals mg -> FnOk P w K mg base CX k fa fd [x] sp) (hbind:∀ (s:Shared) (u:Value),BindsTo s fd ⟨[u],[]⟩ [(x,u)])
  (hsp:∀ H:Hp,Only H -> SqL K H a (ns.map V.int) -> sp [.ref a] H (fun v _=>v = .bl true) fun _ _ _=>False)
  (hCX:∀ H e s',CX [] H s₁ (fun _ _ _=>False) e s' -> False) :
  codeAny (model P w) callerA (.call (.ref fa) ⟨[.ref a],[]⟩) (fun r s'=>r = .ok (.ret (.bool true)) /\ OldK s₁.heap s'.heap /\ s'.os = s₁.os /\ AllBare s'.gens) s₁:=by
 have rv:=vH hi
 have lenV:=hi.length
 -- from an abstract heap in which nothing but the script may be tracked
 have core:∀ H:Hp,Only H -> SqL K H a (ns.map V.int) -> HOk P w H s₁.heap -> (∀ b,H b ≠ none -> b = a) -> (H a ≠ none -> K.lookup a = none) →
   codeAny (model P w) callerA (.call (.ref fa) ⟨[.ref a],[]⟩) (fun r s'=>r = .ok (.ret (.bool true)) /\ OldK s₁.heap s'.heap /\ s'.os = s₁.os /\ AllBare s'.gens) s₁:=by
  intro H hO hS hok hA hK
  have base_of:∀ {b:Addr} {o:Obj},s₁.heap.get? b = some o -> H b = none -> (hidT s₁.heap H).get? b = some o:=fun e n=>ZI e n
  have noA:∀ {b:Addr} {o:Obj} {es:Array DictEntry} {ep:Nat},s₁.heap.get? b = some o -> o.data = .dict es ep -> H b = none:=fun {b o es ep} e d=>by
   cases q:H b with
   | none=>rfl
   | some u =>
    have e':b = a:=hA b (by rw [q]; simp)
    subst e'
    rw [ha] at e; cases e
    have d':Data.seq vs.toArray _ = Data.dict es ep:=d
    cases d'
  have nsK:∀ {b:Addr} {m:Str -> Option Value},s₁.heap.Ns b m -> (hidT s₁.heap H).Ns b m:=fun {b m} ⟨o,es,ep,e,d,r⟩=>⟨o,es,ep,base_of e (noA e d),d,r⟩
  have hKb:K.In (hidT s₁.heap H):=fun b o e=>base_of (KX b o e) (by
   cases q:H b with
   | none=>rfl
   | some u =>
    have e':b = a:=hA b (by rw [q]; simp)
    subst e'
    rw [hK (by rw [q]; simp)] at e; cases e)
  have hM:Mod K mg (hidT s₁.heap H):=⟨hKb,nsK hns,⟨mb,nsK hb,hbb⟩,let ⟨mc,h1,h2⟩:=hlim; ⟨mc,nsK h1,h2⟩⟩
  have e0:Env0 P w K mg (hidT s₁.heap H) callerA [] s₁ H:=⟨rfl,hM,fun b o e=>YF e,Nat.le_of_eq (jh _ _),trivial,fun b hb=>absurd (show b ∈ ([]:List Addr) from hb) (by simp),hok,.of_eq hg⟩
  refine codeAny_mono ((F _ hKb (nsK hns)).run callerA [] s₁ H ⟨[.ref a],[]⟩ [.ref a] [.ref a] _ _ hr e0 (hbind s₁ (.ref a)) (.cons rfl .nil) (hsp H hO hS)) fun r s' h=>?_
  cases r with
  | error e=>exact (hCX H e s' h).elim
  | ok fl =>
   cases fl with
   | next=>exact False.elim h
   | brk=>exact False.elim h
   | cont=>exact False.elim h
   | ret u =>
    obtain ⟨v,H',os,bare,un,hok',r',q⟩:=h
    have q':v = .bl true:=q
    subst q'
    obtain rfl:u = Value.bool true:=r'
    refine ⟨rfl,OldK.of_keep fun b o e=>?_,os,bare⟩
    cases q:H b with
    | none=>exact un.keep b o e q (by intro z; exact absurd (show b ∈ ([]:List Addr) from z) (by simp)) (by simp)
    | some u =>
     rcases hO b with z | ⟨ob,xs,z⟩
     ·rw [q] at z; cases z
     ·have z2:=un.frzs b ob _ z
      obtain ⟨e1,_⟩:=hok b _ z
      obtain ⟨e2,_⟩:=hok' b _ z2
      rw [e] at e1; cases e1
      exact e2
 cases hk:K.lookup a with
 | some o =>
  -- the script is one of the module's own objects
  have e:=KX a o hk
  rw [ha] at e
  cases e
  refine core (fun _=>none) (fun _=>.inl rfl) (.inr ⟨_,vs.toArray,_,hk,rfl,rfl,rfl,by rw [List.size_toArray,lenV]; exact hl,by simpa using rv⟩) (fun b u z=>by have z':(none:Option HO) = some u:=z; cases z') (fun b z=>absurd rfl z) fun z=>absurd rfl z
 | none =>
  refine core (fun b=>if b = a then some (.frz { cls:=.type "list",data:=.seq vs.toArray } (.lst (ns.map V.int))) else none) (fun b=>?_) (.inl (.inr ⟨{ cls:=.type "list",data:=.seq vs.toArray },if_pos rfl⟩)) (fun b u z=>?_) (fun b z=>?_) fun _=>hk
  ·by_cases hb:b = a
   ·exact .inr ⟨_,_,if_pos hb⟩
   ·exact .inl (if_neg hb)
  ·by_cases hb:b = a
   ·have z':=(if_pos hb).symm.trans z
    cases z'
    subst hb
    exact ⟨ha,by rw [List.length_map]; exact hl,vs,_,rv,ha⟩
   ·have z':=(if_neg hb).symm.trans z
    cases z'
  ·by_cases hb:b = a
   ·exact hb
   ·exact absurd (if_neg hb) z
end L2
namespace L2
open PySem PySem.Spec PyProof.Rows
theorem walk_of {l:PySem.W.OpenLaw} {n k:Nat} {q:Program} {loose:List Str} {XP:(Str -> Option Value) -> Heap -> Prop} {YP:World -> Heap -> Prop} {d:DefRec} {K:Params -> FG7} {CX:World -> CXT} {sp:World -> Sp} {x:Str}
  (hn:l.most = some n) (hn2:n <= sizeLine) (hdf:d.params.defaults = []) (hr:Room k callerA)
  (hY:∀ (w:World) (h:Heap),YP w h -> (K w.params).In h)
  (F:∀ (w:World) (mg:Str -> Option Value) (fa:Addr) (h:Heap),(K w.params).In h -> h.Ns mainGlobals mg -> mg d.name = some (.ref fa) →
   ∃ fd:FuncData,(∀ (s:Shared) (u:Value),BindsTo s fd ⟨[u],[]⟩ [(x,u)]) ∧
    ∀ base:Heap,(K w.params).In base -> base.Ns mainGlobals mg -> FnOk l.prog w (K w.params) mg base (CX w) k fa fd [x] (sp w))
  (hsp:∀ (w:World) (H:Hp) (a:Addr) (ns:List Int),ns.length <= n -> Only H -> SqL (K w.params) H a (ns.map V.int) -> sp w [.ref a] H (fun v _=>v = .bl true) fun _ _ _=>False)
  (hCX:∀ (w:World) (H:Hp) (s:Shared) (e:Value) (s':Shared),CX w [] H s (fun _ _ _=>False) e s' -> False) :
  PySem.W.WalkO q loose XP YP l.row.toRowW d [] (fun f vs=>PySem.call f vs):=by
 refine Att.attach_call hn hdf fun w s₀ s₁ mg mb fa o pm cd doc a vs ns G Y ho hd hcd hmg hobj hints hlen hg=>?_
 have KX:=hY w _ Y
 obtain ⟨fd,hb,hF⟩:=F w mg fa _ KX G.T.g hmg
 exact ZS KX G.T.g G.T.b G.T.builtins G.T.nolimit hg hobj hints (Nat.le_trans hlen hn2) hr hF hb (fun H hO hS=>hsp w H a ns hlen hO hS) fun H e s'=>hCX w H s₁ e s'
end L2
namespace L2
open PySem PySem.Spec PyProof.Rows
def vI (s:Stmt):Arguments:=match s with
 | .FunctionDef _ a _ _ _ _ _ _ _ _=>a
 | _=>{ posonlyargs:=[],args:=[],vararg:=none,kwonlyargs:=[],kw_defaults:=[],kwarg:=none,defaults:=[] }
def x8 (s:Stmt):List Stmt:=match s with
 | .FunctionDef _ _ b _ _ _ _ _ _ _=>b
 | _=>[]
def zh (s:Stmt):Scope:=match s with
 | .FunctionDef _ _ _ _ _ _ sc _ _ _=>sc
 | _=>{ kind:=.function,names:=[],isGenerator:=false,isCoroutine:=false }
abbrev CX0:CXT:=fun _ _ _ _ _ _=>False
abbrev E0:XK:=fun _ _ _=>False
theorem Wm {X:Cx}:vD CX0 X E0:=fun _ _ _ _ _ _ _ h=>h.elim
structure Fun (K:FG7) (x qual:Str) (st:Stmt) (f:Addr) (fd:FuncData):Prop where
 ex:∃ (oc:Value) (od:Option Addr) (kV doc pm:Value) (an:Option Addr) (cdv ct:Value) (osl:Array (Option Value)),
  fd = PySem.W.fnOf x qual (vI st) (x8 st) (zh st) .none kV doc pm an cdv ct /\ K.lookup f = some ⟨oc,od,.func fd,osl⟩ /\ PySem.W.codeIn K cdv qual = true
 kp:PySem.W.keepIn K (.ref f) = true
section
variable {P:Program} {w:World} {K:FG7} {mg:Str -> Option Value} {base:Heap}
theorem Fun.ok {x qual:Str} {st:Stmt} {f:Addr} {fd:FuncData} {N ps:List Str} {k:Nat} {sp:Sp} (F:Fun K x qual st f fd) (S:FnScope N ps (zh st)) (len:∀ vs H Q E,sp vs H Q E -> vs.length = ps.length)
  (hbody:∀ (cdv:Value) (A:Around) (outer:List Env) (s:Shared) (H:Hp) (vs:List V) (Q:VK) (E:XK),Room k (A.deeper (envOfC qual (zh st) s.heap.objs.size f cdv)) -> sp vs H Q E →
   ∃ t,PSs (cxOf CX0 P w K mg base N qual (zh st) f cdv A outer s H E).nox (x8 st) t /\ t { nx:=fun _ H'=>Q .non H',rt:=Q } (start N vs) H):FnOk P w K mg base CX0 (k + 1) f fd ps sp:=by
 obtain ⟨oc,od,kV,doc,pm,an,cdv,ct,osl,rfl,lk,hcd⟩:=F.ex
 refine Xv lk hcd S len fun A outer s H vs Q E hr hsp=>?_
 obtain ⟨t,h,q⟩:=hbody cdv A outer s H vs Q E hr hsp
 exact ⟨t,h.nox,q⟩
theorem Fun.binds {x qual:Str} {st:Stmt} {f:Addr} {fd:FuncData} {ps:List Str} (F:Fun K x qual st f fd)
  (h:∀ (kV doc pm:Value) (an:Option Addr) (cdv ct:Value) (us:List Value),us.length = ps.length -> bindArgs (PySem.W.fnOf x qual (vI st) (x8 st) (zh st) .none kV doc pm an cdv ct) ⟨us,[]⟩ = pure (ps.zip us)):xV K fd ps []:=by
 obtain ⟨oc,od,kV,doc,pm,an,cdv,ct,osl,rfl,lk,hcd⟩:=F.ex
 exact .all (h kV doc pm an cdv ct)
theorem fun_mk {x qual:Str} {st:Stmt} {f:Addr} {oc:Value} {od an:Option Addr} {osl:Array (Option Value)} {kV doc pm cdv ct:Value} (l:K.lookup f = some ⟨oc,od,.func (PySem.W.fnOf x qual (vI st) (x8 st) (zh st) .none kV doc pm an cdv ct),osl⟩)
  (c:PySem.W.codeIn K cdv qual = true) (k:PySem.W.keepIn K (.ref f) = true):Fun K x qual st f (PySem.W.fnOf x qual (vI st) (x8 st) (zh st) .none kV doc pm an cdv ct):=⟨⟨oc,od,kV,doc,pm,an,cdv,ct,osl,rfl,l,c⟩,k⟩
end
theorem zB {n:Nat} (h:n <= 1000):n < sizeLine:=Nat.lt_of_le_of_lt h (by decide)
section
variable {X:Cx}
theorem pv (i:Nat) {x:Str} {pos:Pos} (hN:X.N[i]? = some x:=by rfl) (hv:Vis X.env.scope x:=by first | exact Or.inl rfl | exact Or.inr (Or.inl rfl) | exact Or.inr (Or.inr rfl)) (hd:(x == ("__debug__":Str)) = false:=by decide)
  (hcd:(x == ("__classdict__":Str)) = false:=by decide):PE X (.Name x pos) (tVar i):=Xn hN hv hd hcd
end
theorem iteF {A B:Prop} (h:B):if false = true then A else B:=by
 rw [if_neg Bool.false_ne_true]
 exact h
theorem iteT {A B:Prop} (h:A):if true = true then A else B:=by
 rw [if_pos rfl]
 exact h
theorem ite2 {c A B:Prop} [Decidable c] (h1:c -> A) (h2:¬ c -> B):if c then A else B:=by
 by_cases h:c
 ·rw [if_pos h]
  exact h1 h
 ·rw [if_neg h]
  exact h2 h
def Same (H H':Hp):Prop:=∀ b o,H b = some o -> H' b = some o
theorem Same.refl (H:Hp):Same H H:=fun _ _ h=>h
theorem Same.trans {H H1 H2:Hp} (a:Same H H1) (b:Same H1 H2):Same H H2:=fun c o h=>b c o (a c o h)
theorem Same.free {H H':Hp} (e:Same H H') {l:Addr} (h:H' l = Option.none):H l = Option.none:=by
 cases q:H l with
 | none=>rfl
 | some o =>
  rw [e l o q] at h
  cases h
theorem Same.seq {K:FG7} {H H':Hp} {a:Addr} {xs:List V} (e:Same H H') (h:SqL K H a xs):SqL K H' a xs:=by
 rcases h with (h | ⟨o,h⟩) | h
 ·exact .inl (.inl (e _ _ h))
 ·exact .inl (.inr ⟨o,e _ _ h⟩)
 ·exact .inr h
end L2
namespace L3
open PySem PySem.Spec PyProof.Rows L2
theorem yO:bootBuiltins "len" = some (.builtin "len"):=by decide +kernel
theorem YQ:bootBuiltins "max" = some (.builtin "max"):=by decide +kernel
theorem XB:bootBuiltins "min" = some (.builtin "min"):=by decide +kernel
theorem Yq:bootBuiltins "repr" = some (.builtin "repr"):=by decide +kernel
theorem zn:bootBuiltins "isinstance" = some (.builtin "isinstance"):=by decide +kernel
theorem v8:bootBuiltins "all" = some (.builtin "all"):=by decide +kernel
theorem jD:bootBuiltins "int" = some (.type "int"):=by decide +kernel
theorem Yr:bootBuiltins "bool" = some (.type "bool"):=by decide +kernel
theorem Wn:bootBuiltins "str" = some (.type "str"):=by decide +kernel
theorem zY:bootBuiltins "tuple" = some (.type "tuple"):=by decide +kernel
theorem jE:bootBuiltins "list" = some (.type "list"):=by decide +kernel
def TyV (K:FG7) (H:Hp) (x:V) (T:String):Prop:=match x with
 | .non=>T = "NoneType"
 | .bl _=>T = "bool"
 | .int _=>T = "int"
 | .str _=>T = "str"
 | .ref a=>(T = "tuple" /\ ∃ xs,SqT K H a xs) \/ (T = "list" /\ ∃ xs,SqL K H a xs) \/ (T = "dict" /\ ∃ kvs,H a = some (.dK kvs))
 | _=>False
section
variable {X:Cx} {a b c:Expr} {ta tb tc:TE} {pos:Pos}
def rIsi (K:FG7):List V -> Hp -> VK -> Prop:=fun xs H Q=>∃ x T t k,xs = [x,.ty T] /\ TyV K H x t /\ PySem.W.kitOne K (.type t) (.type T) = some k /\ Q (.bl k) H
theorem xJ:xU X (.builtin "isinstance") (rIsi X.K):=by
 intro pins s σ H xs us Q I r h
 obtain ⟨x,T,t,k,rfl,ty,e,q⟩:=h
 obtain ⟨u,w',rfl,rx,rt⟩:=qz r
 cases (show w' = Value.type T from rt)
 have fin:∀ tk,EP X pins σ Q (.bool k) { s with toks:=tk }:=fun tk=>⟨.bl k,H,I.tok _,rfl,q⟩
 cases x with
 | non=>cases (show t = "NoneType" from ty); exact xC I rx .non e fin
 | bl y=>cases (show t = "bool" from ty); exact xC I rx (.bl y) e fin
 | int i=>cases (show t = "int" from ty); exact xC I rx (.int i) e fin
 | str y=>cases (show t = "str" from ty); exact xC I rx (.str y) e fin
 | byt y=>exact ty.elim
 | flt y=>exact ty.elim
 | ty y=>exact ty.elim
 | ref a =>
  cases (show u = Value.ref a from rx)
  rcases ty with ⟨rfl,xs,hq⟩ | ⟨rfl,xs,hq⟩ | ⟨rfl,kvs,hq⟩
  ·obtain ⟨its,_,⟨o,h1,h2,_⟩,_⟩:=I.tuple hq
   exact PySem.W.kia_one PySem.W.kitx_tuple I.kIn ⟨o,h1,h2⟩ e (fun z=>nomatch z) fin
  ·obtain ⟨its,_,pl,_⟩:=I.list hq
   obtain ⟨o,h1,h2,_⟩:=pl.isList
   exact PySem.W.kia_one PySem.W.kitx_list I.kIn ⟨o,h1,h2⟩ e (fun z=>nomatch z) fin
  ·exact xC (x:=V.ref a) I (show RelV (.ref a) (.ref a) from rfl) (.dK hq) e fin
theorem yz {x:Str} {T:String} {pos:Pos} (hg:Gl X x) (hm:X.mg x = none) (hv:bootBuiltins x = some (.type T)) (hn:x ≠ "__name__":=by decide) (hd:(x == ("__debug__":Str)) = false:=by decide):PE X (.Name x pos) (tC (.ty T)) :=
 YH hg hm hv (show RelV (.ty T) (Value.type T) from rfl) hn hd
theorem x9:OpR X (binaryOp .Mult) (rI IntMulOk fun i j=>.int (i * j)):=opI fun _ _ _ _ _ _ _ hc q=>mul_int q hc
def YR (i j:Int):Prop:=0 < j /\ j < 2 ^ 200
theorem YR.py {i j:Int} (h:YR i j):Builtin.divisionGoesByPylong i j = false:=by
 refine PyProof.noPylong_of_log2 ?_
 obtain ⟨h1,h2⟩:=h
 have h0:j.natAbs ≠ 0:=by omega
 have h3:j.natAbs < 2 ^ 200:=by
  have:(j.natAbs:Int) = j:=by omega
  have h4:((j.natAbs:Nat):Int) < ((2 ^ 200:Nat):Int):=by rw [this]; exact h2
  exact Int.ofNat_lt.mp h4
 exact Nat.lt_of_lt_of_le ((Nat.log2_lt h0).mpr h3) (by decide)
theorem uJ:OpR X (binaryOp .FloorDiv) (rI YR fun i j=>.int (i / j)):=opI fun i j _ _ _ _ _ hc q=>by
 have:=hc.1
 refine floordiv_int (by omega) ?_ (.inl hc.py)
 rw [Int.fdiv_eq_ediv_of_nonneg i (by omega)]
 exact q
end
def zj (P:Program) (w:World) (K:FG7) (mg:Str -> Option Value) (base:Heap) (k:Nat) (x:Str) (ps:List Str) (sp:Sp):Prop :=
 ∃ (f:Addr) (fd:FuncData),FnOk P w K mg base CX0 k f fd ps sp /\ xV K fd ps [] /\ PySem.W.keepIn K (.ref f) = true /\ mg x = some (.ref f)
theorem zj.mono {P:Program} {w:World} {K:FG7} {mg:Str -> Option Value} {base:Heap} {j k:Nat} {x:Str} {ps:List Str} {sp:Sp} (C:zj P w K mg base j x ps sp) (h:j <= k):zj P w K mg base k x ps sp:=by
 obtain ⟨f,fd,F,b,kp,m⟩:=C
 exact ⟨f,fd,F.mono h,b,kp,m⟩
section
variable {X:Cx} {k:Nat} {ps:List Str} {sp:Sp} {x:Str} {p pos:Pos} {e:Expr} {es:List Expr} {t:TA}
theorem zg (C:zj X.prog X.w X.K X.mg X.base k x ps sp) (hr:Room k X.A) (hg:Gl X x)
  (ha:PA X (e :: es) t) (hdb:(x == ("__debug__":Str)) = false:=by decide) (he:starEach (e :: es) X.env = (false,eval e X.env) :: starEach es X.env:=by rfl) (hpl:(backTo pos (starEach es X.env)).any (·.1) = false:=by rfl) :
  PE X (.Call (.Name x p) (e :: es) [] pos) (ju sp [] E0 t):=by
 obtain ⟨f,fd,F,b,kp,m⟩:=C
 exact jv F hr hg m kp b .nil Wm ha hdb he hpl
end
structure Grow (m:List Addr) (H H':Hp):Prop where
 keep:∀ b o,b ∉ m -> H b = some o -> H' b = some o
 tup:∀ b xs,H b = some (.tup xs) -> H' b = some (.tup xs)
 frz:∀ b o u,H b = some (.frz o u) -> H' b = some (.frz o u)
theorem Grow.refl (m:List Addr) (H:Hp):Grow m H H:=⟨fun _ _ _ h=>h,fun _ _ h=>h,fun _ _ _ h=>h⟩
theorem Grow.trans {m:List Addr} {H H1 H2:Hp} (a:Grow m H H1) (b:Grow m H1 H2):Grow m H H2 :=
 ⟨fun c o n h=>b.keep c o n (a.keep c o n h),fun c xs h=>b.tup c xs (a.tup c xs h),fun c o u h=>b.frz c o u (a.frz c o u h)⟩
theorem Grow.new {m:List Addr} {H:Hp} {p:Addr} (h:H p = none) (o:HO):Grow m H (upd H p o) :=
 ⟨fun b u _ q=>by rw [zp (zq q h)]; exact q,fun b xs q=>by rw [zp (zq q h)]; exact q,fun b u v q=>by rw [zp (zq q h)]; exact q⟩
theorem Grow.set {m:List Addr} {H:Hp} {p:Addr} {xs:List V} (h:H p = some (.lst xs)) (hm:p ∈ m) (ys:List V):Grow m H (upd H p (.lst ys)) :=
 ⟨fun b u hb q=>by rw [zp (show b ≠ p from fun z=>hb (by rw [z]; exact hm))]; exact q,fun b zs q=>by rw [zp (fun z=>by subst z; rw [h] at q; cases q)]; exact q,fun b u v q=>by rw [zp (fun z=>by subst z; rw [h] at q; cases q)]; exact q⟩
theorem Grow.mono {m m':List Addr} {H H':Hp} (a:Grow m H H') (h:∀ b ∈ m,b ∈ m'):Grow m' H H':=⟨fun b o n q=>a.keep b o (fun z=>n (h b z)) q,a.tup,a.frz⟩
theorem Grow.same {H H':Hp} (a:Grow [] H H'):Same H H':=fun b o h=>a.keep b o (by simp) h
theorem Grow.sqT {m:List Addr} {H H':Hp} (g:Grow m H H') {K:FG7} {a:Addr} {xs:List V} (h:SqT K H a xs):SqT K H' a xs:=by
 rcases h with (h | ⟨o,h⟩) | h
 ·exact .inl (.inl (g.tup _ _ h))
 ·exact .inl (.inr ⟨o,g.frz _ _ _ h⟩)
 ·exact .inr h
theorem Grow.free {H H':Hp} {m:List Addr} (g:Grow m H H') {l:Addr} (hm:l ∉ m) (h:H' l = none):H l = none:=by
 cases q:H l with
 | none=>rfl
 | some o=>rw [g.keep l o hm q] at h; cases h
def Scr (K:FG7) (H:Hp) (a:Addr) (ns:List Int):Prop :=
 (∃ o,H a = some (.frz o (.lst (ns.map V.int)))) ∨
  ∃ (o:Obj) (its:Array Value) (n:Nat),K.lookup a = some o /\ o.cls = .type "list" /\ o.dict = none /\ o.data = .seq its n /\ its.size <= sizeLine /\ Vals (ns.map V.int) its.toList
theorem Scr.sq {K:FG7} {H:Hp} {a:Addr} {ns:List Int} (h:Scr K H a ns):SqL K H a (ns.map V.int):=by
 rcases h with ⟨o,h⟩ | h
 ·exact .inl (.inr ⟨o,h⟩)
 ·exact .inr h
theorem Scr.of {K:FG7} {H:Hp} {a:Addr} {ns:List Int} (hO:Only H) (h:SqL K H a (ns.map V.int)):Scr K H a ns:=by
 rcases h with (h | ⟨o,h⟩) | h
 ·rcases hO a with z | ⟨o,xs,z⟩
  ·rw [h] at z; cases z
  ·rw [h] at z; cases z
 ·exact .inl ⟨o,h⟩
 ·exact .inr h
theorem Grow.scr {m:List Addr} {H H':Hp} (g:Grow m H H') {K:FG7} {a:Addr} {ns:List Int} (h:Scr K H a ns):Scr K H' a ns:=by
 rcases h with ⟨o,h⟩ | h
 ·exact .inl ⟨o,g.frz _ _ _ h⟩
 ·exact .inr h
structure Blt (mg:Str -> Option Value):Prop where
 abs:mg "abs" = none
 len:mg "len" = none
 max:mg "max" = none
 min:mg "min" = none
 divmod:mg "divmod" = none
 repr:mg "repr" = none
 isinstance:mg "isinstance" = none
 all:mg "all" = none
 range:mg "range" = none
 int:mg "int" = none
 bool:mg "bool" = none
 str:mg "str" = none
 tuple:mg "tuple" = none
 list:mg "list" = none
 dict:mg "dict" = none
def sp1 (b:V -> Hp -> VK -> Prop):Sp:=fun vs H Q _=>∃ x,vs = [x] /\ b x H Q
def sp2 (b:V -> V -> Hp -> VK -> Prop):Sp:=fun vs H Q _=>∃ x y,vs = [x,y] /\ b x y H Q
def sp3 (b:V -> V -> V -> Hp -> VK -> Prop):Sp:=fun vs H Q _=>∃ x y z,vs = [x,y,z] /\ b x y z H Q
theorem yB {b:V -> Hp -> VK -> Prop} {p:Str}:∀ vs H Q E,sp1 b vs H Q E -> vs.length = [p].length:=fun vs H Q E h=>by
 obtain ⟨x,rfl,_⟩:=h; rfl
theorem ym {b:V -> V -> Hp -> VK -> Prop} {p q:Str}:∀ vs H Q E,sp2 b vs H Q E -> vs.length = [p,q].length:=fun vs H Q E h=>by
 obtain ⟨x,y,rfl,_⟩:=h; rfl
theorem vJ {b:V -> V -> V -> Hp -> VK -> Prop} {p q r:Str}:∀ vs H Q E,sp3 b vs H Q E -> vs.length = [p,q,r].length:=fun vs H Q E h=>by
 obtain ⟨x,y,z,rfl,_⟩:=h; rfl
structure Deed where
 add:Int
 lo:Option Int
 hi:Option Int
 deriving DecidableEq
def ov:Option Int -> V
 | none=>.non
 | some i=>.int i
def Deed.vs (d:Deed):List V:=[.int d.add,ov d.lo,ov d.hi]
def Deed.Ok (d:Deed):Prop:=∀ l h,d.lo = some l -> d.hi = some h -> l < h \/ (l = h /\ d.add = 0)
def YS (lo:Option Int) (r:Int):Int:=match lo with
 | none=>r
 | some l=>if l > r then l else r
def jF (hi:Option Int) (r:Int):Int:=match hi with
 | none=>r
 | some h=>if h < r then h else r
def Deed.mk' (d:Deed) (v:Int):Int:=jF d.hi (YS d.lo (v + d.add))
def yg (K:FG7) (H:Hp) (x:V) (d:Deed):Prop:=∃ a,x = .ref a /\ SqT K H a d.vs
theorem Grow.deed {m:List Addr} {H H':Hp} (g:Grow m H H') {K:FG7} {x:V} {d:Deed} (h:yg K H x d):yg K H' x d:=by
 obtain ⟨a,e,h⟩:=h
 exact ⟨a,e,g.sqT h⟩
def uK (K:FG7):Sp:=sp2 fun x y H Q=>∃ d v,yg K H x d /\ y = .int v /\ Q (.int (d.mk' v)) H
def Pot (H:Hp) (a:Addr):Prop:=∃ p0 p1:Int,H a = some (.lst [.int p0,.int p1]) /\ 0 <= p0
def Sm (n:Int):Prop:=-(10 ^ 30) < n /\ n < 10 ^ 30
def Deed.Sm (d:Deed):Prop:=L3.Sm d.add /\ (∀ l,d.lo = some l -> L3.Sm l) /\ ∀ h,d.hi = some h -> L3.Sm h
def Ys (K:FG7):Sp:=sp2 fun x y H Q=>∃ a ns k,x = .ref a /\ y = .int k /\ Scr K H a ns /\ 0 <= k /\ k < 1000 /\ ∀ p H',H p = none -> Grow [] H H' -> Pot H' p -> Q (.ref p) H'
def sO (K:FG7):Sp:=sp1 fun x H Q=>∃ a,x = .ref a /\ Pot H a /\ ∀ d y H',d.Ok -> d.Sm -> Grow [a] H H' -> Pot H' a -> yg K H' y d -> Q y H'
theorem Sm.of {n:Int} (h1:-(10 ^ 30) < n) (h2:n < 10 ^ 30):Sm n:=⟨h1,h2⟩
def rN (K:FG7):Sp:=sp1 fun x H Q=>∃ a ns,x = .ref a /\ Scr K H a ns /\ ns.length <= 63 /\ ∀ H',Q (.bl true) H'
theorem Wo {A:Int} (h:Sm A):Deed.Sm ⟨A,none,none⟩:=⟨h,(fun l z=>by cases z),(fun l z=>by cases z)⟩
theorem Wp {A l:Int} (h:Sm A) (h2:Sm l):Deed.Sm ⟨A,some l,none⟩:=⟨h,(fun l z=>by cases z; exact h2),(fun l z=>by cases z)⟩
theorem Wq {A l:Int} (h:Sm A) (h2:Sm l):Deed.Sm ⟨A,none,some l⟩:=⟨h,(fun l z=>by cases z),(fun l z=>by cases z; exact h2)⟩
theorem ok_n {A:Int} {o:Option Int}:Deed.Ok ⟨A,none,o⟩:=fun l h z=>by cases z
theorem Wr {A l:Int}:Deed.Ok ⟨A,some l,none⟩:=fun l h z z2=>by cases z2
theorem szl {n:Nat} (h:Nat.ble n 1000 = true):n <= sizeLine:=Nat.le_of_lt (zB (Nat.le_of_ble_eq_true h))
theorem Grow.shrink {H H':Hp} {l:Addr} (h:H l = none) (g:Grow [l] H H'):Grow [] H H' :=
 ⟨fun b o _ q=>g.keep b o (fun z=>by rw [List.mem_singleton.mp z] at q; rw [h] at q; cases q) q,g.tup,g.frz⟩
theorem Grow.wk {m:List Addr} {H H':Hp} (g:Grow [] H H'):Grow m H H':=g.mono (by simp)
theorem Pot.grow {H H':Hp} {a:Addr} (p:Pot H a) (g:Grow [] H H'):Pot H' a:=by
 obtain ⟨u0,u1,hu,hn⟩:=p
 exact ⟨u0,u1,g.keep _ _ (by simp) hu,hn⟩
theorem Pot.new {H:Hp} {a l:Addr} (p:Pot H a) (hl:H l = none) (o:HO):Pot (upd H l o) a:=p.grow (Grow.new hl o)
theorem jG {k:Int} (h:-(2 ^ 200) < k /\ k < 2 ^ 200):Builtin.Int.intBits k <= 200:=PySem.intBits_le_iff.mpr (by
 have h1:((k.natAbs:Nat):Int) < ((2 ^ 200:Nat):Int):=by
  have e:((2 ^ 200:Nat):Int) = 2 ^ 200:=rfl
  rw [e]; obtain ⟨a,b⟩:=h; omega
 exact Int.ofNat_lt.mp h1)
theorem XC {i j:Int} (h1:-(2 ^ 200) < i /\ i < 2 ^ 200) (h2:-(2 ^ 200) < j /\ j < 2 ^ 200):IntMulOk i j:=PySem.IntMulOk.of_le (jG h1) (jG h2) (by decide)
theorem ur {i j:Int} (h2:-(2 ^ 60) < j /\ j < 2 ^ 60):IntMulOk i j:=PySem.IntMulOk.of_right (Nat.le_trans ((PySem.intBits_le_iff (m:=60)).mpr (by obtain ⟨a,b⟩:=h2; omega)) (by decide))
section
variable {prog:Program} {w:World} {A:Around} {R:Result -> Shared -> Prop} {s:Shared}
theorem jH {elt target iter:Expr} {ifs:List Expr} {scope:Scope} {pos:Pos} {it acc:Value} {env:Env} (I:Nat -> Shared -> Prop)
  (turn:∀ n s,I n s -> wpAny (model prog w) A (pyNext it) (fun r s₁=>match r with
   | none=>R (.ok .next) s₁
   | some v=>wpAny (model prog w) A (letOwnedTupleGo target it v) (fun _ s₂=>wpAny (model prog w) A (assign target env v) (fun _ s₃ =>
     wpAny (model prog w) A (forIn ifs true fun c r=>if r = true then do let ok ← isTrue c env (eval c env); pure (ForInStep.yield ok) else pure (ForInStep.yield r)) (fun ok s₄ =>
      if ok = true then wpAny (model prog w) A (eval elt env) (fun x s₅ =>
       wpAny (model prog w) A (call (.builtin "list.append") [acc,x]) (fun _ s₆=>∃ m,m < n /\ I m s₆) (fun _ _=>False) s₅) (fun _ _=>False) s₄
      else ∃ m,m < n /\ I m s₄) (fun _ _=>False) s₃) (fun _ _=>False) s₂) (fun _ _=>False) s₁) (fun _ _=>False) s)
  (n:Nat) (h:I n s) :
  codeAny (model prog w) A (.compLoop (.ListComp elt [⟨target,iter,ifs,0⟩] scope pos) 0 it acc env) R s:=by
 refine codeAny_loop rfl I (fun n s hI=>?_) n h
 show wpAny _ A ((compTurn (.ListComp elt [⟨target,iter,ifs,0⟩] scope pos) 0 it acc env).onRaise (fun x=>do noteFrame x env; theTreesLotGoes x)) _ _ s
 refine wpAny_noted ?_
 rw [compTurn_list]
 have no:∀ (E:VS7) (e:Value) (s:Shared),(fun (_:Value) (_:Shared)=>False) e s -> E e s:=fun _ _ _ f=>f.elim
 refine wpAny_bind (wpAny_standAt (wpAny_bind (wpAny_mono (turn n s hI) (fun r s₁ h₁=>?_) (no _))))
 cases r with
 | none=>exact wpAny_pure h₁
 | some v =>
  refine wpAny_bind (wpAny_mono h₁ (fun _ s₂ h₂=>?_) (no _))
  refine wpAny_bind (wpAny_mono h₂ (fun _ s₃ h₃=>wpAny_bind (wpAny_mono h₃ (fun ok s₄ h₄=>?_) (no _))) (no _))
  cases ok with
  | true =>
   simp only [if_true] at h₄ ⊢
   exact wpAny_bind (wpAny_bind (wpAny_mono h₄ (fun x s₅ h₅=>wpAny_bind (wpAny_mono h₅ (fun _ s₆ h₆=>wpAny_pure (wpAny_pure ⟨rfl,h₆⟩)) (no _))) (no _)))
  | false =>
   simp only [Bool.false_eq_true,if_false] at h₄ ⊢
   first
    | exact wpAny_bind (wpAny_pure (wpAny_pure ⟨rfl,h₄⟩))
    | exact wpAny_pure ⟨rfl,h₄⟩
end
theorem ut {scope:Scope} {env:Env} (hfree:∀ y ∈ scope.names,y.2 = .free -> ∃ c,env.cells.lookup y.1 = some c) :
  ∃ cl,closureFor scope env = pure cl /\ (∀ x c,cl.lookup x = some c -> env.cells.lookup x = some c) /\ ∀ y ∈ scope.names,y.2 = .free -> ∃ c,cl.lookup y.1 = some c:=by
 have key:∀ (l:List (Str × NameKind)) (cs:List (Str × Addr)),(∀ y ∈ l,y.2 = .free -> ∃ c,env.cells.lookup y.1 = some c) -> (∀ x c,cs.lookup x = some c -> env.cells.lookup x = some c) →
   ∃ cl,(forIn l cs (fun (x:Str × NameKind) r=>do if x.2 == .free then do let c ← cellOf env x.1; pure (ForInStep.yield ((x.1,c) :: r)) else pure (ForInStep.yield r)):Sem (List (Str × Addr))) = pure cl ∧
    (∀ x c,cl.lookup x = some c -> env.cells.lookup x = some c) /\ (∀ y ∈ l,y.2 = .free -> ∃ c,cl.lookup y.1 = some c) /\ ∀ x c,cs.lookup x = some c -> ∃ c',cl.lookup x = some c':=by
  intro l
  induction l with
  | nil=>intro cs _ h2; exact ⟨cs,rfl,h2,fun y hy=>absurd hy (by simp),fun x c h=>⟨c,h⟩⟩
  | cons y r ih =>
   intro cs h1 h2
   obtain ⟨n,k⟩:=y
   by_cases hk:k = .free
   ·subst hk
    obtain ⟨c,hc⟩:=h1 (n,.free) (by simp) rfl
    have hc':env.cells.lookup n = some c:=hc
    have e0:cellOf env n = pure c:=by unfold cellOf; rw [hc']
    obtain ⟨cl,e,p1,p2,p3⟩:=ih ((n,c) :: cs) (fun z hz=>h1 z (List.mem_cons_of_mem _ hz)) (fun x d h=>by
     by_cases hx:x = n
     ·subst hx
      rw [List.lookup_cons_self] at h
      cases h; exact hc'
     ·rw [List.lookup_cons,beq_eq_false_iff_ne.mpr hx] at h
      exact h2 x d h)
    refine ⟨cl,?_,p1,fun z hz=>?_,fun x d h=>?_⟩
    ·rw [List.forIn_cons]
     simp only [beq_self_eq_true,if_true,e0,pure_bind]
     exact e
    ·rcases List.mem_cons.mp hz with rfl | hz
     ·intro _
      exact p3 n c List.lookup_cons_self
     ·exact p2 z hz
    ·by_cases hx:x = n
     ·subst hx; exact p3 x c List.lookup_cons_self
     ·exact p3 x d (by rw [List.lookup_cons,beq_eq_false_iff_ne.mpr hx]; exact h)
   ·have hb:(k == NameKind.free) = false:=beq_eq_false_iff_ne.mpr hk
    obtain ⟨cl,e,p1,p2,p3⟩:=ih cs (fun z hz=>h1 z (List.mem_cons_of_mem _ hz)) h2
    refine ⟨cl,?_,p1,fun z hz=>?_,p3⟩
    ·rw [List.forIn_cons]
     simp only [hb,Bool.false_eq_true,if_false,pure_bind]
     exact e
    ·rcases List.mem_cons.mp hz with rfl | hz
     ·intro h; exact absurd h hk
     ·exact p2 z hz
 obtain ⟨cl,e,p1,p2,_⟩:=key scope.names [] hfree (fun x c h=>by cases h)
 refine ⟨cl,?_,p1,p2⟩
 unfold closureFor
 first
  | (rw [show (forIn scope.names [] _:Sem (List (Str × Addr))) = pure cl from e]; rfl)
  | (simp only [bind_pure]; exact e)
  | exact e
def PIfs (X:Cx) (ifs:List Expr) (t:TT):Prop :=
 ∀ (pins:List (Addr × Obj)) (s:Shared) (σ:L2.St) (H:Hp) (Q:Bool -> Hp -> Prop),Inv X pins σ H s -> t σ H Q →
  wpAny (model X.prog X.w) X.A (forIn ifs true fun c r=>if r = true then do let ok ← isTrue c X.env (eval c X.env); pure (ForInStep.yield ok) else pure (ForInStep.yield r)) (TP X pins σ Q) X.xe s
def jI:TT:=fun _ H Q=>Q true H
theorem z6 {X:Cx}:PIfs X [] jI:=fun pins s σ H Q I h=>wpAny_pure ⟨H,I,h⟩
abbrev cxC (X:Cx) (N':List Str) (scope:Scope) (cl:List (Str × Addr)) (C D:Addr) (fp:List Addr) (s:Shared) (H:Hp):Cx :=
 { X with N:=N',s₀:=s,H₀:=H,env:=compEnvC scope cl C X.env,outer:=X.stack,ex:=D :: fp,fn:=fun _=>false,xe:=fun _ _=>False }
def capt (sub:List (Option Nat)) (σ:L2.St):L2.St:=sub.map fun o=>match o with
 | none=>none
 | some i=>(match σ[i]? with | some v=>v | none=>none)
def v9 (J:It) (σ0:L2.St) (H1:Hp) (g:TG) (tt:TT) (te:TE) (Q:VK):Prop :=
 ∃ W:Nat -> Nat -> List V -> L2.St -> Hp -> Prop,(∃ m,W 0 m [] σ0 H1) /\ ∀ i m ys σ' H',W i m ys σ' H' →
  (J.stop i H' /\ ∀ l,H' l = none -> Q (.ref l) (upd H' l (.lst ys))) ∨
  (J.go i H' /\ ∃ Nn:List V -> L2.St -> Hp -> Prop,(∀ zs σ2 H2,Nn zs σ2 H2 -> ∃ m',m' < m /\ W (i + 1) m' zs σ2 H2) ∧
   ∀ x H2,J.yld i H' x H2 -> g x σ' H2 fun σ2 H3=>tt σ2 H3 fun b H4=>if b = true then te σ2 H4 fun y H5=>ys.length < sizeLine /\ Nn (ys ++ [y]) σ2 H5 else Nn ys σ2 H4)
def XD (wi:TI) (sub:List (Option Nat)) (g:TG) (tt:TT) (te:TE):TE:=fun σ H Q=>wi σ H fun J H1=>v9 J (capt sub σ) H1 g tt te Q
structure CSc (X:Cx) (scope:Scope) (N':List Str) (sub:List (Option Nat)):Prop where
 free:∀ y ∈ scope.names,y.2 = .free -> X.env.kindOf y.1 = some .cell
 nocell:∀ y ∈ scope.names,y.2 ≠ .cell
 kind:scope.kind = .function
 names:∀ y ∈ scope.names,y.2 = .local -> scope.names.lookup y.1 = some .local
 len:sub.length = N'.length
 cap:∀ (j:Nat) (y:Str) (i:Nat),N'[j]? = some y -> sub[j]? = some (some i) -> X.N[i]? = some y /\ X.env.scope.names.lookup y = some .cell /\ scope.names.lookup y = some .free
theorem HOk.track {P:Program} {w:World} {H:Hp} {h:Heap} {a:Addr} {o:HO} (x:HOk P w H h) (hn:H a = none) (new:yu P w (upd H a o) h a o):HOk P w (upd H a o) h:=fun b u e=>by
 by_cases hb:b = a
 ·subst hb; rw [zc] at e; cases e; exact new
 ·rw [zp hb] at e
  exact (x b u e).stay (fun c v _ q=>q) (fun c q=>by rw [zp (zq q hn)]; exact q) fun c xs q=>by rw [zp (zq q hn)]; exact q
theorem xX {scope:Scope} {env:Env} {y:Str} {k:NameKind} (h:(relabel scope env).names.lookup y = some k) :
  ∃ k',scope.names.lookup y = some k' /\ (k = k' \/ (k = .cell /\ k' = .free)):=by
 have key:∀ l:List (Str × NameKind),(l.map fun (n,k)=>if (k == NameKind.free && env.scope.kind == .function && env.kindOf n == some .cell) then (n,NameKind.cell) else (n,k)).lookup y = some k →
   ∃ k',l.lookup y = some k' /\ (k = k' \/ (k = .cell /\ k' = .free)):=by
  intro l
  induction l with
  | nil=>intro h; cases h
  | cons p r ih =>
   obtain ⟨n,k0⟩:=p
   intro h
   rw [List.map_cons] at h
   by_cases hc:(k0 == NameKind.free && env.scope.kind == .function && env.kindOf n == some .cell) = true
   ·have hf:k0 = .free:=by
     simp only [Bool.and_eq_true,beq_iff_eq] at hc
     exact hc.1.1
    dsimp only at h
    rw [if_pos hc,List.lookup_cons] at h
    rw [List.lookup_cons]
    cases hx:y == n with
    | true=>rw [hx] at h; cases h; exact ⟨k0,rfl,.inr ⟨rfl,hf⟩⟩
    | false=>rw [hx] at h; exact ih h
   ·dsimp only at h
    rw [if_neg hc,List.lookup_cons] at h
    rw [List.lookup_cons]
    cases hx:y == n with
    | true=>rw [hx] at h; cases h; exact ⟨_,rfl,.inl rfl⟩
    | false=>rw [hx] at h; exact ih h
 exact key scope.names h
theorem tP {scope:Scope} {env:Env} {y:Str} (hk:env.scope.kind = .function) (hc:env.kindOf y = some .cell) (h:scope.names.lookup y = some .free):(relabel scope env).names.lookup y = some .cell:=by
 have key:∀ l:List (Str × NameKind),l.lookup y = some .free -> (l.map fun (n,k)=>if (k == NameKind.free && env.scope.kind == .function && env.kindOf n == some .cell) then (n,NameKind.cell) else (n,k)).lookup y = some .cell:=by
  intro l
  induction l with
  | nil=>intro h; cases h
  | cons p r ih =>
   obtain ⟨n,k0⟩:=p
   intro h
   rw [List.map_cons]
   rw [List.lookup_cons] at h
   dsimp only
   cases hx:y == n with
   | true =>
    rw [hx] at h
    cases h
    have e:y = n:=by simpa using hx
    subst e
    rw [if_pos (by simp [hk,hc]),List.lookup_cons,hx]
   | false =>
    rw [hx] at h
    by_cases hc2:(k0 == NameKind.free && env.scope.kind == .function && env.kindOf n == some .cell) = true
    ·rw [if_pos hc2,List.lookup_cons,hx]; exact ih h
    ·rw [if_neg hc2,List.lookup_cons,hx]; exact ih h
 exact key scope.names h
section
variable {X:Cx} {pins:List (Addr × Obj)} {σ:L2.St} {H2:Hp} {s₂:Shared} {it:Addr} {fp:List Addr} {tn:Nat -> Heap -> Prop} {J:It} {scope:Scope} {cl:List (Str × Addr)} {N':List Str} {sub:List (Option Nat)}
theorem qE {h₁:Heap} {tk:Nat} (I:Inv X pins σ H2 s₂) (S:CSc X scope N' sub) (hcl1:∀ x c,cl.lookup x = some c -> X.env.cells.lookup x = some c) (hcl2:∀ y ∈ scope.names,y.2 = .free -> ∃ c,cl.lookup y.1 = some c)
    (f2:∀ b ∈ fp,FpOk X pins H2 b) (hfp:∀ b ∈ fp,b < s₂.heap.objs.size) {m:Str -> Option Value} {ob:Obj}
    (hns:h₁.Ns (s₂.heap.objs.size + 1) m) (hk:∀ b o,(s₂.heap.push ob).get? b = some o -> h₁.get? b = some o) :
    Inv (cxC X N' scope cl (s₂.heap.objs.size + 1) s₂.heap.objs.size fp { s₂ with heap:=s₂.heap.push ob } H2) pins (capt sub σ) H2 { s₂ with heap:=h₁,toks:=tk }:=by
  have old:∀ b o,s₂.heap.get? b = some o -> (s₂.heap.push ob).get? b = some o:=fun b o e=>Heap.get?_push_of_some _ e
  have old2:∀ b o,s₂.heap.get? b = some o -> h₁.get? b = some o:=fun b o e=>hk b o (old b o e)
  have sz:(s₂.heap.push ob).objs.size = s₂.heap.objs.size + 1:=Heap.size_push ..
  have cells:∀ x c,cl.lookup x = some c -> c < s₂.heap.objs.size:=fun x c e=>let ⟨v,q⟩:=I.cell x c (hcl1 x c e); q.lt
  have has:∀ x,((relabel scope X.env).names.lookup x = some .cell \/ (relabel scope X.env).names.lookup x = some .free) -> ∃ c,cl.lookup x = some c:=fun x hx=>by
    rcases hx with hx | hx
    · obtain ⟨k',e,z⟩:=xX hx
      rcases z with z | ⟨_,z⟩
      · subst z; exact absurd rfl (S.nocell _ (PySem.mem_of_lookup e))
      · subst z; exact hcl2 _ (PySem.mem_of_lookup e) rfl
    · obtain ⟨k',e,z⟩:=xX hx
      rcases z with z | ⟨z,_⟩
      · subst z; exact hcl2 _ (PySem.mem_of_lookup e) rfl
      · cases z
  have frsz:∀ b ∈ frs X.stack,b < s₂.heap.objs.size:=fun b hb=>by
    rcases List.mem_cons.mp (I.stkSub b hb) with z | z
    · rw [z]; exact I.lt
    · exact Nat.lt_of_not_le fun q=>I.nofs q z
  refine
    { ok :=
      { mod:=I.ok.mod,kind:=S.kind,glob:=I.ok.glob,blt:=I.ok.blt
        above:=by show (s₂.heap.push ob).objs.size <= s₂.heap.objs.size + 1; rw [sz]; exact Nat.le_refl _
        inj:=fun x y c h1 h2=>I.ok.inj x y c (hcl1 x c h1) (hcl1 y c h2)
        has:=has
        cab:=fun x c z=>by cases z
        hd:=I.ok.hd,frames:=I.ok.frames,stk:=.inl rfl
        exf:=fun b hb=>?exf
        bs:=fun b o e=>⟨old b o (I.bk b o e),(I.bs b o e).2⟩
        bsz:=by show X.base.objs.size <= (s₂.heap.push ob).objs.size; rw [sz]; exact Nat.le_succ_of_le (Nat.le_trans I.ok.bsz I.sz)
        noex:=fun b o e hb=>?noex
        exfs:=fun b hb=>?exfs
        funs:=?funs
        frf:=I.stkFree }
      os:=rfl,bare:=I.bare,base:=Un.kept fun b u e=>hk b u e
      loc:=⟨m,hns,?loc⟩
      cell:=fun x c e=>?cell
      free:=I.hok.fresh (Nat.le_succ _)
      freeC:=fun x c e=>I.freeC x c (hcl1 x c e)
      pin:=fun p hp=>?pin
      hok:=I.hok.kept old2
      len:=?len }
  case exf =>
    rcases List.mem_cons.mp hb with rfl | hb
    · exact ⟨Nat.ne_of_lt (Nat.lt_succ_self _),fun x c e=>Nat.ne_of_lt (cells x c e)⟩
    · exact ⟨Nat.ne_of_lt (Nat.lt_succ_of_lt (hfp b hb)),fun x c e=>(f2 b hb).2.2.2.2.1 x c (hcl1 x c e)⟩
  case noex =>
    have hl:b < X.s₀.heap.objs.size:=Nat.lt_of_lt_of_le (Heap.lt_size e) I.ok.bsz
    rcases List.mem_cons.mp hb with rfl | hb
    · exact absurd (Nat.lt_of_lt_of_le hl I.sz) (Nat.lt_irrefl _)
    · rcases (f2 b hb).2.2.2.1 with z | z
      · exact I.ok.noex b o e z
      · exact absurd (Nat.lt_of_lt_of_le hl z) (Nat.lt_irrefl _)
  case exfs =>
    intro hs
    rcases List.mem_cons.mp hb with rfl | hb
    · exact absurd (frsz _ hs) (Nat.lt_irrefl _)
    · rcases List.mem_cons.mp (I.stkSub b hs) with z | z
      · exact (f2 b hb).2.1 z
      · exact (f2 b hb).2.2.1 z
  case funs=>exact Heap.FunFrames.of_keeps (fun b o e _=>⟨o,old b o e,rfl⟩) I.stack
  case loc =>
    intro j y v hj hv hvis
    obtain ⟨mX,_,lX⟩:=I.loc
    unfold capt at hv
    rw [List.getElem?_map] at hv
    cases hs:sub[j]? with
    | none=>rw [hs] at hv; cases hv
    | some o =>
      rw [hs] at hv
      cases o with
      | none=>cases hv
      | some i =>
        obtain ⟨hN,hc,hf⟩:=S.cap j y i hj hs
        have hv':σ[i]? = some (some v):=by
          have z:(match σ[i]? with | some v=>v | none=>none) = some v:=Option.some.inj hv
          cases q:σ[i]? with
          | none=>rw [q] at z; cases z
          | some w=>rw [q] at z; rw [show w = some v from z]
        obtain ⟨u,ru,hl⟩:=lX i y v hN hv' (.inr (.inl hc))
        refine ⟨u,ru,?_⟩
        have kc:(relabel scope X.env).names.lookup y = some .cell:=tP I.ok.kind hc hf
        rcases hl with ⟨z,_⟩ | ⟨_,c,e,ic⟩
        · have z':X.env.scope.names.lookup y = some .local :=z
          rw [hc] at z'; cases z'
        · obtain ⟨c',e'⟩:=hcl2 _ (PySem.mem_of_lookup hf) rfl
          have:=hcl1 _ _ e'
          rw [e] at this; cases this
          refine .inr ⟨.inl kc,c,e',?_⟩
          obtain ⟨oc,h1,h2⟩:=ic
          exact ⟨oc,old2 _ _ h1,h2⟩
  case cell =>
    obtain ⟨v,oc,h1,h2⟩:=I.cell x c (hcl1 x c e)
    exact ⟨v,oc,old2 _ _ h1,h2⟩
  case pin =>
    obtain ⟨p1,p2,p3,p4,p5⟩:=I.pin p hp
    refine ⟨old2 _ _ p1,p2,Nat.ne_of_lt (Nat.lt_succ_of_lt (Heap.lt_size p1)),fun hs=>?_,p5⟩
    rcases List.mem_cons.mp (I.stkSub _ hs) with z | z
    · exact p3 z
    · exact p4 z
  case len =>
    show (capt sub σ).length = N'.length
    unfold capt
    rw [List.length_map]; exact S.len
theorem ZT {C D:Addr} {s₀:Shared} {s':Shared} {σ':L2.St} {H':Hp} {ys:List V} {us:List Value} {k:Nat} {oC:Obj} (I:Inv X pins σ H2 s₂)
    (hs₀:∀ b o,s₂.heap.get? b = some o -> s₀.heap.get? b = some o) (hos:s₀.os = s₂.os) (hD:s₂.heap.objs.size <= D) (hC:s₂.heap.objs.size <= C) (hDC:D ≠ C) (f2:∀ b ∈ fp,FpOk X pins H2 b)
    (I':Inv (cxC X N' scope cl C D fp s₀ H2) pins σ' H' s') (hn:H' D = none) (hy:s'.heap.get? D = some { cls:=.type "list",data:=.seq us.toArray k }) (rv:Vals ys us) (hz:ys.length <= sizeLine)
    (ho:s'.heap.get? C = some oC) (hd:∀ v,oC.data ≠ .cell v):Inv X (pins ++ [(C,oC)]) σ (upd H' D (.lst ys)) s' /\ FpOk X pins (upd H' D (.lst ys)) C:=by
  have neD:∀ b o,s₂.heap.get? b = some o -> b ≠ D:=fun b o e=>Nat.ne_of_lt (Nat.lt_of_lt_of_le (Heap.lt_size e) hD)
  have nm:∀ b o,s₂.heap.get? b = some o -> b ∉ fp -> b ∉ D :: fp:=fun b o e h z=>(List.mem_cons.mp z).elim (neD b o e) h
  have U:=I'.base
  have HC:upd H' D (.lst ys) C = none:=by rw [zp (Ne.symm hDC)]; exact I'.free
  have fpc:FpOk X pins (upd H' D (.lst ys)) C:=I.fpOk hC HC
  have un:Un (frs X.stack) fp H2 (upd H' D (.lst ys)) s₂.heap s'.heap :=
    { keep:=fun b o e n h1 h2=>U.keep b o (hs₀ b o e) n h1 (nm b o e h2)
      slot:=fun b o e n h1 h2=>U.slot b o (hs₀ b o e) n h1 (nm b o e h2)
      free:=fun b o e n h2=>by rw [zp (neD b o e)]; exact U.free b o (hs₀ b o e) n (nm b o e h2)
      there:=fun b o e h2=>U.there b o (hs₀ b o e) (nm b o e h2)
      tups:=fun b xs e=>by have z:=U.tups b xs e; rw [zp (zq z hn)]; exact z
      frzs:=fun b o u e=>by have z:=U.frzs b o u e; rw [zp (zq z hn)]; exact z
      tbls:=fun b ps e=>by obtain ⟨more,z⟩:=U.tbls b ps e; exact ⟨more,by rw [zp (zq z hn)]; exact z⟩ }
  have hok:HOk X.prog X.w (upd H' D (.lst ys)) s'.heap:=HOk.track I'.hok hn ⟨hz,us,k,rv,hy⟩
  have IX:Inv X pins σ (upd H' D (.lst ys)) s':=I.call' (I'.os.trans hos) un hok I'.bare fun b hb=>⟨(f2 b hb).2.2.2.1,(f2 b hb).2.1,(f2 b hb).2.2.2.2.1,(f2 b hb).2.2.2.2.2⟩
  refine ⟨IX.pins_of fun p hp=>?_,fpc⟩
  rcases List.mem_append.mp hp with hp | hp
  · exact IX.pin p (List.mem_append_right _ hp)
  · rw [List.mem_singleton.mp hp]
    exact ⟨ho,HC,fpc.2.1,fpc.2.2.1,hd⟩
end
section
variable {X:Cx} {scope:Scope} {N':List Str} {sub:List (Option Nat)} {x:Str} {px pos:Pos} {elt iter:Expr} {ifs:List Expr} {wi:TI} {g:TG} {tt:TT} {te:TE}
theorem CSc.clos {pins:List (Addr × Obj)} {σ:L2.St} {H:Hp} {s:Shared} (S:CSc X scope N' sub) (I:Inv X pins σ H s):∃ cl,closureFor scope X.env = pure cl /\ (∀ x c,cl.lookup x = some c -> X.env.cells.lookup x = some c) /\ ∀ y ∈ scope.names,y.2 = .free -> ∃ c,cl.lookup y.1 = some c :=
 ut fun y hy hf=>I.ok.has y.1 (.inl (S.free y hy hf))
end
def eqVs:List V -> List V -> Bool
 | [],[]=>true
 | x :: xs,y :: ys=>eqV x y && eqVs xs ys
 | _,_=>false
theorem rO:∀ {xs ys:List V},eqVs xs ys = true -> xs.length = ys.length
 | [],[],_=>rfl
 | x :: xs,y :: ys,h=>by
  have h':(eqV x y && eqVs xs ys) = true:=h
  rw [Bool.and_eq_true] at h'
  simp [rO h'.2]
 | [],_ :: _,h=>by cases h
 | _ :: _,[],h=>by cases h
theorem rP:∀ {xs ys:List V},eqVs xs ys = true ↔ xs.length = ys.length /\ ∀ (j:Nat) (x y:V),xs[j]? = some x -> ys[j]? = some y -> eqV x y = true
 | [],[]=>by simp [eqVs]
 | x :: xs,y :: ys=>by
  show (eqV x y && eqVs xs ys) = true ↔ _
  rw [Bool.and_eq_true,rP]
  constructor
  ·rintro ⟨h1,h2,h3⟩
   refine ⟨by simp [h2],fun j a b ha hb=>?_⟩
   cases j with
   | zero=>simp at ha hb; subst ha hb; exact h1
   | succ j=>exact h3 j a b (by simpa using ha) (by simpa using hb)
  ·rintro ⟨h1,h2⟩
   exact ⟨h2 0 x y rfl rfl,by simpa using h1,fun j a b ha hb=>h2 (j + 1) a b (by simpa using ha) (by simpa using hb)⟩
 | [],_ :: _=>by simp [eqVs]
 | _ :: _,[]=>by simp [eqVs]
theorem qF {xs ys:List V}:((List.range (min xs.length ys.length)).all (fun j=>match xs[j]?,ys[j]? with | some x,some y=>eqV x y | _,_=>true) && xs.length == ys.length) = eqVs xs ys:=by
 rw [Bool.eq_iff_iff,Bool.and_eq_true,List.all_eq_true,beq_iff_eq,rP]
 constructor
 ·rintro ⟨h1,h2⟩
  refine ⟨h2,fun j x y hx hy=>?_⟩
  have hj:j < xs.length:=(List.getElem?_eq_some_iff.mp hx).1
  have:=h1 j (List.mem_range.mpr (by rw [← h2]; simpa using hj))
  rw [hx,hy] at this
  exact this
 ·rintro ⟨h1,h2⟩
  refine ⟨fun j hj=>?_,h1⟩
  have hj':=List.mem_range.mp hj
  have a:j < xs.length:=by omega
  have b:j < ys.length:=by omega
  rw [List.getElem?_eq_getElem a,List.getElem?_eq_getElem b]
  exact h2 j _ _ (List.getElem?_eq_getElem a) (List.getElem?_eq_getElem b)
theorem jJ {xs:List V} {us:List Value} (r:Vals xs us) (j:Nat) (h:j < us.length):∃ x,xs[j]? = some x /\ RelV x us[j]:=by
 have hl:=r.length
 have hx:xs[j]? = some xs[j]:=List.getElem?_eq_getElem (by omega)
 obtain ⟨u,e,q⟩:=r.get hx
 rw [List.getElem?_eq_getElem h] at e
 cases e
 exact ⟨_,hx,q⟩
theorem XE {A:Around} {s:Shared} {xs ys:List V} {us ws:List Value} (r1:Vals xs us) (r2:Vals ys ws) (f1:xs.all xW = true) (f2:ys.all xW = true) :
  ∀ j (h1:j < us.toArray.size) (h2:j < ws.toArray.size),SeqAt.EqAt A s us.toArray[j] ws.toArray[j] ((fun j=>match xs[j]?,ys[j]? with | some x,some y=>eqV x y | _,_=>true) j):=by
 intro j h1 h2
 obtain ⟨x,ex,qx⟩:=jJ r1 j (by simpa using h1)
 obtain ⟨y,ey,qy⟩:=jJ r2 j (by simpa using h2)
 have fx:xW x = true:=List.all_eq_true.mp f1 x (List.mem_of_getElem? ex)
 have fy:xW y = true:=List.all_eq_true.mp f2 y (List.mem_of_getElem? ey)
 show SeqAt.EqAt A s _ _ (match xs[j]?,ys[j]? with | some x,some y=>eqV x y | _,_=>true)
 rw [ex,ey]
 simpa using Yn qx qy fx fy
section
variable {X:Cx}
theorem uu {h:Heap} {a:Addr} {its:Array Value} (t:IsTup h a its):h.IsTuple a its:=t
end
section
variable {X:Cx} {pos:Pos}
theorem tQ:∀ {bs:List Bool} {us:List Value},Vals (bs.map V.bl) us -> LSm.BoolsAre us bs
 | [],_,.nil=>.nil
 | b :: bs,_,.cons r t=>by
  cases r
  exact .cons b (tQ t)
theorem yi (hcalm:X.calm = true):xU X (.builtin "all") (fun xs H Q=>∃ (l:Addr) (bs:List Bool),xs = [.ref l] /\ SqL X.K H l (bs.map V.bl) /\ Q (.bl (bs.all id)) H):=by
 intro pins s σ H xs us Q I r h
 obtain ⟨l,bs,rfl,hl,q⟩:=h
 obtain ⟨u,rfl,rx⟩:=wI r
 cases (show u = Value.ref l from rx)
 obtain ⟨vs,rv,pl,_⟩:=I.list hl
 have hl':s.heap.IsList l vs.toArray:=pl.isList
 have hb:LSm.BoolsAre vs bs:=tQ rv
 have hlt:l < s.heap.objs.size:=by obtain ⟨_,e,_⟩:=hl'; exact Heap.lt_size e
 refine call_all_walk (wpAny_pyIter_list hl' ?_)
 refine ⟨s.heap.objs.size,[s.heap.objs.size,l],[s.heap.objs.size],vs.toArray.size,_,_,fun i=>(bs[i]?).getD true,rfl,Walks.list (A:=X.A.in1) (I.ok.hd hcalm) _ l (Nat.ne_of_lt hlt) vs.toArray,
  ⟨⟨_,Heap.get?_push_size _ rfl,rfl,rfl⟩,hl'.push _⟩,fun i v s' Q' E' hP hQ=>?_,fun h' tk hk=>?_⟩
 ·obtain ⟨b,e,rfl⟩:=hb.get i v (by simpa using hP)
  simp only [e,Option.getD_some] at hQ
  exact wpAny_truthy_bool hQ
 ·have e:((List.range vs.toArray.size).all fun i=>(bs[i]?).getD true) = bs.all id:=by
   have hlen:bs.length = vs.length:=by rw [← rv.length,List.length_map]
   rw [List.size_toArray,← hlen,Bool.eq_iff_iff,List.all_eq_true,List.all_eq_true]
   constructor
   ·intro z b hb'
    obtain ⟨i,hi,rfl⟩:=List.getElem_of_mem hb'
    have:=z i (List.mem_range.mpr hi)
    simpa [List.getElem?_eq_getElem hi] using this
   ·intro z i hi
    have hi':=List.mem_range.mp hi
    simpa [List.getElem?_eq_getElem hi'] using z _ (List.getElem_mem hi')
  rw [e]
  exact ⟨.bl (bs.all id),H,I.kept (t':=tk) (h':=h') (LSm.kept_iter hk),rfl,q⟩
end
theorem CSc.of {X:Cx} {scope:Scope} {N':List Str} {sub:List (Option Nat)} (sc:Scope) (NN:List Str) (e:X.env.scope = sc) (en:X.N = NN)
  (h:((scope.names.all fun y=>(y.2 != .free || sc.names.lookup y.1 == some .cell) && (y.2 != .cell) && (y.2 != .local || scope.names.lookup y.1 == some .local)) && (sub.length == N'.length) &&
   ((N'.zip sub).all fun p=>match p.2 with | none=>true | some i=>NN[i]? == some p.1 && sc.names.lookup p.1 == some .cell && scope.names.lookup p.1 == some .free)) = true)
  (hk:scope.kind = .function):CSc X scope N' sub:=by
 rw [Bool.and_eq_true,Bool.and_eq_true] at h
 obtain ⟨⟨h1,h2⟩,h3⟩:=h
 have k1:=fun y hy=>List.all_eq_true.mp h1 y hy
 refine ⟨fun y hy hf=>?_,fun y hy hc=>?_,hk,fun y hy hl=>?_,by simpa using h2,fun j y i hj hs=>?_⟩
 ·have:=k1 y hy
  simp only [hf,Bool.and_eq_true] at this
  have z:=this.1.1
  show X.env.scope.names.lookup y.1 = _
  rw [e]; simpa using z
 ·have:=k1 y hy
  simp only [hc,Bool.and_eq_true] at this
  simp at this
 ·have:=k1 y hy
  simp only [hl,Bool.and_eq_true] at this
  simpa using this.2
 ·have hm:(y,some i) ∈ N'.zip sub:=by
   have:(N'.zip sub)[j]? = some (y,some i):=by
    rw [List.getElem?_zip_eq_some]; exact ⟨hj,hs⟩
   exact List.mem_of_getElem? this
  have:=List.all_eq_true.mp h3 _ hm
  simp only [Bool.and_eq_true,beq_iff_eq] at this
  rw [e,en]
  exact ⟨this.1.1,this.1.2,this.2⟩
def ua (a:Int) (lo hi:Option Int):Deed:=if lo ≠ none /\ lo = hi then ⟨0,lo,hi⟩ else ⟨a,lo,hi⟩
def thrO (e:Deed) (o:Option Int) (d:Option Int):Option Int:=match o with
 | none=>d
 | some l=>some (e.mk' l)
def uL (d e:Deed):Deed:=ua (d.add + e.add) (thrO e d.lo e.lo) (thrO e d.hi e.hi)
def Deed.Bd (B:Int) (d:Deed):Prop:=(-B <= d.add /\ d.add <= B) /\ (∀ l,d.lo = some l -> -B <= l /\ l <= B) /\ ∀ h,d.hi = some h -> -B <= h /\ h <= B
theorem Ws (a v:Int):(Deed.mk a none none).mk' v = v + a:=rfl
theorem Wt (a l v:Int):(Deed.mk a (some l) none).mk' v = if l > v + a then l else v + a:=rfl
theorem Wu (a h v:Int):(Deed.mk a none (some h)).mk' v = if h < v + a then h else v + a:=rfl
theorem Wv (a l h v:Int):(Deed.mk a (some l) (some h)).mk' v = if h < (if l > v + a then l else v + a) then h else (if l > v + a then l else v + a):=rfl
def optA (o:Option Int):Int:=match o with | none=>0 | some i=>(i.natAbs:Int)
def Deed.big (d:Deed):Int:=(d.add.natAbs:Int) + optA d.lo + optA d.hi + 1
theorem jK {a:Int} {lo hi:Option Int} (h:∀ l u,lo = some l -> hi = some u -> l <= u):(ua a lo hi).Ok:=by
 unfold ua
 split
 ·rename_i c
  intro l u e1 e2
  have e1':lo = some l:=e1
  have e2':hi = some u:=e2
  right
  refine ⟨?_,rfl⟩
  have:=c.2
  rw [e1',e2'] at this
  exact Option.some.inj this
 ·rename_i c
  intro l u e1 e2
  have e1':lo = some l:=e1
  have e2':hi = some u:=e2
  left
  have:=h l u e1' e2'
  have ne:l ≠ u:=fun z=>c ⟨by rw [e1']; simp,by rw [e1',e2',z]⟩
  omega
theorem Ww {e:Deed} {B C:Int} (b:e.Bd B) (hB:0 <= B) {v:Int} (h1:-C <= v) (h2:v <= C) (hC:0 <= C):-(B + C) <= e.mk' v /\ e.mk' v <= B + C:=by
 obtain ⟨a,lo,hi⟩:=e
 obtain ⟨⟨b1,b2⟩,b3,b4⟩:=b
 have b1':-B <= a:=b1
 have b2':a <= B:=b2
 cases lo with
 | none =>
  cases hi with
  | none=>rw [Ws]; omega
  | some h=>have:=b4 h rfl; rw [Wu]; split <;> omega
 | some l =>
  have:=b3 l rfl
  cases hi with
  | none=>rw [Wt]; split <;> omega
  | some h=>have:=b4 h rfl; rw [Wv]; (repeat' split) <;> omega
theorem Deed.Sm.bd {d:Deed} (h:d.Sm):d.Bd (10 ^ 30):=by
 obtain ⟨⟨a1,a2⟩,h1,h2⟩:=h
 exact ⟨⟨by omega,by omega⟩,fun l e=>by have:=h1 l e; exact ⟨by have:=this.1; omega,by have:=this.2; omega⟩,fun l e=>by have:=h2 l e; exact ⟨by have:=this.1; omega,by have:=this.2; omega⟩⟩
theorem zJ {c:Bool} {A B:Prop} (e:c = false) (h:B):if c = true then A else B:=by rw [e]; exact iteF h
theorem zO {c:Bool} {A B:Prop} (e:c = true) (h:A):if c = true then A else B:=by rw [e]; exact iteT h
theorem rQ {K:FG7} {a:Addr} {xs:List V} {g:TG} {tt:TT} {te:TE} {Q:VK} {σ:L2.St} {H:Hp} (Pv:Nat -> List V -> L2.St -> Hp -> Prop) (h0:Pv 0 [] σ H) (hl:∀ i ys σ H,i <= xs.length -> Pv i ys σ H -> SqT K H a xs)
  (hs:∀ i x ys σ H,xs[i]? = some x -> Pv i ys σ H -> g x σ H fun σ2 H3=>tt σ2 H3 fun b H4=>if b = true then te σ2 H4 fun y H5=>ys.length < sizeLine /\ Pv (i + 1) (ys ++ [y]) σ2 H5 else Pv (i + 1) ys σ2 H4)
  (hd:∀ ys σ H,Pv xs.length ys σ H -> ∀ l,H l = none -> Q (.ref l) (upd H l (.lst ys))) :
  v9 (Itt K a) σ H g tt te Q:=by
 refine ⟨fun i m ys σ H=>m = xs.length - i /\ i <= xs.length /\ Pv i ys σ H,⟨xs.length,by simp,Nat.zero_le _,h0⟩,?_⟩
 rintro i m ys σ H ⟨rfl,hi,p⟩
 have q:=hl i ys σ H hi p
 by_cases hlt:i < xs.length
 ·refine .inr ⟨⟨xs,xs[i],q,by simp [hlt]⟩,Pv (i + 1),fun zs σ' H' p'=>⟨xs.length - (i + 1),by omega,rfl,hlt,p'⟩,fun x H' y=>?_⟩
  obtain ⟨e,y⟩:=y
  subst e
  exact hs i x ys σ _ (y xs q) p
 ·have e:i = xs.length:=by omega
  subst e
  exact .inl ⟨⟨xs,q,Nat.le_refl _⟩,hd ys σ H p⟩
theorem jL {K:FG7} {a:Addr} {xs:List V} {g:TG} {tt:TT} {te:TE} {Q:VK} {σ:L2.St} {H:Hp} (Pv:Nat -> List V -> L2.St -> Hp -> Prop) (h0:Pv 0 [] σ H) (hl:∀ i ys σ H,i <= xs.length -> Pv i ys σ H -> SqL K H a xs)
  (hs:∀ i x ys σ H,xs[i]? = some x -> Pv i ys σ H -> g x σ H fun σ2 H3=>tt σ2 H3 fun b H4=>if b = true then te σ2 H4 fun y H5=>ys.length < sizeLine /\ Pv (i + 1) (ys ++ [y]) σ2 H5 else Pv (i + 1) ys σ2 H4)
  (hd:∀ ys σ H,Pv xs.length ys σ H -> ∀ l,H l = none -> Q (.ref l) (upd H l (.lst ys))) :
  v9 (Itl K a) σ H g tt te Q:=by
 refine ⟨fun i m ys σ H=>m = xs.length - i /\ i <= xs.length /\ Pv i ys σ H,⟨xs.length,by simp,Nat.zero_le _,h0⟩,?_⟩
 rintro i m ys σ H ⟨rfl,hi,p⟩
 have q:=hl i ys σ H hi p
 by_cases hlt:i < xs.length
 ·refine .inr ⟨⟨xs,xs[i],q,by simp [hlt]⟩,Pv (i + 1),fun zs σ' H' p'=>⟨xs.length - (i + 1),by omega,rfl,hlt,p'⟩,fun x H' y=>?_⟩
  obtain ⟨e,y⟩:=y
  subst e
  exact hs i x ys σ _ (y xs q) p
 ·have e:i = xs.length:=by omega
  subst e
  exact .inl ⟨⟨xs,q,Nat.le_refl _⟩,hd ys σ H p⟩
theorem qG {K:FG7} {a:Addr} {xs:List V} {n:Nat} {te:TE} {Q:VK} {σ:L2.St} {H:Hp} (Pv:Nat -> List V -> L2.St -> Hp -> Prop) (h0:Pv 0 [] σ H) (hl:∀ i ys σ H,i <= xs.length -> Pv i ys σ H -> SqL K H a xs)
  (hs:∀ i x ys σ H,xs[i]? = some x -> Pv i ys σ H -> te (σ.set n (some x)) H fun y H5=>ys.length < sizeLine /\ Pv (i + 1) (ys ++ [y]) (σ.set n (some x)) H5)
  (hd:∀ ys σ H,Pv xs.length ys σ H -> ∀ l,H l = none -> Q (.ref l) (upd H l (.lst ys))):v9 (Itl K a) σ H (w9 n) jI te Q :=
 jL Pv h0 hl (fun i x ys σ H hx p=>by
  show if true = true then te (σ.set n (some x)) H (fun y H5=>ys.length < sizeLine /\ Pv (i + 1) (ys ++ [y]) (σ.set n (some x)) H5) else Pv (i + 1) ys (σ.set n (some x)) H
  rw [if_pos rfl]; exact hs i x ys σ H hx p) hd
theorem uN {X:Cx} {K:FG7} (h:X.K = K):IxR X (rIxL K):=by subst h; exact zU
theorem XF {a:Int} {hi:Option Int}:ua a none hi = ⟨a,none,hi⟩:=by simp [ua]
theorem XG {a l:Int}:ua a (some l) (some l) = ⟨0,some l,some l⟩:=by simp [ua]
theorem Yt {a l:Int} {hi:Option Int} (h:some l ≠ hi):ua a (some l) hi = ⟨a,some l,hi⟩:=by simp [ua,h]
def jM (_:FG7):Sp:=sp3 fun x y z H Q=>∃ a lo hi,x = .int a /\ y = ov lo /\ z = ov hi /\ ∀ t,H t = none -> Q (.ref t) (upd H t (.tup (ua a lo hi).vs))
def wo (K:FG7):Sp:=sp2 fun x y H Q=>∃ d e,yg K H x d /\ yg K H y e /\ ∀ t,H t = none -> Q (.ref t) (upd H t (.tup (uL d e).vs))
theorem Deed.Bd.mono {d:Deed} {B C:Int} (b:d.Bd B) (h:B <= C):d.Bd C:=by
 obtain ⟨⟨b1,b2⟩,b3,b4⟩:=b
 exact ⟨⟨by omega,by omega⟩,fun l e=>by have:=b3 l e; omega,fun l e=>by have:=b4 l e; omega⟩
section
variable {X:Cx}
def rEqL (K:FG7) (neg:Bool):R2:=fun x y H Q=>∃ a b xs ys,x = .ref a /\ y = .ref b /\ SqL K H a xs /\ SqL K H b ys /\ xs.all xW = true /\ ys.all xW = true /\ Q (.bl (if neg then !eqVs xs ys else eqVs xs ys)) H
theorem XH {k:Nat} (hr:Room k X.A):OpR X (compareOp .Eq) (rEqL X.K false):=by
 intro pins s σ H x y v u Q I rx ry h
 obtain ⟨a,b,xs,ys,rfl,rfl,ha,hb,f1,f2,q⟩:=h
 cases rx; cases ry
 obtain ⟨us,r1,t1,_⟩:=I.list ha
 obtain ⟨ws,r2,t2,_⟩:=I.list hb
 by_cases hl:us.length = ws.length
 ·refine SeqAt.eq_listAt t1.isList t2.isList (by simpa using hl) hr.units0 (XE r1 r2 f1 f2) ?_
  have e:=qF (xs:=xs) (ys:=ys)
  have e2:(xs.length == ys.length) = true:=by rw [beq_iff_eq,r1.length,r2.length]; exact hl
  rw [e2,Bool.and_true,show min xs.length ys.length = xs.length by rw [r1.length,r2.length]; omega] at e
  rw [List.size_toArray,← r1.length,e]
  exact ⟨.bl _,H,I,rfl,q⟩
 ·refine SeqAt.eq_list_lengthsAt t1.isList t2.isList (by simpa using hl) hr.units0 ?_
  have e:eqVs xs ys = false:=by
   cases z:eqVs xs ys with
   | false=>rfl
   | true=>exact absurd (by rw [← r1.length,← r2.length]; exact rO z) hl
  rw [e] at q
  exact ⟨.bl _,H,I,rfl,q⟩
end
theorem YT {i j:Int}:eqV (.int i) (.int j) = decide (i = j):=by rw [Bool.eq_iff_iff]; simp [eqV]
theorem tR:∀ {xs ys:List Int},eqVs (xs.map V.int) (ys.map V.int) = decide (xs = ys)
 | [],[]=>rfl
 | x :: xs,y :: ys=>by
  show (eqV (.int x) (.int y) && eqVs (xs.map V.int) (ys.map V.int)) = _
  rw [YT,tR,Bool.eq_iff_iff]
  simp
 | [],_ :: _=>by simp [eqVs]
 | _ :: _,[]=>by simp [eqVs]
theorem tS {xs:List Int}:(xs.map V.int).all xW = true:=by
 rw [List.all_eq_true]; intro x hx; obtain ⟨i,_,rfl⟩:=List.mem_map.mp hx; rfl
theorem Grow.sqL {H H':Hp} (g:Grow [] H H') {K:FG7} {a:Addr} {xs:List V} (h:SqL K H a xs):SqL K H' a xs:=by
 rcases h with (h | ⟨o,h⟩) | h
 ·exact .inl (.inl (g.keep _ _ (by simp) h))
 ·exact .inl (.inr ⟨o,g.frz _ _ _ h⟩)
 ·exact .inr h
section
variable {K:FG7} {a:Addr} {xs:List V} {n:Nat} {tt:TT} {te:TE} {Q:VK} {σ:L2.St} {H:Hp}
theorem tT {p:V -> Bool} {f:V -> V} {i:Nat} {x:V} (hx:xs[i]? = some x):((xs.take (i + 1)).filter p).map f = ((xs.take i).filter p).map f ++ (if p x = true then [f x] else []):=by
 rw [List.take_add_one,hx,List.filter_append,List.map_append]
 congr 1
 show ((([x]:List V)).filter p).map f = _
 by_cases c:p x = true
 ·rw [if_pos c,List.filter_cons_of_pos c]; rfl
 ·rw [if_neg c,List.filter_cons_of_neg c]; rfl
theorem ZU {p:V -> Bool} {f:V -> V} {i:Nat} (h:xs.length <= 1000):(((xs.take i).filter p).map f).length < sizeLine:=by
 rw [List.length_map]
 refine zB ?_
 have:=List.length_filter_le p (xs.take i)
 have:=List.length_take_le i xs
 have:(xs.take i).length <= xs.length:=by rw [List.length_take]; omega
 omega
theorem ZV {p:V -> Bool} {f:V -> V}:((xs.take xs.length).filter p).map f = (xs.filter p).map f:=by rw [List.take_length]
theorem qH (p:V -> Bool) (f:V -> V) (hl:SqT K H a xs) (hlen:xs.length <= 1000)
  (ht:∀ x H' (R:Bool -> Hp -> Prop),x ∈ xs -> Grow [] H H' -> (∀ H2,Grow [] H' H2 -> R (p x) H2) -> tt (σ.set n (some x)) H' R)
  (hs:∀ x H' (R:VK),x ∈ xs -> p x = true -> Grow [] H H' -> (∀ H2,Grow [] H' H2 -> R (f x) H2) -> te (σ.set n (some x)) H' R)
  (hd:∀ H' l,Grow [] H H' -> H' l = none -> Q (.ref l) (upd H' l (.lst ((xs.filter p).map f)))):v9 (Itt K a) σ H (w9 n) tt te Q:=by
 refine rQ (xs:=xs) (fun i ys σ' H'=>Grow [] H H' /\ (σ' = σ \/ ∃ e,σ' = σ.set n e) /\ ys = ((xs.take i).filter p).map f) ⟨Grow.refl _ _,.inl rfl,rfl⟩ ?_ ?_ ?_
 ·rintro i ys σ' H' _ ⟨g,_⟩
  exact g.sqT hl
 ·rintro i x ys σ' H' hx ⟨g,hσ,rfl⟩
  have e:σ'.set n (some x) = σ.set n (some x):=by
   rcases hσ with rfl | ⟨e,rfl⟩
   ·rfl
   ·rw [List.set_set]
  show tt (σ'.set n (some x)) H' _
  rw [e]
  refine ht x H' _ (List.mem_of_getElem? hx) g fun H2 g2=>?_
  by_cases c:p x = true
  ·rw [if_pos c]
   refine hs x H2 _ (List.mem_of_getElem? hx) c (g.trans g2) fun H3 g3=>⟨ZU hlen,(g.trans g2).trans g3,.inr ⟨_,rfl⟩,?_⟩
   rw [tT hx,if_pos c]
  ·rw [if_neg c]
   refine ⟨g.trans g2,.inr ⟨_,rfl⟩,?_⟩
   rw [tT hx,if_neg c,List.append_nil]
 ·rintro ys σ' H' ⟨g,_,rfl⟩ l hl
  rw [ZV]
  exact hd H' l g hl
theorem ZW {p:V -> Bool} (h:∀ x,p x = true):xs.filter p = xs:=List.filter_eq_self.mpr fun x _=>h x
theorem jN (f:V -> V) (hl:SqT K H a xs) (hlen:xs.length <= 1000)
  (hs:∀ x H' (R:VK),x ∈ xs -> Grow [] H H' -> (∀ H2,Grow [] H' H2 -> R (f x) H2) -> te (σ.set n (some x)) H' R)
  (hd:∀ H' l,Grow [] H H' -> H' l = none -> Q (.ref l) (upd H' l (.lst (xs.map f)))):v9 (Itt K a) σ H (w9 n) jI te Q :=
 qH (fun _=>true) f hl hlen (fun x H' R _ _ k=>k H' (Grow.refl _ _)) (fun x H' R hx _ g k=>hs x H' R hx g k) (fun H' l g hl=>by rw [ZW fun _=>rfl]; exact hd H' l g hl)
end
theorem nd {d e:Deed} (h:d = e):(!decide (d = e)) = false:=by rw [decide_eq_true h]; rfl
mutual
inductive Dat (K:FG7) (H:Hp):V -> PyData -> Prop
 | non:Dat K H .non .none
 | bl (b:Bool):Dat K H (.bl b) (.bool b)
 | int (i:Int):Dat K H (.int i) (.int i)
 | tup {a:Addr} {xs:List V} {ds:List PyData}:SqT K H a xs -> DatAll K H xs ds -> Dat K H (.ref a) (.tuple ds)
 | lst {a:Addr} {xs:List V} {ds:List PyData}:SqL K H a xs -> DatAll K H xs ds -> Dat K H (.ref a) (.list ds)
inductive DatAll (K:FG7) (H:Hp):List V -> List PyData -> Prop
 | nil:DatAll K H [] []
 | cons {x:V} {xs:List V} {d:PyData} {ds:List PyData}:Dat K H x d -> DatAll K H xs ds -> DatAll K H (x :: xs) (d :: ds)
end
section
variable {X:Cx} {pins:List (Addr × Obj)} {σ:L2.St} {H:Hp} {s:Shared}
mutual
theorem Dat.reads (I:Inv X pins σ H s):∀ {x:V} {d:PyData} {u:Value},Dat X.K H x d -> RelV x u -> ∃ as,Reads s.heap u d as
 | _,_,u,.non,r=>by
  cases (show u = Value.none from r)
  exact ⟨_,.none⟩
 | _,_,u,.bl b,r=>by
  cases (show u = Value.bool b from r)
  exact ⟨_,.bool b⟩
 | _,_,u,.int i,r=>by
  obtain ⟨t,rfl⟩:=r
  exact ⟨_,.int i t⟩
 | _,_,u,.tup (a:=a) hs hd,r=>by
  cases (show u = Value.ref a from r)
  obtain ⟨its,r1,⟨o,e1,e2,n,e3⟩,_⟩:=I.tuple hs
  obtain ⟨as,q⟩:=DatAll.reads I hd r1
  exact ⟨_,.tuple e1 e2 e3 q⟩
 | _,_,u,.lst (a:=a) hs hd,r=>by
  cases (show u = Value.ref a from r)
  obtain ⟨its,r1,⟨o,n,e1,e2,_,e3⟩,_⟩:=I.list hs
  obtain ⟨as,q⟩:=DatAll.reads I hd r1
  exact ⟨_,.list e1 e2 e3 q⟩
theorem DatAll.reads (I:Inv X pins σ H s):∀ {xs:List V} {ds:List PyData} {us:List Value},DatAll X.K H xs ds -> Vals xs us -> ∃ as,ReadsAll s.heap us ds as
 | _,_,_,.nil,.nil=>⟨_,.nil⟩
 | _,_,_,.cons h t,.cons r rs=>by
  obtain ⟨as,q⟩:=Dat.reads I h r
  obtain ⟨bs,q2⟩:=DatAll.reads I t rs
  exact ⟨_,.cons q q2⟩
end
end
mutual
/-- a bound of the text's length -/
def wtD:PyData -> Nat
 | .list xs | .tuple xs=>wtAll xs + 3
 | .int _=>1921
 | .none | .bool _=>5
 | _=>20000000
def wtAll:List PyData -> Nat
 | []=>0
 | x :: xs=>wtD x + 2 + wtAll xs
end
mutual
theorem shown_wt:∀ {d:PyData},d.showable = true -> d.hasDict = false -> wtD d <= 16777216 -> d.shown.length <= wtD d
 | .none,_,_,_=>by decide
 | .bool b,_,_,_=>by cases b <;> decide
 | .int i,h,_,_=>int_text_len_1921 (of_decide_eq_true h)
 | .str _,_,_,z=>absurd (show 20000000 <= 16777216 from z) (by decide)
 | .list xs,h,h2,z=>by
  have z':wtAll xs + 3 <= 16777216:=z
  have q:=shown_wtAll (xs:=xs) h h2 (by omega)
  have l:=listText_len_le (PyData.shownAll xs)
  show (listText (PyData.shownAll xs)).length <= wtAll xs + 3
  omega
 | .tuple xs,h,h2,z=>by
  have z':wtAll xs + 3 <= 16777216:=z
  have q:=shown_wtAll (xs:=xs) h h2 (by omega)
  have l:=tupleText_len_le (PyData.shownAll xs)
  show (tupleText (PyData.shownAll xs)).length <= wtAll xs + 3
  omega
 | .dict _,_,h,_=>by cases h
theorem shown_wtAll:∀ {xs:List PyData},PyData.showableAll xs = true -> PyData.hasDictAll xs = false -> wtAll xs <= 16777216 -> ((PyData.shownAll xs).map (·.length)).sum + 2 * (PyData.shownAll xs).length <= wtAll xs
 | [],_,_,_=>by decide
 | x :: xs,h,h2,z=>by
  have h':(x.showable && PyData.showableAll xs) = true:=h
  have h2':(x.hasDict || PyData.hasDictAll xs) = false:=h2
  rw [Bool.and_eq_true] at h'
  rw [Bool.or_eq_false_iff] at h2'
  have z':wtD x + 2 + wtAll xs <= 16777216:=z
  have q1:=shown_wt (d:=x) h'.1 h2'.1 (by omega)
  have q2:=shown_wtAll (xs:=xs) h'.2 h2'.2 (by omega)
  show (x.shown.length :: (PyData.shownAll xs).map (·.length)).sum + 2 * ((PyData.shownAll xs).length + 1) <= wtD x + 2 + wtAll xs
  rw [List.sum_cons]
  omega
end
def oD:Option Int -> PyData
 | none=>.none
 | some i=>.int i
section
variable {K:FG7} {a:Addr} {xs:List V} {lo:Int} {n k:Nat} {te:TE} {Q:VK} {σ:L2.St} {H:Hp}
theorem vj (Pv:Nat -> List V -> Hp -> Prop) (h0:Pv 0 [] H)
  (hs:∀ i ys H',i < n -> Pv i ys H' -> te (σ.set k (some (.int (lo + i)))) H' fun y H5=>ys.length < sizeLine /\ Pv (i + 1) (ys ++ [y]) H5)
  (hd:∀ ys H',Pv n ys H' -> ∀ l,H' l = none -> Q (.ref l) (upd H' l (.lst ys))):v9 (Itr lo n) σ H (w9 k) jI te Q:=by
 refine ⟨fun i m ys σ' H'=>m = n - i /\ i <= n /\ (σ' = σ \/ ∃ e,σ' = σ.set k e) /\ Pv i ys H',⟨n,by simp,Nat.zero_le _,.inl rfl,h0⟩,?_⟩
 rintro i m ys σ' H' ⟨rfl,hi,hσ,p⟩
 by_cases hlt:i < n
 ·refine .inr ⟨hlt,fun zs σ2 H2=>(σ2 = σ \/ ∃ e,σ2 = σ.set k e) /\ Pv (i + 1) zs H2,fun zs σ2 H2 p'=>⟨n - (i + 1),by omega,rfl,hlt,p'.1,p'.2⟩,fun x H2 y=>?_⟩
  obtain ⟨e,y⟩:=y
  subst e y
  have e:σ'.set k (some (V.int (lo + i))) = σ.set k (some (V.int (lo + i))):=by
   rcases hσ with rfl | ⟨e,rfl⟩
   ·rfl
   ·rw [List.set_set]
  show if true = true then te (σ'.set k (some (V.int (lo + i)))) H2 (fun y H5=>ys.length < sizeLine /\ ((σ'.set k (some (V.int (lo + i))) = σ \/ ∃ e,σ'.set k (some (V.int (lo + i))) = σ.set k e) /\ Pv (i + 1) (ys ++ [y]) H5)) else ((σ'.set k (some (V.int (lo + i))) = σ \/ ∃ e,σ'.set k (some (V.int (lo + i))) = σ.set k e) /\ Pv (i + 1) ys H2)
  rw [if_pos rfl,e]
  have e2:(fun (y:V) (H5:Hp)=>ys.length < sizeLine /\ ((σ.set k (some (V.int (lo + i))) = σ \/ ∃ e,σ.set k (some (V.int (lo + i))) = σ.set k e) /\ Pv (i + 1) (ys ++ [y]) H5)) = fun y H5=>ys.length < sizeLine /\ Pv (i + 1) (ys ++ [y]) H5:=by
   funext y H5
   exact propext ⟨fun z=>⟨z.1,z.2.2⟩,fun z=>⟨z.1,.inr ⟨_,rfl⟩,z.2⟩⟩
  rw [e2]
  exact hs i ys H2 hlt p
 ·have e:i = n:=by omega
  subst e
  exact .inl ⟨Nat.le_refl _,hd ys H' p⟩
end
theorem Grow.fresh {m:List Addr} {H H':Hp} (h:∀ b ∈ m,H b = none) (g:Grow m H H'):Grow [] H H' :=
 ⟨fun b o _ q=>g.keep b o (fun z=>by rw [h b z] at q; cases q) q,g.tup,g.frz⟩
theorem Grow.less {m m':List Addr} {H H':Hp} (g:Grow m H H') (h:∀ b ∈ m,b ∈ m' \/ H b = none):Grow m' H H' :=
 ⟨fun b o n q=>g.keep b o (fun z=>by
  rcases h b z with w | w
  ·exact n w
  ·rw [w] at q; cases q) q,g.tup,g.frz⟩
theorem Pot.ne {H:Hp} {a l:Addr} (p:Pot H a) (h:H l = none):l ∉ [a]:=by
 intro z
 obtain ⟨z0,z1,hz,_⟩:=p
 rw [List.mem_singleton.mp z,hz] at h
 cases h
theorem vK {n:Nat} {i:Int} (h0:0 <= i) (h:i.toNat < n):ixN n i = some i.toNat:=by
 unfold ixN; rw [if_pos h0,if_pos (by omega)]
theorem sP {xs:List V} {i:Int} {j:Nat} {v:V} (h:ixN xs.length i = some j) (hv:xs[j]? = some v):atI xs i = some v:=by
 unfold atI; rw [h]; exact hv
structure Ask where
 hand:Int
 box:Int
 deed:Deed
def sQ (K:FG7) (H:Hp) (x:V) (k:Ask):Prop:=∃ r rd,x = .ref r /\ SqT K H r [.int k.hand,.int k.box,.ref rd] /\ SqT K H rd k.deed.vs
def AllA (K:FG7) (H:Hp):List V -> List Ask -> Prop
 | [],[]=>True
 | x :: xs,k :: ks=>sQ K H x k /\ AllA K H xs ks
 | _,_=>False
def vL (K:FG7) (H:Hp) (x:V) (ks:List Ask):Prop:=∃ r xs,x = .ref r /\ SqT K H r xs /\ AllA K H xs ks
def yh (K:FG7) (H:Hp) (x:V) (b:List Int):Prop:=∃ r,x = .ref r /\ SqT K H r (b.map V.int)
def ub (m:Nat) (k:Ask):Prop:=0 <= k.hand /\ k.hand <= 15 /\ 0 <= k.box /\ k.box < m /\ k.deed.Ok
theorem Grow.ask {m:List Addr} {H H':Hp} (g:Grow m H H') {K:FG7} {x:V} {k:Ask} (h:sQ K H x k):sQ K H' x k:=by
 obtain ⟨r,rd,e,h1,h2⟩:=h
 exact ⟨r,rd,e,g.sqT h1,g.sqT h2⟩
theorem Grow.allA {m:List Addr} {H H':Hp} (g:Grow m H H') {K:FG7}:∀ {xs:List V} {ks:List Ask},AllA K H xs ks -> AllA K H' xs ks
 | [],[],_=>trivial
 | _ :: _,_ :: _,⟨h,t⟩=>⟨g.ask h,g.allA t⟩
 | [],_ :: _,h=>h.elim
 | _ :: _,[],h=>h.elim
theorem Grow.asks {m:List Addr} {H H':Hp} (g:Grow m H H') {K:FG7} {x:V} {ks:List Ask} (h:vL K H x ks):vL K H' x ks:=by
 obtain ⟨r,xs,e,h1,h2⟩:=h
 exact ⟨r,xs,e,g.sqT h1,g.allA h2⟩
theorem Grow.board {m:List Addr} {H H':Hp} (g:Grow m H H') {K:FG7} {x:V} {b:List Int} (h:yh K H x b):yh K H' x b:=by
 obtain ⟨r,e,h1⟩:=h
 exact ⟨r,e,g.sqT h1⟩
theorem AllA.len {K:FG7} {H:Hp}:∀ {xs:List V} {ks:List Ask},AllA K H xs ks -> xs.length = ks.length
 | [],[],_=>rfl
 | _ :: xs,_ :: ks,⟨_,t⟩=>congrArg (· + 1) (AllA.len t)
 | [],_ :: _,h=>h.elim
 | _ :: _,[],h=>h.elim
theorem AllA.get {K:FG7} {H:Hp}:∀ {xs:List V} {ks:List Ask} {i:Nat} {x:V},AllA K H xs ks -> xs[i]? = some x -> ∃ k,ks[i]? = some k /\ sQ K H x k
 | _ :: _,k :: _,0,x,⟨h,_⟩,e=>by
  obtain rfl:=Option.some.inj e
  exact ⟨k,rfl,h⟩
 | _ :: _,_ :: _,i + 1,x,⟨_,t⟩,e=>AllA.get (i:=i) t e
 | [],[],i,x,_,e=>by cases e
 | [],_ :: _,_,_,h,_=>h.elim
 | _ :: _,[],_,_,h,_=>h.elim
theorem AllA.snoc {K:FG7} {H:Hp}:∀ {xs:List V} {ks:List Ask} {x:V} {k:Ask},AllA K H xs ks -> sQ K H x k -> AllA K H (xs ++ [x]) (ks ++ [k])
 | [],[],_,_,_,h=>⟨h,trivial⟩
 | _ :: _,_ :: _,_,_,⟨h,t⟩,q=>⟨h,AllA.snoc t q⟩
 | [],_ :: _,_,_,h,_=>h.elim
 | _ :: _,[],_,_,h,_=>h.elim
def tU (st:List Int × List Int) (k:Ask):List Int × List Int:=(st.1 ++ [st.2.getD k.box.toNat 0],st.2.set k.box.toNat (k.deed.mk' (st.2.getD k.box.toNat 0)))
def wJ (b:List Int) (ks:List Ask):List Int × List Int:=ks.foldl tU ([],b)
theorem qI {b:List Int} {ks:List Ask} {i:Nat} {k:Ask} (h:ks[i]? = some k):wJ b (ks.take (i + 1)) = tU (wJ b (ks.take i)) k:=by
 unfold wJ
 rw [List.take_add_one,h,List.foldl_append]; rfl
theorem jO {b:List Int}:∀ {ks:List Ask},(wJ b ks).2.length = b.length /\ (wJ b ks).1.length = ks.length:=by
 intro ks
 have key:∀ (ks:List Ask) (st:List Int × List Int),(ks.foldl tU st).2.length = st.2.length /\ (ks.foldl tU st).1.length = st.1.length + ks.length:=by
  intro ks
  induction ks with
  | nil=>intro st; exact ⟨rfl,rfl⟩
  | cons k ks ih =>
   intro st
   have:=ih (tU st k)
   refine ⟨this.1.trans (by simp [tU]),this.2.trans ?_⟩
   simp [tU]; omega
 have:=key ks ([],b)
 exact ⟨this.1,this.2.trans (Nat.zero_add _)⟩
theorem YU {xs:List Int} {i:Nat} (h:i < xs.length):xs[i]? = some (xs.getD i 0):=by
 rw [List.getD_eq_getElem?_getD,List.getElem?_eq_getElem h]; rfl
def InB (B:Int) (xs:List Int):Prop:=∀ v ∈ xs,-B < v /\ v < B
def vM (d:Deed):PyData:=.tuple [.int d.add,oD d.lo,oD d.hi]
def askD (k:Ask):PyData:=.tuple [.int k.hand,.int k.box,vM k.deed]
def jP (ks:List Ask):PyData:=.tuple (ks.map askD)
def Sh (d:PyData) (w n:Nat):Prop:=d.showable = true /\ d.hasDict = false /\ wtD d <= w /\ d.depth <= n
theorem Sh.mono {d:PyData} {w w' n n':Nat} (h:Sh d w n) (h1:w <= w') (h2:n <= n'):Sh d w' n':=⟨h.1,h.2.1,Nat.le_trans h.2.2.1 h1,Nat.le_trans h.2.2.2 h2⟩
def Yu (K:FG7) (H:Hp) (x:V) (p:List Int × List Int):Prop:=∃ r r1 r2,x = .ref r /\ SqT K H r [.ref r1,.ref r2] /\ SqT K H r1 (p.1.map V.int) /\ SqT K H r2 (p.2.map V.int)
theorem Grow.told {m:List Addr} {H H':Hp} (g:Grow m H H') {K:FG7} {x:V} {p:List Int × List Int} (h:Yu K H x p):Yu K H' x p:=by
 obtain ⟨r,r1,r2,e,h0,h1,h2⟩:=h
 exact ⟨r,r1,r2,e,g.sqT h0,g.sqT h1,g.sqT h2⟩
theorem InB.mono {B C:Int} {xs:List Int} (h:InB B xs) (hC:B <= C):InB C xs:=fun v hv=>by have:=h v hv; omega
def xi (_:FG7):Sp:=sp2 fun x y H Q=>∃ a m,x = .ref a /\ y = .int m /\ Pot H a /\ 0 < m /\ m < 2 ^ 200 /\ ∀ n H',0 <= n -> n < m -> Grow [a] H H' -> Pot H' a -> Q (.int n) H'
def xK (_:FG7):Sp:=sp1 fun x H Q=>∃ a,x = .ref a /\ Pot H a /\ ∀ n H',Sm n -> Grow [a] H H' -> Pot H' a -> Q (.int n) H'
def rR (K:FG7):Sp:=sp1 fun x H Q=>∃ a,x = .ref a /\ Pot H a /\ ∀ y b H',Grow [a] H H' -> Pot H' a -> yh K H' y b -> 1 <= b.length -> b.length <= 16 -> InB (10 ^ 30) b -> Q y H'
def jQ (K:FG7):Sp:=sp3 fun x y z H Q=>∃ a b m,x = .ref a /\ yh K H y b /\ z = .int m /\ 0 <= m /\ m <= 40 /\ Pot H a /\ 1 <= b.length /\ b.length <= 16 /\ ∀ y ks H',Grow [a] H H' -> Pot H' a -> vL K H' y ks -> ks.length <= 40 -> (∀ k ∈ ks,ub b.length k /\ k.deed.Sm) -> Q y H'
theorem xL {P:Program} {w:World} {K:FG7} {mg:Str -> Option Value} {base:Heap} {CX:CXT} {k:Nat} {f:Addr} {fd:FuncData} {ps:List Str} {sp:Sp} (h:∀ vs H Q E,¬ sp vs H Q E):FnOk P w K mg base CX k f fd ps sp :=
 ⟨fun vs H Q E z=>(h vs H Q E z).elim,by
  intros
  first
   | exact (h _ _ _ _ (by assumption)).elim⟩
inductive Tr where
 | leaf (n:Int)
 | node (l r:Tr)
def Tr.count:Tr -> Int
 | .leaf _=>1
 | .node l r=>l.count + r.count
def Tr.ht:Tr -> Nat
 | .leaf _=>0
 | .node l r=>max l.ht r.ht + 1
def xu (K:FG7) (H:Hp) (x:V):Tr -> Prop
 | .leaf n=>x = .int n
 | .node l r=>∃ a xl xr,x = .ref a /\ SqT K H a [xl,xr] /\ xu K H xl l /\ xu K H xr r
theorem Grow.tree {m:List Addr} {H H':Hp} (g:Grow m H H') {K:FG7}:∀ {t:Tr} {x:V},xu K H x t -> xu K H' x t
 | .leaf n,x,h=>h
 | .node l r,x,h=>by
  obtain ⟨a,xl,xr,e,hs,h1,h2⟩:=h
  exact ⟨a,xl,xr,e,g.sqT hs,g.tree h1,g.tree h2⟩
def trD:Tr -> PyData
 | .leaf n=>.int n
 | .node l r=>.tuple [trD l,trD r]
def Tr.wt:Tr -> Nat
 | .leaf _=>1
 | .node l r=>l.wt + r.wt + 1
def uO (f:Int) (m:Nat):Tr:=if h:m <= 1 then .leaf f else .node (uO f ((m + 1) / 2)) (uO (f + ((m + 1) / 2:Nat)) (m - (m + 1) / 2))
termination_by m
decreasing_by
 ·omega
 ·omega
theorem jR {f:Int} {m:Nat} (h:m <= 1):uO f m = .leaf f:=by rw [uO,dif_pos h]
theorem qJ {f:Int} {m:Nat} (h:¬ m <= 1):uO f m = .node (uO f ((m + 1) / 2)) (uO (f + ((m + 1) / 2:Nat)) (m - (m + 1) / 2)):=by rw [uO,dif_neg h]
def z4 (N:Nat) (K:FG7):Sp:=sp2 fun x y H Q=>∃ f m,x = .int f /\ y = .int m /\ 1 <= m /\ m <= N /\ ∀ y H',Grow [] H H' -> xu K H' y (uO f m.toNat) -> Q y H'
theorem vN {K:FG7}:∀ vs H Q E,¬ z4 0 K vs H Q E:=by
 rintro vs H Q E ⟨x,y,_,f,m,_,_,h1,h2,_⟩
 omega
def sp4 (b:V -> V -> V -> V -> Hp -> VK -> Prop):Sp:=fun vs H Q _=>∃ x y z u,vs = [x,y,z,u] /\ b x y z u H Q
theorem YV {b:V -> V -> V -> V -> Hp -> VK -> Prop} {p q r s:Str}:∀ vs H Q E,sp4 b vs H Q E -> vs.length = [p,q,r,s].length:=fun vs H Q E h=>by
 obtain ⟨x,y,z,u,rfl,_⟩:=h; rfl
def AllR {α:Type} (R:V -> α -> Prop):List V -> List α -> Prop
 | [],[]=>True
 | x :: xs,k :: ks=>R x k /\ AllR R xs ks
 | _,_=>False
section
variable {α:Type} {R S:V -> α -> Prop}
theorem AllR.imp (h:∀ x k,R x k -> S x k):∀ {xs:List V} {ks:List α},AllR R xs ks -> AllR S xs ks
 | [],[],_=>trivial
 | _ :: _,_ :: _,⟨a,t⟩=>⟨h _ _ a,AllR.imp h t⟩
 | [],_ :: _,z=>z.elim
 | _ :: _,[],z=>z.elim
theorem AllR.len:∀ {xs:List V} {ks:List α},AllR R xs ks -> xs.length = ks.length
 | [],[],_=>rfl
 | _ :: xs,_ :: ks,⟨_,t⟩=>congrArg (· + 1) (AllR.len t)
 | [],_ :: _,h=>h.elim
 | _ :: _,[],h=>h.elim
theorem AllR.get:∀ {xs:List V} {ks:List α} {i:Nat} {x:V},AllR R xs ks -> xs[i]? = some x -> ∃ k,ks[i]? = some k /\ R x k
 | _ :: _,k :: _,0,x,⟨h,_⟩,e=>by
  obtain rfl:=Option.some.inj e
  exact ⟨k,rfl,h⟩
 | _ :: _,_ :: _,i + 1,x,⟨_,t⟩,e=>AllR.get (i:=i) t e
 | [],[],i,x,_,e=>by cases e
 | [],_ :: _,_,_,h,_=>h.elim
 | _ :: _,[],_,_,h,_=>h.elim
theorem AllR.getR:∀ {xs:List V} {ks:List α} {i:Nat} {k:α},AllR R xs ks -> ks[i]? = some k -> ∃ x,xs[i]? = some x /\ R x k
 | x :: _,_ :: _,0,k,⟨h,_⟩,e=>by
  obtain rfl:=Option.some.inj e
  exact ⟨x,rfl,h⟩
 | _ :: _,_ :: _,i + 1,k,⟨_,t⟩,e=>AllR.getR (i:=i) t e
 | [],[],i,k,_,e=>by cases e
 | [],_ :: _,_,_,h,_=>h.elim
 | _ :: _,[],_,_,h,_=>h.elim
theorem AllR.app:∀ {xs ys:List V} {ks js:List α},AllR R xs ks -> AllR R ys js -> AllR R (xs ++ ys) (ks ++ js)
 | [],_,[],_,_,h=>h
 | _ :: _,_,_ :: _,_,⟨h,t⟩,q=>⟨h,AllR.app t q⟩
 | [],_,_ :: _,_,h,_=>h.elim
 | _ :: _,_,[],_,h,_=>h.elim
theorem AllR.one {x:V} {k:α} (h:R x k):AllR R [x] [k]:=⟨h,trivial⟩
theorem AllR.take:∀ {xs:List V} {ks:List α} {n:Nat},AllR R xs ks -> AllR R (xs.take n) (ks.take n)
 | [],[],n,_=>by rw [List.take_nil,List.take_nil]; trivial
 | _ :: _,_ :: _,0,_=>trivial
 | _ :: _,_ :: _,n + 1,⟨h,t⟩=>⟨h,AllR.take t⟩
 | [],_ :: _,_,h=>h.elim
 | _ :: _,[],_,h=>h.elim
theorem AllR.snocE {xs:List V} {x:V} {ks:List α} (h:AllR R (xs ++ [x]) ks):∃ js j,ks = js ++ [j] /\ AllR R xs js /\ R x j:=by
 induction xs generalizing ks with
 | nil =>
  cases ks with
  | nil=>exact h.elim
  | cons k ks =>
   obtain ⟨a,b⟩:=h
   cases ks with
   | nil=>exact ⟨[],k,rfl,trivial,a⟩
   | cons _ _=>exact b.elim
 | cons y ys ih =>
  cases ks with
  | nil=>exact h.elim
  | cons k ks =>
   obtain ⟨a,b⟩:=h
   obtain ⟨js,j,rfl,p,q⟩:=ih b
   exact ⟨k :: js,j,rfl,⟨a,p⟩,q⟩
end
def wV (K:FG7) (H:Hp) (x:V) (ds:List Deed):Prop:=∃ r xs,x = .ref r /\ SqT K H r xs /\ AllR (yg K H) xs ds
theorem Grow.deedsR {m:List Addr} {H H':Hp} (g:Grow m H H') {K:FG7} {xs:List V} {ds:List Deed} (h:AllR (yg K H) xs ds):AllR (yg K H') xs ds:=h.imp fun _ _ z=>g.deed z
theorem Grow.deedsT {m:List Addr} {H H':Hp} (g:Grow m H H') {K:FG7} {x:V} {ds:List Deed} (h:wV K H x ds):wV K H' x ds:=by
 obtain ⟨r,xs,e,h1,h2⟩:=h
 exact ⟨r,xs,e,g.sqT h1,g.deedsR h2⟩
def Ordd:Tr -> Int -> Prop
 | .leaf n,f=>n = f
 | .node l r,f=>Ordd l f /\ Ordd r (f + l.count)
def look:Deed:=⟨0,none,none⟩
def uc (ds:List Deed):Tr -> Deed
 | .leaf n=>ds.getD n.toNat look
 | .node l r=>uL (uc ds l) (uc ds r)
def vO (ds:List Deed):Tr -> Int -> List Int
 | .leaf _,v=>[v]
 | .node l r,v=>vO ds l v ++ vO ds r ((uc ds l).mk' v)
def ZX (ds:List Deed):Prop:=∀ d ∈ ds,d.Ok
theorem yY:∀ t:Tr,1 <= t.count
 | .leaf _=>Int.le_refl 1
 | .node l r=>by have:=yY l; have:=yY r; show 1 <= l.count + r.count; omega
def runD (ds:List Deed):Deed:=ds.foldl uL look
theorem wK (ds:List Deed):∀ (t:Tr) (v:Int),((vO ds t v).length:Int) = t.count
 | .leaf _,_=>rfl
 | .node l r,v=>by
  show ((vO ds l v ++ vO ds r _).length:Int) = l.count + r.count
  rw [List.length_append,Int.natCast_add,wK ds l,wK ds r]
theorem YW {xs:List V} (h:xs ≠ []):∃ ys y,xs = ys ++ [y]:=by
 cases e:xs.reverse with
 | nil=>exact absurd (List.reverse_eq_nil_iff.mp e) h
 | cons y r=>exact ⟨r.reverse,y,by rw [← List.reverse_reverse xs,e,List.reverse_cons]⟩
theorem AllR.drop {α:Type} {R:V -> α -> Prop}:∀ {xs:List V} {ks:List α} {n:Nat},AllR R xs ks -> AllR R (xs.drop n) (ks.drop n)
 | [],[],n,_=>by rw [List.drop_nil,List.drop_nil]; trivial
 | _ :: _,_ :: _,0,h=>h
 | _ :: _,_ :: _,n + 1,⟨h,t⟩=>AllR.drop (n:=n) t
 | [],_ :: _,_,h=>h.elim
 | _ :: _,[],_,h=>h.elim
theorem AllR.cut {α:Type} {R:V -> α -> Prop} {xs:List V} {ks:List α} (h:AllR R xs ks) (lo hi:Option Int):∃ us,AllR R (cutV xs lo hi) us /\ ∀ u ∈ us,u ∈ ks:=by
 unfold cutV
 exact ⟨_,(h.drop (n:=HT.sIx xs.length 0 lo)).take (n:=HT.sIx xs.length xs.length hi - HT.sIx xs.length 0 lo),fun u hu=>List.mem_of_mem_drop (List.mem_of_mem_take hu)⟩
def yM (N:Nat) (K:FG7):Sp:=sp2 fun x y H Q=>∃ ds t f,wV K H x ds /\ xu K H y t /\ Ordd t f /\ 0 <= f /\ f + t.count <= ds.length /\ t.ht < N /\ ∀ y H',Grow [] H H' -> yg K H' y (uc ds t) -> Q y H'
theorem sR {K:FG7}:∀ vs H Q E,¬ yM 0 K vs H Q E:=by
 rintro vs H Q E ⟨x,y,_,ds,t,f,_,_,_,_,_,h,_⟩
 omega
def xM (N:Nat) (K:FG7):Sp:=sp4 fun x y z u H Q=>∃ (ds:List Deed) (t:Tr) (f v:Int) (l:Addr) (xs:List Int),wV K H x ds /\ xu K H y t /\ Ordd t f /\ 0 <= f /\ f + t.count <= ds.length /\ t.ht < N /\ z = .int v /\ u = .ref l /\ H l = some (.lst (xs.map V.int)) /\ (xs.length:Int) + t.count <= 500 /\ ∀ y H',Grow [l] H H' -> H' l = some (.lst ((xs ++ vO ds t v).map V.int)) -> yg K H' y (uc ds t) -> Q y H'
theorem jS {K:FG7}:∀ vs H Q E,¬ xM 0 K vs H Q E:=by
 rintro vs H Q E ⟨x,y,z,u,_,ds,t,f,v,l,xs,_,_,_,_,_,h,_⟩
 omega
def jT (K:FG7) (H:Hp) (x:V) (rows:List (List Int)):Prop:=∃ r xs,x = .ref r /\ SqT K H r xs /\ AllR (yh K H) xs rows
theorem Grow.boardsR {m:List Addr} {H H':Hp} (g:Grow m H H') {K:FG7} {xs:List V} {rows:List (List Int)} (h:AllR (yh K H) xs rows):AllR (yh K H') xs rows:=h.imp fun _ _ z=>g.board z
theorem Grow.rows {m:List Addr} {H H':Hp} (g:Grow m H H') {K:FG7} {x:V} {rows:List (List Int)} (h:jT K H x rows):jT K H' x rows:=by
 obtain ⟨r,xs,e,h1,h2⟩:=h
 exact ⟨r,xs,e,g.sqT h1,g.boardsR h2⟩
def Rng (m:Int) (xs:List Int):Prop:=∀ v ∈ xs,0 <= v /\ v < m
def Wx (R M:Nat) (rows:List (List Int)):Prop:=rows.length = R /\ ∀ row ∈ rows,row.length = M /\ Rng M row
structure Fd (R:Nat) (tab:List (List Int)) (ns:List Int):Prop where
 tab:Wx R R tab
 ns:Rng R ns
section
variable {prog:Program} {w:World} {A:Around} {E:VS7} {s:Shared}
theorem sS {jt t:Addr} {i:Nat} {vs:Array Value} {v:Value} {Q:VS7} (hit:s.heap.IsTupleIter jt t i) (ht:s.heap.IsTuple t vs) (hv:vs[i]? = some v)
  (hQ:∀ h',h'.IsTupleIter jt t (i + 1) -> Heap.SameBut jt s.heap h' -> Q v { s with heap:=h' }):wpAny (model prog w) A (Builtin.SmallTypes.nextOf (.ref jt)) Q E s:=by
 obtain ⟨oj,hoj,cj,dj⟩:=id hit
 obtain ⟨ot,hot,_,nt,dt⟩:=ht
 unfold Builtin.SmallTypes.nextOf
 refine wpAny_bind (wpAny_callSpecial?_slot (name:=Str.ofString "__next__") hit.typeIs F.slot_tuple_iterator_next (wpAny_call_entry F.slot_tuple_iterator_next hit.typeIs F.entry_tuple_iterator_next ?_ (F.args_tuple_iterator_next_1 _)))
 show wpAny _ _ (field (.ref jt) 0 >>= _) _ _ s
 refine wpAny_bind (wpAny_field hoj dj (x:=.ref t) rfl ?_); show wpAny _ _ (if (Value.ref t == Value.none) = true then _ else _) _ _ s
 rw [if_neg (show ¬ ((Value.ref t == Value.none) = true) by exact Bool.false_ne_true)]; show wpAny _ _ (field (.ref jt) 1 >>= _) _ _ s
 refine wpAny_bind (wpAny_field hoj dj (x:=.int i 0) rfl ?_); show wpAny _ _ (seqItems? (.ref t) >>= _) _ _ s
 refine wpAny_bind (wpAny_seqItems hot dt ?_); simp only [Int.toNat_natCast,hv]
 refine wpAny_bind (wpAny_setField hoj dj (by simp) (wpAny_pure ⟨v,rfl,wpAny_pure (hQ _ ⟨_,Heap.get?_update_self _ hoj (Obj.isFreed_of_fields (Obj.data_mapFields dj _)),(Obj.cls_mapFields ..).trans cj,by rw [Obj.data_mapFields dj]; simp [rawInt]⟩ (Heap.SameBut.update ..))⟩))
theorem uv {jt t:Addr} {i:Nat} {vs:Array Value} {Q:VS7} (hh:A.handled = none) (hit:s.heap.IsTupleIter jt t i) (ht:s.heap.IsTuple t vs) (hv:vs[i]? = none)
  (hE:∀ h' e,Heap.ExtBut jt s.heap h' -> (∃ o,h'.get? e = some o /\ o.cls = .type "StopIteration") -> E (.ref e) { s with heap:=h' }):wpAny (model prog w) A (Builtin.SmallTypes.nextOf (.ref jt)) Q E s:=by
 obtain ⟨oj,hoj,cj,dj⟩:=id hit
 obtain ⟨ot,hot,_,nt,dt⟩:=ht
 unfold Builtin.SmallTypes.nextOf
 refine wpAny_bind (wpAny_callSpecial?_slot (name:=Str.ofString "__next__") hit.typeIs F.slot_tuple_iterator_next (wpAny_call_entry F.slot_tuple_iterator_next hit.typeIs F.entry_tuple_iterator_next ?_ (F.args_tuple_iterator_next_1 _)))
 show wpAny _ _ (field (.ref jt) 0 >>= _) _ _ s
 refine wpAny_bind (wpAny_field hoj dj (x:=.ref t) rfl ?_); show wpAny _ _ (if (Value.ref t == Value.none) = true then _ else _) _ _ s
 rw [if_neg (show ¬ ((Value.ref t == Value.none) = true) by exact Bool.false_ne_true)]; show wpAny _ _ (field (.ref jt) 1 >>= _) _ _ s
 refine wpAny_bind (wpAny_field hoj dj (x:=.int i 0) rfl ?_); show wpAny _ _ (seqItems? (.ref t) >>= _) _ _ s
 refine wpAny_bind (wpAny_seqItems hot dt ?_); simp only [Int.toNat_natCast,hv]
 refine wpAny_bind (wpAny_rule (wpAny_bind (wpAny_setField hoj dj (by simp) ?_))); show wpAny _ _ (newExc (.type "StopIteration") [] >>= _) _ _ _
 refine wpAny_bind ?_; simp only [newExc,newTuple]
 refine wpAny_bind (wpAny_newObj_type ?_ (by size_fits)); refine wpAny_bind (m:=firstArgMember _ _) (wpAny_of_eq (a:=Value.none) (by first | rfl | (simp only [firstArgMember]; rfl)) ?_)
 refine wpAny_newObj_type ?_ (by size_fits); simp only [raiseNew]
 refine wpAny_bind (wpAny_handled ?_); (first | rw [show A.in1.handled = none from hh] | rw [hh])
 exact wpAny_bind (wpAny_pure (wpAny_throw (hE _ _ (((Heap.SameBut.update ..).extBut.push _).push _) ⟨_,Heap.get?_push_size _ rfl,rfl⟩)))
end
theorem jU {prog:Program} {w:World} {A:Around} (hh:A.handled = none) (jt t:Addr) (hne:t ≠ jt) (vs:Array Value) :
  Draws prog w A jt [jt,t] vs.size (fun i v=>vs[i]? = some v) (fun i h=>h.IsTupleIter jt t i /\ h.IsTuple t vs) where
 live:=fun _ _ st=>let ⟨o,ho,_⟩:=st.1; ⟨o,ho⟩
 frame:=fun _ _ _ st hk=>⟨st.1.at (hk jt (by simp)),st.2.at (hk t (by simp))⟩
 item:=fun i s Q E hi st hQ=>sS st.1 st.2 (v:=vs[i]) (by simp [hi]) fun h' hit' hs'=>hQ _ h' s.toks (by simp [hi]) ⟨hit',st.2.extBut hs'.extBut hne⟩ hs'
 done:=fun s Q E st hE=>uv hh st.1 st.2 (by simp) hE
theorem jV {prog:Program} {w:World} {A:Around} (hh:A.handled = none) (jt t:Addr) (vs:Array Value) {i:Nat} (hv:vs[i]? = none) :
  Draws prog w A jt [jt,t] i (fun _ _=>True) (fun j h=>j = i /\ h.IsTupleIter jt t i /\ h.IsTuple t vs) where
 live:=fun _ _ st=>let ⟨o,ho,_⟩:=st.2.1; ⟨o,ho⟩
 frame:=fun _ _ _ st hk=>⟨st.1,st.2.1.at (hk jt (by simp)),st.2.2.at (hk t (by simp))⟩
 item:=fun j s Q E hj st hQ=>absurd st.1 (Nat.ne_of_lt hj)
 done:=fun s Q E st hE=>uv hh st.2.1 st.2.2 hv hE
section
variable {X:Cx} {pins:List (Addr × Obj)} {σ:L2.St} {H:Hp} {s:Shared} {h':Heap}
theorem jW {fp:List Addr} {t':Nat} (I:Inv X pins σ H s) (k:∀ b o,b ∉ fp -> s.heap.get? b = some o -> h'.get? b = some o) (ff:∀ b ∈ fp,FpOk X pins H b):Inv X pins σ H { s with heap:=h',toks:=t' }:=by
 have nit:∀ b u,H b = some u -> b ∉ fp:=fun b u e z=>by rw [(ff b z).1] at e; cases e
 refine I.step (g':=s.gens) (d':=s.drawn) (ch:=fp) (fun b hb=>?_) (fun b o _ _ hc e _=>k b o hc e) (fun b o _ _ hc e _=>⟨o.slots,k b o hc e⟩) (fun _ _ _ _ n=>n) (fun b o hc e=>⟨o,k b o hc e⟩) (fun _ _ e=>e) (fun _ _ _ e=>e) (fun b ps e=>⟨#[],by rw [e]; simp⟩) (fun m hm=>?_) (fun b u e=>?_) I.bare
 ·obtain ⟨_,f1,_,f3,f4,f5⟩:=ff b hb
  exact ⟨f3,f1,f4,f5⟩
 ·obtain ⟨o,es,ep,ho,r⟩:=hm
  exact ⟨o,es,ep,k _ o (fun z=>(ff _ z).2.1 rfl) ho,r⟩
 ·refine (I.hok b u e).stay (fun c v hc q=>k c v ?_ q) (fun _ q=>q) fun _ _ q=>q
  rcases hc with z | z
  ·rw [z]; exact nit b u e
  ·exact nit c _ z
theorem ZY {fp:List Addr} {T:Addr} {o:HO} {t':Nat} (I:Inv X pins σ H s) (k:∀ b o,b ∉ fp -> s.heap.get? b = some o -> h'.get? b = some o) (ff:∀ b ∈ fp,FpOk X pins H b) (hT:s.heap.objs.size <= T)
  (new:yu X.prog X.w (upd H T o) h' T o):Inv X pins σ (upd H T o) { s with heap:=h',toks:=t' }:=by
 have hn:H T = none:=I.hok.fresh hT
 have I1:Inv X pins σ H { s with heap:=h',toks:=t' }:=jW I k ff
 have hok:HOk X.prog X.w (upd H T o) h':=HOk.track I1.hok hn new
 refine I.step (g':=s.gens) (d':=s.drawn) (ch:=fp) (fun b hb=>?_) (fun b o _ _ hc e _=>k b o hc e) (fun b o _ _ hc e _=>⟨o.slots,k b o hc e⟩) (fun b u _ e n=>by rw [zp (Nat.ne_of_lt (Nat.lt_of_lt_of_le (Heap.lt_size e) hT))]; exact n) (fun b o hc e=>⟨o,k b o hc e⟩)
  (fun b xs e=>by rw [zp (zq e hn)]; exact e) (fun b u xs e=>by rw [zp (zq e hn)]; exact e) (fun b ps e=>⟨#[],by rw [zp (zq e hn),e]; simp⟩) (fun m hm=>?_) hok I.bare
 ·obtain ⟨_,f1,_,f3,f4,f5⟩:=ff b hb
  exact ⟨f3,f1,f4,f5⟩
 ·obtain ⟨o,es,ep,ho,r⟩:=hm
  exact ⟨o,es,ep,k _ o (fun z=>(ff _ z).2.1 rfl) ho,r⟩
end
section
variable {X:Cx} {elts:List Expr} {kt:Nat} {pt:Pos}
theorem XI:bootBuiltins "enumerate" = some (.type "enumerate"):=by decide +kernel
end
def sT (st:List Deed × List Deed) (k:Ask):List Deed × List Deed:=(st.1.set k.box.toNat (uL (st.1.getD k.box.toNat look) k.deed),st.2 ++ [st.1.getD k.box.toNat look])
def vP (n:Nat) (ks:List Ask):List Deed × List Deed:=ks.foldl sT (List.replicate n look,[])
theorem qK {n:Nat} {ks:List Ask} {i:Nat} {k:Ask} (h:ks[i]? = some k):vP n (ks.take (i + 1)) = sT (vP n (ks.take i)) k:=by
 unfold vP
 rw [List.take_add_one,h,List.foldl_append]; rfl
theorem XJ {ds:List Deed} {i:Nat} (h:i < ds.length):ds[i]? = some (ds.getD i look):=by
 rw [List.getD_eq_getElem?_getD,List.getElem?_eq_getElem h]; rfl
def Wy (j:Int) (ks:List Ask):List Deed:=(ks.filter fun k=>decide (k.box = j)).map Ask.deed
structure GInv (b:List Int) (ks:List Ask) (g:List Deed × List Deed) (p:List Int × List Int):Prop where
 l1:g.1.length = b.length
 l2:g.2.length = ks.length
 p1:p.1.length = ks.length
 p2:p.2.length = b.length
 bd1:∀ d ∈ g.1,d.Ok /\ d.Bd (ks.length * 10 ^ 30)
 bd2:∀ d ∈ g.2,d.Ok /\ d.Bd (ks.length * 10 ^ 30)
 run:∀ j:Nat,j < b.length -> g.1.getD j look = runD (Wy j ks)
 val:∀ j:Nat,j < b.length -> p.2.getD j 0 = (g.1.getD j look).mk' (b.getD j 0)
 ans:∀ i k,ks[i]? = some k -> p.1.getD i 0 = (g.2.getD i look).mk' (b.getD k.box.toNat 0)
theorem AllR.set {α:Type} {R:V -> α -> Prop} {x:V} {k:α} (h:R x k):∀ {xs:List V} {ks:List α} {n:Nat},AllR R xs ks -> AllR R (xs.set n x) (ks.set n k)
 | [],[],n,_=>by cases n <;> trivial
 | _ :: _,_ :: _,0,⟨_,t⟩=>⟨h,t⟩
 | _ :: _,_ :: _,n + 1,⟨a,t⟩=>⟨a,AllR.set h t⟩
 | [],_ :: _,_,z=>z.elim
 | _ :: _,[],_,z=>z.elim
theorem rS {α β:Type} {R:V -> α -> Prop} {x:V} {k:α} (h:R x k):∀ (ys:List β),AllR R (ys.map fun _=>x) (List.replicate ys.length k)
 | []=>trivial
 | _ :: ys=>⟨h,rS h ys⟩
def XL (K:FG7) (H:Hp) (x:V) (g:List Deed × List Deed):Prop:=∃ r r1 r2,x = .ref r /\ SqT K H r [.ref r1,.ref r2] /\ wV K H (.ref r1) g.1 /\ wV K H (.ref r2) g.2
section
variable {K:FG7} {a:Addr} {xs:List V} {k:Nat} {tt:TT} {te:TE} {Q:VK} {σ:L2.St} {H:Hp}
theorem qL (p:V -> Bool) (Pv:Nat -> List V -> Hp -> Prop) (h0:Pv 0 [] H) (hl:∀ i ys H',Pv i ys H' -> SqT K H' a xs)
  (ht:∀ x H' (R:Bool -> Hp -> Prop),x ∈ xs -> R (p x) H' -> tt (σ.set k (some x)) H' R)
  (hs:∀ i x ys H',xs[i]? = some x -> Pv i ys H' -> p x = true -> te (σ.set k (some x)) H' fun y H5=>ys.length < sizeLine /\ Pv (i + 1) (ys ++ [y]) H5)
  (hn:∀ i x ys H',xs[i]? = some x -> Pv i ys H' -> p x = false -> Pv (i + 1) ys H')
  (hd:∀ ys H',Pv xs.length ys H' -> ∀ l,H' l = none -> Q (.ref l) (upd H' l (.lst ys))):v9 (Itt K a) σ H (w9 k) tt te Q:=by
 refine rQ (xs:=xs) (fun i ys σ' H'=>(σ' = σ \/ ∃ e,σ' = σ.set k e) /\ Pv i ys H') ⟨.inl rfl,h0⟩ (fun i ys σ' H' _ p=>hl i ys H' p.2) ?_ (fun ys σ' H' p l hl=>hd ys H' p.2 l hl)
 rintro i x ys σ' H' hx ⟨hσ,pv⟩
 have e:σ'.set k (some x) = σ.set k (some x):=by
  rcases hσ with rfl | ⟨e,rfl⟩
  ·rfl
  ·rw [List.set_set]
 show tt (σ'.set k (some x)) H' _
 rw [e]
 refine ht x H' _ (List.mem_of_getElem? hx) ?_
 by_cases c:p x = true
 ·rw [if_pos c]
  have e2:(fun (y:V) (H5:Hp)=>ys.length < sizeLine /\ ((σ.set k (some x) = σ \/ ∃ e,σ.set k (some x) = σ.set k e) /\ Pv (i + 1) (ys ++ [y]) H5)) = fun y H5=>ys.length < sizeLine /\ Pv (i + 1) (ys ++ [y]) H5:=by
   funext y H5
   exact propext ⟨fun z=>⟨z.1,z.2.2⟩,fun z=>⟨z.1,.inr ⟨_,rfl⟩,z.2⟩⟩
  have z:=hs i x ys H' hx pv c
  rw [← e2] at z
  exact z
 ·rw [if_neg c]
  exact ⟨.inr ⟨_,rfl⟩,hn i x ys H' hx pv (by simpa using c)⟩
end
def wa (K:FG7):Sp:=sp2 fun x y H Q=>∃ b ks,yh K H x b /\ 1 <= b.length /\ b.length <= 16 /\ vL K H y ks /\ ks.length <= 900 /\ (∀ k ∈ ks,ub b.length k) /\ ∀ y H',Grow [] H H' -> XL K H' y (vP b.length ks) -> Q y H'
def figI (k st l:Int):Int:=Builtin.bitAnd (l / 2 ^ (k - st).toNat) 1
def wfI (k st l w:Int):Int:=Builtin.bitXor l (Builtin.bitXor (figI k st l) w * 2 ^ (k - st).toNat)
def swI (k st l:Int):Int:=Builtin.bitOr (l / 2 ^ (k - st + 1).toNat * 2 ^ (k - st).toNat) (Builtin.bitAnd l (1 * 2 ^ (k - st).toNat - 1))
def qM (k n:Int):List Int:=(List.range k.toNat).map fun i:Nat=>Builtin.bitAnd (n / 2 ^ (k - 1 - (0 + (i:Int))).toNat) 1
def numL (xs:List Int):Int:=xs.foldl (fun f o=>2 * f + o) 0
def YX (k h g:Int) (n:Nat):Int:=numL ((qM k g).take n ++ (qM k h).drop n)
def YY (k l:Int) (st:Nat):Int:=numL ((qM k l).take (st - 1) ++ (qM k l).drop st)
theorem Deed.Sm.bd2 {d:Deed} (h:d.Sm):d.Bd (2 * 10 ^ 30):=h.bd.mono (by decide)
section
variable {X:Cx} {pins:List (Addr × Obj)} {σ:L2.St} {H2:Hp} {s₂:Shared} {it:Addr} {fp:List Addr} {tn:Nat -> Heap -> Prop} {J:It} {scope:Scope} {cl:List (Str × Addr)} {N':List Str} {sub:List (Option Nat)}
theorem jX {C D:Addr} {s₀:Shared} {tg:Expr} {pos:Pos} {elt iter:Expr} {ifs:List Expr} {g:TG} {tt:TT} {te:TE} {Q:VK} {RR:Value -> Addr -> Result -> Shared -> Prop} {W:Nat -> Nat -> List V -> L2.St -> Hp -> Prop}
  (I:Inv X pins σ H2 s₂) (hcalm:X.calm = true) (T:Turn X.prog X.w X.K tg J fp it tn) (f2:∀ b ∈ fp,FpOk X pins H2 b) (hfp:∀ b ∈ fp,b < s₂.heap.objs.size)
  (hs₀:∀ b o,s₂.heap.get? b = some o -> s₀.heap.get? b = some o) (hos:s₀.os = s₂.os) (hD:s₂.heap.objs.size <= D) (hC:s₂.heap.objs.size <= C) (hDC:D ≠ C)
  (hcl1:∀ x c,cl.lookup x = some c -> X.env.cells.lookup x = some c)
  (hg:PG (cxC X N' scope cl C D fp s₀ H2) tg g) (ht:PIfs (cxC X N' scope cl C D fp s₀ H2) ifs tt) (he:PE (cxC X N' scope cl C D fp s₀ H2) elt te)
  (turn:∀ i m ys σ' H',W i m ys σ' H' →
   (J.stop i H' /\ ∀ l,H' l = none -> Q (.ref l) (upd H' l (.lst ys))) ∨
   (J.go i H' /\ ∃ Nn:List V -> L2.St -> Hp -> Prop,(∀ zs σ2 H2,Nn zs σ2 H2 -> ∃ m',m' < m /\ W (i + 1) m' zs σ2 H2) ∧
    ∀ x H2,J.yld i H' x H2 -> g x σ' H2 fun σ2 H3=>tt σ2 H3 fun b H4=>if b = true then te σ2 H4 fun y H5=>ys.length < sizeLine /\ Nn (ys ++ [y]) σ2 H5 else Nn ys σ2 H4))
  (hRR:∀ (D C:Addr) (oC:Obj) (m:Str -> Option Value) (s':Shared) (Hf:Hp),Inv X (pins ++ [(C,oC)]) σ Hf s' -> s'.heap.Ns C m -> FpOk X pins Hf C -> Q (.ref D) Hf -> RR (.ref D) C (.ok .next) s')
  (n:Nat) (s:Shared) (h:∃ i ys us k σ' H',Inv (cxC X N' scope cl C D fp s₀ H2) pins σ' H' s /\ tn i s.heap /\ (∀ b ∈ fp,H' b = none) /\ H' D = none ∧
   s.heap.get? D = some { cls:=.type "list",data:=.seq (us:List Value).toArray k } /\ Vals ys us /\ ys.length <= sizeLine /\ W i n ys σ' H') :
  codeAny (model X.prog X.w) X.A (.compLoop (.ListComp elt [⟨tg,iter,ifs,0⟩] scope pos) 0 (.ref it) (.ref D) (compEnvC scope cl C X.env)) (RR (.ref D) C) s:=by
 have frsz:∀ b ∈ frs X.stack,b < s₂.heap.objs.size:=fun b hb=>by
  rcases List.mem_cons.mp (I.stkSub b hb) with z | z
  ·rw [z]; exact I.lt
  ·exact Nat.lt_of_not_le fun q=>I.nofs q z
 have cells:∀ x c,cl.lookup x = some c -> c < s₂.heap.objs.size:=fun x c e=>let ⟨v,q⟩:=I.cell x c (hcl1 x c e); q.lt
 have pinsz:∀ p ∈ X.pn ++ pins,p.1 < s₂.heap.objs.size:=fun p hp=>Heap.lt_size (I.pin p hp).1
 refine jH (fun n s=>∃ i ys us k σ' H',Inv (cxC X N' scope cl C D fp s₀ H2) pins σ' H' s /\ tn i s.heap /\ (∀ b ∈ fp,H' b = none) /\ H' D = none ∧
   s.heap.get? D = some { cls:=.type "list",data:=.seq (us:List Value).toArray k } /\ Vals ys us /\ ys.length <= sizeLine /\ W i n ys σ' H') ?_ n h
 rintro n s ⟨i,ys,us,k,σ',H',I',st',fr,hn,hy,rv,hz,w'⟩
 have pD:Inv (cxC X N' scope cl C D fp s₀ H2) (pins ++ [(D,{ cls:=.type "list",data:=.seq us.toArray k })]) σ' H' s:=I'.pins_of fun p hp=>by
  rcases List.mem_append.mp hp with hp | hp
  ·exact I'.pin p (List.mem_append_right _ hp)
  ·rw [List.mem_singleton.mp hp]
   exact ⟨hy,hn,hDC,fun z=>absurd (Nat.lt_of_lt_of_le (frsz _ z) hD) (Nat.lt_irrefl _),fun v z=>by cases z⟩
 have fpok:∀ {H'':Hp},(∀ b ∈ fp,H'' b = none) -> ∀ b ∈ fp,FpOk (cxC X N' scope cl C D fp s₀ H2) (pins ++ [(D,{ cls:=.type "list",data:=.seq us.toArray k })]) H'' b:=fun hz b hb=>by
  refine ⟨hz b hb,Nat.ne_of_lt (Nat.lt_of_lt_of_le (hfp b hb) hC),fun z=>?_,.inl (List.mem_cons_of_mem _ hb),fun x c e=>(f2 b hb).2.2.2.2.1 x c (hcl1 x c e),fun p hp=>?_⟩
  ·rcases List.mem_cons.mp (I.stkSub b z) with z | z
   ·exact (f2 b hb).2.1 z
   ·exact (f2 b hb).2.2.1 z
  ·rcases List.mem_append.mp hp with hp | hp
   ·exact (f2 b hb).2.2.2.2.2 p (List.mem_append_left _ hp)
   ·rcases List.mem_append.mp hp with hp | hp
    ·exact (f2 b hb).2.2.2.2.2 p (List.mem_append_right _ hp)
    ·rw [List.mem_singleton.mp hp]
     exact Nat.ne_of_gt (Nat.lt_of_lt_of_le (hfp b hb) hD)
 rcases turn i n ys σ' H' w' with ⟨stop,q⟩ | ⟨go,Nn,hN,step⟩
 ·refine thn (T.done (cxC X N' scope cl C D fp s₀ H2) rfl rfl rfl hcalm i _ s σ' H' (fun _ _=>False) pD (fpok fr) st' stop) fun r s1 ⟨hr,I1⟩=>?_
  subst hr
  have hy1:=(I1.pin (D,{ cls:=.type "list",data:=.seq us.toArray k }) (by simp)).1
  obtain ⟨m,hm,_⟩:=I1.loc
  obtain ⟨oC,es,ep,hoC,hdC,_⟩:=id hm
  obtain ⟨IX,fpc⟩:=ZT I hs₀ hos hD hC hDC f2 I1.unpinned hn hy1 rv hz hoC (by intro v z; rw [hdC] at z; cases z)
  exact hRR D C oC m s1 _ IX hm fpc (q D hn)
 ·refine thn (T.item (cxC X N' scope cl C D fp s₀ H2) rfl rfl rfl hcalm i _ s σ' H' (fun _ _=>False) pD (fpok fr) st' go) fun r s1 ⟨u,hr,h4⟩=>?_
  subst hr
  refine thn h4 fun _ s2 ⟨x5,H5,I5,r5,y5,st5,fr5⟩=>?_
  have I5':=I5.pinned (fpok fr5) (T.obj _ _ st5)
  refine thn (hg _ s2 σ' H5 x5 u _ I5' r5 (step x5 H5 y5)) fun _ s3 ⟨σ6,H6,I6,q6⟩=>?_
  refine thn (ht _ s3 σ6 H6 _ I6 q6) fun ok s4 ⟨H7,I7,q7⟩=>?_
  have stay:∀ {σ7:L2.St} {H7:Hp} {s7:Shared},Inv (cxC X N' scope cl C D fp s₀ H2) (pins ++ [(D,{ cls:=.type "list",data:=.seq us.toArray k })] ++ tF fp s2.heap) σ7 H7 s7 →
    (∀ b ∈ fp,∀ o,s2.heap.get? b = some o -> s7.heap.get? b = some o) /\ (∀ b ∈ fp,H7 b = none) /\ H7 D = none /\ s7.heap.get? D = some { cls:=.type "list",data:=.seq us.toArray k }:=fun {σ7 H7 s7} I7=>by
   have d:=I7.pin (D,{ cls:=.type "list",data:=.seq us.toArray k }) (by simp)
   refine ⟨fun b hb o e=>(I7.pin (b,o) (List.mem_append_right _ (List.mem_append_right _ (xH hb e)))).1,fun b hb=>?_,d.2.1,d.1⟩
   obtain ⟨o,e,_⟩:=T.obj _ _ st5 b hb
   exact (I7.pin (b,o) (List.mem_append_right _ (List.mem_append_right _ (xH hb e)))).2.1
  cases ok with
  | false =>
   rw [if_neg (by decide)] at q7 ⊢
   obtain ⟨k1,k2,k3,k4⟩:=stay I7
   obtain ⟨m',hm,w7⟩:=hN ys σ6 H7 q7
   exact ⟨m',hm,i + 1,ys,us,k,σ6,H7,I7.unpinned.unpinned,T.keep _ _ _ st5 k1,k2,k3,k4,rv,hz,w7⟩
  | true =>
   rw [if_pos rfl] at q7 ⊢
   refine thn (he _ s4 σ6 H7 _ I7 q7) fun v s5 ⟨y,H8,I8,r8,hl8,n8⟩=>?_
   obtain ⟨k1,k2,k3,k4⟩:=stay I8
   refine wpAny_list_append_plain (l:=D) ⟨k,k4⟩ (fun h' pl sb=>?_) (by rw [List.size_toArray,← rv.length]; exact hz)
   obtain ⟨k',e'⟩:=pl
   obtain ⟨m',hm,w8⟩:=hN _ σ6 H8 n8
   refine ⟨m',hm,i + 1,ys ++ [y],us ++ [v],k',σ6,H8,?_,T.keep _ _ _ (T.keep _ _ _ st5 k1) fun b hb o e=>sb.extBut b o (Nat.ne_of_lt (Nat.lt_of_lt_of_le (hfp b hb) hD)) e,k2,k3,?_,rv.append (.cons r8 .nil),?_,w8⟩
   ·exact (I8.unpinned.unpinned).turned (it:=D) (t':=s5.toks) (h':=h') (fun b o hb e=>sb.extBut b o hb e) k3 hDC (.inl (by simp)) (fun x c e=>Nat.ne_of_lt (Nat.lt_of_lt_of_le (cells x c e) hD)) (fun p hp=>Nat.ne_of_lt (Nat.lt_of_lt_of_le (pinsz p hp) hD))
   ·rw [e']; simp
   ·rw [List.length_append]; exact hl8
theorem vQ {tg:Expr} {pos:Pos} {elt iter:Expr} {ifs:List Expr} {g:TG} {tt:TT} {te:TE} {E:VS7} {Q:VK} {RR:Value -> Addr -> Result -> Shared -> Prop}
  (I:Inv X pins σ H2 s₂) (hcalm:X.calm = true) (T:Turn X.prog X.w X.K tg J fp it tn) (st:tn 0 s₂.heap) (f2:∀ b ∈ fp,FpOk X pins H2 b)
  (S:CSc X scope N' sub) (hcl1:∀ x c,cl.lookup x = some c -> X.env.cells.lookup x = some c) (hcl2:∀ y ∈ scope.names,y.2 = .free -> ∃ c,cl.lookup y.1 = some c)
  (hg:∀ C D fp s H,PG (cxC X N' scope cl C D fp s H) tg g) (ht:∀ C D fp s H,PIfs (cxC X N' scope cl C D fp s H) ifs tt) (he:∀ C D fp s H,PE (cxC X N' scope cl C D fp s H) elt te)
  (hW:v9 J (capt sub σ) H2 g tt te Q)
  (hRR:∀ (D C:Addr) (oC:Obj) (m:Str -> Option Value) (s':Shared) (Hf:Hp),Inv X (pins ++ [(C,oC)]) σ Hf s' -> s'.heap.Ns C m -> FpOk X pins Hf C -> Q (.ref D) Hf -> RR (.ref D) C (.ok .next) s') :
  wpAny (model X.prog X.w) X.A (newList []) (fun acc s₃=>wpAny (model X.prog X.w) X.A (newFunctionEnv scope X.env.globals cl [] X.env.qual none .none (some X.env)) (fun cenv s₄ =>
   codeAny (model X.prog X.w) X.A (.compStart (.ListComp elt [⟨tg,iter,ifs,0⟩] scope pos) 0 (.ref it) acc { cenv with scope:=relabel scope X.env }) (RR acc cenv.locals) s₄) E s₃) E s₂:=by
 obtain ⟨W,⟨m0,w0⟩,turn⟩:=hW
 refine wpAny_newObj_type (wpAny_newFunctionEnv S.nocell (by intro y hy; simp at hy) (fun h₁ hns₁ hsb₁=>?_) S.kind)
 dsimp only at hns₁ hsb₁ ⊢
 have hC:(s₂.heap.push { cls:=.type "list",dict:=none,data:=.seq ([]:List Value).toArray }).objs.size = s₂.heap.objs.size + 1:=Heap.size_push ..
 rw [hC] at hns₁ hsb₁ ⊢
 have hk:∀ b o,(s₂.heap.push { cls:=.type "list",dict:=none,data:=.seq ([]:List Value).toArray }).get? b = some o -> h₁.get? b = some o:=fun b o e =>
  hsb₁.extBut b o (by have:=Heap.lt_size e; rw [hC] at this; exact Nat.ne_of_lt this) (Heap.get?_push_of_some _ e)
 have hfp:∀ b ∈ fp,b < s₂.heap.objs.size:=fun b hb=>by
  obtain ⟨o,e,_⟩:=T.obj _ _ st b hb
  exact Heap.lt_size e
 have I0:=qE (tk:=s₂.toks + ([]:List (Str × Value)).length) I S hcl1 hcl2 f2 hfp hns₁ hk
 have hD0:h₁.get? s₂.heap.objs.size = some { cls:=.type "list",data:=.seq ([]:List Value).toArray 0 }:=hk _ _ (Heap.get?_push_size _ rfl)
 have loop:codeAny (model X.prog X.w) X.A (.compLoop (.ListComp elt [⟨tg,iter,ifs,0⟩] scope pos) 0 (.ref it) (.ref s₂.heap.objs.size) (compEnvC scope cl (s₂.heap.objs.size + 1) X.env)) (RR (.ref s₂.heap.objs.size) (s₂.heap.objs.size + 1)) { s₂ with heap:=h₁,toks:=s₂.toks + ([]:List (Str × Value)).length } :=
  jX (s₀:={ s₂ with heap:=s₂.heap.push { cls:=.type "list",dict:=none,data:=.seq ([]:List Value).toArray } }) (C:=s₂.heap.objs.size + 1) (D:=s₂.heap.objs.size) I hcalm T f2 hfp (fun b o e=>Heap.get?_push_of_some _ e) rfl (Nat.le_refl _) (Nat.le_succ _) (Nat.ne_of_lt (Nat.lt_succ_self _)) hcl1 (hg _ _ _ _ _) (ht _ _ _ _ _) (he _ _ _ _ _) turn hRR m0 _
   ⟨0,[],[],0,capt sub σ,H2,I0,T.keep _ _ _ st fun b hb o e=>hk b o (Heap.get?_push_of_some _ e),fun b hb=>(f2 b hb).1,I.hok.fresh (Nat.le_refl _),hD0,.nil,Nat.zero_le _,w0⟩
 exact codeAny_compStart_list loop (T.self _ _ _ _ _ (T.keep _ _ _ st fun b hb o e=>hk b o (Heap.get?_push_of_some _ e)) loop)
end
section
variable {X:Cx} {scope:Scope} {N':List Str} {sub:List (Option Nat)} {tg:Expr} {pos:Pos} {elt iter:Expr} {ifs:List Expr} {wi:TI} {g:TG} {tt:TT} {te:TE}
theorem yl (S:CSc X scope N' sub) (hcalm:X.calm = true) (hi:PI X tg iter wi)
  (hg:∀ cl C D fp s H,PG (cxC X N' scope cl C D fp s H) tg g) (ht:∀ cl C D fp s H,PIfs (cxC X N' scope cl C D fp s H) ifs tt) (he:∀ cl C D fp s H,PE (cxC X N' scope cl C D fp s H) elt te)
  (hs:∀ x,foldedSetIterable iter X.env x = pure x:=by intro _; rfl):PE X (.ListComp elt [⟨tg,iter,ifs,0⟩] scope pos) (XD wi sub g tt te):=by
 intro pins s σ H Q I h
 obtain ⟨cl,hclos,hcl1,hcl2⟩:=S.clos I
 rw [eval_ListComp]
 refine wpAny_comprehension_free (use:=none) rfl hs hclos S.kind S.names (thn (hi pins s σ H _ I h) fun v s1 h1=>thn h1 fun itv s2 h2=>?_)
 obtain ⟨it,fp,tn,J,H2,e,I2,T,st2,f2,hW⟩:=h2
 subst e
 refine vQ (RR:=fun acc C=>compPost (model X.prog X.w) X.A X.xe none (EP X pins σ Q) acc C) I2 hcalm T st2 f2 S hcl1 hcl2 (hg cl) (ht cl) (he cl) hW ?_
 intro D C oC m s' Hf IX hm fpc q
 refine ⟨m,hm,fun h' sb=>⟨.ref D,Hf,?_,rfl,q⟩⟩
 exact (IX.unpinned).turned (it:=C) (t':=s'.toks) (h':=h') (fun b o hb e=>sb.extBut b o hb e) fpc.1 fpc.2.1 fpc.2.2.2.1 fpc.2.2.2.2.1 fpc.2.2.2.2.2
theorem rT {i:Nat} {y:Str} {py spos:Pos} (hN:X.N.Nodup) (hiN:X.N[i]? = some y) (hy:X.env.scope.names.lookup y = some .local) (S:CSc X scope N' sub) (hcalm:X.calm = true) (hi:PI X tg iter wi)
  (hg:∀ cl C D fp s H,PG (cxC X N' scope cl C D fp s H) tg g) (ht:∀ cl C D fp s H,PIfs (cxC X N' scope cl C D fp s H) ifs tt) (he:∀ cl C D fp s H,PE (cxC X N' scope cl C D fp s H) elt te)
  (hsw:swapsWith (.ListComp elt [⟨tg,iter,ifs,0⟩] scope pos) (some (.Name y py)) spos.line X.env = pure true:=by rfl)
  (hs:∀ x,foldedSetIterable iter X.env x = pure x:=by intro _; rfl):PS X (.Assign [.Name y py] (.ListComp elt [⟨tg,iter,ifs,0⟩] scope pos) spos) (tAsg (XD wi sub g tt te) (w9 i)):=by
 intro pins s σ H D I h
 obtain ⟨cl,hclos,hcl1,hcl2⟩:=S.clos I
 rw [exec_Assign_Name_used _ _ _ _ hsw]
 refine wpAny_bind (wpAny_standAt (wpAny_bind ?_))
 show wpAny _ X.A (do let _ ← comprehension (.ListComp elt [⟨tg,iter,ifs,0⟩] scope pos) scope X.env _ (newList []) false (eval iter X.env) (some (assign (.Name y py) X.env))) _ _ s
 refine wpAny_bind (wpAny_mono (wpAny_comprehension_free (use:=some (assign (.Name y py) X.env)) (Q:=fun _ s'=>SP X pins D .next s') rfl hs hclos S.kind S.names
  (thn (hi pins s σ H _ I h) fun v s1 h1=>thn h1 fun itv s2 h2=>?_)) (fun _ s' hq=>wpAny_pure (wpAny_pure hq)) fun _ _ e=>e)
 obtain ⟨it,fp,tn,J,H2,e,I2,T,st2,f2,hW⟩:=h2
 subst e
 refine vQ (Q:=fun x H1=>w9 i x σ H1 D.nx) (RR:=fun acc C=>compPost (model X.prog X.w) X.A X.xe (some (assign (.Name y py) X.env)) (fun _ s'=>SP X pins D .next s') acc C) I2 hcalm T st2 f2 S hcl1 hcl2 (hg cl) (ht cl) (he cl) hW ?_
 intro L C oC m s' Hf IX hm fpc q
 have st:=zr (X:=X) (pos:=py) hN hiN (.inl hy) (.inr hy) _ s' σ Hf (.ref L) (.ref L) D.nx IX rfl q
 refine thn st fun _ s'' ⟨σ2,H2,I2',q2⟩=>?_
 have p:=I2'.pin (C,oC) (by simp)
 have hm':s''.heap.Ns C m:=by
  obtain ⟨o,es,ep,e1,r⟩:=hm
  have z:=(IX.pin (C,oC) (by simp)).1
  rw [e1] at z; cases z
  exact ⟨_,es,ep,p.1,r⟩
 refine ⟨m,hm',fun h' sb=>⟨σ2,H2,?_,q2⟩⟩
 exact (I2'.unpinned).turned (it:=C) (t':=s''.toks) (h':=h') (fun b o hb e=>sb.extBut b o hb e) p.2.1 fpc.2.1 fpc.2.2.2.1 fpc.2.2.2.2.1 fpc.2.2.2.2.2
end
section
variable {prog:Program} {w:World} {A:Around} {E:VS7} {s:Shared}
def uP (h:Heap) (a:Addr) (cn:String) (vs:Array Value):Prop:=(cn = "tuple_iterator" /\ h.IsTuple a vs) \/ (cn = "list_iterator" /\ h.IsList a vs)
theorem uP.iter {a:Addr} {cn:String} {vs:Array Value} {Q:VS7} (h:uP s.heap a cn vs)
  (q:Q (.ref s.heap.objs.size) { s with heap:=s.heap.push { cls:=.type cn,data:=.fields #[.ref a,.int 0 0] } }):wpAny (model prog w) A (pyIter (.ref a)) Q E s:=by
 rcases h with ⟨rfl,h⟩ | ⟨rfl,h⟩
 ·exact wpAny_pyIter_tuple h q
 ·exact wpAny_pyIter_list h q
theorem uP.push {h:Heap} {a:Addr} {cn:String} {vs:Array Value} (x:uP h a cn vs) (o:Obj):uP (h.push o) a cn vs:=by
 rcases x with ⟨rfl,x⟩ | ⟨rfl,x⟩
 ·exact .inl ⟨rfl,x.push o⟩
 ·exact .inr ⟨rfl,x.push o⟩
def zpO (c:String) (a:Addr):Obj:={ cls:=.type c,data:=.fields #[.ref a,.int 0 0] }
end
def SqC (c:Bool) (K:FG7) (H:Hp) (a:Addr) (xs:List V):Prop:=match c with
 | true=>SqT K H a xs
 | false=>SqL K H a xs
def vR (c:Bool) (h:Heap) (j a:Addr) (i:Nat):Prop:=match c with
 | true=>h.IsTupleIter j a i
 | false=>h.IsListIter j a i
def SeqC (c:Bool) (h:Heap) (a:Addr) (vs:Array Value):Prop:=match c with
 | true=>h.IsTuple a vs
 | false=>h.IsList a vs
def cnC (c:Bool):String:=match c with
 | true=>"tuple_iterator"
 | false=>"list_iterator"
theorem vR.at {c:Bool} {h h':Heap} {j a:Addr} {i:Nat} (x:vR c h j a i) (k:∀ o,h.get? j = some o -> h'.get? j = some o):vR c h' j a i:=by
 cases c
 ·exact Heap.IsListIter.at x k
 ·exact Heap.IsTupleIter.at x k
theorem vR.obj {c:Bool} {h:Heap} {j a:Addr} {i:Nat} (x:vR c h j a i):∃ o,h.get? j = some o /\ ∀ v,o.data ≠ .cell v:=by
 cases c
 ·obtain ⟨o,e,_,d⟩:=x
  exact ⟨o,e,fun v z=>by rw [d] at z; cases z⟩
 ·obtain ⟨o,e,_,d⟩:=x
  exact ⟨o,e,fun v z=>by rw [d] at z; cases z⟩
theorem vR.mk {c:Bool} {h:Heap} {j a:Addr} (e:h.get? j = some (zpO (cnC c) a)):vR c h j a 0:=by
 cases c
 ·exact ⟨_,e,rfl,rfl⟩
 ·exact ⟨_,e,rfl,rfl⟩
theorem SeqC.src {c:Bool} {h:Heap} {a:Addr} {vs:Array Value} (x:SeqC c h a vs):uP h a (cnC c) vs:=by
 cases c
 ·exact .inr ⟨rfl,x⟩
 ·exact .inl ⟨rfl,x⟩
theorem SeqC.lt {c:Bool} {h:Heap} {a:Addr} {vs:Array Value} (x:SeqC c h a vs):a < h.objs.size:=by
 cases c
 ·obtain ⟨_,e,_⟩:=(show h.IsList a vs from x); exact Heap.lt_size e
 ·obtain ⟨_,e,_⟩:=(show h.IsTuple a vs from x); exact Heap.lt_size e
theorem XM {prog:Program} {w:World} {A:Around} (hh:A.handled = none) (c:Bool) (j t:Addr) (hne:t ≠ j) (vs:Array Value) :
  Draws prog w A j [j,t] vs.size (fun i v=>vs[i]? = some v) (fun i h=>vR c h j t i /\ SeqC c h t vs):=by
 cases c
 ·exact Draws.list hh j t hne vs
 ·exact jU hh j t hne vs
theorem qN {prog:Program} {w:World} {A:Around} (hh:A.handled = none) (jt t:Addr) (vs:Array Value) {i:Nat} (hv:vs[i]? = none) :
  Draws prog w A jt [jt,t] i (fun _ _=>True) (fun j h=>j = i /\ h.IsListIter jt t i /\ h.IsList t vs) where
 live:=fun _ _ st=>let ⟨o,ho,_⟩:=st.2.1; ⟨o,ho⟩
 frame:=fun _ _ _ st hk=>⟨st.1,st.2.1.at (hk jt (by simp)),st.2.2.at (hk t (by simp))⟩
 item:=fun j s Q E hj st hQ=>absurd st.1 (Nat.ne_of_lt hj)
 done:=fun s Q E st hE=>wpAny_nextOf_list_end hh st.2.1 st.2.2 hv hE
theorem qO {prog:Program} {w:World} {A:Around} (hh:A.handled = none) (c:Bool) (j t:Addr) (vs:Array Value) {i:Nat} (hv:vs[i]? = none) :
  Draws prog w A j [j,t] i (fun _ _=>True) (fun k h=>k = i /\ vR c h j t i /\ SeqC c h t vs):=by
 cases c
 ·exact qN hh j t vs hv
 ·exact jV hh j t vs hv
theorem uQ {X:Cx} {pins:List (Addr × Obj)} {σ:L2.St} {H:Hp} {s:Shared} {c:Bool} {a:Addr} {xs:List V} (I:Inv X pins σ H s) (h:SqC c X.K H a xs):∃ its:List Value,Vals xs its /\ SeqC c s.heap a its.toArray:=by
 cases c
 ·obtain ⟨its,r,p,_⟩:=I.list h
  exact ⟨its,r,p.isList⟩
 ·obtain ⟨its,r,p,_⟩:=I.tuple h
  exact ⟨its,r,p⟩
theorem tV {X:Cx} {pins:List (Addr × Obj)} {σ:L2.St} {H:Hp} {s:Shared} {c:Bool} {a:Addr} {xs ys:List V} (I:Inv X pins σ H s) (h:SqC c X.K H a xs) (h':SqC c X.K H a ys):xs = ys:=by
 cases c
 ·exact I.list_inj h h'
 ·exact I.tuple_inj h h'
section
variable {prog:Program} {w:World} {A:Around} {E:VS7} {s:Shared}
open PySem.AutoSeq1 (wpAny_loadPart')
theorem jY (t:Addr) (c:Bool) (vs:Array Value) :
  Meets (Builtin.«enumerate.__new__» ⟨[.type "enumerate",.ref t],[]⟩) (fun _ R s=>SeqC c s.heap t vs ∧
   R (.ok (.ret (.ref (s.heap.push (zpO (cnC c) t)).objs.size)))
    { s with heap:=(s.heap.push (zpO (cnC c) t)).push { cls:=.type "enumerate",data:=.fields #[.none,.bool false,.ref s.heap.objs.size,rawInt 0,.none,.none] } }) :=
 .of_wp fun prog w A R s h=>by
  obtain ⟨hp,g,d,tk,os⟩:=s; obtain ⟨hT,h⟩:=h
  have hT':uP (Shared.heap ⟨hp,g,d,tk,os⟩) t (cnC c) vs:=hT.src
  obtain ⟨ot,hot⟩:∃ o,hp.get? t = some o:=by
   cases c
   ·obtain ⟨o,e,_⟩:=(show hp.IsList t vs from hT); exact ⟨o,e⟩
   ·obtain ⟨o,e,_⟩:=(show hp.IsTuple t vs from hT); exact ⟨o,e⟩
  have hsub:=sub_enumerate
  wp_walk using wpAny_loadPart' hot
  refine wpAny_stack_any fun st=>wpAny_pure ?_
  split
  ·rename_i c' _ _ _ _ _
   cases (c' == Value.type "enumerate") <;> (wp_walk using wpAny_loadPart' hot,uP.iter hT') <;> exact ⟨_,rfl,h⟩
  ·wp_walk using wpAny_loadPart' hot,uP.iter hT'
   exact ⟨_,rfl,h⟩
theorem qP {t:Addr} {c:Bool} {vs:Array Value} {Q:VS7} (ht:SeqC c s.heap t vs)
  (h:∀ h',IsEnum h' (s.heap.objs.size + 1) s.heap.objs.size 0 .none -> vR c h' s.heap.objs.size t 0 -> h'.objs.size = s.heap.objs.size + 2 -> (∀ b o,s.heap.get? b = some o -> h'.get? b = some o) -> Q (.ref (s.heap.objs.size + 1)) { s with heap:=h' }) :
  wpAny (model prog w) A (call (.type "enumerate") [.ref t]) Q E s:=by
 refine callType_new F.called_enumerate (by decide) (F.typeCall_enumerate_1 _) (F.newCall_enumerate_1 _) (fun obj=>F.args_object_init_2 obj _) F.entry_enumerate_new (jY t c vs) ⟨ht,?_⟩
 have hz:(s.heap.push (zpO (cnC c) t)).objs.size = s.heap.objs.size + 1:=Heap.size_push ..
 show _ /\ _
 rw [hz]
 have he:IsEnum ((s.heap.push (zpO (cnC c) t)).push { cls:=.type "enumerate",data:=.fields #[.none,.bool false,.ref s.heap.objs.size,rawInt 0,.none,.none] }) (s.heap.objs.size + 1) s.heap.objs.size 0 .none:=by
  have:=Heap.get?_push_size (s.heap.push (zpO (cnC c) t)) (o:={ cls:=.type "enumerate",data:=.fields #[.none,.bool false,.ref s.heap.objs.size,rawInt 0,.none,.none] }) rfl
  rw [hz] at this; exact this
 exact ⟨⟨_,he,rfl⟩,h _ he (.mk (Heap.get?_push_of_some _ (Heap.get?_push_size _ rfl))) (by rw [Heap.size_push,Heap.size_push]) fun b o x=>Heap.get?_push_of_some _ (Heap.get?_push_of_some _ x)⟩
end
def IteC (c:Bool) (K:FG7) (a:Addr):It :=
 ⟨fun i H=>∃ xs x,SqC c K H a xs /\ xs[i]? = some x,fun i H x H'=>∃ T v,H T = none /\ x = .ref T /\ H' = upd H T (.tup [.int i,v]) /\ ∀ xs,SqC c K H a xs -> xs[i]? = some v,fun i H=>∃ xs,SqC c K H a xs /\ xs.length <= i⟩
theorem qQ {P:Program} {w:World} {K:FG7} {elts:List Expr} {kt:Nat} {pt:Pos} (c:Bool) (a e jt:Addr) (hej:e ≠ jt) (hae:a ≠ e) (haj:a ≠ jt) :
  Turn P w K (.Tuple elts kt pt) (IteC c K a) [e,jt] e (fun i h=>(∃ old,IsEnum h e jt i old) /\ vR c h jt a i) where
 mem:=by simp
 obj:=fun i h st b hb=>by
  obtain ⟨⟨old,he⟩,st⟩:=st
  simp only [List.mem_cons,List.mem_nil_iff,or_false] at hb
  rcases hb with rfl | rfl
  ·exact ⟨_,he,fun v z=>by cases z⟩
  ·exact st.obj
 keep:=fun i h h' st k=>by
  obtain ⟨⟨old,he⟩,st⟩:=st
  exact ⟨⟨old,k e (by simp) _ he⟩,st.at fun o q=>k jt (by simp) o q⟩
 item:=by
  intro X hP hw hK hc i pins s σ H E I hf st hg
  subst hP hw hK
  obtain ⟨⟨old,he⟩,hit⟩:=st
  obtain ⟨xs,x,hq,hx⟩:=hg
  obtain ⟨its,rv,p⟩:=uQ I hq
  obtain ⟨u,hu,ru⟩:=rv.get hx
  have hlt:i < its.toArray.size:=by have:=(List.getElem?_eq_some_iff.mp hu).1; simpa using this
  refine wpAny_pyNext_enum_itemD (XM (A:=X.A.in1) (I.ok.hd hc) c jt a haj its.toArray) he ⟨hit,p⟩ hlt hej (by simp [hej,Ne.symm hae]) fun v h1 tk hv hout hst1 hT hsz hk=>?_
  have hvu:v = u:=by
   have e1:its.toArray[i]? = some v:=hv
   have e2:its.toArray[i]? = some u:=by simpa using hu
   rw [e1] at e2; exact Option.some.inj e2
  subst hvu
  refine ⟨_,rfl,wpAny_letOwnedTupleGo_enum (s:={ s with heap:=h1,toks:=tk + 1 }) hout fun h2 he2 hs2=>?_⟩
  have hk2:∀ b o,b ∉ [e,jt] -> s.heap.get? b = some o -> h2.get? b = some o:=fun b o hb q=>by
   have n1:b ≠ e:=fun z=>hb (by simp [z])
   have n2:b ≠ jt:=fun z=>hb (by simp [z])
   exact (hs2.2 b n1).trans (hk b o n1 n2 q)
  have eT:s.heap.objs.size ≠ e:=Nat.ne_of_gt (Heap.lt_size he)
  have hT2:h2.get? s.heap.objs.size = some { cls:=.type "tuple",data:=.seq #[.int i tk,v] }:=(hs2.2 _ eT).trans hT
  have hn:H s.heap.objs.size = none:=I.hok.fresh (Nat.le_refl _)
  have I2:Inv X pins σ (upd H s.heap.objs.size (.tup [.int i,x])) { s with heap:=h2,toks:=tk + 1 }:=ZY (s:=s) I hk2 hf (Nat.le_refl _) ⟨by show 2 <= sizeLine; decide,[.int i tk,v],.cons ⟨_,rfl⟩ (.cons ru .nil),_,hT2,rfl,0,rfl⟩
  refine ⟨.ref s.heap.objs.size,upd H s.heap.objs.size (.tup [.int i,x]),I2,rfl,⟨_,x,hn,rfl,rfl,fun ys hy=>by rw [tV I hy hq]; exact hx⟩,⟨⟨v,by simpa using he2⟩,?_⟩,fun b hb=>?_⟩
  ·exact hst1.1.at fun o q=>(hs2.2 jt (Ne.symm hej)).trans q
  ·have nb:b ≠ s.heap.objs.size:=by
    obtain ⟨oj,hoj,_⟩:=hit.obj
    simp only [List.mem_cons,List.mem_nil_iff,or_false] at hb
    rcases hb with rfl | rfl
    ·exact Ne.symm eT
    ·exact Nat.ne_of_lt (Heap.lt_size hoj)
   rw [zp nb]; exact (hf b hb).1
 done:=by
  intro X hP hw hK hc i pins s σ H E I hf st hg
  subst hP hw hK
  obtain ⟨⟨old,he⟩,hit⟩:=st
  obtain ⟨xs,hq,hx⟩:=hg
  obtain ⟨its,rv,p⟩:=uQ I hq
  have hl:=rv.length
  refine wpAny_pyNext_enum_endD (qO (A:=X.A.in1) (I.ok.hd hc) c jt a its.toArray (i:=i) (by simp; omega)) he ⟨rfl,hit,p⟩ fun h' eb=>⟨rfl,?_⟩
  exact jW (fp:=[e,jt]) (t':=s.toks) I (fun b o hb q=>eb b o (fun z=>hb (by simp [z])) q) hf
 self:=fun _ _ _ _ _ st h=>by
  obtain ⟨⟨old,he⟩,_⟩:=st
  exact wpAny_pyIter_enum he h
section
variable {X:Cx} {elts:List Expr} {kt:Nat} {pt:Pos} {K:FG7}
def XN (c:Bool) (K:FG7) (ta:TA):TI:=fun σ H R=>ta σ H fun vs H1=>∃ a xs,vs = [.ref a] /\ SqC c K H1 a xs /\ R (IteC c K a) H1
theorem ZZ {a:Expr} {ta:TA} {p pos:Pos} (c:Bool) (hK:X.K = K) (hg:Gl X "enumerate") (hm:X.mg "enumerate" = none) (ha:PA X [a] ta) (hs:starEach [a] X.env = [(false,eval a X.env)]:=by rfl) :
  PI X (.Tuple elts kt pt) (.Call (.Name "enumerate" p) [a] [] pos) (XN c K ta):=by
 subst hK
 intro pins s σ H R I h
 refine Call_ (wU I hg hm XI (PyProof.Rows.callWith_type1 (thn (ha pos pins s σ H _ I h) fun us s1 ⟨vs,H1,I1,r1,q1⟩=>?_) hs rfl))
 obtain ⟨t,xs,e,hq,q⟩:=q1
 subst e
 obtain ⟨u,rfl,e1⟩:=wI r1
 cases (show u = Value.ref t from e1)
 obtain ⟨its,rv,p⟩:=uQ I1 hq
 refine qP p fun h' he hit _ hk=>?_
 refine wpAny_pyIter_enum he ?_
 have lt:t < s1.heap.objs.size:=p.lt
 have I2:Inv X pins σ H1 { s1 with heap:=h' }:=I1.kept (t':=s1.toks) hk
 refine ⟨s1.heap.objs.size + 1,[s1.heap.objs.size + 1,s1.heap.objs.size],_,_,H1,rfl,I2,qQ c t (s1.heap.objs.size + 1) s1.heap.objs.size (Nat.succ_ne_self _) (Nat.ne_of_lt (Nat.lt_succ_of_lt lt)) (Nat.ne_of_lt lt),⟨⟨_,he⟩,hit⟩,fun b hb=>?_,q⟩
 simp only [List.mem_cons,List.mem_nil_iff,or_false] at hb
 rcases hb with rfl | rfl
 ·exact I1.fpOk (Nat.le_succ _) (I1.hok.fresh (Nat.le_succ _))
 ·exact I1.fpOk (Nat.le_refl _) (I1.hok.fresh (Nat.le_refl _))
end
section
variable {K:FG7} {a:Addr} {c:Bool} {xs:List V} {g:TG} {tt:TT} {te:TE} {tb:TS} {D:Ends} {Q:VK} {σ:L2.St} {H:Hp}
theorem jZ (Pv:Nat -> L2.St -> Hp -> Prop) (h0:Pv 0 σ H) (hl:∀ i σ H,i <= xs.length -> Pv i σ H -> SqC c K H a xs)
  (hs:∀ i x σ H T,xs[i]? = some x -> Pv i σ H -> H T = none -> g (.ref T) σ (upd H T (.tup [.int i,x])) fun σ2 H2=>tb { D with nx:=Pv (i + 1),ct:=Pv (i + 1),bk:=D.nx } σ2 H2) (hd:∀ σ H,Pv xs.length σ H -> D.nx σ H) :
  ∃ W:Nat -> Nat -> L2.St -> Hp -> Prop,(∃ m,W 0 m σ H) /\ ∀ i m σ H,W i m σ H →
   ((IteC c K a).stop i H /\ D.nx σ H) \/ ((IteC c K a).go i H /\ ∃ N:L2.St -> Hp -> Prop,(∀ σ' H',N σ' H' -> ∃ m',m' < m /\ W (i + 1) m' σ' H') /\ ∀ x H',(IteC c K a).yld i H x H' -> g x σ H' fun σ2 H2=>tb { D with nx:=N,ct:=N,bk:=D.nx } σ2 H2):=by
 refine ⟨fun i m σ H=>m = xs.length - i /\ i <= xs.length /\ Pv i σ H,⟨xs.length,by simp,Nat.zero_le _,h0⟩,?_⟩
 rintro i m σ H ⟨rfl,hi,p⟩
 have q:=hl i σ H hi p
 by_cases hlt:i < xs.length
 ·refine .inr ⟨⟨xs,xs[i],q,by simp [hlt]⟩,Pv (i + 1),fun σ' H' p'=>⟨xs.length - (i + 1),by omega,rfl,hlt,p'⟩,fun x H' y=>?_⟩
  obtain ⟨T,v,hT,rfl,rfl,y⟩:=y
  exact hs i v σ H T (y xs q) p hT
 ·have e:i = xs.length:=by omega
  subst e
  exact .inl ⟨⟨xs,q,Nat.le_refl _⟩,hd σ H p⟩
end
def InC (C:Int) (xs:List Int):Prop:=∀ v ∈ xs,-C <= v /\ v <= C
theorem InC.mono {B C:Int} {xs:List Int} (h:InC B xs) (hC:B <= C):InC C xs:=fun v hv=>by have:=h v hv; omega
theorem vH:∀ {ns:List Int} {us:List Value},IntsAre us ns -> Vals (ns.map V.int) us:=by
 intro ns us h
 induction h with
 | nil=>exact .nil
 | cons n t _ ih=>exact .cons ⟨t,rfl⟩ ih
structure Wk (prog:Program) (w:World) (A:Around) (T:String) (I:Addr) (n:Nat) (Fr:Addr -> Prop) (J:List Value -> Shared -> Prop) (Fn:List Value -> Shared -> Prop):Prop where
 ty:∀ acc s,J acc s -> s.TypeIs (.ref I) T
 self:∀ acc s (Q:VS7) (E:VS7),J acc s -> Q (.ref I) s -> wpAny (model prog w) A (pyIter (.ref I)) Q E s
 stay:∀ acc s (S:Addr) (ob:Obj) (h':Heap),J acc s -> Fr S -> s.heap.get? S = some ob -> ob.cls = .type "list" -> (∀ b o,b ≠ S -> s.heap.get? b = some o -> h'.get? b = some o) -> h'.objs.size = s.heap.objs.size -> J acc { s with heap:=h' }
 next:∀ acc s (S:Addr) (ob:Obj) (Q:Option Value -> Shared -> Prop) (E:VS7),J acc s -> Fr S -> s.heap.get? S = some ob -> ob.cls = .type "list" →
  (∀ v s',acc.length < n -> J (acc ++ [v]) s' -> s'.heap.get? S = some ob -> Q (some v) s') -> (∀ s',Fn acc s' -> s'.heap.get? S = some ob -> Q none s') -> wpAny (model prog w) A (pyNext (.ref I)) Q E s
 push:∀ acc s (o:Obj),J acc s -> J acc { s with heap:=s.heap.push o }
def wW (H:Hp) (a:Addr):Prop:=∃ p0 c t:Int,H a = some (.lst [.int p0,.int c,.int t]) /\ 0 <= p0
theorem wW.grow {H H':Hp} {a:Addr} (p:wW H a) (g:Grow [] H H'):wW H' a:=by
 obtain ⟨x,y,z,h,q⟩:=p
 exact ⟨x,y,z,g.keep _ _ (by simp) h,q⟩
theorem wW.new {H:Hp} {a l:Addr} (p:wW H a) (hl:H l = none) (o:HO):wW (upd H l o) a:=p.grow (Grow.new hl o)
theorem wW.ne {H:Hp} {a l:Addr} (p:wW H a) (h:H l = none):l ∉ [a]:=by
 intro z
 obtain ⟨x,y,w,hz,_⟩:=p
 rw [List.mem_singleton.mp z,hz] at h
 cases h
def PrAt (K:FG7) (H:Hp) (x:V) (q:Nat × Nat):Prop:=∃ r,x = .ref r /\ SqT K H r [.int q.1,.int q.2]
theorem Grow.prs {m:List Addr} {H H':Hp} (g:Grow m H H') {K:FG7} {xs:List V} {qs:List (Nat × Nat)} (h:AllR (PrAt K H) xs qs):AllR (PrAt K H') xs qs:=h.imp fun _ _ ⟨r,e,z⟩=>⟨r,e,g.sqT z⟩
def Wz (ns:List Int):List Int:=ns.mergeSort fun a b=>decide (a <= b)
def dupS:List Int -> Option Int
 | a :: b :: r=>if a = b then some a else dupS (b :: r)
 | _=>none
def XO (rows:List (List Int)) (l:Nat):List Int:=rows.map fun r=>r.getD l 0
def wp (rows:List (List Int)) (l:Nat):Option Int:=dupS (Wz (XO rows l))
def uR (k:Nat) (rows:List (List Int)) (o:Option (Nat × Int)):Prop:=match o with
 | none=>∀ l,l <= k -> wp rows l = none
 | some (l,v)=>l <= k /\ wp rows l = some v /\ ∀ j,j < l -> wp rows j = none
theorem uR.one {k:Nat} {rows rows':List (List Int)} {o o':Option (Nat × Int)} (e:∀ l,wp rows l = wp rows' l) (h:uR k rows o) (h':uR k rows' o'):o = o':=by
 cases o with
 | none =>
  cases o' with
  | none=>rfl
  | some p =>
   obtain ⟨l,v⟩:=p
   have z:=h l h'.1
   rw [e,h'.2.1] at z; cases z
 | some p =>
  obtain ⟨l,v⟩:=p
  cases o' with
  | none =>
   have z:=h' l h.1
   rw [← e,h.2.1] at z; cases z
  | some p' =>
   obtain ⟨l',v'⟩:=p'
   obtain ⟨a1,a2,a3⟩:=h
   obtain ⟨b1,b2,b3⟩:=h'
   by_cases c:l < l'
   ·have z:=b3 l c
    rw [← e,a2] at z; cases z
   ·by_cases c2:l' < l
    ·have z:=a3 l' c2
     rw [e,b2] at z; cases z
    ·have:l = l':=by omega
     subst this
     rw [e,b2] at a2
     cases a2; rfl
def j1 (K:FG7) (H:Hp) (x:V) (o:Option (Nat × Int)):Prop:=match o with
 | none=>x = .non
 | some (l,v)=>∃ r,x = .ref r /\ SqT K H r [.int l,.int v]
theorem Grow.clash {m:List Addr} {H H':Hp} (g:Grow m H H') {K:FG7} {x:V} {o:Option (Nat × Int)} (h:j1 K H x o):j1 K H' x o:=by
 cases o with
 | none=>exact h
 | some p =>
  obtain ⟨l,v⟩:=p
  obtain ⟨r,e,z⟩:=h
  exact ⟨r,e,g.sqT z⟩
theorem YZ {xs:List V} {c:Nat}:cutV xs none (some (c:Int)) = xs.take c:=by
 unfold cutV
 rw [HT.sIx_none,HT.sIx_nat,List.drop_zero,Nat.sub_zero]
 by_cases h:c <= xs.length
 ·rw [Nat.min_eq_left h]
 ·rw [Nat.min_eq_right (by omega),List.take_of_length_le (by omega),List.take_of_length_le (by omega)]
theorem j3 {xs:List V} {c:Nat}:cutV xs (some (c:Int)) none = xs.drop c:=by
 unfold cutV
 rw [HT.sIx_none,HT.sIx_nat]
 by_cases h:c <= xs.length
 ·rw [Nat.min_eq_left h,List.take_of_length_le (by rw [List.length_drop]; exact Nat.le_refl _)]
 ·rw [Nat.min_eq_right (by omega),List.drop_eq_nil_of_le (by omega),List.drop_eq_nil_of_le (by omega)]; simp
mutual
inductive Dq (K:FG7) (H:Hp):V -> PyData -> Prop
 | non:Dq K H .non .none
 | bl (b:Bool):Dq K H (.bl b) (.bool b)
 | int (i:Int):Dq K H (.int i) (.int i)
 | str (x:Str):Dq K H (.str x) (.str x)
 | tup {a:Addr} {xs:List V} {ds:List PyData}:SqT K H a xs -> DqAll K H xs ds -> Dq K H (.ref a) (.tuple ds)
 | lst {a:Addr} {xs:List V} {ds:List PyData}:SqL K H a xs -> DqAll K H xs ds -> Dq K H (.ref a) (.list ds)
inductive DqAll (K:FG7) (H:Hp):List V -> List PyData -> Prop
 | nil:DqAll K H [] []
 | cons {x:V} {xs:List V} {d:PyData} {ds:List PyData}:Dq K H x d -> DqAll K H xs ds -> DqAll K H (x :: xs) (d :: ds)
end
mutual
theorem Dat.dq {K:FG7} {H:Hp}:∀ {x:V} {d:PyData},Dat K H x d -> Dq K H x d
 | _,_,.non=>.non
 | _,_,.bl b=>.bl b
 | _,_,.int i=>.int i
 | _,_,.tup h t=>.tup h (DatAll.dq t)
 | _,_,.lst h t=>.lst h (DatAll.dq t)
theorem DatAll.dq {K:FG7} {H:Hp}:∀ {xs:List V} {ds:List PyData},DatAll K H xs ds -> DqAll K H xs ds
 | _,_,.nil=>.nil
 | _,_,.cons h t=>.cons (Dat.dq h) (DatAll.dq t)
end
theorem DqAll.len {K:FG7} {H:Hp}:∀ {xs:List V} {ds:List PyData},DqAll K H xs ds -> xs.length = ds.length
 | _,_,.nil=>rfl
 | _,_,.cons _ t=>congrArg (· + 1) (DqAll.len t)
theorem DqAll.app {K:FG7} {H:Hp}:∀ {xs:List V} {ds:List PyData} {ys:List V} {es:List PyData},DqAll K H xs ds -> DqAll K H ys es -> DqAll K H (xs ++ ys) (ds ++ es)
 | _,_,_,_,.nil,h=>h
 | _,_,_,_,.cons h t,g=>.cons h (DqAll.app t g)
theorem rV (n:Nat):(List.range n).all (fun _=>true) = true:=List.all_eq_true.mpr fun _ _=>rfl
section
variable {X:Cx} {pins:List (Addr × Obj)} {σ:L2.St} {H:Hp} {s:Shared}
mutual
theorem dq_eq (I:Inv X pins σ H s):∀ {d:PyData} {x y:V} {u v:Value} {A:Around},Dq X.K H x d -> Dq X.K H y d -> RelV x u -> RelV y v -> A.units + d.depth < cLine -> SeqAt.EqAt A s u v true
 | _,_,y,u,v,A,.non,hy,ru,rv,_=>by
  cases hy
  cases (show u = Value.none from ru)
  cases (show v = Value.none from rv)
  exact SeqAt.EqAt.same _
 | _,_,y,u,v,A,.bl b,hy,ru,rv,_=>by
  cases hy
  cases (show u = Value.bool b from ru)
  cases (show v = Value.bool b from rv)
  exact SeqAt.EqAt.same _
 | _,_,y,u,v,A,.int i,hy,ru,rv,_=>by
  cases hy
  obtain ⟨t,rfl⟩:=ru
  obtain ⟨t',rfl⟩:=rv
  have z:=SeqAt.EqAt.int_int (A:=A) (s:=s) i t i t'
  rw [beq_self_eq_true] at z
  exact z
 | _,_,y,u,v,A,.str x,hy,ru,rv,_=>by
  cases hy
  obtain ⟨t,rfl⟩:=ru
  obtain ⟨t',rfl⟩:=rv
  have z:=SeqAt.EqAt.str_str (A:=A) (s:=s) x t x t'
  rw [beq_self_eq_true] at z
  exact z
 | _,_,y,u,v,A,.tup (a:=a) (xs:=xs) (ds:=ds) hs ha,hy,ru,rv,hu=>by
  cases hy with
  | tup hs' ha' =>
   rename_i a' xs'
   cases (show u = Value.ref a from ru)
   cases (show v = Value.ref a' from rv)
   obtain ⟨us,r1,t1,_⟩:=I.tuple hs
   obtain ⟨ws,r2,t2,_⟩:=I.tuple hs'
   have hd:A.units + (PyData.depthAll ds + 1) < cLine:=hu
   by_cases e:a = a'
   ·subst e; exact SeqAt.EqAt.same _
   ·have l1:=ha.len
    have l2:=ha'.len
    have q:=SeqAt.RcAt.tuples (e:=fun _=>true) (uu t1) (uu t2) (by omega) (dqs_eq I ha ha' r1 r2 (A:=A.in1) (by show A.units + 1 + PyData.depthAll ds < cLine; omega))
    rw [rV,Bool.true_and,List.size_toArray,List.size_toArray,← r1.length,← r2.length,l1,l2,beq_self_eq_true] at q
    exact SeqAt.EqAt.of_refs e q
 | _,_,y,u,v,A,.lst (a:=a) (xs:=xs) (ds:=ds) hs ha,hy,ru,rv,hu=>by
  cases hy with
  | lst hs' ha' =>
   rename_i a' xs'
   cases (show u = Value.ref a from ru)
   cases (show v = Value.ref a' from rv)
   obtain ⟨us,r1,t1,_⟩:=I.list hs
   obtain ⟨ws,r2,t2,_⟩:=I.list hs'
   have hd:A.units + (PyData.depthAll ds + 1) < cLine:=hu
   by_cases e:a = a'
   ·subst e; exact SeqAt.EqAt.same _
   ·have l1:=ha.len
    have l2:=ha'.len
    have q:=SeqAt.RcAt.lists (e:=fun _=>true) t1.isList t2.isList (by rw [List.size_toArray,List.size_toArray,← r1.length,← r2.length,l1,l2]) (by omega) (dqs_eq I ha ha' r1 r2 (A:=A.in1) (by show A.units + 1 + PyData.depthAll ds < cLine; omega))
    rw [rV] at q
    exact SeqAt.EqAt.of_refs e q
theorem dqs_eq (I:Inv X pins σ H s):∀ {ds:List PyData} {xs ys:List V} {us vs:List Value} {A:Around},DqAll X.K H xs ds -> DqAll X.K H ys ds -> Vals xs us -> Vals ys vs -> A.units + PyData.depthAll ds < cLine →
  ∀ j (h1:j < us.toArray.size) (h2:j < vs.toArray.size),SeqAt.EqAt A s us.toArray[j] vs.toArray[j] true
 | _,_,_,_,_,A,.nil,hy,ru,rv,_=>fun j h1 _=>by
  cases ru
  exact absurd h1 (Nat.not_lt_zero j)
 | _,_,_,_,_,A,.cons (d:=d) (ds:=ds) hx tx,hy,ru,rv,hd=>fun j h1 h2=>by
  cases hy with
  | cons hy ty =>
   cases ru with
   | cons r1 rr1 =>
    cases rv with
    | cons r2 rr2 =>
     have hd':A.units + max d.depth (PyData.depthAll ds) < cLine:=hd
     cases j with
     | zero=>simpa using dq_eq I hx hy r1 r2 (A:=A) (by omega)
     | succ j =>
      have z:=dqs_eq I tx ty rr1 rr2 (A:=A) (by omega) j (by simpa using h1) (by simpa using h2)
      simpa using z
end
variable {K:FG7}
end
def xN (k st a:Nat):Nat:=a ^^^ 2 ^ (k - st)
def nN (k st a:Nat):Nat:=(YY k a st).toNat
def lN (k h g n:Nat):Nat:=(YX k h g n).toNat
structure OneF (k st a:Nat):Prop where
 sw:swI k st a = YY k a st
 num:YY k a st = (nN k st a:Int)
 lt:nN k st a < 2 ^ (k - 1)
 nx:nN k st (xN k st a) = nN k st a
 xx:xN k st (xN k st a) = a
 xne:xN k st a ≠ a
 xlt:xN k st a < 2 ^ k
 w0:wfI k st a (Builtin.bitXor (figI k st a) 0) = (a:Int)
 w1:wfI k st a (Builtin.bitXor (figI k st a) 1) = (xN k st a:Int)
 c1:Builtin.bitXor (figI k st a) (figI k st (xN k st a)) = 1
 c0:Builtin.bitXor (figI k st a) (figI k st a) = 0
 b0:Builtin.bitXor (figI k st a) 0 = 0 \/ Builtin.bitXor (figI k st a) 0 = 1
 b1:Builtin.bitXor (figI k st a) 1 = 0 \/ Builtin.bitXor (figI k st a) 1 = 1
def plOf (gs:List Nat):List (Nat × Nat):=(List.range gs.length).map fun h=>(h,gs.getD h 0)
def vS (k:Nat) (gs:List Nat):Prop:=gs.length = 2 ^ k /\ ∀ g ∈ gs,g < 2 ^ k
theorem vS.get {k:Nat} {gs:List Nat} (h:vS k gs) {i:Nat} (hi:i < 2 ^ k):gs.getD i 0 < 2 ^ k:=by
 rw [List.getD_eq_getElem?_getD,List.getElem?_eq_getElem (by rw [h.1]; exact hi)]
 exact h.2 _ (List.getElem_mem _)
def XQ (k st:Nat) (q:Nat × Nat):Int:=Builtin.bitXor (figI k st (YX k q.1 q.2 (st - 1))) (figI k st (YX k q.1 q.2 st))
def XR (k st:Nat) (m:List Int) (q:Nat × Nat):List Int:=m.set (nN k st (lN k q.1 q.2 st)) (XQ k st q)
def XS (k st:Nat) (pl:List (Nat × Nat)):List Int:=pl.foldl (XR k st) (List.replicate (2 ^ k / 2) 0)
def WA (k:Nat) (gs:List Nat):List (List Int):=(List.range k).map fun n=>XS k (n + 1) (plOf gs)
section
variable {X:Cx} {a:Expr} {ta:TA} {p p2 pos pos2:Pos}
def WB (ta:TA):TE:=fun σ H Q=>ta σ H fun vs H1=>∃ n:Nat,vs = [.int n] /\ n <= 1000 /\ ∀ l,H1 l = none -> Q (.ref l) (upd H1 l (.lst ((List.range n).map fun i:Nat=>V.int i)))
theorem wX (hc:X.calm = true) (hgl:Gl X "list") (hml:X.mg "list" = none) (hgr:Gl X "range") (hmr:X.mg "range" = none) (ha:PA X [a] ta)
  (hs:starEach [a] X.env = [(false,eval a X.env)]:=by rfl) (hs2:starEach [(.Call (.Name "range" p2) [a] [] pos2:Expr)] X.env = [(false,eval (.Call (.Name "range" p2) [a] [] pos2) X.env)]:=by rfl) :
  PE X (.Call (.Name "list" p) [.Call (.Name "range" p2) [a] [] pos2] [] pos) (WB ta):=by
 intro pins s σ H Q I h
 refine wpAny_Call_Name_kw (wU I hgl hml jE (PyProof.Rows.callWith_type1 ?_ hs2 rfl))
 rw [hs2]
 show wpAny _ _ (spliced [(false,eval (.Call (.Name "range" p2) [a] [] pos2) X.env)]) _ _ s
 refine Calls.spliced_cons ?_
 refine Call_ (wU I hgr hmr boot_range (PyProof.Rows.callWith_type1 (thn (ha pos2 pins s σ H _ I h) fun us s1 ⟨vs,H1,I1,r1,q1⟩=>?_) hs rfl))
 obtain ⟨n,e,hn,q⟩:=q1
 subst e
 obtain ⟨u,rfl,e1⟩:=wI r1
 obtain ⟨t,rfl⟩:=e1
 refine call_range_1 (Calls.spliced_nil ?_)
 have I2:Inv X pins σ H1 { s1 with heap:=s1.heap.push { cls:=.type "range",data:=.fields #[.int 0 s1.toks,.int n t,.int 1 (s1.toks + 1)] },toks:=s1.toks + 1 + 1 }:=I1.kept fun b o e=>Heap.get?_push_of_some _ e
 refine call_list_range (n:=n) (I.ok.hd hc) (IsRange.new ..) (small_one (by omega) (by omega) (by omega) (by omega)) (by rw [rangeSize_one]; split <;> omega) (by omega) fun h' tk acc c' hk hS hacc=>?_
 have hvr:Vals ((List.range n).map fun i:Nat=>V.int i) acc.toList:=by
  have hlen:acc.toList.length = n:=by rw [Array.length_toList]; exact hacc.1
  have key:∀ (m:Nat) (l:List Value) (j:Nat),l.length = m -> (∀ i v,l[i]? = some v -> ∃ t,v = Value.int ((j + i:Nat):Int) t) -> Vals ((List.range' j m).map fun i:Nat=>V.int i) l:=by
   intro m
   induction m with
   | zero =>
    intro l j hl _
    rw [List.length_eq_zero_iff.mp hl]
    exact .nil
   | succ m ih =>
    intro l j hl hv
    match l,hl,hv with
    | x :: l,hl,hv =>
     refine .cons ?_ (ih l (j + 1) (by simpa using hl) fun i v h=>?_)
     ·obtain ⟨t,e⟩:=hv 0 x rfl
      exact ⟨t,e⟩
     ·obtain ⟨t,e⟩:=hv (i + 1) v (by simpa using h)
      exact ⟨t,by rw [e,show j + (i + 1) = j + 1 + i by omega]⟩
  rw [List.range_eq_range']
  refine key n acc.toList 0 hlen fun i v h=>?_
  obtain ⟨t,e⟩:=hacc.2 i v (by rw [← h]; exact (Array.getElem?_toList).symm)
  exact ⟨t,by rw [e]; congr 1; omega⟩
 refine ⟨.ref (s1.heap.push { cls:=.type "range",data:=.fields #[.int 0 s1.toks,.int n t,.int 1 (s1.toks + 1)] }).objs.size,_,I2.laid (t':=tk) hk (Nat.le_refl _) (show yu X.prog X.w _ h' _ (.lst ((List.range n).map fun i:Nat=>V.int i)) from ⟨by rw [List.length_map,List.length_range]; exact Nat.le_of_lt (zB hn),acc.toList,c',hvr,by simpa using hS⟩),rfl,q _ (I2.hok.fresh (Nat.le_refl _))⟩
end
def Z0 (gs:List Nat):List V:=gs.map fun g:Nat=>V.int g
def XT (K:FG7) (H:Hp) (x:V) (k:Nat) (gs:List Nat) (o:Option (Nat × Int)):Prop:=∃ (r:Addr) (s:Str) (y:V),x = .ref r /\ SqT K H r [.str s,y] /\ match o with
 | none=>s = "settings" /\ jT K H y (WA k gs)
 | some (l,v)=>s = "clash" /\ ∃ c,y = .ref c /\ SqT K H c [.int l,.int v]
theorem Grow.ans {m:List Addr} {H H':Hp} (g:Grow m H H') {K:FG7} {x:V} {k:Nat} {gs:List Nat} {o:Option (Nat × Int)} (h:XT K H x k gs o):XT K H' x k gs o:=by
 obtain ⟨r,s,y,e,z,w⟩:=h
 refine ⟨r,s,y,e,g.sqT z,?_⟩
 cases o with
 | none=>exact ⟨w.1,g.rows w.2⟩
 | some p =>
  obtain ⟨l,v⟩:=p
  obtain ⟨w1,c,e,z⟩:=w
  exact ⟨w1,c,e,g.sqT z⟩
theorem AllR.of_get {α:Type} {R:V -> α -> Prop}:∀ {xs:List V} {ks:List α},xs.length = ks.length -> (∀ (i:Nat) (x:V),xs[i]? = some x -> ∃ k,ks[i]? = some k /\ R x k) -> AllR R xs ks
 | [],[],_,_=>trivial
 | x :: xs,k :: ks,hl,h=>by
  refine ⟨?_,AllR.of_get (by simpa using hl) fun i y hy=>by simpa using h (i + 1) y (by simpa using hy)⟩
  obtain ⟨k',e,r⟩:=h 0 x rfl
  cases e
  exact r
 | [],_ :: _,hl,_=>by simp at hl
 | _ :: _,[],hl,_=>by simp at hl
theorem vS.set {k:Nat} {gs:List Nat} (h:vS k gs) {j n:Nat} (hn:n < 2 ^ k):vS k (gs.set j n):=by
 refine ⟨by rw [List.length_set,h.1],fun g hg=>?_⟩
 rcases List.mem_or_eq_of_mem_set hg with z | rfl
 ·exact h.2 g z
 ·exact hn
def wfN (k s l:Nat) (w:Int):Nat:=(wfI k s l w).toNat
structure WfF (k s l:Nat) (w:Int):Prop where
 eq:wfI k s l w = (wfN k s l w:Int)
 lt:wfN k s l w < 2 ^ k
 at_:figI k s (wfN k s l w) = w
 off:∀ t:Nat,t <= k -> t ≠ s -> figI k t (wfN k s l w) = figI k t l
def mixN (k e x t:Nat):Nat:=(numL ((qM k e).take (t - 1) ++ (qM k x).drop t)).toNat
def fstI (rows:List (List Int)) (t n:Nat):Int:=(rows.getD (t - 1) []).getD n 0
def WC (k:Nat) (rows:List (List Int)) (e m x y:Nat):Prop:=∃ t:Nat,m < t /\ t <= k /\ figI k t x ≠ figI k t y /\ (∀ u:Nat,t < u -> u <= k -> figI k u x = figI k u y) /\ figI k t x = fstI rows t (mixN k e x t)
structure OrdF (k:Nat) (rows:List (List Int)) (e n:Nat) (L:List Nat):Prop where
 len:L.length = 2 ^ n
 mem:∀ x ∈ L,x < 2 ^ k /\ ∀ t:Nat,1 <= t -> t <= k - n -> figI k t x = figI k t e
 all:∀ x:Nat,x < 2 ^ k -> (∀ t:Nat,1 <= t -> t <= k - n -> figI k t x = figI k t e) -> x ∈ L
 row:L.Pairwise (WC k rows e (k - n))
def LsR (H:Hp) (x:V) (row:List Int):Prop:=∃ r,x = .ref r /\ H r = some (.lst (row.map V.int))
def LsB (H:Hp) (x:V) (rows:List (List Int)):Prop:=∃ l xs,x = .ref l /\ H l = some (.lst xs) /\ AllR (LsR H) xs rows
def LsN (a:Addr) (H:Hp) (x:V) (row:List Int):Prop:=∃ r,x = .ref r /\ r ∉ [a] /\ H r = some (.lst (row.map V.int))
def LsA (a:Addr) (H:Hp) (x:V) (rows:List (List Int)):Prop:=∃ l xs,x = .ref l /\ l ∉ [a] /\ H l = some (.lst xs) /\ AllR (LsN a H) xs rows
theorem LsA.b {a:Addr} {H:Hp} {x:V} {rows:List (List Int)} (h:LsA a H x rows):LsB H x rows:=by
 obtain ⟨l,xs,e,n,z,w⟩:=h
 exact ⟨l,xs,e,z,w.imp fun _ _ ⟨r,e,_,z⟩=>⟨r,e,z⟩⟩
def vT (K:FG7) (H:Hp) (f:Addr) (rows:List (List Int)):Prop:=∃ xs,H f = some (.lst xs) /\ AllR (yh K H) xs rows
theorem vT.grow {K:FG7} {H H':Hp} {f:Addr} {rows:List (List Int)} (h:vT K H f rows) (g:Grow [] H H'):vT K H' f rows:=by
 obtain ⟨xs,e,a⟩:=h
 exact ⟨xs,g.keep _ _ (by simp) e,g.boardsR a⟩
theorem vT.ne {K:FG7} {H:Hp} {f r:Addr} {rows:List (List Int)} (h:vT K H f rows) (e:H r = none):r ≠ f:=by
 obtain ⟨xs,e',_⟩:=h
 intro z; rw [z,e'] at e; cases e
theorem vT.set {K:FG7} {H:Hp} {f:Addr} {rows:List (List Int)} {xs:List V} (e:H f = some (.lst xs)) (a:AllR (yh K H) xs rows):vT K H f rows:=⟨xs,e,a⟩
structure CScC (X:Cx) (scope:Scope) (N':List Str) (sub:List (Option Nat)):Prop where
 free:∀ y ∈ scope.names,y.2 = .free -> X.env.kindOf y.1 = some .cell
 nd:(scope.names.map (·.1)).Nodup
 kind:scope.kind = .function
 names:∀ y ∈ scope.names,y.2 = .local -> scope.names.lookup y.1 = some .local
 len:sub.length = N'.length
 cap:∀ (j:Nat) (y:Str) (i:Nat),N'[j]? = some y -> sub[j]? = some (some i) -> X.N[i]? = some y /\ X.env.scope.names.lookup y = some .cell /\ scope.names.lookup y = some .free
section
variable {X:Cx} {scope:Scope} {N':List Str} {sub:List (Option Nat)} {tg:Expr} {pos:Pos} {elt iter:Expr} {ifs:List Expr} {wi:TI} {g:TG} {tt:TT} {te:TE}
theorem CScC.clos {pins:List (Addr × Obj)} {σ:L2.St} {H:Hp} {s:Shared} (S:CScC X scope N' sub) (I:Inv X pins σ H s):∃ cl,closureFor scope X.env = pure cl /\ (∀ x c,cl.lookup x = some c -> X.env.cells.lookup x = some c) /\ ∀ y ∈ scope.names,y.2 = .free -> ∃ c,cl.lookup y.1 = some c :=
 ut fun y hy hf=>I.ok.has y.1 (.inl (S.free y hy hf))
end
theorem CScC.of {X:Cx} {scope:Scope} {N':List Str} {sub:List (Option Nat)} (sc:Scope) (NN:List Str) (e:X.env.scope = sc) (en:X.N = NN)
  (h:((scope.names.all fun y=>(y.2 != .free || sc.names.lookup y.1 == some .cell) && (y.2 != .local || scope.names.lookup y.1 == some .local)) && (sub.length == N'.length) &&
   ((N'.zip sub).all fun p=>match p.2 with | none=>true | some i=>NN[i]? == some p.1 && sc.names.lookup p.1 == some .cell && scope.names.lookup p.1 == some .free)) = true)
  (nd:(scope.names.map (·.1)).Nodup) (hk:scope.kind = .function):CScC X scope N' sub:=by
 rw [Bool.and_eq_true,Bool.and_eq_true] at h
 obtain ⟨⟨h1,h2⟩,h3⟩:=h
 have k1:=fun y hy=>List.all_eq_true.mp h1 y hy
 refine ⟨fun y hy hf=>?_,nd,hk,fun y hy hl=>?_,by simpa using h2,fun j y i hj hs=>?_⟩
 ·have:=k1 y hy
  simp only [hf,Bool.and_eq_true] at this
  have z:=this.1
  show X.env.scope.names.lookup y.1 = _
  rw [e]; simpa using z
 ·have:=k1 y hy
  simp only [hl,Bool.and_eq_true] at this
  simpa using this.2
 ·have hm:(y,some i) ∈ N'.zip sub:=by
   have:(N'.zip sub)[j]? = some (y,some i):=by
    rw [List.getElem?_zip_eq_some]; exact ⟨hj,hs⟩
   exact List.mem_of_getElem? this
  have:=List.all_eq_true.mp h3 _ hm
  simp only [Bool.and_eq_true,beq_iff_eq] at this
  rw [e,en]
  exact ⟨this.1.1,this.1.2,this.2⟩
theorem ZX.at {ds:List Deed} (h:ZX ds) {i:Nat} (hi:i < ds.length):(ds.getD i look).Ok:=h _ (List.mem_of_getElem? (XJ hi))
structure MixOk (m:List Nat):Prop where
 nd:m.Nodup
 lt:∀ j ∈ m,j < m.length
 has:∀ j,j < m.length -> j ∈ m
theorem MixOk.of {m:List Nat} {n:Nat} (h:m.Perm (List.range n)):MixOk m /\ m.length = n:=by
 have hl:m.length = n:=by rw [h.length_eq,List.length_range]
 refine ⟨⟨(h.nodup_iff).mpr List.nodup_range,fun j hj=>?_,fun j hj=>?_⟩,hl⟩
 ·rw [hl]; exact List.mem_range.mp (h.mem_iff.mp hj)
 ·exact h.mem_iff.mpr (List.mem_range.mpr (by omega))
theorem MixOk.at {m:List Nat} (h:MixOk m) {j:Nat} (hj:j < m.length):m.idxOf j < m.length /\ m.getD (m.idxOf j) 0 = j:=by
 have hl:=List.idxOf_lt_length_of_mem (h.has j hj)
 refine ⟨hl,?_⟩
 rw [List.getD_eq_getElem?_getD,List.getElem?_eq_getElem hl]
 exact List.getElem_idxOf hl
structure WkD (prog:Program) (w:World) (A:Around) (T:String) (I:Addr) (n:Nat) (Fr:Addr -> Prop) (J:List Value -> Shared -> Prop) (Fn:List Value -> Shared -> Prop):Prop where
 ty:∀ acc s,J acc s -> s.TypeIs (.ref I) T
 self:∀ acc s (Q:VS7) (E:VS7),J acc s -> Q (.ref I) s -> wpAny (model prog w) A (pyIter (.ref I)) Q E s
 stay:∀ acc s (S:Addr) (ob:Obj) (h':Heap),J acc s -> Fr S -> s.heap.get? S = some ob -> (ob.cls = .type "list" /\ ∀ v,ob.data ≠ .cell v) -> (∀ b o,b ≠ S -> s.heap.get? b = some o -> h'.get? b = some o) -> h'.objs.size = s.heap.objs.size -> J acc { s with heap:=h' }
 next:∀ acc s (S:Addr) (ob:Obj) (Q:Option Value -> Shared -> Prop) (E:VS7),J acc s -> Fr S -> s.heap.get? S = some ob -> (ob.cls = .type "list" /\ ∀ v,ob.data ≠ .cell v) →
  (∀ v s',acc.length < n -> J (acc ++ [v]) s' -> s'.heap.get? S = some ob -> Q (some v) s') -> (∀ s',Fn acc s' -> s'.heap.get? S = some ob -> Q none s') -> wpAny (model prog w) A (pyNext (.ref I)) Q E s
 push:∀ acc s (o:Obj),J acc s -> J acc { s with heap:=s.heap.push o }
section
variable {X:Cx} {K:FG7} {a b:Expr} {ta:TA} {p p2 pos pos2:Pos}
theorem SqC.grow {c:Bool} {H H':Hp} {a:Addr} {xs:List V} (g:Grow [] H H') (h:SqC c K H a xs):SqC c K H' a xs:=by
 cases c
 ·exact g.sqL h
 ·exact g.sqT h
end
open PySem PySem.Spec PyProof.Rows L2 HT
section
variable {prog:Program} {w:World} {A:Around} {E:VS7} {s:Shared}
theorem Z1 (l b:Addr) (us ws:Array Value) (n m:Nat) (d1 d2:Option Addr) (e1 e2:Array (Option Value)) (h0:us.isEmpty = true) :
  Meets (Builtin.«tuple.__add__» ⟨[.ref l,.ref b],[]⟩) (fun _ R s=>s.heap.get? l = some ⟨.type "tuple",d1,.seq us n,e1⟩ /\ s.heap.get? b = some ⟨.type "tuple",d2,.seq ws m,e2⟩ /\ R (.ok (.ret (.ref b))) s) :=
 .of_wp fun P w A R s h=>by
  obtain ⟨hh,gg,dd,tk,os⟩:=s
  obtain ⟨eL,eT,q⟩:=h
  have k1:=PySem.AutoSeq1.sub_tuple_tuple
  wp_walk using PySem.AutoSeq1.wpAny_loadPart' eL,PySem.AutoSeq1.wpAny_loadPart' eT
  exact ⟨_,rfl,q⟩
theorem Z2 {t b:Addr} {vs ws:List Value} {Q:VS7} (ht:IsTup s.heap t vs.toArray) (hb:IsTup s.heap b ws.toArray) (hv:vs = []) (h1:Q (.ref b) s):wpAny (model prog w) A (binaryOp .Add (.ref t) (.ref b)) Q E s:=by
 obtain ⟨⟨c1,d1,x1,l1⟩,ho,hc,n,hd⟩:=id ht
 obtain ⟨⟨c2,d2,x2,l2⟩,ho2,hc2,m,hd2⟩:=id hb
 cases hc
 cases hd
 cases hc2
 cases hd2
 exact concat_meets ⟨_,ho,rfl⟩ ⟨_,ho2,rfl⟩ noFill_tuple_add seq_tuple_add PySem.F.slot_tuple_add PySem.F.entry_tuple_add (PySem.F.args_tuple_add_2 _ _) (Z1 t b vs.toArray ws.toArray n m d1 d2 l1 l2 (by simp [hv])) ⟨ho,ho2,h1⟩
theorem uS {t sl:Addr} {us:Array Value} {vl vu:Value} {lo hi:Option Int} {Q:VS7} (ht:IsTup s.heap t us) (hs:s.heap.IsSliceOf sl vl vu .none) (pl:IsPart vl lo) (pu:IsPart vu hi)
  (hw:sIx us.size 0 lo = 0 /\ sIx us.size us.size hi = us.size) (h:Q (.ref t) s):wpAny (model prog w) A (getItem (.ref t) (.ref sl)) Q E s:=by
 obtain ⟨os,hos,hcs,hds⟩:=id hs
 have hTs:s.TypeIs (.ref sl) "slice":=⟨os,hos,hcs⟩
 unfold getItem
 try with_reducible refine wpAny_holding ?_
 first | refine wpAny_bind (wpAny_pure ?_) | skip
 refine wpAny_bind (wpAny_sequenceKey ht.typeIs (by decide) ?_)
 refine wpAny_bind (wpAny_callSpecial?_slot (name:=Str.ofString "__getitem__") ht.typeIs PyProof.Rows.slot_tuple_getitem
  (wpAny_call_entry PyProof.Rows.slot_tuple_getitem ht.typeIs entry_tuple_getitem ?_ (args_tuple_getitem _ _)))
 show wpAny _ _ (Builtin.Tuple.tupleItemsOf (.ref t) >>= _) _ _ s
 refine wpAny_bind (tupleItemsOf_ ht ?_)
 refine wpAny_bind (wpAny_typeOf hTs ?_)
 rw [if_pos (by decide)]
 refine wpAny_bind (xt hs pl pu ?_)
 have yes:(((sIx us.size 0 lo:Nat):Int) == 0 && (1:Int) == 1 && (sIx us.size us.size hi - sIx us.size 0 lo) == us.size) = true:=by
  rw [hw.1,hw.2]; simp
 show wpAny _ _ (if (((sIx us.size 0 lo:Nat):Int) == 0 && (1:Int) == 1 && (sIx us.size us.size hi - sIx us.size 0 lo) == us.size) = true then _ else _) _ _ s
 rw [if_pos yes]
 refine wpAny_bind ?_
 unfold Builtin.Tuple.tupleIsExact
 refine wpAny_bind (wpAny_typeOf ht.typeIs (wpAny_pure ?_))
 show wpAny _ _ (rule _ >>= _) _ _ s
 exact wpAny_bind (wpAny_rule (wpAny_bind (wpAny_pure (wpAny_pure ⟨_,rfl,wpAny_pure h⟩))))
end
section
variable {X:Cx} {K:FG7}
def rSlG (K:FG7):V -> Option Int -> Option Int -> Hp -> VK -> Prop:=fun x lo hi H Q=>∃ a xs,x = .ref a /\ SqT K H a xs /\ ∀ p H',Grow [] H H' -> SqT K H' p (cutV xs lo hi) -> Q (.ref p) H'
theorem j4 {xs:List V} {lo hi:Option Int} (h:HT.sIx xs.length 0 lo = 0 /\ HT.sIx xs.length xs.length hi = xs.length):cutV xs lo hi = xs:=by
 unfold cutV
 rw [h.1,h.2,List.drop_zero,Nat.sub_zero,List.take_length]
theorem yH (hK:X.K = K):SlR X (rSlG K):=by
 subst hK
 intro pins s σ H x v vl vu lo hi sl Q I rx hs pl pu h
 obtain ⟨a,xs,rfl,hx,q⟩:=h
 by_cases hw:HT.sIx xs.length 0 lo = 0 /\ HT.sIx xs.length xs.length hi = xs.length
 ·cases rx
  obtain ⟨its,r,ht,hz⟩:=I.tuple hx
  have hlen:its.toArray.size = xs.length:=by rw [List.size_toArray]; exact r.length.symm
  refine ⟨"tuple",_,PyProof.Rows.slot_tuple_getitem.lookup,ht.typeIs,?_⟩
  exact uS ht hs pl pu (by rw [hlen]; exact hw) ⟨.ref a,H,I,rfl,q a H (Grow.refl _ _) (by rw [j4 hw]; exact hx)⟩
 ·exact Xx pins s σ H _ v vl vu lo hi sl Q I rx hs pl pu ⟨a,xs,rfl,hx,hw,fun p hp=>q p _ (Grow.new hp _) (SqT.of zc)⟩
def XU (K:FG7):R2:=fun x y H Q=>∃ a b xs ys,x = .ref a /\ y = .ref b /\ SqT K H a xs /\ SqT K H b ys /\ xs.length + ys.length <= sizeLine /\ ∀ p H',Grow [] H H' -> SqT K H' p (xs ++ ys) -> Q (.ref p) H'
theorem wb (hK:X.K = K):OpR X (binaryOp .Add) (XU K):=by
 subst hK
 intro pins s σ H x y v u Q I rx ry h
 obtain ⟨a,b,xs,ys,rfl,rfl,ha,hb,hz,q⟩:=h
 by_cases hx:xs = []
 ·cases rx
  cases ry
  obtain ⟨its,r1,p1,_⟩:=I.tuple ha
  obtain ⟨its2,r2,p2,_⟩:=I.tuple hb
  exact Z2 p1 p2 (r1.nil_iff.mpr hx) ⟨.ref b,H,I,rfl,q b H (Grow.refl _ _) (by rw [hx]; exact hb)⟩
 ·exact YL pins s σ H _ _ v u Q I rx ry ⟨a,b,xs,ys,rfl,rfl,ha,hb,hx,hz,fun e=>q a H (Grow.refl _ _) (by rw [e,List.append_nil]; exact ha),fun _ p hp=>q p _ (Grow.new hp _) (SqT.of zc)⟩
end
def sU (P:Program) (w:World) (K:FG7) (mg:Str -> Option Value) (base:Heap) (C:Addr) (k:Nat) (m:Str) (ps:List Str) (sp:Sp):Prop :=
 ∃ (f:Addr) (fd:FuncData),FnOk P w K mg base CX0 k f fd ps sp /\ xV K fd ps [] /\ Meth K C m f
def uT (P:Program) (w:World) (K:FG7) (mg:Str -> Option Value) (base:Heap) (C:Addr) (k:Nat) (ps:List Str) (sp:Sp):Prop :=
 ∃ (j:Nat) (f:Addr) (fd:FuncData),j + 1 = k /\ FnOk P w K mg base CX0 j f fd ps sp /\ xV K fd ps [] /\ Mk K C f
section
variable {P:Program} {w:World} {K:FG7} {mg:Str -> Option Value} {base:Heap} {C:Addr} {j k:Nat} {m:Str} {ps:List Str} {sp:Sp}
theorem sU.mono (c:sU P w K mg base C j m ps sp) (h:j <= k):sU P w K mg base C k m ps sp:=by
 obtain ⟨f,fd,F,b,mt⟩:=c
 exact ⟨f,fd,F.mono h,b,mt⟩
theorem uT.mono (c:uT P w K mg base C j ps sp) (h:j <= k):uT P w K mg base C k ps sp:=by
 obtain ⟨i,f,fd,e,F,b,mt⟩:=c
 exact ⟨k - 1,f,fd,by omega,F.mono (by omega),b,mt⟩
end
structure CTxt (K:FG7) (mg:Str -> Option Value) (C:Addr):Prop where
 cl:Cls K C
 n1:vC K C "depth"
 n2:vC K C "gates"
 n3:vC K C "out_lines"
 n4:vC K C "ups"
 n5:vC K C "tokens"
 n6:vC K C "came_out"
 n7:vC K C "given"
 mgC:mg "Counter" = some (.ref C)
section
variable {X:Cx} {K:FG7}
def FrT (H:Hp) (r:Addr) (xs:List V):Prop:=∃ o:Obj,H r = some (.frz o (.tup xs)) /\ o.cls = .type "tuple" /\ o.dict = none
theorem FrT.sqT {H:Hp} {r:Addr} {xs:List V} (h:FrT H r xs):SqT K H r xs:=by
 obtain ⟨o,e,_⟩:=h
 exact .inl (.inr ⟨o,e⟩)
end
def Trc (h:Heap) (e T:Addr) (cls:Value):Prop :=
 ∃ oe vs oT ts,h.get? e = some oe /\ oe.cls = cls /\ oe.data = .fields vs /\ vs[1]? = some (.ref T) /\ T ≠ e /\ h.get? T = some oT /\ oT.data = .fields ts /\ ts[3]? = some .none /\ vs[2]? = some .none
structure Lft (fr:List Addr) (e T0 T:Addr) (cls:Value) (h h':Heap):Prop where
 keep:∀ b o,b ∉ fr -> b ≠ e -> b ≠ T0 -> h.get? b = some o -> h'.get? b = some o
 slot:∀ b o,b ∈ fr -> b ≠ e -> b ≠ T0 -> h.get? b = some o -> ∃ sl,h'.get? b = some { o with slots:=sl }
 new:h.get? T = none
 trc:Trc h' e T cls
section
variable {M:Model} {A:Around} {E:VS7} {s:Shared}
theorem wc {base:Heap} {env:Env} {outer:List Env} {L e:Addr} {oe:Obj} {vs:Array Value} {head:Value} {hadNext:Bool} {Q:Unit -> Shared -> Prop}
  (hfr:A.frames = some (env :: outer)) (hl:s.heap.FunFrames base (env :: outer)) (hf:env.frame = some L)
  (he:s.heap.get? e = some oe) (hd:oe.data = .fields vs) (hsz:1 < vs.size) (hv2:vs[2]? = some .none)
  (h:∀ h' T,Lft ((env :: outer).filterMap (·.frame)) e e T oe.cls s.heap h' -> Q () { s with heap:=h' }) :
  wpAny M A (do let a ← frameOf env; let pl ← entryPlaceOf L hadNext; let b ← EntryCells.newEntry head a .none (rawInt L) .none pl; setField (.ref e) 1 b) (fun _ s'=>wpAny M A (setFlight (.ref e) none) Q E s') E s:=by
 have hne:e ∉ (env :: outer).filterMap (·.frame):=fun hm=>by
  obtain ⟨_,o,ho,hnf⟩:=hl.mem hm
  rw [he] at ho
  cases ho
  exact hnf vs hd
 refine wpAny_bind (wpAny_frameOf_fun hfr hl hf fun h1 s1=>?_)
 refine wpAny_bind (wpAny_entryPlaceOf fun pl hpl=>?_)
 unfold EntryCells.newEntry newFields
 refine wpAny_bind (wpAny_newObj_type ?_ (hpl.sizeOk5 _ _ _ _ _))
 have e1:h1.get? e = some oe:=(s1.2.1 e hne).trans he
 have hTe:h1.objs.size ≠ e:=Nat.ne_of_gt (Heap.lt_size e1)
 generalize hT:({ cls:=.type "traceback",dict:=none,data:=.fields ([head,.ref L,.none,rawInt L,.none] ++ (if pl.isEmpty then List.replicate 6 Value.none else pl)).toArray }:Obj) = oT
 have hTd:oT.data = .fields ([head,.ref L,.none,rawInt L,.none] ++ (if pl.isEmpty then List.replicate 6 Value.none else pl)).toArray:=by rw [← hT]
 have hTf:oT.isFreed = false:=Obj.isFreed_of_fields hTd
 have e2:=Heap.get?_push_of_some (h:=h1) oT e1
 refine wpAny_setField e2 hd hsz ?_
 have d3:=Obj.data_mapFields hd (·.setIfInBounds 1 (Value.ref h1.objs.size))
 have e3:=Heap.get?_update_self (Obj.mapFields (·.setIfInBounds 1 (Value.ref h1.objs.size))) e2 (Obj.isFreed_of_fields d3)
 have t3:((h1.push oT).update e (Obj.mapFields (·.setIfInBounds 1 (Value.ref h1.objs.size)))).get? h1.objs.size = some oT:=(Heap.get?_update_other _ _ (Ne.symm hTe)).trans (Heap.get?_push_size h1 hTf)
 unfold setFlight
 refine wpAny_bind (wpAny_field e3 d3 (x:=.ref h1.objs.size) (by simp [hsz]) ?_)
 rw [if_pos (show (Value.ref h1.objs.size != Value.none) = true from by simp)]
 refine wpAny_setField t3 hTd (by simp only [List.size_toArray,List.length_append,List.length_cons,List.length_nil] <;> omega) (h _ h1.objs.size ?_)
 have keep:∀ b o,b ≠ e -> h1.get? b = some o →
   (((h1.push oT).update e (Obj.mapFields (·.setIfInBounds 1 (Value.ref h1.objs.size)))).update h1.objs.size (Obj.mapFields (·.setIfInBounds 3 ((none:Option Addr).elim Value.none fun f=>rawInt f)))).get? b = some o:=fun b o hbe hb=>by
  rw [Heap.get?_update_other _ _ (Nat.ne_of_gt (Heap.lt_size hb)),Heap.get?_update_other _ _ (Ne.symm hbe)]
  exact Heap.get?_push_of_some _ hb
 refine ⟨fun b o hb hbe _ ho=>keep b o hbe ((s1.2.1 b hb).trans ho),fun b o hb hbe _ ho=>?_,?_,?_⟩
 ·obtain ⟨sl,hs⟩:=s1.2.2 b o ho
  exact ⟨sl,keep b _ hbe hs⟩
 ·cases q:s.heap.get? h1.objs.size with
  | none=>rfl
  | some o =>
   have:=Heap.lt_size q
   rw [s1.1] at this
   exact absurd this (Nat.lt_irrefl _)
 ·refine ⟨_,_,_,_,(Heap.get?_update_other _ _ hTe).trans e3,Obj.cls_mapFields _ _,d3,by simp [hsz],hTe,Heap.get?_update_self _ t3 (Obj.isFreed_of_fields (Obj.data_mapFields hTd _)),Obj.data_mapFields hTd _,?_,(Array.getElem?_setIfInBounds_ne (by decide)).trans hv2⟩
  simp only [Array.getElem?_setIfInBounds,if_true]
  rw [if_pos (by simp only [List.size_toArray,List.length_append,List.length_cons,List.length_nil]; omega)]
  rfl
theorem sV {base:Heap} {env:Env} {outer:List Env} {L e:Addr} {oe:Obj} {vs:Array Value} {Q:Unit -> Shared -> Prop}
  (hfr:A.frames = some (env :: outer)) (hl:s.heap.FunFrames base (env :: outer)) (hf:env.frame = some L)
  (he:s.heap.get? e = some oe) (hd:oe.data = .fields vs) (h1:vs[1]? = some .none) (hv2:vs[2]? = some .none)
  (h:∀ h' T,Lft ((env :: outer).filterMap (·.frame)) e e T oe.cls s.heap h' -> Q () { s with heap:=h' }):wpAny M A (leaving env (.ref e)) Q E s:=by
 unfold leaving noteFrame
 simp only [hf]
 refine wpAny_bind (wpAny_bind (wpAny_field he hd h1 ?_))
 rw [if_neg (by decide)]
 exact wc hfr hl hf he hd (Array.getElem?_eq_some_iff.mp h1).1 hv2 h
theorem qR {base:Heap} {env:Env} {outer:List Env} {L e T0:Addr} {cls:Value} {Q:Unit -> Shared -> Prop}
  (hfr:A.frames = some (env :: outer)) (hl:s.heap.FunFrames base (env :: outer)) (hf:env.frame = some L) (ht:Trc s.heap e T0 cls)
  (h:∀ h' T,Lft ((env :: outer).filterMap (·.frame)) e T0 T cls s.heap h' -> Q () { s with heap:=h' }):wpAny M A (leaving env (.ref e)) Q E s:=by
 obtain ⟨oe,vs,oT,ts,he,hcls,hd,h1,hTe,hT,hdT,h3,hv2⟩:=ht
 subst hcls
 unfold leaving noteFrame
 simp only [hf]
 refine wpAny_bind (wpAny_bind (wpAny_field he hd h1 ?_))
 rw [if_pos (show (Value.ref T0 != Value.none) = true from by simp)]
 refine wpAny_bind (wpAny_field hT hdT h3 ?_)
 rw [if_neg (show ¬ ((Value.none == rawInt L) = true) from by simp [rawInt])]
 refine wpAny_bind (wpAny_setField hT hdT (Array.getElem?_eq_some_iff.mp h3).1 ?_)
 have other:∀ b,b ≠ T0 -> (s.heap.update T0 (Obj.mapFields (·.setIfInBounds 3 Value.none))).get? b = s.heap.get? b:=fun b hb=>Heap.get?_update_other _ _ (Ne.symm hb)
 have nf:∀ b o,s.heap.get? b = some o -> (∀ vs,o.data ≠ .fields vs) -> b ≠ T0:=fun b o hb hnf q=>by
  rw [q,hT] at hb
  cases hb
  exact hnf ts hdT
 refine wc hfr (hl.of_keeps fun b o hb hnf=>⟨o,(other b (nf b o hb hnf)).trans hb,rfl⟩) hf ((other e (Ne.symm hTe)).trans he) hd (Array.getElem?_eq_some_iff.mp h1).1 hv2 fun h' T x=>h h' T ?_
 refine ⟨fun b o hb hbe hb0 ho=>x.keep b o hb hbe hbe ((other b hb0).trans ho),fun b o hb hbe hb0 ho=>x.slot b o hb hbe hbe ((other b hb0).trans ho),?_,x.trc⟩
 have:=x.new
 by_cases q:T = T0
 ·subst q
  have e5:=Heap.get?_update_self (Obj.mapFields (·.setIfInBounds 3 Value.none)) hT (Obj.isFreed_of_fields (Obj.data_mapFields hdT _))
  rw [show (s.heap.update T (Obj.mapFields (·.setIfInBounds 3 Value.none))).get? T = _ from e5] at this
  cases this
 ·rw [← other T q]; exact this
end
def CX1 (P:Program) (w:World):CXT:=fun outer H s E e s'=>∃ (a T C:Addr) (H':Hp),e = .ref a /\ s'.os = s.os /\ AllBare s'.gens /\ Un (frs outer) [] H H' s.heap s'.heap /\ HOk P w H' s'.heap ∧
 Trc s'.heap a T (.ref C) /\ H' a = none /\ H' T = none /\ s.heap.get? a = none /\ s.heap.get? T = none /\ E e (some C) H'
theorem yu.at {P:Program} {w:World} {H:Hp} {h:Heap} {a:Addr} {o:HO} (x:yu P w H h a o):∃ ob,h.get? a = some ob:=by
 induction o with
 | lst xs=>obtain ⟨z,its,n,r,e⟩:=x; exact ⟨_,e⟩
 | tup xs=>obtain ⟨z,its,r,ob,e,c⟩:=x; exact ⟨_,e⟩
 | dK kvs=>obtain ⟨z,y,vs,r,ob,es,ep,e,c⟩:=x; exact ⟨_,e⟩
 | dT kvs=>obtain ⟨z,y,xs,r,ob,es,ep,e,c⟩:=x; exact ⟨_,e⟩
 | set S n=>obtain ⟨ob,es,ep,t,e,c⟩:=x; exact ⟨_,e⟩
 | ins C dx fs=>obtain ⟨d,z,ne,e,_⟩:=x; exact ⟨_,e⟩
 | own y=>exact x
 | xd fs=>obtain ⟨mA,⟨od,es,ep,e,c⟩,r⟩:=x; exact ⟨_,e⟩
 | rng lo hi=>obtain ⟨t,u,v,e⟩:=x; exact ⟨_,e⟩
 | frz ob u ih=>exact ⟨_,x.1⟩
 | tbl ps=>exact ⟨_,x⟩
 | met f y=>exact ⟨_,x⟩
 | ext φ=>exact x.2.1
theorem Z3 {P:Program} {w:World} {H:Hp} {h h':Heap} {fr:List Addr} {e T0 T:Addr} {cls:Value} (x:HOk P w H h) (l:Lft fr e T0 T cls h h') (hfr:∀ b ∈ fr,H b = none) (he:H e = none) (h0:H T0 = none):HOk P w H h':=fun b u q=>by
 refine (x b u q).stay (fun c v hc r=>?_) (fun _ r=>r) fun _ _ r=>r
 have hn:H c ≠ none:=by
  rcases hc with rfl | hc
  ·rw [q]; exact fun z=>nomatch z
  ·rw [hc]; exact fun z=>nomatch z
 exact l.keep c v (fun z=>hn (hfr c z)) (fun z=>hn (by rw [z]; exact he)) (fun z=>hn (by rw [z]; exact h0)) r
section
variable {P:Program} {w:World} {K:FG7} {mg:Str -> Option Value} {base:Heap} {N:List Str} {qual:Str} {scope:Scope} {f:Addr} {cd:Value} {A:Around} {outer:List Env} {s0:Shared} {H0:Hp} {E:XK}
 {pins:List (Addr × Obj)} {σ:L2.St} {H:Hp} {s:Shared}
theorem j5 {h2:Heap} {e T0 T C:Addr} (I:Inv (cxOf (CX1 P w) P w K mg base N qual scope f cd A outer s0 H0 E) pins σ H s) (l:Lft ((envOfC qual scope s0.heap.objs.size f cd :: outer).filterMap (·.frame)) e T0 T (.ref C) s.heap h2)
  (new:∀ b o,s0.heap.get? b = some o -> b ≠ e /\ b ≠ T0) (he0:H e = none) (ht0:H T0 = none) (q:E (.ref e) (some C) H):CX1 P w outer H0 s0 E (.ref e) { s with heap:=h2 }:=by
 have hfr:∀ b ∈ (envOfC qual scope s0.heap.objs.size f cd :: outer).filterMap (·.frame),H b = none:=I.stkFree
 have hU:Un (frs outer) [] H0 H s0.heap s.heap:=I.base
 have newT:∀ b o,s0.heap.get? b = some o -> b ≠ T:=fun b o hb z=>by
  obtain ⟨o',h1⟩:=hU.there b o hb (by simp)
  have:=l.new
  rw [← z,h1] at this; cases this
 have nin:∀ b o,s0.heap.get? b = some o -> b ∉ frs outer -> b ∉ (envOfC qual scope s0.heap.objs.size f cd :: outer).filterMap (·.frame):=fun b o hb hn z=>by
  rcases List.mem_cons.mp (show b ∈ s0.heap.objs.size :: frs outer from z) with z | z
  ·exact Nat.ne_of_lt (Heap.lt_size hb) z
  ·exact hn z
 have isin:∀ b,b ∈ frs outer -> b ∈ (envOfC qual scope s0.heap.objs.size f cd :: outer).filterMap (·.frame):=fun b hb=>show b ∈ s0.heap.objs.size :: frs outer from List.mem_cons_of_mem _ hb
 refine ⟨e,T,C,H,rfl,I.os,I.bare,⟨fun b o hb hn hf hx'=>?_,fun b o hb hn hf hx'=>?_,hU.free,fun b o hb hx'=>?_,hU.tups,hU.frzs,hU.tbls⟩,Z3 I.hok l hfr he0 ht0,l.trc,he0,?_,?_,?_,q⟩
 ·obtain ⟨n1,n2⟩:=new b o hb
  exact l.keep b o (nin b o hb hf) n1 n2 (hU.keep b o hb hn hf hx')
 ·obtain ⟨n1,n2⟩:=new b o hb
  obtain ⟨sl,h1⟩:=hU.slot b o hb hn hf hx'
  obtain ⟨sl',h2⟩:=l.slot b _ (isin b hf) n1 n2 h1
  exact ⟨sl',h2⟩
 ·obtain ⟨n1,n2⟩:=new b o hb
  obtain ⟨o',h1⟩:=hU.there b o hb hx'
  by_cases z:b ∈ (envOfC qual scope s0.heap.objs.size f cd :: outer).filterMap (·.frame)
  ·obtain ⟨sl,h2⟩:=l.slot b o' z n1 n2 h1
   exact ⟨_,h2⟩
  ·exact ⟨o',l.keep b o' z n1 n2 h1⟩
 ·cases r:H T with
  | none=>rfl
  | some o =>
   obtain ⟨ob,z⟩:=yu.at (I.hok T o r)
   rw [l.new] at z; cases z
 ·cases r:s0.heap.get? e with
  | none=>rfl
  | some o=>exact absurd rfl (new e o r).1
 ·cases r:s0.heap.get? T with
  | none=>rfl
  | some o=>exact absurd rfl (newT T o r)
theorem Y0 {h':Heap} {e C:Addr} {args:List Value} (I:Inv (cxOf (CX1 P w) P w K mg base N qual scope f cd A outer s0 H0 E) pins σ H s) (hx:Heap.MadeExcOf s.heap h' e (.ref C) args) (q:E (.ref e) (some C) H) :
  (cxOf (CX1 P w) P w K mg base N qual scope f cd A outer s0 H0 E).xe (.ref e) { s with heap:=h' }:=by
 obtain ⟨t,he,ht,_⟩:=hx.there
 have he0:H e = none:=by
  cases r:H e with
  | none=>rfl
  | some o =>
   obtain ⟨ob,z⟩:=yu.at (I.hok e o r)
   rw [hx.new] at z; cases z
 have I1:Inv (cxOf (CX1 P w) P w K mg base N qual scope f cd A outer s0 H0 E) pins σ H { s with heap:=h' }:=I.kept (t':=s.toks) hx.keeps
 have new:∀ b o,s0.heap.get? b = some o -> b ≠ e:=fun b o hb z=>by
  have hU:Un (frs outer) [] H0 H s0.heap s.heap:=I.base
  obtain ⟨o',ho'⟩:=hU.there b o hb (by simp)
  rw [z,hx.new] at ho'; cases ho'
 refine sV (base:=base) (outer:=outer) (L:=s0.heap.objs.size) I.ok.frames I1.stack rfl he rfl rfl rfl fun h2 T l=>?_
 exact j5 I1 l (fun b o hb=>⟨new b o hb,new b o hb⟩) he0 he0 q
theorem yx {E':XK} (hE:∀ e C H',E' e (some C) H' -> E e (some C) H'):vD (CX1 P w) (cxOf (CX1 P w) P w K mg base N qual scope f cd A outer s0 H0 E) E':=by
 intro pins σ H s ex s' I hc
 obtain ⟨e,T0,C,H',rfl,os,bare,un,hok,trc,e0,t0,ne,nt,q⟩:=hc
 have I1:Inv (cxOf (CX1 P w) P w K mg base N qual scope f cd A outer s0 H0 E) pins σ H' s':=I.call' (ch:=[]) os un hok bare (fun b z=>absurd z (by simp))
 have new:∀ b o,s0.heap.get? b = some o -> b ≠ e /\ b ≠ T0:=fun b o hb=>by
  have hU:Un (frs outer) [] H0 H s0.heap s.heap:=I.base
  obtain ⟨o',ho'⟩:=hU.there b o hb (by simp)
  refine ⟨fun z=>?_,fun z=>?_⟩
  ·rw [z,ne] at ho'; cases ho'
  ·rw [z,nt] at ho'; cases ho'
 refine qR (base:=base) (outer:=outer) (L:=s0.heap.objs.size) I.ok.frames I1.stack rfl trc fun h2 T l=>?_
 exact j5 I1 l new e0 t0 (hE _ _ _ q)
end
abbrev veM:List Value:=[.type "ValueError",.type "Exception",.type "BaseException",.type "object"]
def ExcC (K:FG7) (mg:Str -> Option Value) (x:Str) (C:Addr):Prop:=∀ h:Heap,K.In h -> OwnCls x C veM "ValueError.__new__" mg h
def Yv (X:Cx) (E:XK):Prop:=∀ (pins:List (Addr × Obj)) (σ:L2.St) (H:Hp) (s:Shared) (h':Heap) (e C:Addr) (args:List Value),Inv X pins σ H s -> Heap.MadeExcOf s.heap h' e (.ref C) args -> E (.ref e) (some C) H -> X.xe (.ref e) { s with heap:=h' }
def XV (C:Addr) (E:XK) (te:TE):TS:=fun _ σ H=>te σ H fun _ H1=>∀ e,E (.ref e) (some C) H1
section
variable {X:Cx} {x:Str} {C:Addr} {np cpos pos:Pos} {e₀:Expr} {te:TE} {E:XK}
theorem xO (hc:X.calm = true) (O:ExcC X.K X.mg x C) (hg:Gl X x) (hr:Yv X E) (he:PE X e₀ te) (hdb:(x == ("__debug__":Str)) = false:=by decide)
  (hst:starEach [e₀] X.env = [(false,eval e₀ X.env)]:=by rfl):PS X (.Raise (some (.Call (.Name x np) [e₀] [] cpos)) none pos) (XV C E te):=by
 intro pins s σ H D I h
 obtain ⟨tl,N,nm,q,bs,hdct,sn,sub,ab,col,dd,k0,k1,k2,k3,k5,mN,hC,hN,hni,T⟩:=(O X.base I.mod.kin).obj
 refine wpAny_Raise_call_subT (C:=C) (nm:=nm) (q:=q) (N:=N) (bs:=bs) (bm:=tl) (hdct:=hdct) (sn:=sn) (sub:=sub) (ab:=ab) (col:=col) (dd:=dd) (k0:=k0) (k1:=k1) (k2:=k2) (k3:=k3) (k5:=k5)
  PySem.F.excBase_ValueError (mN:=mN) (T.hasType PySem.F.excBase_ValueError.hasBase) (I.ok.hd hc) (by rw [hst]; rfl) hni (uH I hg (O s.heap I.kIn).bound ⟨rfl,?_⟩ hdb)
 rw [hst]
 refine Calls.evalArgs_plain ?_
 show wpAny _ _ (spliced [(false,eval e₀ X.env)]) _ _ s
 refine Calls.spliced_cons (thn (he pins s σ H _ I h) fun v s1 ⟨y,H1,I1,r1,q1⟩=>Calls.spliced_nil ?_)
 exact ⟨rfl,szl rfl,I1.bk _ _ hC,hN.keeps I1.bk,T.keeps I1.bk,fun h' e hm=>hr pins σ H1 s1 h' e C _ I1 hm (q1 e)⟩
end
section
variable {P:Program} {w:World} {K:FG7} {mg:Str -> Option Value} {base:Heap} {N:List Str} {qual:Str} {scope:Scope} {f:Addr} {cd:Value} {A:Around} {outer:List Env} {s0:Shared} {H0:Hp} {E:XK}
theorem yZ:Yv (cxOf (CX1 P w) P w K mg base N qual scope f cd A outer s0 H0 E) E:=fun _ _ _ _ _ _ _ _ I hx q=>Y0 I hx q
end
section
variable {M:Model} {A:Around} {E:VS7} {s:Shared}
theorem j7 {base:Heap} {env:Env} {outer:List Env} {L e T0:Addr} {cls:Value} {Q:Unit -> Shared -> Prop}
  (hfr:A.frames = some (env :: outer)) (hl:s.heap.FunFrames base (env :: outer)) (hf:env.frame = some L) (ht:Trc s.heap e T0 cls)
  (h:∀ h' T,Lft ((env :: outer).filterMap (·.frame)) e T0 T cls s.heap h' -> Q () { s with heap:=h' }):wpAny M A (noteFrame (.ref e) env) (fun _ s'=>wpAny M A (setFlight (.ref e) none) Q E s') E s:=by
 obtain ⟨oe,vs,oT,ts,he,hcls,hd,h1,hTe,hT,hdT,h3,hv2⟩:=ht
 subst hcls
 unfold noteFrame
 simp only [hf]
 refine wpAny_bind (wpAny_field he hd h1 ?_)
 rw [if_pos (show (Value.ref T0 != Value.none) = true from by simp)]
 refine wpAny_bind (wpAny_field hT hdT h3 ?_)
 rw [if_neg (show ¬ ((Value.none == rawInt L) = true) from by simp [rawInt])]
 refine wpAny_bind (wpAny_setField hT hdT (Array.getElem?_eq_some_iff.mp h3).1 ?_)
 have other:∀ b,b ≠ T0 -> (s.heap.update T0 (Obj.mapFields (·.setIfInBounds 3 Value.none))).get? b = s.heap.get? b:=fun b hb=>Heap.get?_update_other _ _ (Ne.symm hb)
 have nf:∀ b o,s.heap.get? b = some o -> (∀ vs,o.data ≠ .fields vs) -> b ≠ T0:=fun b o hb hnf q=>by
  rw [q,hT] at hb
  cases hb
  exact hnf ts hdT
 refine wc hfr (hl.of_keeps fun b o hb hnf=>⟨o,(other b (nf b o hb hnf)).trans hb,rfl⟩) hf ((other e (Ne.symm hTe)).trans he) hd (Array.getElem?_eq_some_iff.mp h1).1 hv2 fun h' T x=>h h' T ?_
 refine ⟨fun b o hb hbe hb0 ho=>x.keep b o hb hbe hbe ((other b hb0).trans ho),fun b o hb hbe hb0 ho=>x.slot b o hb hbe hbe ((other b hb0).trans ho),?_,x.trc⟩
 have:=x.new
 by_cases q:T = T0
 ·subst q
  have e5:=Heap.get?_update_self (Obj.mapFields (·.setIfInBounds 3 Value.none)) hT (Obj.isFreed_of_fields (Obj.data_mapFields hdT _))
  rw [show (s.heap.update T (Obj.mapFields (·.setIfInBounds 3 Value.none))).get? T = _ from e5] at this
  cases this
 ·rw [← other T q]; exact this
theorem qS {e T0:Addr} {cls:Value} {Q:Unit -> Shared -> Prop} (ht:Trc s.heap e T0 cls)
  (h:∀ h',(∀ b,b ≠ T0 -> h'.get? b = s.heap.get? b) -> Trc h' e T0 cls -> Q () { s with heap:=h' }):wpAny M A (setFlight (.ref e) none) Q E s:=by
 obtain ⟨oe,vs,oT,ts,he,hcls,hd,h1,hTe,hT,hdT,h3,hv2⟩:=ht
 unfold setFlight
 refine wpAny_bind (wpAny_field he hd h1 ?_)
 rw [if_pos (show (Value.ref T0 != Value.none) = true from by simp)]
 have other:∀ b,b ≠ T0 -> (s.heap.update T0 (Obj.mapFields (·.setIfInBounds 3 ((none:Option Addr).elim Value.none fun f=>rawInt f)))).get? b = s.heap.get? b:=fun b hb=>Heap.get?_update_other _ _ (Ne.symm hb)
 refine wpAny_setField hT hdT (Array.getElem?_eq_some_iff.mp h3).1 (h _ other ⟨oe,vs,_,_,(other e (Ne.symm hTe)).trans he,hcls,hd,h1,hTe,Heap.get?_update_self _ hT (Obj.isFreed_of_fields (Obj.data_mapFields hdT _)),Obj.data_mapFields hdT _,?_,hv2⟩)
 simp only [Array.getElem?_setIfInBounds,if_true]
 rw [if_pos (Array.getElem?_eq_some_iff.mp h3).1]
 rfl
end
structure ApX (X:Cx) (pins:List (Addr × Obj)) (H:Hp) (a T:Addr):Prop where
 s0:∀ b o,X.s₀.heap.get? b = some o -> b ≠ a /\ b ≠ T
 loc:X.env.locals ≠ a /\ X.env.locals ≠ T
 cel:∀ x c,X.env.cells.lookup x = some c -> c ≠ a /\ c ≠ T
 pin:∀ p ∈ X.pn ++ pins,p.1 ≠ a /\ p.1 ≠ T
 ha:H a = none
 hT:H T = none
theorem ApX.of {X:Cx} {pins:List (Addr × Obj)} {σ:L2.St} {H H':Hp} {s:Shared} {a T:Addr} (I:Inv X pins σ H s) (hx:X.ex = []) (na:s.heap.get? a = none) (nT:s.heap.get? T = none) (ha:H' a = none) (hT:H' T = none):ApX X pins H' a T:=by
 have ne:∀ b o,s.heap.get? b = some o -> b ≠ a /\ b ≠ T:=fun b o hb=>⟨fun z=>(by rw [z,na] at hb; cases hb),fun z=>(by rw [z,nT] at hb; cases hb)⟩
 refine ⟨fun b o hb=>?_,?_,fun x c hc=>?_,fun p hp=>ne _ _ (I.pin p hp).1,ha,hT⟩
 ·obtain ⟨o',h1⟩:=I.base.there b o hb (by rw [hx]; simp)
  exact ne b o' h1
 ·obtain ⟨m,⟨o,es,ep,ho,_⟩,_⟩:=I.loc
  exact ne _ _ ho
 ·obtain ⟨v,hv⟩:=I.cell x c hc
  obtain ⟨o,ho,_⟩:=hv
  exact ne _ _ ho
theorem Inv.leftK {X:Cx} {pins:List (Addr × Obj)} {σ:L2.St} {H:Hp} {s:Shared} {a T0:Addr} {h2:Heap} (I:Inv X pins σ H s) (hx:X.ex = []) (ap:ApX X pins H a T0)
  (lk:∀ b o,b ∉ frs X.stack -> b ≠ a -> b ≠ T0 -> s.heap.get? b = some o -> h2.get? b = some o) (ls:∀ b o,b ∈ frs X.stack -> b ≠ a -> b ≠ T0 -> s.heap.get? b = some o -> ∃ sl,h2.get? b = some { o with slots:=sl }):Inv X pins σ H { s with heap:=h2 }:=by
 have stk:∀ b,b ∈ frs X.stack -> b = X.env.locals \/ b ∈ X.fs:=fun b hb=>List.mem_cons.mp (I.stkSub b hb)
 have any:∀ b o,b ≠ a -> b ≠ T0 -> s.heap.get? b = some o -> ∃ sl,h2.get? b = some { o with slots:=sl }:=fun b o n1 n2 ho=>by
  by_cases z:b ∈ frs X.stack
  ·exact ls b o z n1 n2 ho
  ·exact ⟨o.slots,lk b o z n1 n2 ho⟩
 have cellK:∀ x c,X.env.cells.lookup x = some c -> ∀ v,s.heap.IsCell c v -> h2.IsCell c v:=fun x c e v ⟨o,ho,hd⟩=>by
  obtain ⟨n1,n2⟩:=ap.cel x c e
  obtain ⟨sl,h1⟩:=any c o n1 n2 ho
  exact ⟨_,h1,hd⟩
 refine ⟨I.ok,I.os,I.bare,⟨fun b o hb hn hf hx'=>?_,fun b o hb hn hf hx'=>?_,I.base.free,fun b o hb hx'=>?_,I.base.tups,I.base.frzs,I.base.tbls⟩,?_,fun x c hc=>?_,I.free,I.freeC,fun p hp=>?_,fun b u q=>?_,I.len⟩
 ·obtain ⟨n1,n2⟩:=ap.s0 b o hb
  refine lk b o (fun z=>?_) n1 n2 (I.base.keep b o hb hn hf hx')
  rcases stk b z with z | z
  ·exact absurd (Nat.lt_of_lt_of_le (Heap.lt_size hb) I.ok.above) (by rw [z]; exact Nat.lt_irrefl _)
  ·exact hf z
 ·obtain ⟨n1,n2⟩:=ap.s0 b o hb
  obtain ⟨sl,h1⟩:=I.base.slot b o hb hn hf hx'
  obtain ⟨sl',h3⟩:=any b _ n1 n2 h1
  exact ⟨sl',h3⟩
 ·obtain ⟨n1,n2⟩:=ap.s0 b o hb
  obtain ⟨o',h1⟩:=I.base.there b o hb hx'
  obtain ⟨sl,h3⟩:=any b o' n1 n2 h1
  exact ⟨_,h3⟩
 ·obtain ⟨m,⟨o,es,ep,ho,r⟩,hl⟩:=I.loc
  obtain ⟨sl,h1⟩:=any _ o ap.loc.1 ap.loc.2 ho
  refine ⟨m,⟨_,es,ep,h1,r⟩,fun i x v e1 e2 e3=>?_⟩
  obtain ⟨u,ru,lk⟩:=hl i x v e1 e2 e3
  refine ⟨u,ru,?_⟩
  rcases lk with lk | ⟨k1,c,k2,k3⟩
  ·exact .inl lk
  ·exact .inr ⟨k1,c,k2,cellK x c k2 _ k3⟩
 ·obtain ⟨v,hv⟩:=I.cell x c hc
  exact ⟨v,cellK x c hc v hv⟩
 ·obtain ⟨p1,p2,p3,p4,p5⟩:=I.pin p hp
  obtain ⟨n1,n2⟩:=ap.pin p hp
  refine ⟨lk _ _ (fun z=>?_) n1 n2 p1,p2,p3,p4,p5⟩
  rcases stk _ z with z | z
  ·exact p3 z
  ·exact p4 z
 ·refine (I.hok b u q).stay (fun c v hc r=>?_) (fun _ r=>r) fun _ _ r=>r
  have hn:H c ≠ none:=by
   rcases hc with rfl | hc
   ·rw [q]; exact fun z=>nomatch z
   ·rw [hc]; exact fun z=>nomatch z
  exact lk c v (fun z=>hn (I.stkFree c z)) (fun z=>hn (by rw [z]; exact ap.ha)) (fun z=>hn (by rw [z]; exact ap.hT)) r
theorem Inv.left {X:Cx} {pins:List (Addr × Obj)} {σ:L2.St} {H:Hp} {s:Shared} {a T0 T:Addr} {cls:Value} {h2:Heap} (I:Inv X pins σ H s) (hx:X.ex = []) (ap:ApX X pins H a T0)
  (l:Lft (frs X.stack) a T0 T cls s.heap h2):Inv X pins σ H { s with heap:=h2 }:=Inv.leftK I hx ap l.keep l.slot
abbrev pinX (X:Cx) (ps:List (Addr × Obj)) (E:VS7):Cx:={ X with pn:=X.pn ++ ps,xe:=E }
def j8 (X:Cx) (ps:List (Addr × Obj)) (E:XK):VS7:=fun e s'=>∃ (a T C:Addr) (σ:L2.St) (H:Hp),e = .ref a /\ Inv X ps σ H s' /\ Trc s'.heap a T (.ref C) /\ ApX X ps H a T /\ E e (some C) H
section
variable {X:Cx} {ps pins:List (Addr × Obj)} {E:VS7} {σ:L2.St} {H:Hp} {s:Shared}
theorem Inv.pinX (I:Inv X ps σ H s):Inv (pinX X ps E) [] σ H s :=
 ⟨⟨I.ok.mod,I.ok.kind,I.ok.glob,I.ok.blt,I.ok.above,I.ok.inj,I.ok.has,I.ok.cab,I.ok.hd,I.ok.frames,I.ok.stk,I.ok.exf,I.ok.bs,I.ok.bsz,I.ok.noex,I.ok.exfs,I.ok.funs,I.ok.frf⟩,I.os,I.bare,I.base,I.loc,I.cell,I.free,I.freeC,fun p hp=>I.pin p (by simpa using hp),I.hok,I.len⟩
theorem Inv.unpin (I:Inv (L3.pinX X ps E) pins σ H s):Inv X ps σ H s :=
 ⟨⟨I.ok.mod,I.ok.kind,I.ok.glob,I.ok.blt,I.ok.above,I.ok.inj,I.ok.has,I.ok.cab,I.ok.hd,I.ok.frames,I.ok.stk,I.ok.exf,I.ok.bs,I.ok.bsz,I.ok.noex,I.ok.exfs,I.ok.funs,I.ok.frf⟩,I.os,I.bare,I.base,I.loc,I.cell,I.free,I.freeC,fun p hp=>I.pin p (List.mem_append_left _ hp),I.hok,I.len⟩
end
theorem wq {X:Cx} {ps:List (Addr × Obj)} {E:XK} (hx:X.ex = []):vD (CX1 X.prog X.w) (pinX X ps (j8 X ps E)) E:=by
 intro pins σ H s ex s' I hc
 obtain ⟨a,T0,C,H',rfl,os,bare,un,hok,trc,e0,t0,ne,nt,q⟩:=hc
 have I0:Inv X ps σ H s:=Inv.unpin I
 have I1:Inv X ps σ H' s':=I0.call' (ch:=[]) os un hok bare (fun b z=>absurd z (by simp))
 exact ⟨a,T0,C,σ,H',rfl,I1,trc,ApX.of I0 hx ne nt e0 t0,q⟩
abbrev handX (X:Cx) (e:Addr):Cx:={ X with A:=X.A.mark (some (.ref e)),calm:=false,xe:=fun _ _=>False }
section
variable {X:Cx} {pins:List (Addr × Obj)} {σ:L2.St} {H:Hp} {s:Shared} {e:Addr}
theorem Inv.handX (I:Inv X pins σ H s):Inv (handX X e) pins σ H s :=
 ⟨⟨I.ok.mod,I.ok.kind,I.ok.glob,I.ok.blt,I.ok.above,I.ok.inj,I.ok.has,I.ok.cab,fun z=>(nomatch z),I.ok.frames,I.ok.stk,I.ok.exf,I.ok.bs,I.ok.bsz,I.ok.noex,I.ok.exfs,I.ok.funs,I.ok.frf⟩,I.os,I.bare,I.base,I.loc,I.cell,I.free,I.freeC,I.pin,I.hok,I.len⟩
theorem Inv.unhand (ok:X.Ok) (I:Inv (L3.handX X e) pins σ H s):Inv X pins σ H s:=⟨ok,I.os,I.bare,I.base,I.loc,I.cell,I.free,I.freeC,I.pin,I.hok,I.len⟩
theorem SP.unhand (ok:X.Ok) {D:Ends} {f:Flow} (h:SP (L3.handX X e) pins D f s):SP X pins D f s:=by
 cases f with
 | next=>obtain ⟨σ',H',I,q⟩:=h; exact ⟨σ',H',Inv.unhand ok I,q⟩
 | brk=>obtain ⟨σ',H',I,q⟩:=h; exact ⟨σ',H',Inv.unhand ok I,q⟩
 | cont=>obtain ⟨σ',H',I,q⟩:=h; exact ⟨σ',H',Inv.unhand ok I,q⟩
 | ret u=>obtain ⟨v,σ',H',I,r,q⟩:=h; exact ⟨v,σ',H',Inv.unhand ok I,r,q⟩
theorem SP.unpin {ps:List (Addr × Obj)} {E:VS7} {D:Ends} {f:Flow} (h:SP (L3.pinX X ps E) [] D f s):SP X ps D f s:=by
 cases f with
 | next=>obtain ⟨σ',H',I,q⟩:=h; exact ⟨σ',H',Inv.unpin I,q⟩
 | brk=>obtain ⟨σ',H',I,q⟩:=h; exact ⟨σ',H',Inv.unpin I,q⟩
 | cont=>obtain ⟨σ',H',I,q⟩:=h; exact ⟨σ',H',Inv.unpin I,q⟩
 | ret u=>obtain ⟨v,σ',H',I,r,q⟩:=h; exact ⟨v,σ',H',Inv.unpin I,r,q⟩
end
open PySem.W in
/-- an exception class as the text's constants show it -/
theorem excC_of {K:FG7} {mg:Str -> Option Value} {x:Str} {C:Addr} (b:mg x = some (.ref C)) (q:PySem.W.excIn K C veM "ValueError.__new__" = true):ExcC K mg x C:=by
 intro h X
 refine ⟨b,?_⟩
 unfold PySem.W.excIn at q
 cases ho:K.lookup C with
 | none=>rw [ho] at q; cases q
 | some ob =>
  rw [ho] at q
  obtain ⟨oc,od,oda,osl⟩:=ob
  split at q
  ·rename_i dd cd sl e
   obtain ⟨rfl,rfl,rfl,rfl⟩:=Obj.mk.inj (Option.some.inj e)
   split at q
   ·rename_i C' bm k0 k1 k2 k3 n k5 hm hs
    simp only [Bool.and_eq_true,beq_iff_eq,Bool.not_eq_true'] at q
    obtain ⟨⟨⟨⟨⟨rfl,rfl⟩,hdel⟩,ht⟩,hok⟩,hni⟩:=q
    obtain ⟨nm,bs,mro,ns,qn,hd,sn,sub,ab,col,del⟩:=cd
    dsimp only at hm hdel hok hni
    subst hm hdel
    obtain ⟨l⟩:=osl
    have hl:l = [k0,k1,k2,k3,some (.builtin "ValueError.__new__"),k5]:=hs
    subst hl
    exact ⟨bm,ns,nm,qn,bs,hd,sn,sub,ab,col,od,k0,k1,k2,k3,k5,_,X _ _ ho,.of_isNs (PySem.W.isNs_of_in X hok),PySem.W.nsMap_none_of_in X hok hni,PySem.W.tail_of_in X ht⟩
   ·cases q
  ·cases q
section
variable {P:Program} {w:World} {K:FG7} {mg:Str -> Option Value} {base:Heap}
theorem Fun.okX {x qual:Str} {st:Stmt} {f:Addr} {fd:FuncData} {N ps:List Str} {k:Nat} {sp:Sp} (F:Fun K x qual st f fd) (S:FnScope N ps (zh st)) (len:∀ vs H Q E,sp vs H Q E -> vs.length = ps.length)
  (hbody:∀ (cdv:Value) (A:Around) (outer:List Env) (s:Shared) (H:Hp) (vs:List V) (Q:VK) (E:XK),Room k (A.deeper (envOfC qual (zh st) s.heap.objs.size f cdv)) -> sp vs H Q E →
   ∃ t,PSs (cxOf (CX1 P w) P w K mg base N qual (zh st) f cdv A outer s H E) (x8 st) t /\ t { nx:=fun _ H'=>Q .non H',rt:=Q } (start N vs) H):FnOk P w K mg base (CX1 P w) (k + 1) f fd ps sp:=by
 obtain ⟨oc,od,kV,doc,pm,an,cdv,ct,osl,rfl,lk,hcd⟩:=F.ex
 exact Xv lk hcd S len fun A outer s H vs Q E hr hsp=>hbody cdv A outer s H vs Q E hr hsp
end
def uU (P:Program) (w:World) (K:FG7) (mg:Str -> Option Value) (base:Heap) (C:Addr) (k:Nat) (m:Str) (ps:List Str) (sp:Sp):Prop :=
 ∃ (f:Addr) (fd:FuncData),FnOk P w K mg base (CX1 P w) k f fd ps sp /\ xV K fd ps [] /\ Meth K C m f
def zu (P:Program) (w:World) (K:FG7) (mg:Str -> Option Value) (base:Heap) (k:Nat) (x:Str) (ps:List Str) (sp:Sp):Prop :=
 ∃ (f:Addr) (fd:FuncData),FnOk P w K mg base (CX1 P w) k f fd ps sp /\ xV K fd ps [] /\ PySem.W.keepIn K (.ref f) = true /\ mg x = some (.ref f)
section
variable {P:Program} {w:World} {K:FG7} {mg:Str -> Option Value} {base:Heap} {C:Addr} {j k:Nat} {m x:Str} {ps:List Str} {sp:Sp}
theorem uU.mono (c:uU P w K mg base C j m ps sp) (h:j <= k):uU P w K mg base C k m ps sp:=by
 obtain ⟨f,fd,F,b,mt⟩:=c
 exact ⟨f,fd,F.mono h,b,mt⟩
theorem zu.mono (c:zu P w K mg base j x ps sp) (h:j <= k):zu P w K mg base k x ps sp:=by
 obtain ⟨f,fd,F,b,mt⟩:=c
 exact ⟨f,fd,F.mono h,b,mt⟩
end
section
variable {X:Cx} {C:Addr} {k:Nat} {m x:Str} {ps:List Str} {sp:Sp} {o e:Expr} {es:List Expr} {ta:TE} {t:TA} {apos pos p:Pos} {E:XK}
theorem zX (c:zu X.prog X.w X.K X.mg X.base k x ps sp) (hx:vD (CX1 X.prog X.w) X E) (hr:Room k X.A) (hg:Gl X x)
  (ha:PA X (e :: es) t) (hdb:(x == ("__debug__":Str)) = false:=by decide) (he:starEach (e :: es) X.env = (false,eval e X.env) :: starEach es X.env:=by rfl) (hpl:(backTo pos (starEach es X.env)).any (·.1) = false:=by rfl) :
  PE X (.Call (.Name x p) (e :: es) [] pos) (ju sp [] E t):=by
 obtain ⟨f,fd,F,b,kp,m⟩:=c
 exact jv F hr hg m kp b .nil hx ha hdb he hpl
end
open PySem PySem.Spec PyProof.Rows L2 PySem.W
open PySem.Builtin PySem.Builtin.ObjectAttr PySem.Builtin.Getset_descriptor in
theorem exc_class_get {prog:Program} {w:World} {A:Around} {s:Shared} {K:FG7} {a C:Addr} {o:Obj} {R:Result -> Shared -> Prop} {tp:Value} (X:K.In s.heap) (hx:s.heap.get? a = some o) (hc:o.cls = .ref C) (hm:PySem.W.mroIn K C (.type "object") = some true)
  (h:R (.ok (.ret (.ref C))) s):codeAny (model prog w) A (.call (.builtin "getset_descriptor.__get__") ⟨[.builtin "object.__class__",.ref a,tp],[]⟩) R s:=by
 obtain ⟨hh,g,dr,t,os⟩:=s
 have L0:Looks (model prog w) hh (typeOf (.ref a)) (.ref C):=hc ▸ (Looks.ld hx).andThen .now
 have L1:=looks_mroIn (M:=model prog w) X hm
 refine codeAny_call_builtin KF.slot_gs.plain KF.entry_gs (KF.slot_gs.check _ _ _ _ _ _ _ _ KF.type_class (KF.args_gs _ _ _) ?_)
 unfold Builtin.«getset_descriptor.__get__» descrGet
 rw [dga_obj]
 refine wpAny_bind (wpAny_pure ?_)
 unfold descrGetter descrCheckInstance descrNameAndClass isInstance
 simp only [KF.owner_class]
 repeat lk
 refine ⟨Code.quiet_builtin _ (by decide +kernel),codeAny_builtin KF.entry_class ?_⟩
 unfold Builtin.«object.__class__» shownTypeOf
 repeat lk
 exact h
section
variable {prog:Program} {w:World} {A:Around} {E:VS7} {K:FG7} {a C:Addr} {o:Obj} {h:Heap} {g:Array GenState} {d:Drawn} {t:Nat} {os:OsState}
theorem vU {tk:Tok} {Q:PySem.Fin -> Shared -> Prop} (X:K.In h) (hx:h.get? a = some o) (hc:o.cls = .ref C) (ha:findIn K (.ref C) "__class__" = some (some (.builtin "object.__class__"))) (hm:PySem.W.mroIn K C (.type "object") = some true)
  (hq:Q (.done (.ret (.ref C))) ⟨h,g,d,t,os⟩):wpAny (model prog w) A (Builtin.«object.__getattribute__» ⟨[.ref a,.str "__class__" tk],[]⟩) Q E ⟨h,g,d,t,os⟩:=by
 have L0:Looks (model prog w) h (typeOf (.ref a)) (.ref C):=hc ▸ (Looks.ld hx).andThen .now
 have L1:=looks_findIn (M:=model prog w) X ha
 have f5:=PySem.F.typeOf_object_class
 have f6:=PySem.F.slot_gs_get.lookup
 have f7:=PySem.F.slot_gs_set.lookup
 repeat (any_goals (first | assumption | with_reducible refine L0.at ?_ | with_reducible refine L1.at ?_ | (with_reducible refine wpAny_loadPart_at hx ?_; rw [hc]) | wp_step))
 refine exc_class_get X hx hc hm ?_
 repeat (any_goals (first | assumption | wp_step))
theorem tW {M:Model} {nameV:Value} {Q:Unit -> Shared -> Prop} (X:K.In h) (hx:h.get? a = some o) (hc:o.cls = .ref C) (hb:PySem.W.mroIn K C (.type "BaseException") = some true) (hq:Q () ⟨h,g,d,t,os⟩) :
  wpAny M A (checkBuiltinCall "BaseException.__getattribute__" ⟨[.ref a,nameV],[]⟩) Q E ⟨h,g,d,t,os⟩:=by
 have hk:builtinKind "BaseException.__getattribute__" = some .slot:=by decide +kernel
 have hsplit:splitId "BaseException.__getattribute__" = some ("BaseException","__getattribute__"):=by decide +kernel
 have L0:Looks M h (typeOf (.ref a)) (.ref C):=hc ▸ (Looks.ld hx).andThen .now
 have L1:=looks_mroIn (M:=M) X hb
 have ha:=PySem.F.args_bexc_ga (.ref a) nameV
 simp only [checkBuiltinCall,hk,hsplit]
 refine wpAny_bind ?_
 unfold isInstance
 repeat (first | with_reducible refine L0.at ?_ | with_reducible refine L1.at ?_ | wp_step)
 exact hq
theorem ud {tk:Tok} {R:Result -> Shared -> Prop} (X:K.In h) (hx:h.get? a = some o) (hc:o.cls = .ref C) (ha:findIn K (.ref C) "__class__" = some (some (.builtin "object.__class__"))) (hm:PySem.W.mroIn K C (.type "object") = some true) (hb:PySem.W.mroIn K C (.type "BaseException") = some true)
  (hq:R (.ok (.ret (.ref C))) ⟨h,g,d,t,os⟩):codeAny (model prog w) A (.call (.builtin "BaseException.__getattribute__") ⟨[.ref a,.str "__class__" tk],[]⟩) R ⟨h,g,d,t,os⟩ :=
 codeAny_call_builtin (by decide +kernel) PySem.F.entry_bexc_ga (tW X hx hc hb (vU X hx hc ha hm hq))
theorem tX {tk:Tok} {Q:VS7} (X:K.In h) (hx:h.get? a = some o) (hc:o.cls = .ref C) (hga:findIn K (.ref C) "__getattribute__" = some (some (.builtin "BaseException.__getattribute__"))) (hgt:findIn K (.ref C) "__getattr__" = some none)
  (ha:findIn K (.ref C) "__class__" = some (some (.builtin "object.__class__"))) (hm:PySem.W.mroIn K C (.type "object") = some true) (hb:PySem.W.mroIn K C (.type "BaseException") = some true)
  (hq:Q (.ref C) ⟨h,g,d,t,os⟩):wpAny (model prog w) A (getAttrBy (.ref a) (.str "__class__" tk) false) Q E ⟨h,g,d,t,os⟩:=by
 have L0:Looks (model prog w) h (typeOf (.ref a)) (.ref C):=hc ▸ (Looks.ld hx).andThen .now
 have L1:=looks_findIn (M:=model prog w) X hga
 have L2:=looks_findIn (M:=model prog w) X hgt
 have f3:=PySem.F.attr_ValueError.ga.bind (.ref a)
 have hx2:(Value.builtin "BaseException.__getattribute__" == Value.builtin "object.__getattribute__") = false:=by decide +kernel
 have hx1:(onTheHeap (Value.ref C) && Value.builtin "BaseException.__getattribute__" == Value.builtin "object.__getattribute__") = false:=by rw [hx2]; rfl
 repeat (any_goals (first | assumption | with_reducible refine L0.at ?_ | with_reducible refine L1.at ?_ | with_reducible refine L2.at ?_ | (with_reducible refine wpAny_loadPart_at hx ?_; rw [hc]) | wp_step))
 refine ud X hx hc ha hm hb ?_
 repeat (any_goals (first | assumption | wp_step))
theorem ue {Q:Option Value -> Shared -> Prop} (X:K.In h) (hx:h.get? a = some o) (hc:o.cls = .ref C) (hga:findIn K (.ref C) "__getattribute__" = some (some (.builtin "BaseException.__getattribute__"))) (hgt:findIn K (.ref C) "__getattr__" = some none)
  (ha:findIn K (.ref C) "__class__" = some (some (.builtin "object.__class__"))) (hm:PySem.W.mroIn K C (.type "object") = some true) (hb:PySem.W.mroIn K C (.type "BaseException") = some true)
  (hq:Q (some (.ref C)) ⟨h,g,d,t + 1,os⟩):wpAny (model prog w) A (getAttr? (.ref a) "__class__") Q E ⟨h,g,d,t,os⟩:=by
 unfold getAttr? getAttrBy?
 repeat (any_goals (first | assumption | with_reducible apply tX X hx hc hga hgt ha hm hb | wp_step))
end
structure ExcK (K:FG7) (C:Addr):Prop where
 ga:findIn K (.ref C) "__getattribute__" = some (some (.builtin "BaseException.__getattribute__"))
 gt:findIn K (.ref C) "__getattr__" = some none
 cl:findIn K (.ref C) "__class__" = some (some (.builtin "object.__class__"))
 ob:mroIn K C (.type "object") = some true
 be:mroIn K C (.type "BaseException") = some true
theorem j9 {K:FG7} {C:Addr} {b:Value} {r:Bool} (e:mroIn K C b = some r):∃ cd,clsIn K C = some cd:=by
 obtain ⟨cd,a,_⟩:=Option.bind_eq_some_iff.mp e
 exact ⟨cd,a⟩
theorem rW {K:FG7} {a C:Addr} (F:ExcK K C):KitX K (.ref a) (.ref C) (fun h=>∃ o,h.get? a = some o /\ o.cls = .ref C) where
 ty:=fun M h _ p=>by
  obtain ⟨o,h1,h2⟩:=p
  exact h2 ▸ (Looks.ld h1).andThen .now
 it:=fun _ _ X _=>by
  obtain ⟨cdD,hcD⟩:=j9 F.ob
  unfold clsIn at hcD
  split at hcD
  ·rename_i c' d' cd' sl' ho
   intro A' Q' E' s' k q
   unfold isType loadHead
   exact wpAny_bind (wpAny_loadPart (k _ _ (X _ _ ho)) (wpAny_pure q))
  ·cases hcD
 ne:=fun h tp dd its n sl X htp=>by
  obtain ⟨cdD,hcD⟩:=j9 F.ob
  refine Bool.eq_false_iff.mpr fun q=>?_
  have e:C = tp:=Value.ref.inj (beq_iff_eq.mp q)
  subst e
  unfold clsIn at hcD
  split at hcD
  ·rename_i c' d' cd' sl' ho
   have z:=(X _ _ ho).symm.trans htp
   cases z
  ·cases hcD
 ca:=fun {_ _ _ _ _ s} X p k=>by
  obtain ⟨h,g,d,t,os⟩:=s
  obtain ⟨o,h1,h2⟩:=p
  exact ue X h1 h2 F.ga F.gt F.cl F.ob F.be k
def ExO (a C:Addr):HO:=.ext fun h=>∃ o,h.get? a = some o /\ o.cls = .ref C /\ ∃ vs,o.data = .fields vs /\ vs[2]? = some .none
theorem ExO.cl {h:Heap} {a C:Addr} (p:∃ o,h.get? a = some o /\ o.cls = .ref C /\ ∃ vs,o.data = .fields vs /\ vs[2]? = some .none):∃ o,h.get? a = some o /\ o.cls = .ref C:=p.imp fun _ z=>⟨z.1,z.2.1⟩
def WD (K:FG7):List V -> Hp -> VK -> Prop:=fun xs H Q=>∃ (a C:Addr) (y:V) (c:Value) (b:Bool),xs = [.ref a,y] /\ H a = some (ExO a C) /\ (∀ u,RelV y u -> u = c) /\ ExcK K C /\ kitOne K (.ref C) c = some b /\ Q (.bl b) H
theorem yP {X:Cx} {K:FG7} (hK:X.K = K):xU X (.builtin "isinstance") (WD K):=by
 subst hK
 intro pins s σ H xs us Q I r h
 obtain ⟨a,C,y,c,b,rfl,hH,hy,F,e,q⟩:=h
 obtain ⟨u,w',rfl,rx,ry⟩:=qz r
 cases (show u = Value.ref a from rx)
 have:=hy w' ry
 subst this
 exact kia_one (rW F) I.kIn (ExO.cl (I.hok a _ hH).1) e (fun z=>nomatch z) fun tk=>⟨.bl b,H,I.tok _,rfl,q⟩
theorem uV {M:Model} {A:Around} {E:VS7} {K:FG7} {h:Heap} {g:Array GenState} {d:Drawn} {t:Nat} {os:OsState} {e C' C N:Addr} {oe:Obj} {Q:Bool -> Shared -> Prop} {nm q:Str} {bs bm:List Value} {hdct:Bool} {sn:List Str} {sub:List Value} {ab:Bool} {col:Option Bool} {dd:Option Addr} {k0 k1 k2 k3 k5:Option Value} {newId:String}
  (X:K.In h) (hC:h.get? C = some (excClassObj nm q C N bs bm hdct sn sub ab col dd k0 k1 k2 k3 k5 newId)) (he:h.get? e = some oe) (hcls:oe.cls = .ref C') (hbase:bm.contains (.type "BaseException") = true) (hup:mroIn K C' (.ref C) = some true)
  (hq:Q true ⟨h,g,d,t,os⟩):wpAny M A (excMatches (.ref e) (.ref C)) Q E ⟨h,g,d,t,os⟩:=by
 have hcB:(Value.ref C :: bm).contains (.type "BaseException") = true:=by rw [List.contains_cons,hbase,Bool.or_true]
 have L1:=looks_mroIn (M:=M) X hup
 have f:=tc_notTuple
 unfold excMatches
 repeat (first | (with_reducible refine wpAny_loadPart_at he ?_; rw [hcls]) | with_reducible refine L1.at ?_ | with_reducible refine wpAny_loadPart_at hC ?_ | (with_reducible refine wpAny_isSubtype_exc hC ?_; rw [hcB]) | wp_step)
 exact hq
section
variable {X:Cx} {pins:List (Addr × Obj)} {σ:L2.St} {H:Hp} {s:Shared}
theorem wr {M:Model} {A:Around} {E:VS7} {i:Nat} {x:Str} {pos:Pos} {Q:Unit -> Shared -> Prop} (I:Inv X pins σ H s) (hN:X.N.Nodup) (hi:X.N[i]? = some x) (hx:X.env.kindOf x = some .local) (hx2:X.env.scope.names.lookup x = some .local)
  (h:∀ s',Inv X pins (σ.set i none) H s' -> Q () s'):wpAny M A (do bindName X.env x .none; unbindBehindTheSuite X.env x pos) Q E s:=by
 have hcls:(X.env.scope.kind == .class || (X.env.scope.kind == .module && X.env.locals != X.env.globals)) = false:=by rw [I.ok.kind]; rfl
 refine wpAny_bind (wpAny_bindName (wj (v:=.non) I hN hi (.inl hx2) rfl (fun s1 I1=>?_) (.inr hx2)))
 unfold unbindBehindTheSuite
 refine wpAny_onRaise ?_
 unfold unbindName
 refine wpAny_bind (wpAny_point (wpAny_bind ?_))
 unfold deleteName
 simp only [hx,hcls]
 rw [if_neg (by decide)]
 obtain ⟨m,hn,hl⟩:=id I1.loc
 refine wpAny_bind (wpAny_nsDel_keeps hn fun h' v hn' hs=>?_)
 have hiσ:i < σ.length:=by rw [I.len]; exact (List.getElem?_eq_some_iff.mp hi).1
 have hm:(m x).isSome = true:=by
  obtain ⟨u,_,l⟩:=hl i x .non hi (List.getElem?_set_self hiσ) (.inl hx2)
  rcases l with ⟨_,e⟩ | ⟨k,_⟩
  ·rw [e]; rfl
  ·rcases k with k | k <;> (rw [hx] at k; cases k)
 simp only [hm,if_true,Bool.not_true,Bool.false_eq_true,if_false]
 refine wpAny_pure (wpAny_point (h _ ?_))
 obtain ⟨oL,_,_,hoL,_⟩:=id hn
 have cne:=I1.cne
 have tracked:HOk X.prog X.w H h':=fun b ob e=>by
  refine (I1.hok b ob e).stay (fun c w' hc q=>(hs.2 c ?_).trans q) (fun _ q=>q) fun _ _ q=>q
  rintro rfl
  have hfree:=I1.free
  rcases hc with hc | hc
  ·rw [← hc] at e; rw [hfree] at e; cases e
  ·rw [hfree] at hc; cases hc
 refine ⟨I1.ok,I1.os,I1.bare,⟨fun b o e n hb hx=>?_,fun b o e n hb hx=>?_,I1.base.free,fun b o e hx=>?_,I1.base.tups,I1.base.frzs,I1.base.tbls⟩,⟨_,hn',fun j y v' e1 e2 e3=>?_⟩,fun y c e=>?_,I1.free,I1.freeC,fun p hp=>?_,tracked,by rw [List.length_set]; exact I.len⟩
 ·exact (hs.2 b (Nat.ne_of_lt (Nat.lt_of_lt_of_le (Heap.lt_size e) I1.ok.above))).trans (I1.base.keep b o e n hb hx)
 ·obtain ⟨sl,e1⟩:=I1.base.slot b o e n hb hx
  exact ⟨sl,(hs.2 b (Nat.ne_of_lt (Nat.lt_of_lt_of_le (Heap.lt_size e) I1.ok.above))).trans e1⟩
 ·obtain ⟨o',e1⟩:=I1.base.there b o e hx
  exact ⟨o',(hs.2 b (Nat.ne_of_lt (Nat.lt_of_lt_of_le (Heap.lt_size e) I1.ok.above))).trans e1⟩
 ·have hj:j ≠ i:=fun z=>by
   subst z
   rw [List.getElem?_set_self hiσ] at e2
   cases e2
  rw [List.getElem?_set_ne (Ne.symm hj)] at e2
  obtain ⟨u',r',q⟩:=hl j y v' e1 (by rw [List.getElem?_set_ne (Ne.symm hj)]; exact e2) e3
  refine ⟨u',r',?_⟩
  rcases q with ⟨k,e⟩ | ⟨k,c,e,z⟩
  ·refine .inl ⟨k,?_⟩
   have:y ≠ x:=fun e=>hj (uG hN e1 (e ▸ hi))
   simp [this,e]
  ·exact .inr ⟨k,c,e,z.sameBut hs (cne y c e)⟩
 ·obtain ⟨w',z⟩:=I1.cell y c e
  exact ⟨w',z.sameBut hs (cne y c e)⟩
 ·obtain ⟨e,n,ne,nf,d⟩:=I1.pin p hp
  exact ⟨(hs.2 p.1 ne).trans e,n,ne,nf,d⟩
end
theorem Inv.trackX {X:Cx} {pins:List (Addr × Obj)} {σ:L2.St} {H:Hp} {s:Shared} {a T C:Addr} {o:Obj} (I:L2.Inv X pins σ H s) (ap:ApX X pins H a T) {vs:Array Value} (he:s.heap.get? a = some o) (hc:o.cls = .ref C) (hd:o.data = .fields vs) (h2:vs[2]? = some .none):L2.Inv X pins σ (upd H a (ExO a C)) s:=by
 refine ⟨I.ok,I.os,I.bare,⟨I.base.keep,I.base.slot,fun b o' e n hx=>?_,I.base.there,fun b xs e=>?_,fun b o' u e=>?_,fun b ps e=>?_⟩,I.loc,I.cell,?_,fun x c e=>?_,fun p hp=>?_,?_,I.len⟩
 ·rw [zp (ap.s0 b o' e).1]; exact I.base.free b o' e n hx
 ·have z:=I.base.tups b xs e
  rw [zp (zq z ap.ha)]; exact z
 ·have z:=I.base.frzs b o' u e
  rw [zp (zq z ap.ha)]; exact z
 ·obtain ⟨more,z⟩:=I.base.tbls b ps e
  exact ⟨more,by rw [zp (zq z ap.ha)]; exact z⟩
 ·rw [zp ap.loc.1]; exact I.free
 ·rw [zp (ap.cel x c e).1]; exact I.freeC x c e
 ·obtain ⟨p1,p2,p3,p4,p5⟩:=I.pin p hp
  exact ⟨p1,by rw [zp (ap.pin p hp).1]; exact p2,p3,p4,p5⟩
 ·refine HOk.track I.hok ap.ha ⟨⟨o,he,hc,vs,hd,h2⟩,⟨o,he⟩,fun h1 h2 φ k=>?_⟩
  obtain ⟨o',e1,e2⟩:=φ
  exact ⟨o',k _ e1,e2⟩
def Yw (i:Nat) (D:Ends):Ends:={ nx:=fun σ H=>D.nx (σ.set i none) H,rt:=D.rt,bk:=fun σ H=>D.bk (σ.set i none) H,ct:=fun σ H=>D.ct (σ.set i none) H }
def XW (n i:Nat) (K:FG7) (B:Addr) (E:XK) (tb:TS) (th:Addr -> TS):TS:=fun D σ H=>tb D σ H /\ ∀ (e C':Addr) (σ':L2.St) (H':Hp),σ'.length = n -> H' e = none -> E (.ref e) (some C') H' -> mroIn K C' (.ref B) = some true /\ th e (Yw i D) (σ'.set i (some (.ref e))) (upd H' e (ExO e C'))
section
variable {X:Cx} {x y:Str} {C:Addr} {np hpos pos:Pos} {body suite:List Stmt} {b₀:Stmt} {tb:TS} {th:Addr -> TS} {E:XK} {i:Nat} {K:FG7}
theorem Z4 (hK:X.K = K) (hx:X.ex = []) (hstk:X.stack = X.env :: X.outer) (hf:X.env.frame = some X.env.locals) (O:ExcC X.K X.mg x C) (hg:Gl X x) (hN:X.N.Nodup) (hi:X.N[i]? = some y) (hy:X.env.kindOf y = some .local) (hy2:X.env.scope.names.lookup y = some .local)
  (hB:∀ ps,PSs (pinX X ps (j8 X ps E)) body tb) (hS:∀ e,PSs (handX X e) (b₀ :: suite) (th e)) (hdb:(x == ("__debug__":Str)) = false:=by decide) :
  PS X (.Try body [.ExceptHandler (some (.Name x np)) (some y) (b₀ :: suite) hpos] [] [] pos) (XW X.N.length i K C E tb th):=by
 subst hK
 intro pins s σ H D I ⟨hb,hh⟩
 refine wpAny_Try_except (wpAny_mono (hB pins [] s σ H D (Inv.pinX I) hb) (fun f s1 h1=>?_) (fun ex s1 h1=>?_))
 ·have h2:=SP.unpin h1
  cases f with
  | next=>exact wpAny_execs_nil h2
  | brk=>exact h2
  | cont=>exact h2
  | ret u=>exact h2
 ·obtain ⟨a,T,C',σ',H',rfl,I1,trc,ap,q⟩:=h1
  have hfr:X.A.frames = some (X.env :: X.outer):=by rw [← hstk]; exact I.ok.frames
  have hst:s1.heap.FunFrames X.base (X.env :: X.outer):=by rw [← hstk]; exact I1.stack
  refine j7 (base:=X.base) (outer:=X.outer) hfr hst hf trc fun h2 T2 l=>?_
  have l':Lft (frs X.stack) a T T2 (.ref C') s1.heap h2:=by rw [hstk]; exact l
  have I2:=Inv.left I1 hx ap l'
  have I3:Inv (handX X a) pins σ' H' { s1 with heap:=h2 }:=Inv.handX I2
  obtain ⟨tl,N,nm,q0,bs,hdct,sn,sub,ab,col,dd,k0,k1,k2,k3,k5,mN,hC,hNs,hni,TL⟩:=(O X.base I.mod.kin).obj
  obtain ⟨oe,vs,oT,ts,he,hcls,_⟩:=id l.trc
  have hn:H' a = none:=ap.ha
  obtain ⟨hup,q2⟩:=hh a C' σ' H' I1.len hn q
  refine wpAny_handleBy_cons (codeAny_handlers_test (uH (X:=handX X a) I3 hg (O X.base I.mod.kin).bound ?_ hdb)) (by intro q; cases q)
  refine uV I2.kIn (I2.bk _ _ hC) he hcls (TL.hasType PySem.F.excBase_ValueError.hasBase) hup (codeAny_handlers_suite_as ?_)
  refine qS (s:={ s1 with heap:=h2 }) l.trc fun h3 hk trc3=>?_
  have hT2:H' T2 = none:=by
   cases r:H' T2 with
   | none=>rfl
   | some o =>
    obtain ⟨ob,z⟩:=yu.at (I1.hok T2 o r)
    rw [l.new] at z; cases z
  have ap2:ApX X pins H' T2 T2:=ApX.of I1 hx l.new l.new hT2 hT2
  have I4:=Inv.leftK I2 hx ap2 (h2:=h3) (fun b o _ n1 _ ho=>(hk b n1).trans ho) (fun b o _ n1 _ ho=>⟨o.slots,(hk b n1).trans ho⟩)
  obtain ⟨oe3,vs3,oT3,ts3,he3,hcls3,hd3,_,_,_,_,_,hv3⟩:=id trc3
  have I5:=Inv.trackX (C:=C') I4 ap he3 hcls3 hd3 hv3
  have I6:L2.Inv (handX X a) pins σ' (upd H' a (ExO a C')) { s1 with heap:=h3 }:=Inv.handX I5
  refine wj (X:=handX X a) (v:=.ref a) I6 hN hi (.inl hy2) rfl (fun s5 I7=>?_) (.inr hy2)
  refine wpAny_mono (hS a pins s5 _ _ (Yw i D) I7 q2) (fun f s2 h=>?_) (fun _ _ z=>False.elim z)
  cases f with
  | next =>
   obtain ⟨σ2,H2,J,q3⟩:=h
   exact wr (Inv.unhand I.ok J) hN hi hy hy2 fun s' J'=>⟨_,H2,J',q3⟩
  | brk =>
   obtain ⟨σ2,H2,J,q3⟩:=h
   exact wr (Inv.unhand I.ok J) hN hi hy hy2 fun s' J'=>⟨_,H2,J',q3⟩
  | cont =>
   obtain ⟨σ2,H2,J,q3⟩:=h
   exact wr (Inv.unhand I.ok J) hN hi hy hy2 fun s' J'=>⟨_,H2,J',q3⟩
  | ret u =>
   obtain ⟨v,σ2,H2,J,r,q3⟩:=h
   exact wr (Inv.unhand I.ok J) hN hi hy hy2 fun s' J'=>⟨v,_,H2,J',r,q3⟩
end
theorem tY:bootBuiltins "ValueError" = some (.type "ValueError"):=by kernel_rfl
section
variable {c:TT} {e:TE} {i:Nat} {v v':V} {t u r:TS} {D:Ends} {σ:L2.St} {H:Hp} {rt:VK} {bk ct:L2.St -> Hp -> Prop}
theorem XX (h:t D (σ.set i (some v)) H):w9 i v σ H ({ nx:=t D,rt:=rt,bk:=bk,ct:=ct }:Ends).nx:=h
theorem c_if (Good:L2.St -> Hp -> Prop) (hr:∀ σ' H',Good σ' H' -> r D σ' H') (hc:(∀ σ' H',Good σ' H' -> r D σ' H') -> tIfS c t u { D with nx:=r D } σ H):tSeq (tIfS c t u) r D σ H:=hc hr
theorem Za (Good:V -> Hp -> Prop) (hc:∀ K:VK,(∀ v H',Good v H' -> K v H') -> e σ H K) (hr:∀ v H',Good v H' -> t D (σ.set i (some v)) H'):tSeq (tAsg e (w9 i)) t D σ H:=hc _ fun v H' g=>hr v H' g
theorem wY (h:t D σ H):Xo ({ nx:=t D,rt:=rt,bk:=bk,ct:=ct }:Ends) σ H:=h
theorem c_nx (h:t D σ H):({ nx:=t D,rt:=rt,bk:=bk,ct:=ct }:Ends).nx σ H:=h
theorem uw (Good:Bool -> Hp -> Prop) (hc:∀ K:Bool -> Hp -> Prop,(∀ b H',Good b H' -> K b H') -> c σ H K) (hr:∀ b H',Good b H' -> if b = true then t { D with nx:=r D } σ H' else u { D with nx:=r D } σ H'):tSeq (tIfS c t u) r D σ H:=hc _ hr
end
theorem Zb {prog:Program} {w:World} {A:Around} {E:VS7} {s:Shared} {Q:Int -> Shared -> Prop} (h:Q 0xFCA86420 { s with toks:=s.toks + 1 }):wpAny (model prog w) A (pyHash .none) Q E s:=by
 unfold pyHash
 show wpAny _ _ (pyHashByItsType Value.none) Q E s
 unfold pyHashByItsType
 have hv:[Value.none].any Value.onHeap = false:=rfl
 have hT:s.TypeIs .none "NoneType":=rfl
 refine wpAny_bind ?_
 rw [cRoomFor,if_neg (by rw [hv]; exact Bool.false_ne_true)]; refine wpAny_pure ?_
 refine wpAny_bind (wpAny_specialOf hT PySem.F.slot_NoneType_hash.lookup ?_)
 show wpAny _ _ (if (some (Value.builtin "NoneType.__hash__") == some Value.none) = true then _ else _) Q E s
 rw [if_neg (by rw [beq_builtin_none]; exact Bool.false_ne_true)]
 refine wpAny_bind (wpAny_specialOf hT PySem.F.slot_NoneType_hash.lookup ?_)
 show wpAny _ _ (callSpecialIfBoundUnlessNone? .none "__hash__" _ >>= _) Q E s
 refine wpAny_bind (wpAny_callSpecialIfBoundUnlessNone?_slot hT PySem.F.slot_NoneType_hash
  (wpAny_call_entry PySem.F.slot_NoneType_hash hT PySem.F.entry_NoneType_hash
   (show wpAny _ _ (do ret (← mkInt 0xFCA86420)) _ _ s from wpAny_ret_mkInt ?_) (PySem.F.args_NoneType_hash_1 _)))
 exact wpAny_pure h
theorem sW {prog:Program} {w:World} {A:Around} {E:VS7} {s:Shared} {Q:Bool -> Shared -> Prop} (h:Q true s):wpAny (model prog w) A (eqBool .none .none) Q E s:=by
 unfold eqBool
 refine wpAny_holding ?_
 rw [if_pos (show (Value.none == Value.none) = true from rfl)]
 exact wpAny_bind (wpAny_rule (wpAny_pure h))
abbrev OKey:=Option Key
def okIs:OKey -> Value -> Bool
 | none,v=>v == .none
 | some k,v=>uF k v
theorem yq:∀ {k:OKey} {v:Value},okIs k v = true -> (k = none /\ v = .none) \/ ∃ q,k = some q /\ uF q v = true
 | none,v,h=>.inl ⟨rfl,eq_of_beq h⟩
 | some q,v,h=>.inr ⟨q,rfl,h⟩
theorem ux {q:Key} (h:uF q .none = true):False:=by
 rcases zH h with ⟨_,_,_,e⟩ | ⟨_,_,_,e⟩ <;> cases e
def Zc (prog:Program) (w:World):PySem.KeyKind prog w OKey where
 is:=okIs
 hash:=fun k=>match k with | none=>0xFCA86420 | some q=>keyH w q
 inj:=fun v a b ha hb=>by
  rcases yq ha with ⟨rfl,rfl⟩ | ⟨q,rfl,hq⟩ <;> rcases yq hb with ⟨rfl,e⟩ | ⟨r,rfl,hr⟩
  ·rfl
  ·exact (ux hr).elim
  ·subst e; exact (ux hq).elim
  ·exact congrArg some ((xy prog w).inj v q r hq hr)
 byValue:=fun k v h=>by
  rcases yq h with ⟨rfl,rfl⟩ | ⟨q,rfl,hq⟩
  ·rfl
  ·exact (xy prog w).byValue q v hq
 pyHash:=fun hv h=>by
  rcases yq hv with ⟨rfl,rfl⟩ | ⟨q,rfl,hq⟩
  ·exact Zb h
  ·exact (xy prog w).pyHash hq h
 eqBool:=fun hu hv h=>by
  rcases yq hu with ⟨rfl,rfl⟩ | ⟨q,rfl,hq⟩ <;> rcases yq hv with ⟨rfl,e⟩ | ⟨r,rfl,hr⟩
  ·subst e; exact sW (by simpa using h)
  ·rw [decide_eq_false (by simp)] at h
   rcases zH hr with ⟨i,t,_,rfl⟩ | ⟨x,t,_,rfl⟩
   ·exact SeqAt.EqAt.none_int i t _ _ _ _ h
   ·exact SeqAt.EqAt.none_str x t _ _ _ _ h
  ·rw [decide_eq_false (by simp)] at h
   subst e
   rcases zH hq with ⟨i,t,_,rfl⟩ | ⟨x,t,_,rfl⟩
   ·exact SeqAt.EqAt.int_none i t _ _ _ _ h
   ·exact SeqAt.EqAt.str_none x t _ _ _ _ h
  ·exact (xy prog w).eqBool hq hr (by simpa using h)
 «strs»:=fun k x t v h=>by
  rcases yq h with ⟨rfl,e⟩ | ⟨q,rfl,hq⟩
  ·cases e
  ·exact (xy prog w).strs q x t v hq
def okV:OKey -> V
 | none=>.non
 | some k=>kV k
theorem Y1 {k:OKey} {v:Value} (r:RelV (okV k) v):okIs k v = true:=by
 cases k with
 | none=>cases (show v = Value.none from r); rfl
 | some q =>
  cases q with
  | inl i=>obtain ⟨t,rfl⟩:=r; exact jf i t
  | inr x=>obtain ⟨t,rfl⟩:=r; exact jg x t
theorem Z5 {k:OKey} {v:Value} (h:okIs k v = true):RelV (okV k) v:=by
 rcases yq h with ⟨rfl,rfl⟩ | ⟨q,rfl,hq⟩
 ·rfl
 ·rcases zH hq with ⟨i,t,rfl,rfl⟩ | ⟨x,t,rfl,rfl⟩
  ·exact ⟨t,rfl⟩
  ·exact ⟨t,rfl⟩
def DcO (a:Addr) (kvs:List (V × V)):HO:=.ext fun h=>∃ o es n,h.get? a = some o /\ o.cls = .type "dict" /\ o.data = .dict es n /\ Vals (kvs.map (·.1)) (es.toList.map (·.key)) /\ Vals (kvs.map (·.2)) (es.toList.map (·.val))
mutual
/-- nested data,whose lists and dicts are none of m -/
inductive Od (K:FG7) (m:List Addr) (H:Hp):V -> PyData -> Prop
 | non:Od K m H .non .none
 | bl (b:Bool):Od K m H (.bl b) (.bool b)
 | int (i:Int):Od K m H (.int i) (.int i)
 | str (x:Str):Od K m H (.str x) (.str x)
 | tup {a:Addr} {xs:List V} {ds:List PyData}:SqT K H a xs -> Ods K m H xs ds -> Od K m H (.ref a) (.tuple ds)
 | lst {a:Addr} {xs:List V} {ds:List PyData}:H a = some (.lst xs) -> a ∉ m -> a ≠ sysModules -> Ods K m H xs ds -> Od K m H (.ref a) (.list ds)
 | dct {a:Addr} {kvs:List (V × V)} {ds:List (PyData × PyData)}:H a = some (DcO a kvs) -> a ∉ m -> a ≠ sysModules -> Ods K m H (kvs.map (·.1)) (ds.map (·.1)) -> Ods K m H (kvs.map (·.2)) (ds.map (·.2)) -> Od K m H (.ref a) (.dict ds)
inductive Ods (K:FG7) (m:List Addr) (H:Hp):List V -> List PyData -> Prop
 | nil:Ods K m H [] []
 | cons {x:V} {xs:List V} {d:PyData} {ds:List PyData}:Od K m H x d -> Ods K m H xs ds -> Ods K m H (x :: xs) (d :: ds)
end
section
variable {K:FG7} {m:List Addr} {H H':Hp}
mutual
theorem Od.grow (g:Grow m H H'):∀ {x:V} {d:PyData},Od K m H x d -> Od K m H' x d
 | _,_,.non=>.non
 | _,_,.bl b=>.bl b
 | _,_,.int i=>.int i
 | _,_,.str x=>.str x
 | _,_,.tup h t=>.tup (g.sqT h) (Ods.grow g t)
 | _,_,.lst h n b t=>.lst (g.keep _ _ n h) n b (Ods.grow g t)
 | _,_,.dct h n b t u=>.dct (g.keep _ _ n h) n b (Ods.grow g t) (Ods.grow g u)
theorem Ods.grow (g:Grow m H H'):∀ {xs:List V} {ds:List PyData},Ods K m H xs ds -> Ods K m H' xs ds
 | _,_,.nil=>.nil
 | _,_,.cons h t=>.cons (Od.grow g h) (Ods.grow g t)
end
theorem Ods.length:∀ {xs:List V} {ds:List PyData},Ods K m H xs ds -> xs.length = ds.length
 | _,_,.nil=>rfl
 | _,_,.cons _ t=>congrArg (· + 1) (Ods.length t)
theorem Ods.get:∀ {xs:List V} {ds:List PyData} {i:Nat} {x:V},Ods K m H xs ds -> xs[i]? = some x -> ∃ d,ds[i]? = some d /\ Od K m H x d
 | _,_,_,_,.nil,e=>by simp at e
 | _,_,0,_,.cons h _,e=>by simp at e; subst e; exact ⟨_,rfl,h⟩
 | _,_,i + 1,x,.cons _ t,e=>Ods.get (i:=i) t (by simpa using e)
theorem Ods.at:∀ {xs:List V} {ds:List PyData} {i:Nat} {d:PyData},Ods K m H xs ds -> ds[i]? = some d -> ∃ x,xs[i]? = some x /\ Od K m H x d
 | _,_,_,_,.nil,e=>by simp at e
 | _,_,0,_,.cons h _,e=>by simp at e; subst e; exact ⟨_,rfl,h⟩
 | _,_,i + 1,x,.cons _ t,e=>Ods.at (i:=i) t (by simpa using e)
theorem Ods.append:∀ {xs ys:List V} {ds es:List PyData},Ods K m H xs ds -> Ods K m H ys es -> Ods K m H (xs ++ ys) (ds ++ es)
 | _,_,_,_,.nil,s=>s
 | _,_,_,_,.cons r t,s=>.cons r (Ods.append t s)
theorem Ods.take:∀ {xs:List V} {ds:List PyData} (n:Nat),Ods K m H xs ds -> Ods K m H (xs.take n) (ds.take n)
 | _,_,0,_=>.nil
 | _,_,_ + 1,.nil=>.nil
 | _,_,n + 1,.cons r t=>.cons r (Ods.take n t)
theorem Ods.drop:∀ {xs:List V} {ds:List PyData} (n:Nat),Ods K m H xs ds -> Ods K m H (xs.drop n) (ds.drop n)
 | _,_,0,r=>r
 | _,_,_ + 1,.nil=>.nil
 | _,_,n + 1,.cons _ t=>Ods.drop n t
end
section
variable {X:Cx} {pins:List (Addr × Obj)} {σ:L2.St} {H:Hp} {s:Shared} {m:List Addr}
theorem uW (I:Inv X pins σ H s):sysModules < s.heap.objs.size:=Nat.lt_trans (by decide) (show mainGlobals < s.heap.objs.size from (I.mod.glob.keeps I.bk).lt)
theorem DcO.at (I:Inv X pins σ H s) {a:Addr} {kvs:List (V × V)} (h:H a = some (DcO a kvs)):∃ o es n,s.heap.get? a = some o /\ o.cls = .type "dict" /\ o.data = .dict es n /\ Vals (kvs.map (·.1)) (es.toList.map (·.key)) /\ Vals (kvs.map (·.2)) (es.toList.map (·.val)):=(I.hok a _ h).1
mutual
theorem Od.reads (I:Inv X pins σ H s):∀ {x:V} {d:PyData} {u:Value},Od X.K m H x d -> RelV x u -> ∃ as,Reads s.heap u d as /\ sysModules ∉ as
 | _,_,u,.non,r=>by
  cases (show u = Value.none from r)
  exact ⟨_,.none,by simp⟩
 | _,_,u,.bl b,r=>by
  cases (show u = Value.bool b from r)
  exact ⟨_,.bool b,by simp⟩
 | _,_,u,.int i,r=>by
  obtain ⟨t,rfl⟩:=r
  exact ⟨_,.int i t,by simp⟩
 | _,_,u,.str x,r=>by
  obtain ⟨t,rfl⟩:=r
  exact ⟨_,.str x t,by simp⟩
 | _,_,u,.tup (a:=a) hs hd,r=>by
  cases (show u = Value.ref a from r)
  obtain ⟨its,r1,⟨o,e1,e2,n,e3⟩,_⟩:=I.tuple hs
  obtain ⟨as,q,ns⟩:=Ods.reads I hd r1
  exact ⟨_,.tuple e1 e2 e3 q,ns⟩
 | _,_,u,.lst (a:=a) hs _ hb hd,r=>by
  cases (show u = Value.ref a from r)
  obtain ⟨its,r1,⟨o,n,e1,e2,_,e3⟩,_⟩:=I.list (SqL.of hs)
  obtain ⟨as,q,ns⟩:=Ods.reads I hd r1
  exact ⟨_,.list e1 e2 e3 q,fun z=>(List.mem_cons.mp z).elim (fun e=>hb e.symm) ns⟩
 | _,_,u,.dct (a:=a) hs _ hb h1 h2,r=>by
  cases (show u = Value.ref a from r)
  obtain ⟨o,es,n,e1,e2,e3,v1,v2⟩:=DcO.at I hs
  obtain ⟨as,q1,n1⟩:=Ods.reads I h1 v1
  obtain ⟨bs,q2,n2⟩:=Ods.reads I h2 v2
  refine ⟨_,.dict e1 e2 e3 q1 q2,fun z=>?_⟩
  rcases List.mem_append.mp z with z | z
  ·exact (List.mem_cons.mp z).elim (fun e=>hb e.symm) n1
  ·exact n2 z
theorem Ods.reads (I:Inv X pins σ H s):∀ {xs:List V} {ds:List PyData} {us:List Value},Ods X.K m H xs ds -> Vals xs us -> ∃ as,ReadsAll s.heap us ds as /\ sysModules ∉ as
 | _,_,_,.nil,.nil=>⟨_,.nil,by simp⟩
 | _,_,_,.cons h t,.cons r rs=>by
  obtain ⟨as,q,n1⟩:=Od.reads I h r
  obtain ⟨bs,q2,n2⟩:=Ods.reads I t rs
  exact ⟨_,.cons q q2,fun z=>(List.mem_append.mp z).elim n1 n2⟩
end
def XY (K:FG7):List V -> Hp -> VK -> Prop:=fun xs H Q=>∃ x d m,xs = [x] /\ Od K m H x d /\ d.showable = true /\ d.depth <= 60 /\ d.shown.length <= sizeLine /\ Q (.str d.shown) H
theorem uy {K:FG7} {k:Nat} (hK:X.K = K) (hr:Room k X.A):xU X (.builtin "repr") (XY K):=by
 subst hK
 intro pins s σ H xs us Q I r h
 obtain ⟨x,d,m,rfl,hd,h1,h3,h4,q⟩:=h
 obtain ⟨u,rfl,rx⟩:=wI r
 have key:∀ a,u = .ref a -> wpAny (model X.prog X.w) X.A (call (.builtin "repr") [u]) (EP X pins σ Q) X.xe s:=fun a e=>by
  subst e
  obtain ⟨as,rd,ns⟩:=Od.reads I hd rx
  exact repr_of_reads' rd h1 (fun _=>ns) hr.gd (by have:=hr.un; omega) (fun _ _ e=>e) (fun h' t tk hk=>⟨.str _,H,I.kept hk,⟨_,rfl⟩,q⟩) h4
 cases hd with
 | non =>
  cases (show u = Value.none from rx)
  exact PySem.P.repr_of_none ⟨.str _,H,I.tok _,⟨_,rfl⟩,q⟩
 | bl b =>
  cases (show u = Value.bool b from rx)
  exact PySem.P.repr_of_bool ⟨.str _,H,I.tok _,⟨_,rfl⟩,q⟩
 | int i =>
  obtain ⟨t,rfl⟩:=rx
  exact PySem.P.repr_of_int (of_decide_eq_true h1) ⟨.str _,H,I.tok _,⟨_,rfl⟩,q⟩
 | str x =>
  obtain ⟨t,rfl⟩:=rx
  exact PySem.P.repr_of_str ⟨.str _,H,I.tok _,⟨_,rfl⟩,q⟩ h4
 | tup hs ha=>exact key _ rx
 | lst hs _ _ ha=>exact key _ rx
 | dct hs _ _ h1 h2=>exact key _ rx
end
section
variable {K:FG7} {m m':List Addr} {H:Hp}
mutual
theorem Od.more {a:Addr} (h:H a = none):∀ {x:V} {d:PyData},Od K m H x d -> Od K (a :: m) H x d
 | _,_,.non=>.non
 | _,_,.bl b=>.bl b
 | _,_,.int i=>.int i
 | _,_,.str x=>.str x
 | _,_,.tup q t=>.tup q (Ods.more h t)
 | _,_,.lst q n b t=>.lst q (fun z=>(List.mem_cons.mp z).elim (fun e=>by rw [e,h] at q; cases q) n) b (Ods.more h t)
 | _,_,.dct q n b t u=>.dct q (fun z=>(List.mem_cons.mp z).elim (fun e=>by rw [e,h] at q; cases q) n) b (Ods.more h t) (Ods.more h u)
theorem Ods.more {a:Addr} (h:H a = none):∀ {xs:List V} {ds:List PyData},Ods K m H xs ds -> Ods K (a :: m) H xs ds
 | _,_,.nil=>.nil
 | _,_,.cons q t=>.cons (Od.more h q) (Ods.more h t)
end
mutual
theorem Od.less (h:∀ b ∈ m',b ∈ m):∀ {x:V} {d:PyData},Od K m H x d -> Od K m' H x d
 | _,_,.non=>.non
 | _,_,.bl b=>.bl b
 | _,_,.int i=>.int i
 | _,_,.str x=>.str x
 | _,_,.tup q t=>.tup q (Ods.less h t)
 | _,_,.lst q n b t=>.lst q (fun z=>n (h _ z)) b (Ods.less h t)
 | _,_,.dct q n b t u=>.dct q (fun z=>n (h _ z)) b (Ods.less h t) (Ods.less h u)
theorem Ods.less (h:∀ b ∈ m',b ∈ m):∀ {xs:List V} {ds:List PyData},Ods K m H xs ds -> Ods K m' H xs ds
 | _,_,.nil=>.nil
 | _,_,.cons q t=>.cons (Od.less h q) (Ods.less h t)
end
end
theorem tZ {ks:List (Option Expr)} {vs es:List Expr} {p:Pos} {env:Env}:starEach (.Dict ks vs p :: es) env = (false,eval (.Dict ks vs p) env) :: starEach es env:=by rfl
structure DR where
 p:List Addr -> L2.St -> Hp -> Prop
 mono:∀ {m σ H H'},Grow [] H H' -> p m σ H -> p m σ H'
 more:∀ {a m σ H},H a = none -> p m σ H -> p (a :: m) σ H
def DR.t:DR:=⟨fun _ _ _=>True,fun _ _=>trivial,fun _ _=>trivial⟩
def DR.and (a b:DR):DR:=⟨fun m σ H=>a.p m σ H /\ b.p m σ H,fun g h=>⟨a.mono g h.1,b.mono g h.2⟩,fun g h=>⟨a.more g h.1,b.more g h.2⟩⟩
def DR.var (K:FG7) (i:Nat) (d:PyData):DR:=⟨fun m σ H=>∃ x,σ[i]? = some (some x) /\ Od K m H x d,fun g h=>by obtain ⟨x,e,o⟩:=h; exact ⟨x,e,o.grow (g.mono (by simp))⟩,fun g h=>by obtain ⟨x,e,o⟩:=h; exact ⟨x,e,o.more g⟩⟩
def tOd (K:FG7) (R:DR) (D:PyData):TE:=fun σ H Q=>∃ m,R.p m σ H /\ (∀ b ∈ m,H b ≠ none) /\ ∀ x H',Grow [] H H' -> Od K m H' x D -> Q x H'
def tOds (K:FG7) (R:DR) (Ds:List PyData):TA:=fun σ H Q=>∃ m,R.p m σ H /\ (∀ b ∈ m,H b ≠ none) /\ ∀ xs H',Grow [] H H' -> Ods K m H' xs Ds -> Q xs H'
theorem yQ {H H':Hp} {m:List Addr} (g:Grow [] H H') (h:∀ b ∈ m,H b ≠ none):∀ b ∈ m,H' b ≠ none:=fun b hb z=>by
 cases e:H b with
 | none=>exact h b hb e
 | some o=>rw [g.keep b o (by simp) e] at z; cases z
section
variable {X:Cx} {K:FG7} {R R':DR} {D:PyData} {Ds:List PyData} {e:Expr} {es:List Expr} {pos:Pos} {j}
theorem t8:PE X (.Constant .none j pos) (tOd K .t .none):=fun pins s σ H Q I ⟨m,_,_,q⟩=>vq pins s σ H Q I (q _ _ (Grow.refl _ _) .non)
theorem XZ {b:Bool}:PE X (.Constant (.bool b) j pos) (tOd K .t (.bool b)):=fun pins s σ H Q I ⟨m,_,_,q⟩=>x6 pins s σ H Q I (q _ _ (Grow.refl _ _) (.bl b))
theorem yy {i:Int}:PE X (.Constant (.int i) j pos) (tOd K .t (.int i)):=fun pins s σ H Q I ⟨m,_,_,q⟩=>ze pins s σ H Q I (q _ _ (Grow.refl _ _) (.int i))
theorem X0 {i:Int} {pos2:Pos}:PE X (.UnaryOp .USub (.Constant (.int i) j pos) pos2) (tOd K .t (.int (-i))):=fun pins s σ H Q I ⟨m,_,_,q⟩=>Xs Yj ze pins s σ H Q I ⟨_,rfl,q _ _ (Grow.refl _ _) (.int (-i))⟩
theorem X1 {i n:Int} {j2:Nat} {p1 p2:Pos} (h:CPow i n):PE X (.BinOp (.Constant (.int i) j p1) .Pow (.Constant (.int n) j2 p2) pos) (tOd K .t (.int (i ^ n.toNat))):=fun pins s σ H Q I ⟨m,_,_,q⟩=>zD vy ze ze pins s σ H Q I ⟨_,_,rfl,rfl,h,q _ _ (Grow.refl _ _) (.int _)⟩
theorem Y2 {i n:Int} {j2:Nat} {p1 p2 p3:Pos} (h:CPow i n):PE X (.UnaryOp .USub (.BinOp (.Constant (.int i) j p1) .Pow (.Constant (.int n) j2 p2) pos) p3) (tOd K .t (.int (-(i ^ n.toNat)))):=fun pins s σ H Q I ⟨m,_,_,q⟩=>Xs Yj (zD vy ze ze) pins s σ H Q I ⟨_,_,rfl,rfl,h,_,rfl,q _ _ (Grow.refl _ _) (.int _)⟩
theorem Yx {x:Str}:PE X (.Constant (.str x) j pos) (tOd K .t (.str x)):=fun pins s σ H Q I ⟨m,_,_,q⟩=>z7 pins s σ H Q I (q _ _ (Grow.refl _ _) (.str x))
theorem Zd {i:Nat} (D:PyData) (h:PE X e (tVar i)):PE X e (tOd K (.var K i D) D):=fun pins s σ H Q I ⟨m,⟨x,ex,o⟩,_,q⟩=>h pins s σ H Q I ⟨x,ex,q _ _ (Grow.refl _ _) o⟩
theorem yW:PA X [] (tOds K .t []):=fun pos pins s σ H Q I ⟨m,_,_,q⟩=>zb pos pins s σ H Q I (q _ _ (Grow.refl _ _) .nil)
theorem uX (h:PE X e (tOd K R D)) (t:PA X es (tOds K R' Ds)) (hs:starEach (e :: es) X.env = (false,eval e X.env) :: starEach es X.env:=by rfl):PA X (e :: es) (tOds K (.and R R') (D :: Ds)):=fun pos pins s σ H Q I ⟨m,⟨r1,r2⟩,b,q⟩ =>
 za h t hs pos pins s σ H Q I ⟨m,r1,b,fun x H1 g1 o1=>⟨m,R'.mono g1 r2,yQ g1 b,fun xs H2 g2 o2=>q _ _ (g1.trans g2) (.cons (o1.grow (g2.mono (by simp))) o2)⟩⟩
theorem uY (h:PE X e (tOd K R D)) (hs:starEach [e] X.env = (false,eval e X.env) :: starEach [] X.env:=by rfl):PA X [e] (tOds K R [D]):=fun pos pins s σ H Q I ⟨m,r1,b,q⟩ =>
 za h zb hs pos pins s σ H Q I ⟨m,r1,b,fun x H1 g1 o1=>q _ _ g1 (.cons o1 .nil)⟩
theorem zk (h:PE X e (tOd K .t D)) (t:PA X es (tOds K R' Ds)) (hs:starEach (e :: es) X.env = (false,eval e X.env) :: starEach es X.env:=by rfl):PA X (e :: es) (tOds K R' (D :: Ds)):=fun pos pins s σ H Q I ⟨m,r2,b,q⟩ =>
 uX h t hs pos pins s σ H Q I ⟨m,⟨trivial,r2⟩,b,q⟩
theorem wu {x1} (h:PA X es (tOds K R Ds)) (hl:Ds.length <= 1000:=by decide):PE X (.Tuple es x1 pos) (tOd K R (.tuple Ds)):=fun pins s σ H Q I ⟨m,r,b,q⟩ =>
 z8 h pins s σ H Q I ⟨m,r,b,fun xs H' g o=>⟨by rw [o.length]; exact Nat.le_of_lt (zB hl),fun p hp =>
  have g2:=Grow.new (m:=[]) hp (.tup xs)
  q _ _ (g.trans g2) (.tup (SqT.of zc) (o.grow (g2.mono (by simp))))⟩⟩
def WE (t:TA):TE:=fun σ H Q=>t σ H fun xs H1=>xs.length <= sizeLine /\ ∀ p,H1 p = none -> p ≠ sysModules -> Q (.ref p) (upd H1 p (.lst xs))
theorem Ze {t:TA} (h:PA X es t):PE X (.List es pos) (WE t):=by
 intro pins s σ H Q I hq
 refine wpAny_List_spliced (thn (h pos pins s σ H _ I hq) fun us s1 ⟨xs,H1,I1,r,z,q⟩=>⟨by rw [← r.length]; exact z,?_⟩)
 have hf:H1 s1.heap.objs.size = none:=I1.hok.fresh (Nat.le_refl _)
 refine ⟨.ref s1.heap.objs.size,upd H1 s1.heap.objs.size (.lst xs),I1.laid (t':=s1.toks) (fun b u e=>Heap.get?_push_of_some _ e) (Nat.le_refl _) ?_,rfl,q _ hf (Nat.ne_of_gt (uW I1))⟩
 exact ⟨z,us,0,r,Heap.get?_push_size _ rfl⟩
theorem Zf {m:List Addr} {H:Hp} {p:Addr} (b:∀ b ∈ m,H b ≠ none) (h:H p = none):p ∉ m:=fun z=>b p z h
theorem rX (h:PA X es (tOds K R Ds)) (hl:Ds.length <= 1000:=by decide):PE X (.List es pos) (tOd K R (.list Ds)):=fun pins s σ H Q I ⟨m,r,b,q⟩ =>
 Ze h pins s σ H Q I ⟨m,r,b,fun xs H' g o=>⟨by rw [o.length]; exact Nat.le_of_lt (zB hl),fun p hp hn =>
  have g2:=Grow.new (m:=[]) hp (.lst xs)
  q _ _ (g.trans g2) (.lst zc (Zf (yQ g b) hp) hn (o.grow (g2.mono (by simp))))⟩⟩
theorem qT (hK:X.K = K):xU X (.type "list") (fun xs H Q=>∃ p ys,xs = [.ref p] /\ (SqL K H p ys \/ SqT K H p ys) /\ ∀ l,H l = none -> l ≠ sysModules -> Q (.ref l) (upd H l (.lst ys))):=by
 subst hK
 intro pins s σ H xs us Q I r h
 obtain ⟨p,ys,rfl,hq,q⟩:=h
 obtain ⟨u,rfl,rx⟩:=wI r
 cases rx
 have fin:∀ (its:List Value),Vals ys its -> ys.length <= sizeLine -> ∀ (h':Heap) (c':Nat),(∀ b o',s.heap.get? b = some o' -> h'.get? b = some o') →
   h'.get? s.heap.objs.size = some { cls:=.type "list",dict:=none,data:=.seq its.toArray c',slots:=#[] } -> EP X pins σ Q (.ref s.heap.objs.size) { s with heap:=h' }:=fun its r' hz h' c' kp e =>
  ⟨.ref s.heap.objs.size,_,I.laid (t':=s.toks) kp (Nat.le_refl _) (show yu X.prog X.w _ h' _ (.lst ys) from ⟨hz,its,c',r',e⟩),rfl,q _ (I.hok.fresh (Nat.le_refl _)) (Nat.ne_of_gt (uW I))⟩
 rcases hq with hq | hq
 ·obtain ⟨its,r',pl,hz⟩:=I.list hq
  have hlen:=r'.length
  obtain ⟨o,ho,hc,n,hd⟩:=pl.isList
  exact call_list_seq p (.inl rfl) ho hc hd (fun h' c' kp e=>fin its r' hz h' c' kp e) (by simp only [List.size_toArray] <;> omega)
 ·obtain ⟨its,r',pl,hz⟩:=I.tuple hq
  have hlen:=r'.length
  obtain ⟨o,ho,hc,n,hd⟩:=pl
  exact call_list_seq p (.inr rfl) ho hc hd (fun h' c' kp e=>fin its r' hz h' c' kp e) (by simp only [List.size_toArray] <;> omega)
end
def okD:OKey -> PyData
 | none=>.none
 | some (.inl i)=>.int i
 | some (.inr x)=>.str x
theorem X2 {K:FG7} {m:List Addr} {H:Hp}:∀ {k:OKey},Od K m H (okV k) (okD k)
 | none=>.non
 | some (.inl i)=>.int i
 | some (.inr x)=>.str x
def KxR (p:OKey × V) (q:Value × Value):Prop:=RelV (okV p.1) q.1 /\ RelV p.2 q.2
structure PO2 (X:Cx) (ks:List (Option Expr)) (vs:List Expr) (R:DR) (kds:List (OKey × PyData)):Prop where
 run:∀ (pos:Pos) (pins:List (Addr × Obj)) (s:Shared) (σ:L2.St) (H:Hp) (m:List Addr) (Q:List (Value × Value) -> Shared -> Prop),Inv X pins σ H s -> R.p m σ H -> (∀ b ∈ m,H b ≠ none) →
  (∀ r s' H' (kxs:List (OKey × V)),Inv X pins σ H' s' -> Grow [] H H' -> Paired KxR kxs r -> kxs.map (·.1) = kds.map (·.1) -> Ods X.K m H' (kxs.map (·.2)) (kds.map (·.2)) -> Q r s') →
  wpAny (model X.prog X.w) X.A (evalPairs (pairTrees ks vs X.env pos)) Q X.xe s
section
variable {X:Cx} {K:FG7} {R R':DR} {D:PyData} {e k:Expr} {ks:List (Option Expr)} {vs:List Expr} {kds:List (OKey × PyData)} {pos:Pos}
theorem Y3:PO2 X [] [] .t []:=⟨fun pos pins s σ H m Q I _ _ q=>pairTrees_nil_walk (q [] s H [] I (Grow.refl _ _) .nil rfl .nil)⟩
theorem Z6 (key:OKey) (hk:PE X k (tC (okV key))) (h:PE X e (tOd X.K R D)) (t:PO2 X ks vs R' kds):PO2 X (some k :: ks) (e :: vs) (.and R R') ((key,D) :: kds):=⟨fun pos pins s σ H m Q I ⟨r1,r2⟩ b q=>by
 refine pairTrees_cons_walk (thn (hk pins s σ H (fun x H1=>x = okV key /\ H1 = H) I ⟨rfl,rfl⟩) fun u s1 ⟨x,H1,I1,rx,ex,eH⟩=>?_)
 subst ex eH
 refine thn (h pins s1 σ H1 (fun y H2=>Grow [] H1 H2 /\ Od X.K m H2 y D) I1 ⟨m,r1,b,fun y H2 g o=>⟨g,o⟩⟩) fun v s2 ⟨y,H2,I2,ry,g2,o2⟩=>?_
 refine t.run pos pins s2 σ H2 m _ I2 (R'.mono g2 r2) (yQ g2 b) fun r s' H3 kxs I3 g3 pr ek od=>?_
 exact q _ s' H3 ((key,y) :: kxs) I3 (g2.trans g3) (.cons ⟨rx,ry⟩ pr) (by rw [List.map_cons,List.map_cons,ek]) (.cons (o2.grow (g3.mono (by simp))) od)⟩
theorem Y4 {i:Int} {j} {pk:Pos} (h:PE X e (tOd X.K R D)) (t:PO2 X ks vs R' kds):PO2 X (some (.Constant (.int i) j pk) :: ks) (e :: vs) (.and R R') ((some (.inl i),D) :: kds):=Z6 (some (.inl i)) ze h t
theorem Yy {α β γ:Type} (f:α -> γ) (l:List (α × β)):l.map (fun p=>f p.1) = (l.map (·.1)).map f:=by rw [List.map_map]; rfl
theorem rY {α β γ:Type} (f:α -> γ) (l:List (α × β)):(l.map fun p=>(f p.1,p.2)).map (·.1) = (l.map (·.1)).map f:=by rw [List.map_map,List.map_map]; rfl
theorem rZ {α β γ:Type} (f:α -> γ) (l:List (α × β)):(l.map fun p=>(f p.1,p.2)).map (·.2) = l.map (·.2):=by rw [List.map_map]; rfl
def E0D (a:Addr):HO:=.ext fun h=>h.get? a = some { cls:=.type "dict",data:=.dict #[] }
theorem Zg {prog:Program} {w:World}:∀ {kxs:List (OKey × V)} {r:List (Value × Value)},Paired KxR kxs r -> ∃ kvs:List (OKey × Value),Carries (Zc prog w) r kvs /\ kvs.map (·.1) = kxs.map (·.1) /\ Vals (kxs.map (·.2)) (kvs.map (·.2))
 | _,_,.nil=>⟨[],trivial,rfl,.nil⟩
 | _,_,.cons (a:=x) (b:=y) h t=>by
  obtain ⟨kvs,c,e,v⟩:=Zg (prog:=prog) (w:=w) t
  exact ⟨(x.1,y.2) :: kvs,⟨Y1 h.1,rfl,c⟩,by rw [List.map_cons,List.map_cons,e],.cons h.2 v⟩
theorem t9 {kvs:List (OKey × Value)}:∀ {acc:List (OKey × Value)},((acc ++ kvs).map (·.1)).Nodup -> merged acc kvs = acc ++ kvs:=by
 induction kvs with
 | nil=>intro acc _; simp [merged]
 | cons kv r ih =>
  intro acc h
  have h1:stored acc kv.1 kv.2 = acc ++ [kv]:=by
   unfold stored
   rw [if_neg]
   intro z
   obtain ⟨x,hx,e⟩:=List.any_eq_true.mp z
   rw [List.map_append,List.nodup_append] at h
   exact h.2.2 x.1 (List.mem_map_of_mem hx) kv.1 (by simp) (of_decide_eq_true e)
  show merged (stored acc kv.1 kv.2) r = _
  rw [h1,ih (by simpa using h)]
  simp
theorem uz {prog:Program} {w:World}:∀ {es:List DictEntry} {kvs:List (OKey × Value)},Pairs (Zc prog w) es kvs -> Vals (kvs.map fun p=>okV p.1) (es.map (·.key)) /\ es.map (·.val) = kvs.map (·.2)
 | _,_,.nil=>⟨.nil,rfl⟩
 | _,_,.cons h1 h2 t=>by
  obtain ⟨a,b⟩:=uz t
  exact ⟨.cons (Z5 h1) a,by rw [List.map_cons,List.map_cons,b,h2]⟩
theorem X3 (h:PO2 X ks vs R kds) (hnd:(kds.map (·.1)).Nodup:=by decide) (hall:ks.all (·.isSome) = true:=by rfl) (hl:ks.length = vs.length:=by rfl) (h0:ks ≠ []:=by intro z; cases z) (hlen:ks.length <= 15:=by decide) :
  PE X (.Dict ks vs pos) (tOd X.K R (.dict (kds.map fun p=>(okD p.1,p.2)))):=by
 intro pins s σ H Q I ⟨m,hr,hb,q⟩
 have hf:H s.heap.objs.size = none:=I.hok.fresh (Nat.le_refl _)
 have I1:Inv X pins σ (upd H s.heap.objs.size (E0D s.heap.objs.size)) { s with heap:=s.heap.push { cls:=.type "dict",data:=.dict #[] } } :=
  I.laid (t':=s.toks) (fun b u e=>Heap.get?_push_of_some _ e) (Nat.le_refl _) ⟨Heap.get?_push_size _ rfl,⟨_,Heap.get?_push_size _ rfl⟩,fun h1 h2 a k=>k _ a⟩
 have g1:=Grow.new (m:=[]) hf (E0D s.heap.objs.size)
 refine wpAny_Dict_walk (knd:=Zc X.prog X.w) hall hl h0 hlen (h.run pos pins _ σ _ (s.heap.objs.size :: m) _ I1 (R.mono g1 (R.more hf hr)) ?_ fun r s1 H2 kxs I2 g2 pr ek od=>?_)
 ·intro b hb' z
  rcases List.mem_cons.mp hb' with e | e
  ·rw [e,zc] at z; cases z
  ·exact yQ g1 hb b e z
 have h2a:H2 s.heap.objs.size = some (E0D s.heap.objs.size):=g2.keep _ _ (by simp) zc
 have hE:s1.heap.get? s.heap.objs.size = some { cls:=.type "dict",data:=.dict #[] }:=(I2.hok _ _ h2a).1
 obtain ⟨kvs,hc,ekv,vv⟩:=Zg (prog:=X.prog) (w:=X.w) pr
 refine ⟨kvs,hc,⟨_,#[],0,hE,⟨rfl,rfl,rfl⟩,rfl,fun e he=>by simp at he,.nil,List.nodup_nil⟩,fun h' hm hs=>?_⟩
 have hmk:merged [] kvs = kvs:=by
  have:=t9 (kvs:=kvs) (acc:=[]) (by rw [List.nil_append,ekv,ek]; exact hnd)
  rw [this,List.nil_append]
 rw [hmk] at hm
 obtain ⟨o,es,ep,ho,hx,hd,_,prs,_⟩:=hm
 obtain ⟨v1,e2⟩:=uz prs
 have hk1:(kxs.map fun p=>(okV p.1,p.2)).map (·.1) = kvs.map fun p=>okV p.1:=by
  rw [rY,Yy,ekv]
 have hk2:(kxs.map fun p=>(okV p.1,p.2)).map (·.2) = kxs.map (·.2):=rZ okV kxs
 have new:yu X.prog X.w (upd H2 s.heap.objs.size (DcO s.heap.objs.size (kxs.map fun p=>(okV p.1,p.2)))) h' s.heap.objs.size (DcO s.heap.objs.size (kxs.map fun p=>(okV p.1,p.2))):=by
  refine ⟨⟨o,es,ep,ho,hx.1,hd,by rw [hk1]; exact v1,by rw [hk2,e2]; exact vv⟩,⟨o,ho⟩,fun h1 h2 hφ hk=>?_⟩
  obtain ⟨o',es',n',a1,a2⟩:=hφ
  exact ⟨o',es',n',hk _ a1,a2⟩
 have I3:=I2.write (t':=s1.toks + r.length) (h':=h') (x:=s.heap.objs.size) (e:=s.heap.objs.size) (by rw [h2a]; trivial) (.inl rfl) (fun b u hb e=>(hs.2 b hb).trans e) ⟨o,ho⟩ new
 have g3:Grow (s.heap.objs.size :: m) H2 (upd H2 s.heap.objs.size (DcO s.heap.objs.size (kxs.map fun p=>(okV p.1,p.2)))) :=
  ⟨fun b u hb e=>by rw [zp (fun z=>hb (by simp [z]))]; exact e,fun b u e=>by rw [zp (fun z=>by rw [z,h2a] at e; cases e)]; exact e,fun b u v e=>by rw [zp (fun z=>by rw [z,h2a] at e; cases e)]; exact e⟩
 have G:Grow [] H (upd H2 s.heap.objs.size (DcO s.heap.objs.size (kxs.map fun p=>(okV p.1,p.2)))):=by
  have ga:=g1.trans g2
  refine ⟨fun b u hb e=>?_,fun b u e=>?_,fun b u v e=>?_⟩
  ·rw [zp (zq e hf)]; exact ga.keep b u hb e
  ·rw [zp (zq e hf)]; exact ga.tup b u e
  ·rw [zp (zq e hf)]; exact ga.frz b u v e
 refine ⟨.ref s.heap.objs.size,_,I3,rfl,q _ _ G (.dct zc (Zf hb hf) (Nat.ne_of_gt (uW I)) ?_ ?_)⟩
 ·rw [hk1]
  have:∀ {l:List OKey} {H:Hp},Ods X.K m H (l.map okV) (l.map okD):=fun {l H}=>by
   induction l with
   | nil=>exact .nil
   | cons a r ih=>exact .cons X2 ih
  rw [Yy,ekv,ek,rY]
  exact this
 ·rw [hk2,rZ]
  exact (od.grow g3).less fun b hb=>List.mem_cons_of_mem _ hb
theorem Y5:PE X (.Dict [] [] pos) (tOd K .t (.dict [])):=by
 intro pins s σ H Q I ⟨m,_,hb,q⟩
 have hf:H s.heap.objs.size = none:=I.hok.fresh (Nat.le_refl _)
 refine wpAny_Dict_empty ?_
 have I1:Inv X pins σ (upd H s.heap.objs.size (DcO s.heap.objs.size [])) { s with heap:=s.heap.push { cls:=.type "dict",data:=.dict #[] } } :=
  I.laid (t':=s.toks) (fun b u e=>Heap.get?_push_of_some _ e) (Nat.le_refl _) ⟨⟨_,_,_,Heap.get?_push_size _ rfl,rfl,rfl,.nil,.nil⟩,⟨_,Heap.get?_push_size _ rfl⟩,fun h1 h2 hφ hk=>by
   obtain ⟨o',es',n',a1,a2⟩:=hφ
   exact ⟨o',es',n',hk _ a1,a2⟩⟩
 exact ⟨.ref s.heap.objs.size,_,I1,rfl,q _ _ (Grow.new hf _) (.dct (kvs:=[]) (ds:=[]) zc (Zf hb hf) (Nat.ne_of_gt (uW I)) .nil .nil)⟩
end
def tyD:PyData -> String
 | .none=>"NoneType"
 | .bool _=>"bool"
 | .int _=>"int"
 | .str _=>"str"
 | .list _=>"list"
 | .tuple _=>"tuple"
 | .dict _=>"dict"
def WF (K:FG7):List V -> Hp -> VK -> Prop:=fun xs H Q=>∃ x d m T k,xs = [x,.ty T] /\ Od K m H x d /\ PySem.W.kitOne K (.type (tyD d)) (.type T) = some k /\ Q (.bl k) H
theorem zN {X:Cx} {K:FG7} (hK:X.K = K):xU X (.builtin "isinstance") (WF K):=by
 subst hK
 intro pins s σ H xs us Q I r h
 obtain ⟨x,d,m,T,k,rfl,hd,e,q⟩:=h
 cases hd with
 | non=>exact xJ pins s σ H _ us Q I r ⟨_,T,_,k,rfl,rfl,e,q⟩
 | bl b=>exact xJ pins s σ H _ us Q I r ⟨_,T,_,k,rfl,rfl,e,q⟩
 | int i=>exact xJ pins s σ H _ us Q I r ⟨_,T,_,k,rfl,rfl,e,q⟩
 | str y=>exact xJ pins s σ H _ us Q I r ⟨_,T,_,k,rfl,rfl,e,q⟩
 | tup hs _=>exact xJ pins s σ H _ us Q I r ⟨_,T,_,k,rfl,.inl ⟨rfl,_,hs⟩,e,q⟩
 | lst hs _ _ _=>exact xJ pins s σ H _ us Q I r ⟨_,T,_,k,rfl,.inr (.inl ⟨rfl,_,SqL.of hs⟩),e,q⟩
 | @dct a kvs ds hs _ _ _ _ =>
  obtain ⟨u,w',rfl,rx,rt⟩:=qz r
  cases (show w' = Value.type T from rt)
  cases (show u = Value.ref a from rx)
  obtain ⟨o,es,n,e1,e2,_⟩:=DcO.at I hs
  exact PySem.W.kia_one PySem.W.kitx_dict I.kIn ⟨o,e1,e2⟩ e (fun z=>nomatch z) fun tk=>⟨.bl k,H,I.tok _,rfl,q⟩
def intD:PyData -> Bool
 | .int _=>true
 | .bool _=>true
 | _=>false
def WG:PyData -> Bool
 | .bool _=>true
 | _=>false
def tupD:PyData -> Bool
 | .tuple _=>true
 | _=>false
def zx:PyData -> Bool
 | .int _=>true
 | _=>false
def endD:PyData -> Bool
 | .none=>true
 | .int _=>true
 | _=>false
theorem Zh {K:FG7}:∀ {d:PyData},PySem.W.kitOne K (.type (tyD d)) (.type "int") = some (intD d)
 | .none=>rfl
 | .bool _=>rfl
 | .int _=>rfl
 | .str _=>rfl
 | .list _=>rfl
 | .tuple _=>rfl
 | .dict _=>rfl
theorem vk {K:FG7}:∀ {d:PyData},PySem.W.kitOne K (.type (tyD d)) (.type "bool") = some (WG d)
 | .none=>rfl
 | .bool _=>rfl
 | .int _=>rfl
 | .str _=>rfl
 | .list _=>rfl
 | .tuple _=>rfl
 | .dict _=>rfl
theorem wL {K:FG7}:∀ {d:PyData},PySem.W.kitOne K (.type (tyD d)) (.type "tuple") = some (tupD d)
 | .none=>rfl
 | .bool _=>rfl
 | .int _=>rfl
 | .str _=>rfl
 | .list _=>rfl
 | .tuple _=>rfl
 | .dict _=>rfl
theorem Yz {K:FG7} {m:List Addr} {H:Hp} {x:V} {d:PyData} (h:Od K m H x d):(x = .non /\ d = .none) \/ (x ≠ .non /\ d ≠ .none):=by
 cases h with
 | non=>exact .inl ⟨rfl,rfl⟩
 | _=>exact .inr ⟨(fun z=>nomatch z),(fun z=>nomatch z)⟩
def Zi (a:Int):PyData -> PyData -> Bool
 | .int x,.int y=>decide (x < y) || (decide (x = y) && decide (a = 0))
 | _,_=>true
def yC:PyData -> Bool
 | .tuple [.int a,l,h]=>endD l && endD h && Zi a l h
 | _=>false
def zy (K:FG7):Sp:=sp1 fun x H Q=>∃ d m,Od K m H x d /\ Q (.bl (zx d)) H
def uA (K:FG7):Sp:=sp1 fun x H Q=>∃ d m,Od K m H x d /\ Q (.bl (endD d)) H
def we (K:FG7):Sp:=sp1 fun x H Q=>∃ d m,Od K m H x d /\ Q (.bl (yC d)) H
mutual
def leD (B:Int):PyData -> Bool
 | .int i=>decide (-B <= i) && decide (i <= B)
 | .list xs | .tuple xs=>leDs B xs
 | .dict kvs=>leDk B kvs
 | .none | .bool _ | .str _=>true
def leDs (B:Int):List PyData -> Bool
 | []=>true
 | x :: xs=>leD B x && leDs B xs
def leDk (B:Int):List (PyData × PyData) -> Bool
 | []=>true
 | (k,v) :: r=>leD B k && leD B v && leDk B r
end
mutual
def wtO:PyData -> Nat
 | .list xs | .tuple xs=>wtOs xs + 3
 | .dict kvs=>wtOk kvs + 3
 | .int _=>1921
 | .none | .bool _=>5
 | .str x=>(reprText x).length
def wtOs:List PyData -> Nat
 | []=>0
 | x :: xs=>wtO x + 2 + wtOs xs
def wtOk:List (PyData × PyData) -> Nat
 | []=>0
 | (k,v) :: r=>wtO k + wtO v + 4 + wtOk r
end
mutual
theorem leD_mono {B B':Int} (h:B <= B'):∀ {d:PyData},leD B d = true -> leD B' d = true
 | .int i,z=>by
  simp only [leD,Bool.and_eq_true,decide_eq_true_eq] at z ⊢
  omega
 | .list xs,z=>leDs_mono h (xs:=xs) z
 | .tuple xs,z=>leDs_mono h (xs:=xs) z
 | .dict kvs,z=>leDk_mono h (kvs:=kvs) z
 | .none,_=>rfl
 | .bool _,_=>rfl
 | .str _,_=>rfl
theorem leDs_mono {B B':Int} (h:B <= B'):∀ {xs:List PyData},leDs B xs = true -> leDs B' xs = true
 | [],_=>rfl
 | x :: xs,z=>by
  have z':=Bool.and_eq_true_iff.mp (show (leD B x && leDs B xs) = true from z)
  show (leD B' x && leDs B' xs) = true
  rw [leD_mono h z'.1,leDs_mono h z'.2]; rfl
theorem leDk_mono {B B':Int} (h:B <= B'):∀ {kvs:List (PyData × PyData)},leDk B kvs = true -> leDk B' kvs = true
 | [],_=>rfl
 | (k,v) :: r,z=>by
  have z':=Bool.and_eq_true_iff.mp (show (leD B k && leD B v && leDk B r) = true from z)
  have z'':=Bool.and_eq_true_iff.mp z'.1
  show (leD B' k && leD B' v && leDk B' r) = true
  rw [leD_mono h z''.1,leD_mono h z''.2,leDk_mono h z'.2]; rfl
end
theorem xj {B:Int}:∀ {xs:List PyData},leDs B xs = true ↔ ∀ x ∈ xs,leD B x = true
 | []=>by simp [leDs]
 | x :: xs=>by simp [leDs,xj (xs:=xs)]
theorem xk:∀ {xs ys:List PyData},wtOs (xs ++ ys) = wtOs xs + wtOs ys
 | [],ys=>by simp [wtOs]
 | x :: xs,ys=>by
  show wtO x + 2 + wtOs (xs ++ ys) = wtO x + 2 + wtOs xs + wtOs ys
  rw [xk]; omega
theorem wv:∀ {xs:List PyData} (n:Nat),wtOs (xs.take n) <= wtOs xs
 | _,0=>Nat.zero_le _
 | [],_ + 1=>Nat.le_refl _
 | x :: xs,n + 1=>by
  show wtO x + 2 + wtOs (xs.take n) <= wtO x + 2 + wtOs xs
  have:=wv (xs:=xs) n
  omega
theorem ww:∀ {xs:List PyData} (n:Nat),wtOs (xs.drop n) <= wtOs xs
 | _,0=>Nat.le_refl _
 | [],_ + 1=>Nat.le_refl _
 | x :: xs,n + 1=>by
  show wtOs (xs.drop n) <= wtO x + 2 + wtOs xs
  have:=ww (xs:=xs) n
  omega
def Bg:Int:=2 ^ 1000
mutual
theorem showable_le {B:Int} (hB:B <= Bg):∀ {d:PyData},leD B d = true -> d.showable = true
 | .int i,z=>by
  simp only [leD,Bool.and_eq_true,decide_eq_true_eq] at z
  have hb:Bg = 2 ^ 1000:=rfl
  show decide (i.natAbs.log2 < 1920) = true
  refine decide_eq_true ?_
  by_cases h0:i.natAbs = 0
  ·rw [h0]; decide
  ·rw [Nat.log2_lt h0]
   have h1:(i.natAbs:Int) <= Bg:=by omega
   have h2:i.natAbs <= 2 ^ 1000:=by rw [hb] at h1; exact_mod_cast h1
   exact Nat.lt_of_le_of_lt h2 (Nat.pow_lt_pow_right (by decide) (by decide))
 | .list xs,z=>showableAll_le hB (xs:=xs) z
 | .tuple xs,z=>showableAll_le hB (xs:=xs) z
 | .dict kvs,z=>showableKv_le hB (kvs:=kvs) z
 | .none,_=>rfl
 | .bool _,_=>rfl
 | .str _,_=>rfl
theorem showableAll_le {B:Int} (hB:B <= Bg):∀ {xs:List PyData},leDs B xs = true -> PyData.showableAll xs = true
 | [],_=>rfl
 | x :: xs,z=>by
  have z':=Bool.and_eq_true_iff.mp (show (leD B x && leDs B xs) = true from z)
  show (x.showable && PyData.showableAll xs) = true
  rw [showable_le hB z'.1,showableAll_le hB z'.2]; rfl
theorem showableKv_le {B:Int} (hB:B <= Bg):∀ {kvs:List (PyData × PyData)},leDk B kvs = true -> PyData.showableKv kvs = true
 | [],_=>rfl
 | (k,v) :: r,z=>by
  have z':=Bool.and_eq_true_iff.mp (show (leD B k && leD B v && leDk B r) = true from z)
  have z'':=Bool.and_eq_true_iff.mp z'.1
  show (k.showable && v.showable && PyData.showableKv r) = true
  rw [showable_le hB z''.1,showable_le hB z''.2,showableKv_le hB z'.2]; rfl
end
mutual
theorem shown_le:∀ {d:PyData},d.showable = true -> d.shown.length <= wtO d
 | .none,_=>by decide
 | .bool b,_=>by cases b <;> decide
 | .int i,h=>int_text_len_1921 (of_decide_eq_true h)
 | .str x,_=>Nat.le_refl _
 | .list xs,h=>by
  have q:=shown_les (xs:=xs) h
  have l:=listText_len_le (PyData.shownAll xs)
  show (listText (PyData.shownAll xs)).length <= wtOs xs + 3
  omega
 | .tuple xs,h=>by
  have q:=shown_les (xs:=xs) h
  have l:=tupleText_len_le (PyData.shownAll xs)
  show (tupleText (PyData.shownAll xs)).length <= wtOs xs + 3
  omega
 | .dict kvs,h=>by
  have q:=shown_lek (kvs:=kvs) h
  have l:=dictText_len_le (PyData.shownKv kvs)
  show (dictText (PyData.shownKv kvs)).length <= wtOk kvs + 3
  omega
theorem shown_les:∀ {xs:List PyData},PyData.showableAll xs = true -> ((PyData.shownAll xs).map (·.length)).sum + 2 * (PyData.shownAll xs).length <= wtOs xs
 | [],_=>by decide
 | x :: xs,h=>by
  have h':(x.showable && PyData.showableAll xs) = true:=h
  rw [Bool.and_eq_true] at h'
  have q1:=shown_le (d:=x) h'.1
  have q2:=shown_les (xs:=xs) h'.2
  show (((x.shown :: PyData.shownAll xs).map (·.length)).sum + 2 * (x.shown :: PyData.shownAll xs).length) <= wtO x + 2 + wtOs xs
  rw [List.map_cons,List.sum_cons,List.length_cons]
  omega
theorem shown_lek:∀ {kvs:List (PyData × PyData)},PyData.showableKv kvs = true -> ((PyData.shownKv kvs).map (·.length)).sum + 2 * (PyData.shownKv kvs).length <= wtOk kvs
 | [],_=>by decide
 | (k,v) :: r,h=>by
  have h':(k.showable && v.showable && PyData.showableKv r) = true:=h
  rw [Bool.and_eq_true,Bool.and_eq_true] at h'
  have q1:=shown_le (d:=k) h'.1.1
  have q2:=shown_le (d:=v) h'.1.2
  have q3:=shown_lek (kvs:=r) h'.2
  have e:(k.shown ++ ": " ++ v.shown).length = k.shown.length + 2 + v.shown.length:=by
   rw [strLen_append,strLen_append]; rfl
  show ((((k.shown ++ ": " ++ v.shown) :: PyData.shownKv r).map (·.length)).sum + 2 * ((k.shown ++ ": " ++ v.shown) :: PyData.shownKv r).length) <= wtO k + wtO v + 4 + wtOk r
  rw [List.map_cons,List.sum_cons,List.length_cons,e]
  omega
end
structure GdS (n k w:Nat) (ds:List PyData):Prop where
 le:leDs (10 ^ 30 + n) ds = true
 dp:PyData.depthAll ds <= k
 wt:wtOs ds <= w
structure GdD (n k w:Nat) (d:PyData):Prop where
 le:leD (10 ^ 30 + n) d = true
 dp:d.depth <= k
 wt:wtO d <= w
theorem sX {B:Int} {a b:List PyData} (ha:leDs B a = true) (hb:leDs B b = true):leDs B (a ++ b) = true:=xj.mpr fun x hx=>(List.mem_append.mp hx).elim (xj.mp ha x) (xj.mp hb x)
theorem yn {k:Nat}:∀ {xs:List PyData},PyData.depthAll xs <= k ↔ ∀ x ∈ xs,x.depth <= k
 | []=>by simp [PyData.depthAll]
 | x :: xs=>by
  show max x.depth (PyData.depthAll xs) <= k ↔ _
  rw [Nat.max_le,yn (xs:=xs)]
  simp
theorem GdS.append {n k w w':Nat} {a b:List PyData} (ha:GdS n k w a) (hb:GdS n k w' b):GdS n k (w + w') (a ++ b) :=
 ⟨sX ha.le hb.le,yn.mpr fun x hx=>(List.mem_append.mp hx).elim (yn.mp ha.dp x) (yn.mp hb.dp x),by rw [xk]; have:=ha.wt; have:=hb.wt; omega⟩
theorem GdS.sub {n k w:Nat} {a b:List PyData} (ha:GdS n k w a) (h:∀ x ∈ b,x ∈ a) (hw:wtOs b <= wtOs a):GdS n k w b :=
 ⟨xj.mpr fun x hx=>xj.mp ha.le x (h x hx),yn.mpr fun x hx=>yn.mp ha.dp x (h x hx),Nat.le_trans hw ha.wt⟩
theorem GdD.one {n k w:Nat} {d:PyData} (h:GdD n k w d):GdS n k (w + 2) [d]:=⟨by show (leD _ d && true) = true; rw [h.le]; rfl,by show max d.depth 0 <= k; have:=h.dp; omega,by show wtO d + 2 + 0 <= w + 2; have:=h.wt; omega⟩
theorem GdS.tup {n k w:Nat} {ds:List PyData} (h:GdS n k w ds):GdD n (k + 1) (w + 3) (.tuple ds):=⟨h.le,Nat.succ_le_succ h.dp,Nat.add_le_add_right h.wt 3⟩
theorem GdS.lst {n k w:Nat} {ds:List PyData} (h:GdS n k w ds):GdD n (k + 1) (w + 3) (.list ds):=⟨h.le,Nat.succ_le_succ h.dp,Nat.add_le_add_right h.wt 3⟩
theorem GdS.mono {n n' k k' w w':Nat} {ds:List PyData} (h:GdS n k w ds) (h1:n <= n') (h2:k <= k') (h3:w <= w'):GdS n' k' w' ds:=⟨leDs_mono (by omega) h.le,Nat.le_trans h.dp h2,Nat.le_trans h.wt h3⟩
theorem GdD.mono {n n' k k' w w':Nat} {d:PyData} (h:GdD n k w d) (h1:n <= n') (h2:k <= k') (h3:w <= w'):GdD n' k' w' d:=⟨leD_mono (by omega) h.le,Nat.le_trans h.dp h2,Nat.le_trans h.wt h3⟩
theorem X4 {n:Nat} (h:n <= 1000000):(10:Int) ^ 30 + n <= Bg:=by
 have h1:(10:Int) ^ 30 + 1000000 <= Bg:=by decide +kernel
 omega
def cutD (xs:List PyData) (lo hi:Option Int):List PyData:=(xs.drop (HT.sIx xs.length 0 lo)).take (HT.sIx xs.length xs.length hi - HT.sIx xs.length 0 lo)
theorem Ods.cut {K:FG7} {m:List Addr} {H:Hp} {xs:List V} {ds:List PyData} {lo hi:Option Int} (h:Ods K m H xs ds):Ods K m H (cutV xs lo hi) (cutD ds lo hi):=by
 unfold cutV cutD
 rw [h.length]
 exact (h.drop _).take _
theorem GdS.cut {n k w:Nat} {ds:List PyData} {lo hi:Option Int} (h:GdS n k w ds):GdS n k w (cutD ds lo hi):=by
 unfold cutD
 exact h.sub (fun x hx=>List.mem_of_mem_drop (List.mem_of_mem_take hx)) (Nat.le_trans (wv _) (ww _))
theorem xv {i:Int} {n:Nat} (h1:-(10 ^ 30) - n <= i) (h2:i <= 10 ^ 30 + n):GdD n 0 1921 (.int i):=⟨by show (decide (-(10 ^ 30 + (n:Int)) <= i) && decide (i <= 10 ^ 30 + (n:Int))) = true; rw [decide_eq_true (by omega),decide_eq_true h2]; rfl,Nat.le_refl _,Nat.le_refl _⟩
theorem qU {d:PyData} (h:yC d = true):∃ a l u,d = .tuple [.int a,l,u] /\ endD l = true /\ endD u = true /\ Zi a l u = true:=by
 unfold yC at h
 split at h
 ·rename_i a l u
  simp only [Bool.and_eq_true] at h
  exact ⟨a,l,u,rfl,h.1.1,h.1.2,h.2⟩
 ·cases h
section
variable {K:FG7} {m:List Addr} {H:Hp} {x:V}
theorem Od.inv_lst {ds:List PyData} (h:Od K m H x (.list ds)):∃ a xs,x = .ref a /\ H a = some (.lst xs) /\ a ∉ m /\ a ≠ sysModules /\ Ods K m H xs ds:=by
 cases h with
 | lst h1 h2 h3 h4=>exact ⟨_,_,rfl,h1,h2,h3,h4⟩
theorem Od.inv_tup {ds:List PyData} (h:Od K m H x (.tuple ds)):∃ a xs,x = .ref a /\ SqT K H a xs /\ Ods K m H xs ds:=by
 cases h with
 | tup h1 h2=>exact ⟨_,_,rfl,h1,h2⟩
theorem Od.inv_int {i:Int} (h:Od K m H x (.int i)):x = .int i:=by cases h; rfl
theorem Od.inv_non (h:Od K m H x .none):x = .non:=by cases h; rfl
theorem Ods.inv1 {xs:List V} {d:PyData} (h:Ods K m H xs [d]):∃ x,xs = [x] /\ Od K m H x d:=by
 cases h with
 | cons h t=>cases t; exact ⟨_,rfl,h⟩
theorem Ods.inv3 {xs:List V} {d e f:PyData} (h:Ods K m H xs [d,e,f]):∃ x y z,xs = [x,y,z] /\ Od K m H x d /\ Od K m H y e /\ Od K m H z f:=by
 cases h with
 | cons h t =>
  cases t with
  | cons h2 t =>
   obtain ⟨z,rfl,hz⟩:=Ods.inv1 t
   exact ⟨_,_,_,rfl,h,h2,hz⟩
theorem Y6 {d:PyData} (h:tupD d = false):yC d = false:=by
 cases d with
 | tuple _=>cases h
 | _=>rfl
theorem sd {ds:List PyData} (h:ds.length ≠ 3):yC (.tuple ds) = false:=by
 cases e:yC (.tuple ds) with
 | false=>rfl
 | true=>obtain ⟨a,l,u,e2,_⟩:=qU e; cases e2; exact absurd rfl h
theorem r6 {a l u:PyData} (h:zx a = false):yC (.tuple [a,l,u]) = false:=by
 cases a with
 | int _=>cases h
 | _=>rfl
theorem Zj {a:Int} {l u:PyData}:yC (.tuple [.int a,l,u]) = (endD l && endD u && Zi a l u):=rfl
theorem wx {a:Addr} (pp:Pot H a):∀ b ∈ [a],H b ≠ none:=fun b hb z=>by
 obtain ⟨u0,u1,hu,_⟩:=pp
 rw [List.mem_singleton.mp hb,hu] at z; cases z
end
structure Call72 where
 hand:Int
 box:Int
 deed:Deed
 begun:Int
 ended:Int
 answer:Int
instance:Inhabited Call72:=⟨⟨0,0,⟨0,none,none⟩,0,0,0⟩⟩
def Call72.vs (c:Call72) (rd:Addr):List V:=[.int c.hand,.int c.box,.ref rd,.int c.begun,.int c.ended,.int c.answer]
structure CallOk72 (m:Nat) (c:Call72):Prop where
 h0:0 <= c.hand
 h1:c.hand <= 15
 b0:0 <= c.box
 b1:c.box < m
 d:c.deed.Ok
 t0:0 <= c.begun
 t1:c.begun <= c.ended
def qV (b:Int) (cs:List Call72):Nat:=cs.countP fun c=>decide (c.box = b)
structure Calls72 (m:Nat) (cs:List Call72):Prop where
 len:cs.length <= 40
 ok:∀ c ∈ cs,CallOk72 m c
 few:∀ b:Int,qV b cs <= 8
theorem qW {α:Type} {l:List α} {j:Nat} {x d:α} (h:j < l.length):(l.set j x).getD j d = x:=by rw [List.getD_eq_getElem?_getD,List.getElem?_set_self h]; rfl
theorem se {α:Type} {l:List α} {i j:Nat} {x d:α} (h:i ≠ j):(l.set i x).getD j d = l.getD j d:=by rw [List.getD_eq_getElem?_getD,List.getD_eq_getElem?_getD,List.getElem?_set_ne h]
def Y7 (K:FG7) (H:Hp) (x:V) (ns:List Nat):Prop:=∃ r,x = .ref r /\ SqT K H r (Z0 ns)
theorem Y7.grow {K:FG7} {H H':Hp} {x:V} {ns:List Nat} {m:List Addr} (h:Y7 K H x ns) (g:Grow m H H'):Y7 K H' x ns:=by
 obtain ⟨r,e,s⟩:=h
 exact ⟨r,e,g.sqT s⟩
section
variable {K:FG7} {a:Addr} {xs:List V} {k:Nat} {te:TE} {Q:VK} {σ:L2.St} {H:Hp}
theorem z9 (Pv:Nat -> List V -> Hp -> Prop) (h0:Pv 0 [] H) (hl:∀ i ys H',Pv i ys H' -> SqT K H' a xs)
  (hs:∀ i x ys H',xs[i]? = some x -> Pv i ys H' -> te (σ.set k (some x)) H' fun y H5=>ys.length < sizeLine /\ Pv (i + 1) (ys ++ [y]) H5)
  (hd:∀ ys H',Pv xs.length ys H' -> ∀ l,H' l = none -> Q (.ref l) (upd H' l (.lst ys))):v9 (Itt K a) σ H (w9 k) jI te Q :=
 qL (fun _=>true) Pv h0 hl (fun _ _ _ _ h=>h) (fun i x ys H' hx p _=>hs i x ys H' hx p) (fun _ _ _ _ _ _ z=>nomatch z) hd
end
theorem Z7 {b:Int} {cs:List Call72} {c:Call72}:qV b (cs ++ [c]) = qV b cs + (if c.box = b then 1 else 0):=by
 unfold qV
 rw [List.countP_append,List.countP_cons,List.countP_nil]
 by_cases h:c.box = b
 ·rw [if_pos h,decide_eq_true h]; rfl
 ·rw [if_neg h,decide_eq_false h]; rfl
def WH (H:Hp) (zs:List V) (nss:List (List Nat)):Prop:=AllR (fun z ns=>∃ a,z = .ref a /\ H a = some (.lst (Z0 ns))) zs nss
structure Bx72 (H:Hp) (as:List Addr) (nss:List (List Nat)):Prop where
 len:nss.length = as.length
 at_:∀ (j:Nat) (a:Addr),as[j]? = some a -> H a = some (.lst (Z0 (nss.getD j [])))
theorem Bx72.ls {H:Hp} {as:List Addr} {nss:List (List Nat)} (h:Bx72 H as nss):WH H (as.map V.ref) nss:=by
 refine AllR.of_get (by rw [List.length_map,h.len]) fun i x hx=>?_
 rw [List.getElem?_map] at hx
 obtain ⟨a,ha,rfl⟩:=Option.map_eq_some_iff.mp hx
 have hi:i < nss.length:=by rw [h.len]; exact (List.getElem?_eq_some_iff.mp ha).1
 refine ⟨nss[i],List.getElem?_eq_getElem hi,a,rfl,?_⟩
 rw [h.at_ i a ha,List.getD_eq_getElem?_getD,List.getElem?_eq_getElem hi]; rfl
def uf:PyData -> Bool
 | .tuple _=>true
 | _=>false
theorem yR {K:FG7} (d:PyData):PySem.W.kitOne K (.type (tyD d)) (.type "tuple") = some (uf d):=by cases d <;> rfl
theorem xm {K:FG7} {m:List Addr} {H:Hp} {x:V} {d:PyData} (h:Od K m H x d) (ht:uf d = true):∃ r xs ds,x = .ref r /\ d = .tuple ds /\ SqT K H r xs /\ Ods K m H xs ds:=by
 cases h <;> first | exact ⟨_,_,_,rfl,rfl,by assumption,by assumption⟩ | cases ht
def N27 (n:Int):Prop:=-(10 ^ 27) <= n /\ n <= 10 ^ 27
def kc72:List Call72 -> Bool
 | []=>true
 | c :: r=>!(r.any fun e=>decide (e.ended < c.begun)) && kc72 r
def pl72:List Int -> List Call72 -> Option (List Int)
 | vs,[]=>some vs
 | vs,c :: r=>if vs.getD c.box.toNat 0 = c.answer then pl72 (vs.set c.box.toNat (c.deed.mk' c.answer)) r else none
theorem Zk {c:Call72}:∀ {cs:List Call72},kc72 cs = true -> (∀ e ∈ cs,e.begun <= c.ended) -> kc72 (cs ++ [c]) = true
 | [],_,_=>rfl
 | e :: r,h,hb=>by
  have h':(!(r.any fun x=>decide (x.ended < e.begun)) && kc72 r) = true:=h
  rw [Bool.and_eq_true,Bool.not_eq_true'] at h'
  show (!((r ++ [c]).any fun x=>decide (x.ended < e.begun)) && kc72 (r ++ [c])) = true
  rw [List.any_append,h'.1,Zk h'.2 fun x hx=>hb x (List.mem_cons_of_mem _ hx)]
  have:=hb e (List.mem_cons_self ..)
  rw [List.any_cons,decide_eq_false (by omega)]; rfl
theorem Zl {c:Call72}:∀ {cs:List Call72} {vs ws:List Int},pl72 vs cs = some ws -> ws.getD c.box.toNat 0 = c.answer -> pl72 vs (cs ++ [c]) = some (ws.set c.box.toNat (c.deed.mk' c.answer))
 | [],vs,ws,h,ha=>by
  cases h
  show (if vs.getD c.box.toNat 0 = c.answer then _ else none) = _
  rw [if_pos ha]; rfl
 | e :: r,vs,ws,h,ha=>by
  have h':(if vs.getD e.box.toNat 0 = e.answer then pl72 (vs.set e.box.toNat (e.deed.mk' e.answer)) r else none) = some ws:=h
  show (if vs.getD e.box.toNat 0 = e.answer then pl72 (vs.set e.box.toNat (e.deed.mk' e.answer)) (r ++ [c]) else none) = _
  by_cases hv:vs.getD e.box.toNat 0 = e.answer
  ·rw [if_pos hv] at h' ⊢
   exact Zl h' ha
  ·rw [if_neg hv] at h'; cases h'
structure Cb72 (B:Int) (c:Call72):Prop where
 hand:-B <= c.hand /\ c.hand <= B
 box:-B <= c.box /\ c.box <= B
 deed:c.deed.Bd B
 begun:-B <= c.begun /\ c.begun <= B
 ended:-B <= c.ended /\ c.ended <= B
 answer:-B <= c.answer /\ c.answer <= B
structure Hist72 (n:Nat) (b:List Int) (cs:List Call72):Prop where
 bl:b.length = n
 bb:∀ v ∈ b,N27 v
 ok:Calls72 n cs
 bd:∀ c ∈ cs,Cb72 (10 ^ 29) c
 kc:kc72 cs = true
 pl:(pl72 b cs).isSome = true
theorem Y8 (n:Nat):(List.replicate n 8).sum = 8 * n:=by
 induction n with
 | zero=>rfl
 | succ n ih=>rw [List.replicate_succ,List.sum_cons,ih]; omega
theorem Zm:∀ {l:List Nat} {j x:Nat},l[j]? = some x -> 0 < x -> (l.set j (x - 1)).sum + 1 = l.sum
 | [],_,_,h,_=>by cases h
 | a :: l,0,x,h,h0=>by
  have e:a = x:=Option.some.inj h
  subst e
  show a - 1 + l.sum + 1 = a + l.sum
  omega
 | a :: l,j + 1,x,h,h0=>by
  have:=Zm (l:=l) (j:=j) h h0
  show a + (l.set j (x - 1)).sum + 1 = a + l.sum
  omega
structure HI72 (n i:Nat) (b vs:List Int) (rs:List Nat) (cs:List Call72) (mo sc:Int):Prop where
 vl:vs.length = n
 rl:rs.length = n
 cl:cs.length = i
 pl:pl72 b cs = some vs
 kc:kc72 cs = true
 ok:∀ c ∈ cs,CallOk72 n c
 rm:∀ j,j < n -> rs.getD j 0 + qV j cs = 8
 sm:rs.sum + i = 8 * n
 vb:∀ v ∈ vs,-(10 ^ 27 + i * (10 ^ 27 + 6)) <= v /\ v <= 10 ^ 27 + i * (10 ^ 27 + 6)
 bd:∀ c ∈ cs,Cb72 (10 ^ 29) c
 m0:0 <= mo
 m1:mo <= 2 * i
 bg:∀ c ∈ cs,c.begun <= mo * sc
theorem HI72.start {n:Nat} {b:List Int} {sc:Int} (bl:b.length = n) (bb:∀ v ∈ b,N27 v):HI72 n 0 b b (List.replicate n 8) [] 0 sc:=by
 refine ⟨bl,List.length_replicate,rfl,rfl,rfl,(fun _ h=>nomatch h),fun j hj=>?_,(by rw [Y8]; rfl),fun v hv=>?_,(fun _ h=>nomatch h),(by decide),(by decide),(fun _ h=>nomatch h)⟩
 ·rw [List.getD_eq_getElem?_getD,List.getElem?_replicate,if_pos hj]; rfl
 ·have:=bb v hv
  unfold N27 at this
  omega
theorem HI72.next {n i:Nat} {b vs:List Int} {rs:List Nat} {cs:List Call72} {mo sc:Int} (h:HI72 n i b vs rs cs mo sc) {bx x:Nat} {t ha be en:Int} {d:Deed} (i40:i < 40) (n6:n <= 6)
  (hx:rs[bx]? = some x) (x0:0 < x) (t0:0 <= t) (t1:t <= 2) (s0:1 <= sc) (s1:sc <= 10 ^ 24 + 7) (h0:0 <= ha) (h1:ha <= 15) (od:d.Ok) (bd:d.Bd (10 ^ 27 + 6)) (e0:0 <= be) (e1:be <= (mo + t) * sc) (e2:(mo + t) * sc <= en) (e3:en <= (mo + t + 3) * sc) :
  HI72 n (i + 1) b (vs.set bx (d.mk' (vs.getD bx 0))) (rs.set bx (x - 1)) (cs ++ [⟨ha,bx,d,be,en,vs.getD bx 0⟩]) (mo + t) sc:=by
 have hbx:bx < n:=by rw [← h.rl]; exact (List.getElem?_eq_some_iff.mp hx).1
 have hv:vs.getD bx 0 ∈ vs:=by
  have hb:bx < vs.length:=by rw [h.vl]; exact hbx
  rw [List.getD_eq_getElem?_getD,List.getElem?_eq_getElem hb]; exact List.getElem_mem hb
 have vb:=h.vb _ hv
 have mm:mo * sc <= (mo + t) * sc:=Int.mul_le_mul_of_nonneg_right (by omega) (by omega)
 have m1:=h.m1
 have m0:=h.m0
 have big:(mo + t + 3) * sc <= 10 ^ 27:=by
  have:(mo + t + 3) * sc <= 90 * (10 ^ 24 + 7):=Int.mul_le_mul (by omega) s1 (by omega) (by decide)
  exact Int.le_trans this (by decide)
 have C0:(0:Int) <= 10 ^ 27 + i * (10 ^ 27 + 6):=by omega
 have mk:=Ww bd (by decide) vb.1 vb.2 C0
 have nb:(⟨ha,bx,d,be,en,vs.getD bx 0⟩:Call72).box.toNat = bx:=Int.toNat_natCast bx
 refine ⟨by rw [List.length_set,h.vl],by rw [List.length_set,h.rl],by rw [List.length_append,List.length_singleton,h.cl],?_,?_,?_,?_,?_,?_,?_,by omega,by omega,?_⟩
 ·have:=Zl (c:=⟨ha,bx,d,be,en,vs.getD bx 0⟩) h.pl (by rw [nb])
  rw [this,nb]
 ·exact Zk h.kc fun e he=>by have:=h.bg e he; show e.begun <= en; omega
 ·intro c hc
  rcases List.mem_append.mp hc with hc | hc
  ·exact h.ok c hc
  ·rw [List.mem_singleton.mp hc]
   exact ⟨h0,h1,Int.natCast_nonneg bx,by show (bx:Int) < n; omega,od,e0,by show be <= en; omega⟩
 ·intro j hj
  rw [Z7]
  have r:=h.rm j hj
  by_cases e:j = bx
  ·subst e
   rw [qW (by rw [h.rl]; exact hj),if_pos rfl]
   rw [List.getD_eq_getElem?_getD,hx] at r
   have:x + qV j cs = 8:=r
   omega
  ·rw [se (fun z=>e z.symm),if_neg (by show ¬ (bx:Int) = j; omega)]
   exact r
 ·have:=Zm hx x0
  have:=h.sm
  omega
 ·intro v hv'
  rcases List.mem_or_eq_of_mem_set hv' with hv' | rfl
  ·have:=h.vb v hv'
   push_cast at this ⊢
   omega
  ·push_cast
   omega
 ·intro c hc
  rcases List.mem_append.mp hc with hc | hc
  ·exact h.bd c hc
  ·rw [List.mem_singleton.mp hc]
   refine ⟨?_,?_,?_,?_,?_,?_⟩
   ·show -(10 ^ 29) <= ha /\ ha <= 10 ^ 29; omega
   ·show -(10 ^ 29) <= (bx:Int) /\ (bx:Int) <= 10 ^ 29; omega
   ·exact bd.mono (by decide)
   ·show -(10 ^ 29) <= be /\ be <= 10 ^ 29; omega
   ·show -(10 ^ 29) <= en /\ en <= 10 ^ 29; omega
   ·show -(10 ^ 29) <= vs.getD bx 0 /\ vs.getD bx 0 <= 10 ^ 29; omega
 ·intro c hc
  rcases List.mem_append.mp hc with hc | hc
  ·have:=h.bg c hc; omega
  ·rw [List.mem_singleton.mp hc]; exact e1
theorem Cb72.mono {B C:Int} {c:Call72} (h:Cb72 B c) (hB:B <= C):Cb72 C c:=⟨by have:=h.hand; omega,by have:=h.box; omega,h.deed.mono hB,by have:=h.begun; omega,by have:=h.ended; omega,by have:=h.answer; omega⟩
def spX1 (f:V -> Hp -> VK -> XK -> Prop):Sp:=fun vs H Q E=>∃ x,vs = [x] /\ f x H Q E
def spX2 (f:V -> V -> Hp -> VK -> XK -> Prop):Sp:=fun vs H Q E=>∃ x y,vs = [x,y] /\ f x y H Q E
def spX3 (f:V -> V -> V -> Hp -> VK -> XK -> Prop):Sp:=fun vs H Q E=>∃ x y z,vs = [x,y,z] /\ f x y z H Q E
theorem xP {f:V -> Hp -> VK -> XK -> Prop} {p:Str}:∀ vs H Q E,spX1 f vs H Q E -> vs.length = [p].length:=by rintro vs H Q E ⟨x,rfl,_⟩; rfl
theorem yV {f:V -> V -> Hp -> VK -> XK -> Prop} {p q:Str}:∀ vs H Q E,spX2 f vs H Q E -> vs.length = [p,q].length:=by rintro vs H Q E ⟨x,y,rfl,_⟩; rfl
theorem Z8 {f:V -> V -> V -> Hp -> VK -> XK -> Prop} {p q r:Str}:∀ vs H Q E,spX3 f vs H Q E -> vs.length = [p,q,r].length:=by rintro vs H Q E ⟨x,y,z,rfl,_⟩; rfl
def vV (P:Program) (w:World) (K:FG7) (mg:Str -> Option Value) (base:Heap) (C:Addr) (k:Nat) (ps:List Str) (sp:Sp):Prop :=
 ∃ (j:Nat) (f:Addr) (fd:FuncData),j + 1 = k /\ FnOk P w K mg base (CX1 P w) j f fd ps sp /\ xV K fd ps [] /\ Mk K C f
section
variable {P:Program} {w:World} {K:FG7} {mg:Str -> Option Value} {base:Heap} {C:Addr} {j k:Nat} {m:Str} {ps:List Str} {sp:Sp}
theorem vV.mono (c:vV P w K mg base C j ps sp) (h:j <= k):vV P w K mg base C k ps sp:=by
 obtain ⟨i,f,fd,e,F,b,mt⟩:=c
 exact ⟨k - 1,f,fd,by omega,F.mono (by omega),b,mt⟩
end
def zF (l u:Int):PyData -> Bool
 | .int i=>decide (l <= i) && decide (i <= u)
 | _=>false
theorem wM {l u:Int} {d:PyData} (h:zF l u d = true):∃ i,d = .int i /\ l <= i /\ i <= u:=by
 cases d with
 | int i =>
  simp only [zF,Bool.and_eq_true,decide_eq_true_eq] at h
  exact ⟨i,rfl,h.1,h.2⟩
 | _=>cases h
def wN (K:FG7):Sp:=sp3 fun x y z H Q=>∃ (d:PyData) (m:List Addr) (l u:Int),Od K m H x d /\ y = .int l /\ z = .int u /\ Q (.bl (zF l u d)) H
def yc:PyData -> Bool
 | .tuple ds=>decide (1 <= ds.length) && (decide (ds.length <= 16) && ds.all zx)
 | _=>false
def askP (n:Nat):PyData -> Bool
 | .tuple [h,b,e]=>zF 0 15 h && (zF 0 ((n:Int) - 1) b && yC e)
 | _=>false
def lenD:PyData -> Nat
 | .tuple ds=>ds.length
 | _=>0
theorem yS {d:PyData} (h:zx d = true):∃ i,d = .int i:=by cases d <;> first | exact ⟨_,rfl⟩ | cases h
theorem vm {d:PyData} (h:endD d = true):∃ o:Option Int,d = oD o:=by
 cases d <;> first | exact ⟨none,rfl⟩ | exact ⟨some _,rfl⟩ | cases h
theorem sf {d:PyData} (h:yC d = true):∃ e:Deed,d = vM e /\ e.Ok:=by
 unfold yC at h
 split at h
 ·rename_i a l u
  rw [Bool.and_eq_true,Bool.and_eq_true] at h
  obtain ⟨lo,rfl⟩:=vm h.1.1
  obtain ⟨hi,rfl⟩:=vm h.1.2
  refine ⟨⟨a,lo,hi⟩,rfl,fun x y hx hy=>?_⟩
  have hx':lo = some x:=hx
  have hy':hi = some y:=hy
  subst hx' hy'
  have h2:(decide (x < y) || (decide (x = y) && decide (a = 0))) = true:=h.2
  rw [Bool.or_eq_true,Bool.and_eq_true,decide_eq_true_eq,decide_eq_true_eq,decide_eq_true_eq] at h2
  exact h2
 ·cases h
theorem uZ {K:FG7} {m:List Addr} {H:Hp} {x:V} {o:Option Int} (h:Od K m H x (oD o)):x = ov o:=by
 cases o with
 | none=>exact h.inv_non
 | some i=>exact h.inv_int
theorem r9 {K:FG7} {m:List Addr} {H:Hp}:∀ {xs:List V} {ds:List PyData},Ods K m H xs ds -> ds.all zx = true -> ∃ b:List Int,xs = b.map V.int /\ b.length = ds.length
 | _,_,.nil,_=>⟨[],rfl,rfl⟩
 | _,_,.cons o os,h=>by
  rw [List.all_cons,Bool.and_eq_true] at h
  obtain ⟨i,rfl⟩:=yS h.1
  obtain ⟨b,rfl,e⟩:=r9 os h.2
  rw [o.inv_int]
  exact ⟨i :: b,rfl,by rw [List.length_cons,List.length_cons,e]⟩
theorem y0 {K:FG7} {m:List Addr} {H:Hp} {x:V} {d:PyData} (h:Od K m H x d) (hb:yc d = true):∃ b,yh K H x b /\ lenD d = b.length /\ b.length <= 16 /\ 1 <= b.length:=by
 unfold yc at hb
 split at hb
 ·rename_i ds
  rw [Bool.and_eq_true,Bool.and_eq_true,decide_eq_true_eq,decide_eq_true_eq] at hb
  obtain ⟨r,xs,rfl,hs,os⟩:=h.inv_tup
  obtain ⟨b,rfl,e⟩:=r9 os hb.2.2
  exact ⟨b,⟨r,rfl,hs⟩,e.symm,by omega,by omega⟩
 ·cases hb
theorem xY {l u:Int} {d:PyData} (h:zx d = false):zF l u d = false:=by cases d <;> first | rfl | cases h
def uB (K:FG7):Sp:=sp2 fun x y H Q=>∃ b d m,yh K H x b /\ Od K m H y d /\ Q (.bl (askP b.length d)) H
def xn (K:FG7):Sp:=sp1 fun x H Q=>∃ d m,Od K m H x d /\ ∀ H',Grow [] H H' -> Q (.bl (yC d)) H'
def inD:PyData -> List Nat -> Option PyData
 | d,[]=>some d
 | .tuple ds,k :: ks=>match ds[k]? with
  | some e=>inD e ks
  | none=>none
 | _,_ :: _=>none
def sY (K:FG7) (H:Hp) (d:PyData) (zs:List V):Prop:=∀ z ∈ zs,∃ r ks,z = .ref r /\ SqT K H r (Z0 ks) /\ (inD d ks).isSome = true
theorem sY.grow {K:FG7} {m:List Addr} {H H':Hp} {d:PyData} {zs:List V} (h:sY K H d zs) (g:Grow m H H'):sY K H' d zs:=fun z hz=>by
 obtain ⟨r,ks,e,s,v⟩:=h z hz
 exact ⟨r,ks,e,g.sqT s,v⟩
def Y9 (K:FG7) (m:List Addr) (H:Hp) (z:V):Prop:=∃ e,Od K m H z e /\ GdD 10 6 2000000 e /\ lenD e <= 500
theorem Y9.grow {K:FG7} {m:List Addr} {H H':Hp} {z:V} (h:Y9 K m H z) (g:Grow m H H'):Y9 K m H' z:=by
 obtain ⟨e,o,r⟩:=h
 exact ⟨e,o.grow g,r⟩
def Xa (K:FG7) (m:List Addr) (H:Hp) (z:V):Prop:=∃ e,Od K m H z e /\ yc e = false /\ lenD e <= 1000
theorem Xa.grow {K:FG7} {m:List Addr} {H H':Hp} {z:V} (h:Xa K m H z) (g:Grow m H H'):Xa K m H' z:=by
 obtain ⟨e,o,r⟩:=h
 exact ⟨e,o.grow g,r⟩
theorem uC {K:FG7} {m:List Addr} {H:Hp}:∀ {b:List Int},Ods K m H (b.map V.int) (b.map PyData.int)
 | []=>.nil
 | _ :: _=>.cons (.int _) uC
mutual
def lvs:PyData -> List PyData
 | .tuple xs=>(match lvsAll xs with | [a,b]=>a ++ b | _=>[.none])
 | .none=>[.none]
 | .bool b=>[.bool b]
 | .int i=>[.int i]
 | .str x=>[.str x]
 | .list xs=>[.list xs]
 | .dict xs=>[.dict xs]
def lvsAll:List PyData -> List (List PyData)
 | []=>[]
 | x :: xs=>lvs x :: lvsAll xs
end
theorem vn {a b:PyData}:lvs (.tuple [a,b]) = lvs a ++ lvs b:=rfl
theorem YA {ds:List PyData} (h:ds.length ≠ 2):lvs (.tuple ds) = [.none]:=by
 match ds,h with
 | [],_=>rfl
 | [_],_=>rfl
 | [_,_],h=>exact absurd rfl h
 | _ :: _ :: _ :: _,_=>rfl
theorem YB {d:PyData} (h:tupD d = false):lvs d = [d]:=by
 cases d with
 | tuple _=>cases h
 | _=>rfl
def runL:List PyData -> Nat -> Option Nat
 | [],r=>some r
 | .int i :: ls,r=>if i = r then runL ls (r + 1) else none
 | _ :: _,_=>none
def wy (d:PyData) (n:Nat):Bool:=decide (runL (lvs d) 0 = some n)
def stk (ds:List PyData):List PyData:=(ds.reverse.map lvs).flatten
theorem u6 {ds:List PyData} {d:PyData}:stk (ds ++ [d]) = lvs d ++ stk ds:=by
 unfold stk
 rw [List.reverse_append]; rfl
theorem u7 {d:PyData} {ls:List PyData} {r:Nat} (h:zx d = false):runL (d :: ls) r = none:=by
 cases d with
 | int _=>cases h
 | _=>rfl
theorem Ods.snocE {K:FG7} {m:List Addr} {H:Hp} {ys:List V} {y:V} {ds:List PyData} (h:Ods K m H (ys ++ [y]) ds):∃ es e,ds = es ++ [e] /\ Ods K m H ys es /\ Od K m H y e:=by
 induction ys generalizing ds with
 | nil =>
  cases h with
  | cons h t=>cases t; exact ⟨[],_,rfl,.nil,h⟩
 | cons a r ih =>
  cases h with
  | cons h t =>
   obtain ⟨es,e,rfl,h1,h2⟩:=ih t
   exact ⟨_ :: es,e,rfl,.cons h h1,h2⟩
theorem yT {ds:List PyData} {d:PyData}:wtOs (ds ++ [d]) = wtOs ds + (wtO d + 2):=by
 rw [xk]; rfl
theorem vo:∀ {ds:List PyData},2 * ds.length <= wtOs ds
 | []=>Nat.zero_le _
 | d :: ds=>by
  have:=vo (ds:=ds)
  show 2 * (ds.length + 1) <= wtO d + 2 + wtOs ds
  omega
theorem Zn {n:Nat} (h:n <= 1000000):n < sizeLine:=Nat.lt_of_le_of_lt h (by decide)
mutual
theorem lvs_len:∀ {d:PyData},(lvs d).length <= wtO d + 1
 | .tuple xs=>by
  have h:=lvsAll_len (xs:=xs)
  match xs,h with
  | [],_=>show 1 <= _; decide
  | [a],_=>show 1 <= _; exact Nat.le_add_left _ _
  | [a,b],h =>
   rw [vn,List.length_append]
   have h':(lvs a).length + ((lvs b).length + 0) <= wtOs [a,b]:=h
   show _ <= wtOs [a,b] + 3 + 1
   omega
  | _ :: _ :: _ :: _,_=>show 1 <= _; exact Nat.le_add_left _ _
 | .none=>by decide
 | .bool _=>by show 1 <= 5 + 1; decide
 | .int _=>by show 1 <= 1921 + 1; decide
 | .str x=>by show 1 <= _ + 1; omega
 | .list xs=>by show 1 <= _ + 1; omega
 | .dict xs=>by show 1 <= _ + 1; omega
theorem lvsAll_len:∀ {xs:List PyData},((lvsAll xs).map (·.length)).sum <= wtOs xs
 | []=>Nat.le_refl _
 | x :: xs=>by
  have h1:=lvs_len (d:=x)
  have h2:=lvsAll_len (xs:=xs)
  show (lvs x).length + ((lvsAll xs).map (·.length)).sum <= wtO x + 2 + wtOs xs
  omega
end
theorem qa:∀ {ls:List PyData} {r n:Nat},runL ls r = some n ↔ ls = (List.range' r ls.length).map (fun i:Nat=>PyData.int i) /\ r + ls.length = n
 | [],r,n=>by
  show some r = some n ↔ _
  simp
 | .int i :: ls,r,n=>by
  show (if i = (r:Int) then runL ls (r + 1) else none) = some n ↔ _
  by_cases h:i = r
  ·subst h
   rw [if_pos rfl,qa (ls:=ls)]
   show _ ↔ PyData.int r :: ls = (List.range' r (ls.length + 1)).map _ /\ r + (ls.length + 1) = n
   rw [List.range'_succ,List.map_cons]
   constructor
   ·rintro ⟨a,b⟩; exact ⟨by rw [← a],by omega⟩
   ·rintro ⟨a,b⟩; exact ⟨(List.cons.inj a).2,by omega⟩
  ·rw [if_neg h]
   constructor
   ·intro z; cases z
   ·rintro ⟨a,_⟩
    exfalso
    have a':PyData.int i :: ls = (List.range' r (ls.length + 1)).map _:=a
    rw [List.range'_succ,List.map_cons] at a'
    have:=(List.cons.inj a').1
    injection this with e
    exact h e
 | .none :: ls,r,n=>runL_no rfl
 | .bool _ :: ls,r,n=>runL_no rfl
 | .str _ :: ls,r,n=>runL_no rfl
 | .list _ :: ls,r,n=>runL_no rfl
 | .tuple _ :: ls,r,n=>runL_no rfl
 | .dict _ :: ls,r,n=>runL_no rfl
where
 runL_no {d:PyData} {ls:List PyData} {r n:Nat} (h:zx d = false):runL (d :: ls) r = some n ↔ d :: ls = (List.range' r (d :: ls).length).map (fun i:Nat=>PyData.int i) /\ r + (d :: ls).length = n:=by
  rw [u7 h]
  constructor
  ·intro z; cases z
  ·rintro ⟨a,_⟩
   exfalso
   have a':d :: ls = (List.range' r (ls.length + 1)).map _:=a
   rw [List.range'_succ,List.map_cons] at a'
   rw [(List.cons.inj a').1] at h
   cases h
theorem qb:∀ {ls:List PyData},(ls.all zx) = true -> ∃ is:List Int,ls = is.map PyData.int
 | [],_=>⟨[],rfl⟩
 | d :: ls,h=>by
  obtain ⟨h1,h2⟩:=Bool.and_eq_true_iff.mp (show (zx d && ls.all zx) = true from h)
  obtain ⟨is,rfl⟩:=qb h2
  cases d with
  | int i=>exact ⟨i :: is,rfl⟩
  | _=>cases h1
theorem qc:∀ {ls:List PyData} {r n:Nat},(ls.all zx) = false -> runL ls r ≠ some n
 | [],_,_,h=>by cases h
 | d :: ls,r,n,h=>by
  cases hw:zx d with
  | false=>rw [u7 hw]; exact (fun z=>nomatch z)
  | true =>
   have h2:ls.all zx = false:=by
    have:(zx d && ls.all zx) = false:=h
    rw [hw] at this; exact this
   cases d with
   | int i =>
    show (if i = (r:Int) then runL ls (r + 1) else none) ≠ some n
    split
    ·exact qc h2
    ·exact (fun z=>nomatch z)
   | _=>cases hw
def uD (K:FG7):Sp:=sp1 fun x H Q=>∃ a,x = .ref a /\ Pot H a /\ ∀ H',Grow [a] H H' -> Pot H' a -> Q (.bl true) H'
theorem vW {K:FG7} {m:List Addr} {H:Hp}:∀ {t:Tr} {x:V},xu K H x t -> Od K m H x (trD t)
 | .leaf n,x,h=>by
  cases (show x = V.int n from h)
  exact .int n
 | .node l r,x,h=>by
  obtain ⟨a,xl,xr,e,hs,h1,h2⟩:=h
  subst e
  exact .tup hs (.cons (vW h1) (.cons (vW h2) .nil))
theorem qd {K:FG7} {m:List Addr} {H:Hp}:∀ {is:List Int} {xs:List V},Ods K m H xs (is.map PyData.int) -> xs = is.map V.int
 | [],_,.nil=>rfl
 | a :: r,_,.cons h t=>by rw [h.inv_int,qd t]; rfl
def okC (d:PyData):Bool:=leD (10 ^ 30) d && decide (d.depth <= 2) && decide (wtO d <= 20000)
theorem YC {d:PyData} (h:okC d = true) (n k w:Nat):GdD (n + 1) (k + 3) (w + 30000) d:=by
 unfold okC at h
 simp only [Bool.and_eq_true,decide_eq_true_eq] at h
 exact ⟨leD_mono (by omega) h.1.1,by omega,by omega⟩
def L25a:List PyData:=[.none,.bool true,.bool false,.str "0",.str "",.tuple [],.tuple [.int 0],.list [],.dict [],.int (-1),.int 0,.int 1,.int 15,.int 16,.int 17,.int (10 ^ (29:Int).toNat),.int (-(10 ^ (29:Int).toNat)),.tuple [.int 0,.none,.none]]
theorem Xb:L25a.all okC = true:=by decide +kernel
def L25b:List PyData:=[.tuple [.int 1,.int 2,.int 2],.tuple [.int 0,.int 2,.int 2],.tuple [.int 0,.int 3,.int 2],.tuple [.int 0,.int 0,.tuple [.int 0,.none,.none]]]
theorem Xc:L25b.all okC = true:=by decide +kernel
theorem Z9 {s:String} {c:Nat} (h:c ∈ (Str.ofString s).cps.toList):c < 16 ^ 8:=by
 have h':c ∈ cpsOfBytes 0 0 s.toByteArray.data.toList:=by
  unfold Str.ofString at h
  simpa using h
 rw [cpsOfBytes_string] at h'
 obtain ⟨a,_,rfl⟩:=List.mem_map.mp h'
 exact a.val.toNat_lt
theorem sZ {i:Int} (h:i.natAbs.log2 < 1920):wtO (.str (toString i)) <= 20000:=by
 have h1:=int_text_len_1921 h
 have h2:(reprText ((toString i:String):Str)).length <= 10 * ((toString i:String):Str).length + 2:=PySem.StrLaws.reprText_len _ fun c hc=>Z9 hc
 show (reprText ((toString i:String):Str)).length <= 20000
 omega
theorem Ya {ds:List PyData} (t:Nat):wtOs (ds.take t) + wtOs (ds.drop t) = wtOs ds:=by rw [← xk,List.take_append_drop]
theorem GdS.of {n:Nat} {ds:List PyData} (h:leDs (10 ^ 30 + n) ds = true):GdS n (PyData.depthAll ds) (wtOs ds) ds:=⟨h,Nat.le_refl _,Nat.le_refl _⟩
theorem GdS.exact {n k w:Nat} {ds:List PyData} (h:GdS n k w ds):GdS n k (wtOs ds) ds:=⟨h.le,h.dp,Nat.le_refl _⟩
theorem GdS.take {n k w:Nat} {ds:List PyData} (h:GdS n k w ds) (t:Nat):GdS n k (wtOs (ds.take t)) (ds.take t):=(h.sub (fun x hx=>List.mem_of_mem_take hx) (wv t)).exact
theorem GdS.drop {n k w:Nat} {ds:List PyData} (h:GdS n k w ds) (t:Nat):GdS n k (wtOs (ds.drop t)) (ds.drop t):=(h.sub (fun x hx=>List.mem_of_mem_drop hx) (ww t)).exact
theorem sg {ds:List PyData} {t:Nat} {e:PyData} (h:ds[t]? = some e):wtOs (ds.drop t) = wtO e + 2 + wtOs (ds.drop (t + 1)):=by
 obtain ⟨ht,rfl⟩:=List.getElem?_eq_some_iff.mp h
 rw [List.drop_eq_getElem_cons ht]; rfl
def trB:Tr -> Prop
 | .leaf n=>0 <= n /\ n <= 1000
 | .node l r=>trB l /\ trB r
theorem Xd:∀ {t:Tr},trB t -> GdD 0 t.ht (1928 * t.wt) (trD t)
 | .leaf n,h=>(xv (n:=0) (by have:=h.1; omega) (by have:=h.2; omega)).mono (Nat.le_refl _) (Nat.le_refl _) (by show 1921 <= 1928 * 1; decide)
 | .node l r,h=>by
  have a:=(Xd h.1).mono (Nat.le_refl _) (show l.ht <= max l.ht r.ht by omega) (Nat.le_refl _)
  have b:=(Xd h.2).mono (Nat.le_refl _) (show r.ht <= max l.ht r.ht by omega) (Nat.le_refl _)
  exact ((a.one.append b.one).tup).mono (Nat.le_refl _) (Nat.le_refl _) (by show 1928 * l.wt + 2 + (1928 * r.wt + 2) + 3 <= 1928 * (l.wt + r.wt + 1); omega)
def Xe (K:FG7):List V -> Hp -> VK -> Prop:=fun xs H Q=>∃ (a C t:Addr) (cs:List Addr),xs = [.ref a,.ref t] /\ H a = some (ExO a C) /\ SqT K H t (cs.map V.ref) /\ ExcK K C /\ (∀ c ∈ cs,PySem.W.kitOne K (.ref C) (.ref c) = some false) /\ Q (.bl false) H
theorem YD {K:FG7} {t:Value}:∀ {cs:List Addr} {us:List Value},Vals (cs.map V.ref) us -> (∀ c ∈ cs,PySem.W.kitOne K t (.ref c) = some false) -> PySem.W.kitAny K t us = some false
 | [],_,.nil,_=>rfl
 | c :: cs,u :: us,.cons r rr,h=>by
  cases (show u = Value.ref c from r)
  unfold PySem.W.kitAny
  rw [h c (List.mem_cons_self ..)]
  exact YD rr fun x hx=>h x (List.mem_cons_of_mem _ hx)
theorem rc {X:Cx} {K:FG7} (hK:X.K = K):xU X (.builtin "isinstance") (Xe K):=by
 subst hK
 intro pins s σ H xs us Q I r h
 obtain ⟨a,C,t,cs,rfl,hH,ht,F,e,q⟩:=h
 obtain ⟨u,w',rfl,rx,ry⟩:=qz r
 cases (show u = Value.ref a from rx)
 cases (show w' = Value.ref t from ry)
 obtain ⟨its,rr,⟨⟨oc,od,odat,osl⟩,ho,hc,n,hd⟩,_⟩:=I.tuple ht
 cases hc
 cases hd
 exact PySem.W.kia_tup (rW F) I.kIn (ExO.cl (I.hok a _ hH).1) ho (YD rr e) (fun z=>nomatch z) fun tk=>⟨.bl false,H,I.tok _,rfl,q⟩
theorem y7 {n:Nat} (h:n <= 16000000):n < sizeLine:=Nat.lt_of_le_of_lt h (by decide)
theorem GdD.showsW {n k w:Nat} {d:PyData} (h:GdD n k w d) (hn:n <= 1000000) (hk:k <= 60) (hw:w <= 16000000):d.showable = true /\ d.depth <= 60 /\ d.shown.length <= sizeLine:=by
 have s:=showable_le (X4 hn) h.le
 refine ⟨s,Nat.le_trans h.dp hk,?_⟩
 have:=shown_le s
 have:=h.wt
 have:(16000000:Nat) <= sizeLine:=by decide
 omega
def wO (n:Nat):PyData -> Bool
 | .tuple ds=>ds.all (askP n)
 | _=>false
theorem qg {n:Nat} {d:PyData} (h:uf d = false):wO n d = false:=by cases d <;> first | rfl | cases h
theorem u8 {K:FG7} {m:List Addr} {H:Hp} (o:Option Int):Od K m H (ov o) (oD o):=by cases o; exact .non; exact .int _
theorem Yb {K:FG7} {m:List Addr} {H:Hp} {x:V} {k:Ask} (h:sQ K H x k):Od K m H x (askD k):=by
 obtain ⟨r,rd,rfl,h1,h2⟩:=h
 exact .tup h1 (.cons (.int _) (.cons (.int _) (.cons (.tup h2 (.cons (.int _) (.cons (u8 _) (.cons (u8 _) .nil)))) .nil)))
theorem uE {K:FG7} {m:List Addr} {H:Hp}:∀ {xs:List V} {ks:List Ask},AllA K H xs ks -> Ods K m H xs (ks.map askD)
 | [],[],_=>.nil
 | _ :: _,_ :: _,⟨h,t⟩=>.cons (Yb h) (uE t)
 | [],_ :: _,h=>h.elim
 | _ :: _,[],h=>h.elim
theorem Zo {K:FG7} {m:List Addr} {H:Hp} {x:V} {ks:List Ask} (h:vL K H x ks):Od K m H x (jP ks):=by
 obtain ⟨r,xs,rfl,h1,h2⟩:=h
 exact .tup h1 (uE h2)
theorem qX {K:FG7} {m:List Addr} {H:Hp} {x:V} {b:List Int} (h:yh K H x b):Od K m H x (.tuple (b.map PyData.int)):=by
 obtain ⟨r,rfl,h1⟩:=h
 exact .tup h1 uC
theorem u9 {o:Option Int} (ho:∀ l,o = some l -> Sm l):GdD 0 0 1921 (oD o):=by
 cases o with
 | none=>exact ⟨rfl,Nat.le_refl _,by decide⟩
 | some i=>have:=ho i rfl; exact xv (by have:=this.1; omega) (by have:=this.2; omega)
theorem Yc {n:Nat} {k:Ask} (n16:n <= 16) (h:ub n k) (hs:k.deed.Sm):GdD 0 2 9630 (askD k):=by
 obtain ⟨h1,h2,h3,h4,h5⟩:=h
 obtain ⟨s1,s2,s3⟩:=hs
 have s1:Sm k.deed.add:=s1
 have gd:GdD 0 1 5772 (vM k.deed):=(((xv (n:=0) (i:=k.deed.add) (by have:=s1.1; omega) (by have:=s1.2; omega)).one.append ((u9 s2).one.append (u9 s3).one)).tup).mono (Nat.le_refl _) (Nat.le_refl _) (by decide)
 have g1:GdD 0 1 1921 (.int k.hand):=(xv (n:=0) (by omega) (by omega)).mono (Nat.le_refl _) (by decide) (Nat.le_refl _)
 have g2:GdD 0 1 1921 (.int k.box):=(xv (n:=0) (by omega) (by omega)).mono (Nat.le_refl _) (by decide) (Nat.le_refl _)
 exact ((g1.one.append (g2.one.append gd.one)).tup).mono (Nat.le_refl _) (Nat.le_refl _) (by decide)
theorem xD {n k w:Nat}:∀ {ds:List PyData},(∀ d ∈ ds,GdD n k w d) -> GdS n k (ds.length * (w + 2)) ds
 | [],_=>⟨rfl,Nat.zero_le _,Nat.zero_le _⟩
 | d :: ds,h=>((h d (by simp)).one.append (xD fun x hx=>h x (by simp [hx]))).mono (Nat.le_refl _) (Nat.le_refl _) (by rw [List.length_cons,Nat.add_mul]; omega)
theorem Zp {n:Nat} {ks:List Ask} (n16:n <= 16) (h40:ks.length <= 41) (h:∀ k ∈ ks,ub n k /\ k.deed.Sm):GdD 0 3 400000 (jP ks):=by
 have g:=xD (n:=0) (k:=2) (w:=9630) (ds:=ks.map askD) fun d hd=>by
  obtain ⟨k,hk,rfl⟩:=List.mem_map.mp hd
  exact Yc n16 (h k hk).1 (h k hk).2
 rw [List.length_map] at g
 have m:ks.length * (9630 + 2) <= 41 * (9630 + 2):=Nat.mul_le_mul_right _ h40
 exact g.tup.mono (Nat.le_refl _) (Nat.le_refl _) (by omega)
theorem qY {b:List Int} (b16:b.length <= 16) (h:InB (10 ^ 30) b):GdD 0 3 400000 (.tuple (b.map PyData.int)):=by
 have g:=xD (n:=0) (k:=0) (w:=1921) (ds:=b.map PyData.int) fun d hd=>by
  obtain ⟨v,hv,rfl⟩:=List.mem_map.mp hd
  have:=h v hv
  exact xv (by omega) (by omega)
 rw [List.length_map] at g
 have m:b.length * (1921 + 2) <= 16 * (1921 + 2):=Nat.mul_le_mul_right _ b16
 exact g.tup.mono (Nat.le_refl _) (by omega) (by omega)
def yK (K:FG7):Sp:=sp1 fun x H Q=>∃ d m,Od K m H x d /\ lenD d <= 8000000 /\ ∀ H',Grow [] H H' -> Q (.bl (yc d)) H'
def yU (A:Addr) (K:FG7):Sp:=spX1 fun x H Q E=>∃ d m,Od K m H x d /\ lenD d <= 8000000 /\ if yc d = true then ∀ H',Grow [] H H' -> Q .non H' else ∀ e H',Grow [] H H' -> E (.ref e) (some A) H'
def xo (A:Addr) (K:FG7):Sp:=spX2 fun x y H Q E=>∃ (db dc:PyData) (m:List Addr),Od K m H x db /\ Od K m H y dc /\ lenD db <= 8000000 /\ lenD dc <= 8000000 ∧
 if yc db = true then ∀ H',Grow [] H H' -> Q (.bl (wO (lenD db) dc)) H' else ∀ e H',Grow [] H H' -> E (.ref e) (some A) H'
def sh (K:FG7):Sp:=sp2 fun x y H Q=>∃ b d m,yh K H x b /\ Od K m H y d /\ lenD d <= 8000000 /\ ∀ H',Grow [] H H' -> Q (.bl (wO b.length d)) H'
def wZ (K:FG7):Sp:=sp2 fun x y H Q=>∃ b d m,yh K H x b /\ Od K m H y d /\ ∀ H',Grow [] H H' -> Q (.bl (askP b.length d)) H'
section
variable {prog:Program} {w:World} {A:Around} {E:VS7} {s:Shared}
theorem vX {it t:Addr} {items:Array Value} (hne:t ≠ it):∀ (n i:Nat) (s:Shared) (Q:List Value -> Shared -> Prop),s.heap.IsListIter it t i -> s.heap.IsList t items -> i + n <= items.size →
  (∀ h',h'.IsListIter it t (i + n) -> Heap.SameBut it s.heap h' -> Q ((items.toList.drop i).take n) { s with heap:=h' }) -> wpAny (model prog w) A (draw (.ref it) n) Q E s
 | 0,i,s,Q,hit,_,_,hQ=>by
  show wpAny _ _ (pure []) Q E s
  exact wpAny_pure (by simpa using hQ s.heap hit (Heap.SameBut.refl ..))
 | n + 1,i,s,Q,hit,ht,hle,hQ=>by
  have hlt:i < items.size:=by omega
  show wpAny _ _ (pyNext (.ref it) >>= _) Q E s
  refine wpAny_bind (wpAny_pyNext_list_item hit ht (x:=items[i]) (by simp [hlt]) fun h₁ hit₁ hs₁=>?_)
  refine wpAny_bind (wpAny_holding (vX hne n (i + 1) _ _ hit₁ (ht.extBut hs₁.extBut hne) (by omega) fun h₂ hit₂ hs₂=>wpAny_pure ?_))
  have hd:items.toList.drop i = items[i] :: items.toList.drop (i + 1):=by simp [List.drop_eq_getElem_cons,hlt]
  have:=hQ h₂ (by rw [show i + (n + 1) = i + 1 + n by omega]; exact hit₂) (hs₁.trans hs₂)
  rw [hd,List.take_succ_cons] at this
  exact this
theorem wz {t:Addr} {items:Array Value} {Q:List Value -> Shared -> Prop} (hh:A.handled = none) (ht:s.heap.IsList t items)
  (hQ:∀ h',Heap.ExtBut s.heap.objs.size s.heap h' -> Q items.toList { s with heap:=h' }):wpAny (model prog w) A (unpackItems (.ref t) items.size none) Q E s:=by
 have hlt:t ≠ s.heap.objs.size:=by obtain ⟨o,ho,_⟩:=ht; exact Nat.ne_of_lt (Heap.lt_size ho)
 unfold unpackItems
 refine wpAny_bind ?_
 ·unfold notIterableAtAll
  refine wpAny_bind (wpAny_specialOf ht.typeIs F.slot_list_iter.lookup ?_)
  refine wpAny_pure ?_
  simp only [Bool.false_eq_true,if_false]
  refine wpAny_bind (wpAny_holding (wpAny_pyIter_list ht ?_))
  refine wpAny_bind (wpAny_holding (vX hlt items.size 0 _ _ ⟨_,Heap.get?_push_size _ rfl,rfl,rfl⟩ (ht.push _) (by omega) fun h₁ hit₁ hs₁=>?_))
  have hall:List.take items.size (List.drop 0 items.toList) = items.toList:=by
   rw [List.drop_zero]; exact List.take_of_length_le (by simp)
  rw [hall]
  rw [if_neg (by simp)]
  have ht₁:h₁.IsList t items:=(ht.push _).extBut hs₁.extBut hlt
  refine wpAny_bind (wpAny_holding (wpAny_pyNext_list_end hh hit₁ ht₁ (by simp) fun h₂ he₂=>?_))
  simp only [Option.isSome_none,Bool.false_eq_true,if_false]
  refine wpAny_pure (hQ h₂ fun b o hb e=>he₂ b o hb (hs₁.extBut b o hb (Heap.get?_push_of_some _ e)))
theorem wf {env:Env} {elts:List Expr} {x1} {pos:Pos} {t:Addr} {items:Array Value} {Q:Unit -> Shared -> Prop} (hh:A.handled = none) (ht:s.heap.IsList t items)
  (hn:(assignEach elts env).length = items.size) (hstar:(assignEach elts env).findIdx? (·.1) = none)
  (h:∀ h',Heap.ExtBut s.heap.objs.size s.heap h' -> wpAny (model prog w) A (assignInOrder ((assignEach elts env).map (·.2)) items.toList) Q E { s with heap:=h' }) :
  wpAny (model prog w) A (assign (.Tuple elts x1 pos) env (.ref t)) Q E s:=by
 rw [assign_Tuple]
 refine wpAny_bind (wpAny_standAt ?_)
 unfold unpack
 rw [hn,hstar]
 exact wpAny_bind (wpAny_holding (wz hh ht h))
end
section
variable {X:Cx} {pos:Pos}
def X5 (K:FG7) (n:Nat) (t:TGs):TG:=fun v σ H Q=>∃ a xs,v = .ref a /\ SqL K H a xs /\ xs.length = n /\ t xs σ H Q
theorem qh {es:List Expr} {k:Nat} {t:TGs} {n:Nat} (hc:X.calm = true) (h:PGs X es t)
  (hn:(assignEach es X.env).length = n:=by rfl) (hst:(assignEach es X.env).findIdx? (·.1) = none:=by rfl):PG X (.Tuple es k pos) (X5 X.K n t):=by
 intro pins s σ H v u Q I r hw
 obtain ⟨a,xs,e1,hq,hl,hw⟩:=hw
 subst e1
 cases r
 obtain ⟨its,rv,ht,hz⟩:=I.list hq
 refine wf (I.ok.hd hc) ht.isList (by simp [hn,← hl,rv.length]) hst fun h' hx=>?_
 have I1:Inv X pins σ H { s with heap:=h' }:=I.kept (t':=s.toks) fun b o e=>hx b o (Nat.ne_of_lt (Heap.lt_size e)) e
 exact h pins _ σ H xs _ Q I1 (by simpa using rv) hw
end
def Fs2a (A1:Addr) (s1:Sp) (A2:Addr) (s2:Sp):Addr -> Sp -> Prop:=fun f sp=>(f = A1 /\ sp = s1) \/ (f = A2 /\ sp = s2)
def Fs3a (A1:Addr) (s1:Sp) (A2:Addr) (s2:Sp) (A3:Addr) (s3:Sp):Addr -> Sp -> Prop:=fun f sp=>(f = A1 /\ sp = s1) \/ (f = A2 /\ sp = s2) \/ (f = A3 /\ sp = s3)
def X6 (ta:TE) (Fs:Addr -> Sp -> Prop) (E:XK) (t:TA):TE:=fun σ H Q=>ta σ H fun x H1=>∃ f sp,x = .ref f /\ Fs f sp /\ t σ H1 fun vs H2=>sp (vs ++ []) H2 Q E
section
variable {P:Program} {w:World} {K:FG7} {mg:Str -> Option Value} {base:Heap} {k:Nat} {A1 A2 A3:Addr} {x1 x2 x3:Str} {ps1 ps2 ps3:List Str} {s1 s2 s3:Sp}
theorem fs1a (c1:zu P w K mg base k x1 ps1 s1) (v1:mg x1 = some (.ref A1)):∃ (fd:FuncData) (ps:List Str),FnOk P w K mg base (CX1 P w) k A1 fd ps s1 /\ xV K fd ps [] /\ PySem.W.keepIn K (.ref A1) = true:=by
 obtain ⟨f,fd,F,b,kp,m⟩:=c1
 rw [v1] at m
 cases m
 exact ⟨fd,_,F,b,kp⟩
theorem fs2a (c1:zu P w K mg base k x1 ps1 s1) (v1:mg x1 = some (.ref A1)) (c2:zu P w K mg base k x2 ps2 s2) (v2:mg x2 = some (.ref A2)) :
  ∀ f sp,Fs2a A1 s1 A2 s2 f sp -> ∃ (fd:FuncData) (ps:List Str),FnOk P w K mg base (CX1 P w) k f fd ps sp /\ xV K fd ps [] /\ PySem.W.keepIn K (.ref f) = true:=by
 rintro f sp (⟨rfl,rfl⟩ | ⟨rfl,rfl⟩)
 ·exact fs1a c1 v1
 ·exact fs1a c2 v2
theorem fs3a (c1:zu P w K mg base k x1 ps1 s1) (v1:mg x1 = some (.ref A1)) (c2:zu P w K mg base k x2 ps2 s2) (v2:mg x2 = some (.ref A2)) (c3:zu P w K mg base k x3 ps3 s3) (v3:mg x3 = some (.ref A3)) :
  ∀ f sp,Fs3a A1 s1 A2 s2 A3 s3 f sp -> ∃ (fd:FuncData) (ps:List Str),FnOk P w K mg base (CX1 P w) k f fd ps sp /\ xV K fd ps [] /\ PySem.W.keepIn K (.ref f) = true:=by
 rintro f sp (⟨rfl,rfl⟩ | ⟨rfl,rfl⟩ | ⟨rfl,rfl⟩)
 ·exact fs1a c1 v1
 ·exact fs1a c2 v2
 ·exact fs1a c3 v3
end
theorem si {env:Env} (o i:Expr) (p:Pos) (args:List Expr) (kw:List Keyword) (pos:Pos):eval (.Call (.Subscript o i p) args kw pos) env = (do let f ← eval (.Subscript o i p) env; callWith pos f [] (backTo pos (starEach args env)) (backToKw pos (keywordEach kw env))):=by rfl
section
variable {X:Cx} {k:Nat} {o i:Expr} {e:Expr} {es:List Expr} {ta:TE} {t:TA} {pos p:Pos} {E:XK} {Fs:Addr -> Sp -> Prop}
theorem qi (hF:∀ f sp,Fs f sp -> ∃ (fd:FuncData) (ps:List Str),FnOk X.prog X.w X.K X.mg X.base (CX1 X.prog X.w) k f fd ps sp /\ xV X.K fd ps [] /\ PySem.W.keepIn X.K (.ref f) = true)
  (hx:vD (CX1 X.prog X.w) X E) (hr:Room k X.A) (hn:PE X (.Subscript o i p) ta)
  (ha:PA X (e :: es) t) (he:starEach (e :: es) X.env = (false,eval e X.env) :: starEach es X.env:=by rfl) (hpl:(backTo pos (starEach es X.env)).any (·.1) = false:=by rfl) :
  PE X (.Call (.Subscript o i p) (e :: es) [] pos) (X6 ta Fs E t):=by
 intro pins s σ H Q I h
 rw [si]
 refine wpAny_bind (thn (hn pins s σ H _ I h) fun u s1 ⟨v,H1,I1,r,f,sp,ev,hf,q⟩=>?_)
 subst ev
 cases (show u = Value.ref f from r)
 obtain ⟨fd,ps,F,b,kp⟩:=hF f sp hf
 refine PySem.W.callWith_K (h₀:=X.base) I1.ok.mod.kin kp (thn (ha pos pins s1 σ H1 _ I1 q) fun us s2 ⟨vs,H2,I2,r2,q2⟩=>⟨I2.kIn,?_⟩) he hpl
 exact Ym F hr b .nil hx I2 r2 q2
end
theorem re {X:Cx} {K:FG7} (hK:X.K = K):MtR X "list.count" (fun x vs H Q=>∃ (l:Addr) (bs:List Bool),x = .ref l /\ vs = [.bl true] /\ SqL K H l (bs.map V.bl) /\ Q (.int ((bs.countP fun i=>i == true:Nat):Int)) H):=by
 subst hK
 intro pins s σ H x vs v us Q I rx rv h
 obtain ⟨l,bs,rfl,rfl,hq,q⟩:=h
 cases rx
 obtain ⟨u,rfl,ru⟩:=wI rv
 obtain rfl:u = .bool true:=ru
 obtain ⟨its,r,⟨o,n,ho,hc,hdi,hd⟩,hz⟩:=I.list hq
 obtain ⟨oc,od,oda,osl⟩:=o
 cases hc
 cases hd
 have key:∀ {ms:List Bool} {ws:List Value},Vals (ms.map V.bl) ws -> (ws.countP fun v=>match v with | .bool a=>a == true | _=>false) = ms.countP fun i=>i == true:=by
  intro ms
  induction ms with
  | nil=>intro ws r; cases r; rfl
  | cons a ms ih =>
   intro ws r
   cases r with
   | cons r1 r2 =>
    cases r1
    rw [List.countP_cons,List.countP_cons,ih r2]
 refine call_meets F.slot_list_count ⟨_,ho,rfl⟩ F.entry_list_count (F.args_list_count_2 _ _)
  (SeqAt.list_countAt l its.toArray n od osl (.bool true) (fun v=>match v with | .bool a=>a == true | _=>false)) ⟨ho,fun y hy=>?_,?_⟩
 ·obtain ⟨m,hm,rfl⟩:=List.getElem_of_mem (by simpa using hy:y ∈ its)
  have hm':m < bs.length:=by have:=r.length; rw [List.length_map] at this; omega
  have e1:(bs.map V.bl)[m]? = some (.bl bs[m]):=by rw [List.getElem?_map,List.getElem?_eq_getElem hm']; rfl
  obtain ⟨u,hu,ru⟩:=r.get e1
  obtain rfl:u = .bool bs[m]:=ru
  rw [List.getElem?_eq_getElem hm] at hu
  rw [Option.some.inj hu]
  exact SeqAt.EqAt.bool_bool _ _
 ·have:its.toArray.toList = its:=List.toList_toArray
  rw [this,key r]
  exact ⟨.int _,H,I.tok _,⟨_,rfl⟩,q⟩
theorem rf {X:Cx} {K:FG7} (hK:X.K = K):MtR X "list.index" (fun x vs H Q=>∃ (l:Addr) (bs:List Bool),x = .ref l /\ vs = [.bl true] /\ SqL K H l (bs.map V.bl) /\ true ∈ bs /\ bs.length <= 1000 /\ Q (.int (bs.idxOf true:Nat)) H):=by
 subst hK
 intro pins s σ H x vs v us Q I rx rv h
 obtain ⟨l,bs,rfl,rfl,hq,hj,hl,q⟩:=h
 cases rx
 obtain ⟨u,rfl,ru⟩:=wI rv
 obtain rfl:u = .bool true:=ru
 obtain ⟨its,r,⟨o,n,ho,hc,hdi,hd⟩,hz⟩:=I.list hq
 obtain ⟨oc,od,oda,osl⟩:=o
 cases hc
 cases hd
 have hlen:=r.length
 rw [List.length_map] at hlen
 have hp:=List.idxOf_lt_length_of_mem hj
 have hjj:∀ m (hm:m < its.toArray.size),its.toArray[m] = .bool (bs.getD m false):=fun m hm=>by
  have hm':m < its.length:=by simpa using hm
  have hb:m < bs.length:=by omega
  have e1:(bs.map V.bl)[m]? = some (.bl (bs.getD m false)):=by rw [List.getElem?_map,List.getD_eq_getElem?_getD,List.getElem?_eq_getElem hb]; rfl
  obtain ⟨u,hu,ru⟩:=r.get e1
  obtain rfl:u = .bool (bs.getD m false):=ru
  rw [List.getElem?_eq_getElem hm'] at hu
  simpa using Option.some.inj hu
 have key:∀ (p:Nat),p = bs.idxOf true -> wpAny (model X.prog X.w) X.A (call (.builtin "list.index") (.ref l :: [.bool true])) (EP X pins σ Q) X.xe s:=by
  intro p hpp
  have hp':p < its.toArray.size:=by simp; omega
  refine call_meets F.slot_list_index ⟨_,ho,rfl⟩ F.entry_list_index (F.args_list_index_2 _ _)
   (SeqAt.list_indexAt l its.toArray n od osl (.bool true) (fun v=>match v with | .bool a=>a == true | _=>false) p hp' (by have:=hp'; simp at this; omega) ?_ ?_) ⟨ho,?_,?_⟩
  ·rw [hjj p hp']
   show (bs.getD p false == true) = true
   have:bs.getD p false = true:=by
    rw [hpp,List.getD_eq_getElem?_getD,List.getElem?_eq_getElem hp]
    exact List.getElem_idxOf hp
   rw [this]; rfl
  ·intro m hm hlt
   rw [hjj m hm]
   show (bs.getD m false == true) = false
   have hm':m < bs.length:=by rw [hlen]; simpa using hm
   have:=List.not_of_lt_findIdx (p:=(· == true)) (xs:=bs) (i:=m) (by rw [hpp] at hlt; exact hlt)
   rw [List.getD_eq_getElem?_getD,List.getElem?_eq_getElem hm']
   simpa using this
  ·intro y hy
   obtain ⟨m,hm,rfl⟩:=List.getElem_of_mem (by simpa using hy:y ∈ its)
   have e:=hjj m (by simpa using hm)
   have e':its[m] = .bool (bs.getD m false):=by simpa using e
   rw [e']
   exact SeqAt.EqAt.bool_bool _ _
  ·exact ⟨.int (bs.idxOf true:Nat),H,I.tok _,⟨_,by rw [hpp]⟩,q⟩
 exact key _ rfl
inductive Cl24 where
 | number | deed | board | ask | tree
def clsB (AN AD AB AA AT:Addr):Cl24 -> Addr
 | .number=>AN | .deed=>AD | .board=>AB | .ask=>AA | .tree=>AT
def xw:PyData -> Bool
 | .tuple ds=>decide (1 <= ds.length) && decide (ds.length <= 40) && ds.all yC
 | _=>false
def X7:PyData -> Nat
 | .int i=>i.toNat
 | _=>0
theorem sj {k:Nat}:X7 (.int (k:Int)) = k:=Int.toNat_natCast k
theorem Zq {d:PyData} (h:zF 1 40 d = true):∃ n:Nat,d = .int n /\ 1 <= n /\ n <= 40:=by
 obtain ⟨i,rfl,h0,h1⟩:=wM h
 exact ⟨i.toNat,by congr 1; omega,by omega,by omega⟩
def dueB (db da:PyData):Option Cl24:=if yc db = true then (if wO (lenD db) da = true then none else some .ask) else some .board
def dueF (dd dt:PyData):Option Cl24:=if xw dd = true then (if wy dt (lenD dd) = true then none else some .tree) else some .deed
def dueS (dv dd dt:PyData):Option Cl24:=if zx dv = true then dueF dd dt else some .number
def dueM (dm:PyData):Option Cl24:=if zF 1 40 dm = true then none else some .number
def WI (c:Nat) (db da dd dt dv dm:PyData):Option Cl24:=if c < 3 then dueB db da else if c = 3 then dueF dd dt else if c = 4 then dueS dv dd dt else dueM dm
def XE24 (A:Cl24 -> Addr) (due:Option Cl24) (H:Hp) (E:XK):Prop:=∀ c,due = some c -> ∀ e H',Grow [] H H' -> E (.ref e) (some (A c)) H'
def XQ24 (due:Option Cl24) (H:Hp) (Q:VK):Prop:=due = none -> ∀ r H',Grow [] H H' -> Q r H'
def Bd24 (d:PyData):Prop:=wtO d <= 840000 /\ d.depth <= 45
def rg (A:Addr) (K:FG7):Sp:=spX1 fun x H Q E=>∃ (d:PyData) (m:List Addr),Od K m H x d /\ if zx d = true then Q .non H else ∀ e,E (.ref e) (some A) H
def wA (A:Addr) (K:FG7):Sp:=spX1 fun x H Q E=>∃ (d:PyData) (m:List Addr),Od K m H x d /\ if zF 1 40 d = true then Q .non H else ∀ e,E (.ref e) (some A) H
def vp (A:Addr) (K:FG7):Sp:=spX2 fun x y H Q E=>∃ (dt dm:PyData) (m:List Addr),Od K m H x dt /\ Od K m H y dm /\ wtO dt <= 1000000 /\ (zF 1 40 dm = true -> ∀ H',Grow [] H H' -> Q (.bl (wy dt (X7 dm))) H') /\ (zF 1 40 dm = false -> ∀ e H',Grow [] H H' -> E (.ref e) (some A) H')
def qj (A:Addr) (K:FG7):Sp:=spX1 fun x H Q E=>∃ (d:PyData) (m:List Addr),Od K m H x d /\ (xw d = true -> ∀ H',Grow [] H H' -> Q .non H') /\ (xw d = false -> ∀ e H',Grow [] H H' -> E (.ref e) (some A) H')
def qk (A:Addr) (K:FG7):Sp:=spX2 fun x y H Q E=>∃ (dt:PyData) (n:Nat) (m:List Addr),Od K m H x dt /\ y = .int n /\ 1 <= n /\ n <= 40 /\ wtO dt <= 1000000 /\ (wy dt n = true -> ∀ H',Grow [] H H' -> Q .non H') /\ (wy dt n = false -> ∀ e H',Grow [] H H' -> E (.ref e) (some A) H')
def Zr (A:Cl24 -> Addr) (K:FG7):Sp:=spX2 fun x y H Q E=>∃ (dd dt:PyData) (m:List Addr),Od K m H x dd /\ Od K m H y dt /\ Bd24 dt /\ XQ24 (dueF dd dt) H Q /\ XE24 A (dueF dd dt) H E
def Zs (A:Cl24 -> Addr) (K:FG7):Sp:=spX3 fun x y z H Q E=>∃ (dd dt dv:PyData) (m:List Addr),Od K m H x dd /\ Od K m H y dt /\ Od K m H z dv /\ Bd24 dt /\ XQ24 (dueS dv dd dt) H Q /\ XE24 A (dueS dv dd dt) H E
def qZ (A:Addr) (K:FG7):Sp:=spX1 fun x H Q E=>∃ (d:PyData) (m:List Addr),Od K m H x d /\ (zF 1 40 d = true -> ∀ r H',Grow [] H H' -> Q r H') /\ (zF 1 40 d = false -> ∀ e H',Grow [] H H' -> E (.ref e) (some A) H')
def vY (A:Cl24 -> Addr) (K:FG7):Sp:=spX2 fun x y H Q E=>∃ (db da:PyData) (m:List Addr),Od K m H x db /\ Od K m H y da /\ Bd24 db /\ Bd24 da /\ (dueB db da = none -> ∀ H',Grow [] H H' -> Q .non H') /\ XE24 A (dueB db da) H E
def wB (A:Cl24 -> Addr) (K:FG7):Sp:=spX2 fun x y H Q E=>∃ (db da:PyData) (m:List Addr),Od K m H x db /\ Od K m H y da /\ Bd24 db /\ Bd24 da /\ XQ24 (dueB db da) H Q /\ XE24 A (dueB db da) H E
section
variable {K:FG7} {m:List Addr} {H:Hp}
theorem y8 {d:PyData}:lenD d <= wtO d:=by
 cases d with
 | tuple ds =>
  have h2:=vo (ds:=ds)
  show ds.length <= wtOs ds + 3
  omega
 | _=>exact Nat.zero_le _
theorem ql {x:V} {d:Deed} (o:Od K m H x (vM d)):yg K H x d:=by
 obtain ⟨rd,ys,rfl,hs3,os3⟩:=(show Od K m H _ (.tuple [.int d.add,oD d.lo,oD d.hi]) from o).inv_tup
 cases os3 with
 | cons q1 os3=>cases os3 with
  | cons q2 os3=>cases os3 with
   | cons q3 os3 =>
    cases os3
    rw [q1.inv_int,uZ q2,uZ q3] at hs3
    exact ⟨rd,rfl,hs3⟩
theorem qo:∀ {xs:List V} {ds:List PyData},Ods K m H xs ds -> ds.all yC = true -> ∃ es:List Deed,AllR (yg K H) xs es /\ es.length = ds.length /\ ZX es
 | _,_,.nil,_=>⟨[],trivial,rfl,nofun⟩
 | _,_,.cons (d:=d) (ds:=ds) o os,h=>by
  rw [List.all_cons,Bool.and_eq_true] at h
  obtain ⟨e,he,ok⟩:=sf h.1
  subst he
  obtain ⟨es,ha,hl,oks⟩:=qo os h.2
  refine ⟨e :: es,⟨ql o,ha⟩,by rw [List.length_cons,List.length_cons,hl],fun z hz=>?_⟩
  rcases List.mem_cons.mp hz with w | w
  ·rw [w]; exact ok
  ·exact oks z w
theorem rh {x:V} {d:PyData} (o:Od K m H x d) (h:xw d = true):∃ es:List Deed,wV K H x es /\ es.length = lenD d /\ 1 <= es.length /\ es.length <= 40 /\ ZX es:=by
 match d,h with
 | .tuple ds,h =>
  obtain ⟨r,xs,rfl,hs,os⟩:=o.inv_tup
  unfold xw at h
  rw [Bool.and_eq_true,Bool.and_eq_true] at h
  obtain ⟨es,ha,hl,ok⟩:=qo os h.2
  have h1:=of_decide_eq_true h.1.1
  have h2:=of_decide_eq_true h.1.2
  exact ⟨es,⟨r,xs,rfl,hs,ha⟩,hl,by omega,by omega,ok⟩
theorem WJ {n:Nat} {d:PyData} (h:askP n d = true):∃ a:Ask,d = askD a /\ ub n a:=by
 unfold askP at h
 split at h
 ·rw [Bool.and_eq_true,Bool.and_eq_true] at h
  obtain ⟨i1,e1,a1,a2⟩:=wM h.1
  obtain ⟨i2,e2,b1,b2⟩:=wM h.2.1
  obtain ⟨e,e3,ok⟩:=sf h.2.2
  subst e1 e2 e3
  exact ⟨⟨i1,i2,e⟩,rfl,a1,a2,b1,by show i2 < (n:Int); omega,ok⟩
 ·cases h
theorem Xf {x:V} {a:Ask} (o:Od K m H x (askD a)):sQ K H x a:=by
 obtain ⟨r,xs,rfl,hs,os⟩:=(show Od K m H _ (.tuple [.int a.hand,.int a.box,vM a.deed]) from o).inv_tup
 cases os with
 | cons o1 os=>cases os with
  | cons o2 os=>cases os with
   | cons o3 os =>
    cases os
    obtain ⟨rd,rfl,hd⟩:=ql o3
    rw [o1.inv_int,o2.inv_int] at hs
    exact ⟨r,rd,rfl,hs,hd⟩
theorem Zt {n:Nat}:∀ {xs:List V} {ds:List PyData},Ods K m H xs ds -> ds.all (askP n) = true -> ∃ ks:List Ask,AllA K H xs ks /\ ks.length = ds.length /\ (∀ k ∈ ks,ub n k) /\ 5765 * ks.length <= wtOs ds
 | _,_,.nil,_=>⟨[],trivial,rfl,nofun,Nat.le_refl _⟩
 | _,_,.cons (d:=d) (ds:=ds) o os,h=>by
  rw [List.all_cons,Bool.and_eq_true] at h
  obtain ⟨a,ea,ok⟩:=WJ h.1
  subst ea
  obtain ⟨ks,ha,hl,oks,hw⟩:=Zt os h.2
  refine ⟨a :: ks,⟨Xf o,ha⟩,by rw [List.length_cons,List.length_cons,hl],fun z hz=>?_,?_⟩
  ·rcases List.mem_cons.mp hz with w | w
   ·rw [w]; exact ok
   ·exact oks z w
  ·have:5763 <= wtO (askD a):=by
    show 5763 <= 1921 + 2 + (1921 + 2 + ((1921 + 2 + (wtO (oD a.deed.lo) + 2 + (wtO (oD a.deed.hi) + 2 + 0)) + 3) + 2 + 0)) + 3
    omega
   show 5765 * (ks.length + 1) <= wtO (askD a) + 2 + wtOs ds
   omega
theorem Zu {n:Nat} {x:V} {d:PyData} (o:Od K m H x d) (h:wO n d = true) (hb:Bd24 d):∃ ks:List Ask,vL K H x ks /\ ks.length <= 900 /\ ∀ k ∈ ks,ub n k:=by
 match d,h with
 | .tuple ds,h =>
  obtain ⟨r,xs,rfl,hs,os⟩:=o.inv_tup
  obtain ⟨ks,ha,hl,ok,hw⟩:=Zt os h
  have h1:wtOs ds + 3 <= 840000:=hb.1
  exact ⟨ks,⟨r,xs,rfl,hs,ha⟩,by omega,ok⟩
theorem xQ:∀ t:Tr,(t.ht:Int) < t.count
 | .leaf _=>by show (0:Int) < 1; decide
 | .node l r=>by
  have h1:=xQ l
  have h2:=xQ r
  show ((max l.ht r.ht + 1:Nat):Int) < l.count + r.count
  omega
theorem rj:∀ (N:Nat) (d:PyData),sizeOf d < N -> ∀ (f n:Nat) (rest:List PyData) (x:V),Od K m H x d -> runL (lvs d ++ rest) f = some n -> ∃ (t:Tr) (c:Nat),xu K H x t /\ Ordd t f /\ t.count = c /\ runL rest (f + c) = some n
 | 0,_,h,_,_,_,_,_,_=>absurd h (Nat.not_lt_zero _)
 | N + 1,d,hN,f,n,rest,x,o,hr=>by
  cases d with
  | int i =>
   obtain rfl:=o.inv_int
   have hr':(if i = (f:Int) then runL rest (f + 1) else none) = some n:=hr
   by_cases c:i = (f:Int)
   ·rw [if_pos c] at hr'
    exact ⟨.leaf i,1,rfl,c,rfl,hr'⟩
   ·rw [if_neg c] at hr'; cases hr'
  | tuple ds =>
   match ds,o,hr,hN with
   | [a,b],o,hr,hN =>
    rw [vn,List.append_assoc] at hr
    obtain ⟨r,xs,rfl,hs,os⟩:=o.inv_tup
    cases os with
    | cons o1 os=>cases os with
     | cons o2 os =>
      cases os
      obtain ⟨t1,c1,h1,p1,e1,r1⟩:=rj N a (by simp at hN; omega) f n _ _ o1 hr
      obtain ⟨t2,c2,h2,p2,e2,r2⟩:=rj N b (by simp at hN; omega) (f + c1) n _ _ o2 r1
      exact ⟨.node t1 t2,c1 + c2,⟨r,_,_,rfl,hs,h1,h2⟩,⟨p1,by rw [e1]; exact_mod_cast p2⟩,by show t1.count + t2.count = _; rw [e1,e2]; omega,by rw [← Nat.add_assoc]; exact r2⟩
   | [],_,hr,_=>cases hr
   | [_],_,hr,_=>cases hr
   | _ :: _ :: _ :: _,_,hr,_=>cases hr
  | _=>cases hr
theorem YE {x:V} {d:PyData} {n:Nat} (o:Od K m H x d) (h:wy d n = true) (hn:n <= 40):∃ t:Tr,xu K H x t /\ Ordd t 0 /\ t.count = n /\ t.ht < 41:=by
 have hr:=of_decide_eq_true h
 obtain ⟨t,c,h1,h2,h3,h4⟩:=rj (sizeOf d + 1) d (Nat.lt_succ_self _) 0 n [] x o (by rw [List.append_nil]; exact hr)
 have e:0 + c = n:=Option.some.inj h4
 have h5:=xQ t
 exact ⟨t,h1,h2,by omega,by omega⟩
end
def nm24:Cl24 -> Str
 | .number=>"number" | .deed=>"deed" | .board=>"board" | .ask=>"ask" | .tree=>"tree"
def Zv:Option Cl24 -> V
 | none=>.str "told"
 | some c=>.str (nm24 c)
theorem q8 (o:Option Cl24):scal (Zv o) (Zv o) = true:=by
 cases o with
 | none=>rfl
 | some c=>cases c <;> rfl
def xE (c:Nat):List PyData -> Option Cl24
 | [db,da,dd,dt,dv,dm]=>WI c db da dd dt dv dm
 | _=>none
structure Hd24 (K:FG7) (m:List Addr) (H:Hp) (l:Addr) (xs:List V) (ds:List PyData):Prop where
 sq:SqL K H l xs
 od:Ods K m H xs ds
 len:ds.length = 6
 bd:∀ d ∈ ds,Bd24 d
theorem Hd24.grow {K:FG7} {m:List Addr} {H H':Hp} {l:Addr} {xs:List V} {ds:List PyData} (h:Hd24 K m H l xs ds) (g:Grow [] H H'):Hd24 K m H' l xs ds:=⟨g.sqL h.sq,h.od.grow g.wk,h.len,h.bd⟩
theorem qp {K:FG7} {m:List Addr} {H:Hp} {xs:List V} {ds:List PyData} (h:Ods K m H xs ds) (hl:ds.length = 6):∃ x0 x1 x2 x3 x4 x5 d0 d1 d2 d3 d4 d5,xs = [x0,x1,x2,x3,x4,x5] /\ ds = [d0,d1,d2,d3,d4,d5] ∧
  Od K m H x0 d0 /\ Od K m H x1 d1 /\ Od K m H x2 d2 /\ Od K m H x3 d3 /\ Od K m H x4 d4 /\ Od K m H x5 d5:=by
 match ds,hl,h with
 | [_,_,_,_,_,_],_,.cons a (.cons b (.cons c (.cons d (.cons e (.cons f .nil)))))=>exact ⟨_,_,_,_,_,_,_,_,_,_,_,_,rfl,rfl,a,b,c,d,e,f⟩
def ye (N:Nat) (K:FG7):Sp:=sp3 fun x y z H Q=>∃ a f m,x = .ref a /\ y = .int f /\ z = .int m /\ Pot H a /\ 0 <= f /\ 1 <= m /\ m <= N /\ f + m <= 100 /\ ∀ y t H',Grow [a] H H' -> Pot H' a -> xu K H' y t -> Ordd t f -> t.count = m -> t.ht < m.toNat -> trB t -> Q y H'
theorem ug {K:FG7}:∀ vs H Q E,¬ ye 0 K vs H Q E:=by
 rintro vs H Q E ⟨x,y,z,rfl,a,f,m,_,_,_,_,_,h1,h2,_⟩
 omega
def yD (N:Nat) (K:FG7):Sp:=sp2 fun x y H Q=>∃ (d:PyData) (dp:Nat) (m:List Addr),Od K m H x d /\ y = .int dp /\ d.depth <= dp /\ d.depth < N /\ wtO d <= 1000000 /\ ∀ l xs H',H l = none -> Grow [] H H' -> H' l = some (.lst xs) -> Ods K m H' xs (lvs d) -> Q (.ref l) H'
theorem sk {K:FG7}:∀ vs H Q E,¬ yD 0 K vs H Q E:=by
 rintro vs H Q E ⟨x,y,rfl,d,dp,m,_,_,_,h,_⟩
 exact Nat.not_lt_zero _ h
def wC (K:FG7):Sp:=sp2 fun x y H Q=>∃ (d:PyData) (m:List Addr) (n:Nat),Od K m H x d /\ y = .int n /\ 1 <= n /\ n <= 40 /\ d.depth <= 60 /\ wtO d <= 1000000 /\ ∀ H',Grow [] H H' -> Q (.bl (wy d n)) H'
def wD (K:FG7):Sp:=sp1 fun x H Q=>∃ d m,Od K m H x d /\ ∀ H',Grow [] H H' -> Q (.bl (xw d)) H'
def wE (K:FG7):Sp:=sp2 fun x y H Q=>∃ (w:Nat) (l:Addr) (xs:List V) (ds:List PyData) (m:List Addr),x = .int w /\ w < 8 /\ y = .ref l /\ Hd24 K m H l xs ds /\ ∀ H',Grow [] H H' -> Q (Zv (xE w ds)) H'
theorem Grow.put24 {H0 H:Hp} {r:Addr} (g:Grow [] H0 H) (h:H0 r = none) (o:HO):Grow [] H0 (upd H r o) :=
 ⟨fun b u hb q=>by rw [zp (zq q h)]; exact g.keep b u hb q,fun b u q=>by rw [zp (zq q h)]; exact g.tup b u q,fun b u v q=>by rw [zp (zq q h)]; exact g.frz b u v q⟩
theorem sr {K:FG7} {H:Hp} {ln:Addr} {s:Str} {b:Bool} {Q:VK} (h:H ln = some (.lst [.str s,.str "told"])) (q:Q (if b = true then .str "told" else .str s) H):rIxL K (.ref ln) (.int (if b = true then 1 else 0)) H Q:=by
 cases b with
 | false=>exact ⟨ln,_,0,_,rfl,rfl,SqL.of h,zT (j:=0) rfl,q⟩
 | true=>exact ⟨ln,_,1,_,rfl,rfl,SqL.of h,zT (j:=1) rfl,q⟩
theorem Yd {w:Nat} {a b c d e f:PyData} (h:w < 3):xE w [a,b,c,d,e,f] = dueB a b:=if_pos h
theorem Ye {w:Nat} {a b c d e f:PyData} (h:4 < w):xE w [a,b,c,d,e,f] = dueM f:=by
 show (if w < 3 then dueB a b else if w = 3 then dueF c d else if w = 4 then dueS e c d else dueM f) = _
 rw [if_neg (by omega),if_neg (by omega),if_neg (by omega)]
theorem X8 {H H':Hp} {p:Addr} {m:List Addr} (g:Grow [p] H H') (pp:Pot H' p) (h:∀ b ∈ m,H b ≠ none):∀ b ∈ m,H' b ≠ none:=fun b hb z=>by
 by_cases e:b ∈ [p]
 ·exact wx pp b e z
 ·cases q:H b with
  | none=>exact h b hb q
  | some o=>rw [g.keep b o e q] at z; cases z
def wP (K:FG7):Sp:=sp2 fun x y H Q=>∃ (a:Addr) (d:PyData) (n k w:Nat) (m:List Addr),x = .ref a /\ Pot H a /\ a ∈ m /\ (∀ b ∈ m,H b ≠ none) /\ Od K m H y d /\ GdD n k w d /\ n <= 1000 /\ ∀ z d' H',Grow [a] H H' -> Pot H' a -> Od K m H' z d' -> GdD (n + 1) (k + 3) (w + 30000) d' -> Q z H'
def y9 (N:Nat) (K:FG7):Sp:=sp3 fun x y z H Q=>∃ (a:Addr) (d:PyData) (n k w dp:Nat) (m:List Addr),x = .ref a /\ z = .int dp /\ Pot H a /\ a ∈ m /\ (∀ b ∈ m,H b ≠ none) /\ Od K m H y d /\ GdD n k w d /\ n <= 1000 /\ dp < N /\ dp <= 40 /\ w <= 5000000 /\ ∀ z d' H',Grow [a] H H' -> Pot H' a -> Od K m H' z d' -> GdD (n + 1) (k + 3) (2 * w + 40000) d' -> Q z H'
theorem q9 {K:FG7}:∀ vs H Q E,¬ y9 0 K vs H Q E:=by
 rintro vs H Q E ⟨x,y,z,rfl,a,d,n,k,w,dp,m,_,_,_,_,_,_,_,_,h,_⟩
 exact Nat.not_lt_zero _ h
def qr (K:FG7) (m:List Addr) (H:Hp) (v:V) (p:PyData × Nat):Prop:=∃ t x,v = .ref t /\ SqT K H t [x,.int p.2] /\ Od K m H x p.1
theorem ss {K:FG7} {m:List Addr} {H:Hp}:∀ {xs:List V} {es:List Deed},AllR (yg K H) xs es -> Ods K m H xs (es.map vM)
 | [],[],_=>.nil
 | _ :: _,e :: _,⟨⟨r,e1,h⟩,t⟩=>by
  subst e1
  exact .cons (.tup h (.cons (.int _) (.cons (u8 _) (.cons (u8 _) .nil)))) (ss t)
 | [],_ :: _,h=>h.elim
 | _ :: _,[],h=>h.elim
theorem Zw {es:List Deed} (h40:es.length <= 40) (h:∀ e ∈ es,e.Sm):GdD 0 40 400000 (.tuple (es.map vM)):=by
 have g:=xD (n:=0) (k:=1) (w:=5772) (ds:=es.map vM) fun d hd=>by
  obtain ⟨e,he,rfl⟩:=List.mem_map.mp hd
  obtain ⟨s1,s2,s3⟩:=h e he
  have:=((xv (n:=0) (i:=e.add) (by have:=s1.1; omega) (by have:=s1.2; omega)).one.append ((u9 s2).one.append (u9 s3).one)).tup
  exact this.mono (Nat.le_refl _) (by decide) (by decide)
 rw [List.length_map] at g
 have m:es.length * (5772 + 2) <= 40 * (5772 + 2):=Nat.mul_le_mul_right _ h40
 exact g.tup.mono (Nat.le_refl _) (by omega) (by omega)
theorem wQ:∀ t:Tr,(t.wt:Int) + 1 = 2 * t.count
 | .leaf _=>rfl
 | .node l r=>by
  have h1:=wQ l
  have h2:=wQ r
  show ((l.wt + r.wt + 1:Nat):Int) + 1 = 2 * (l.count + r.count)
  omega
theorem Yf {t:Tr} (h:trB t) (hc:t.count <= 40):GdD 0 40 400000 (trD t):=by
 have g:=Xd h
 have w:=wQ t
 have d:=xQ t
 exact g.mono (Nat.le_refl _) (by omega) (by omega)
theorem Ods.less24 {K:FG7} {m m':List Addr} {H:Hp} (h:∀ b ∈ m',b ∈ m):∀ {xs:List V} {ds:List PyData},Ods K m H xs ds -> Ods K m' H xs ds
 | _,_,.nil=>.nil
 | _,_,.cons o os=>.cons (o.less h) (Ods.less24 h os)
theorem qr.grow {K:FG7} {m:List Addr} {H H':Hp} {v:V} {p:PyData × Nat} (h:qr K m H v p) (g:Grow m H H'):qr K m H' v p:=by
 obtain ⟨t,x,e,s,o⟩:=h
 exact ⟨t,x,e,g.sqT s,o.grow g⟩
end L3
namespace My
open PySem PySem.Spec PyProof.Rows L2 L3
def top (i:Nat):Stmt:=PySem.Challenge.pw_joinedasks_k24_asks_and_trees_refused.main.body.getD i (.Pass ⟨0,0,0,0⟩)
section
variable {P:Program} {w:World} {K:FG7} {mg:Str -> Option Value} {base:Heap} {n:Nat} {f:Addr} {fd:FuncData}
theorem w5:FnScope ["_law_pot_here","_law_many","_law_digit"] ["_law_pot_here","_law_many"] (zh (top 56)):=⟨rfl,rfl,rfl,by decide +kernel,rfl,by decide +kernel,by decide +kernel⟩
theorem su (F:Fun K "_law_draw" "_law_draw" (top 56) f fd) (B:Blt mg)     :
  FnOk P w K mg base CX0 (n + 1) f fd ["_law_pot_here","_law_many"] (xi K):=by
 refine F.ok w5 ym (fun cdv A outer s H vs Q E hr h=>?_)
 obtain ⟨x,y,rfl,a,m,rfl,rfl,⟨p0,p1,hp,h0⟩,hm,hm2,q⟩:=h
 refine ⟨_,(zd (zM (zw ZM (zK zU (pv 0) ze (fun _ _=>rfl)) ze (zC _)) (zd (zA (i:=2) w5.nd rfl (Or.inl rfl) (zD wn (zK zU (pv 0) ze (fun _ _=>rfl)) (pv 1))) (zd (wl (zD uJ (zK zU (pv 0) ze (fun _ _=>rfl)) (pv 1)) (rJ (pv 0) ze vi)) (zf (zm (pv 2))))) zt) (zd (wl (zD wn (zD yp (zD x9 (zK zU (pv 0) ze (fun _ _=>rfl)) ze) ze) ze) (rJ (pv 0) ze vi)) (zf (zm (zD wn (zD uJ (zD wn (zD x9 (zK zU (pv 0) ze (fun _ _=>rfl)) (zK zU (pv 0) ze (fun _ _=>rfl))) ze) ze) (pv 1)))))),?_⟩
 refine ⟨_,rfl,a,_,_,_,rfl,rfl,SqL.of hp,rfl,_,_,rfl,rfl,_,rfl,?_⟩
 refine ite2 (fun c=>?_) (fun c=>?_)
 ·refine ⟨_,rfl,a,_,_,_,rfl,rfl,SqL.of hp,rfl,_,rfl,p0,m,rfl,rfl,hm,?_⟩
  refine ⟨_,rfl,a,_,_,_,rfl,rfl,SqL.of hp,rfl,_,rfl,p0,m,rfl,rfl,⟨hm,hm2⟩,_,rfl,a,_,0,0,rfl,rfl,hp,rfl,?_⟩
  exact ⟨_,rfl,q _ _ (Int.emod_nonneg _ (by omega)) (Int.emod_lt_of_pos _ hm) (Grow.set hp (by simp) _) ⟨p0 / m,p1,zc,Int.ediv_nonneg h0 (by omega)⟩⟩
 ·refine ⟨_,rfl,a,_,_,_,rfl,rfl,SqL.of hp,rfl,p1,39373,rfl,rfl,ur ⟨by decide,by decide⟩,_,_,rfl,rfl,_,_,rfl,rfl,(by show (0:Int) < 2147483629; decide),_,rfl,a,_,1,1,rfl,rfl,hp,rfl,?_⟩
  have b0:0 <= (p1 * 39373 + 7919) % 2147483629:=Int.emod_nonneg _ (by decide)
  have b1:(p1 * 39373 + 7919) % 2147483629 < 2147483629:=Int.emod_lt_of_pos _ (by decide)
  refine ⟨_,rfl,a,_,_,_,rfl,rfl,SqL.of zc,rfl,_,rfl,a,_,_,_,rfl,rfl,SqL.of zc,rfl,(p1 * 39373 + 7919) % 2147483629,(p1 * 39373 + 7919) % 2147483629,rfl,rfl,ur ⟨by omega,by omega⟩,_,_,rfl,rfl,(by show (0:Int) < 2147483563; decide),_,_,rfl,rfl,⟨by decide,by decide⟩,_,rfl,_,_,rfl,rfl,hm,?_⟩
  exact q _ _ (Int.emod_nonneg _ (by omega)) (Int.emod_lt_of_pos _ hm) (Grow.set hp (by simp) _) ⟨p0,(p1 * 39373 + 7919) % 2147483629,zc,h0⟩
theorem wg:FnScope ["deed","value","add","low","high","result"] ["deed","value"] (zh (top 26)):=⟨rfl,rfl,rfl,by decide +kernel,rfl,by decide +kernel,by decide +kernel⟩
theorem Xg (F:Fun K "made" "made" (top 26) f fd) (B:Blt mg)     :
  FnOk P w K mg base CX0 (n + 1) f fd ["deed","value"] (uK K):=by
 refine F.ok wg ym (fun cdv A outer s H vs Q E hr h=>?_)
 obtain ⟨x,y,rfl,d,v,⟨a,rfl,hs⟩,rfl,q⟩:=h
 refine ⟨_,(zd (wl (pv 0) (vw rfl (zz (zr (i:=2) wg.nd rfl (Or.inl rfl)) (zz (zr (i:=3) wg.nd rfl (Or.inl rfl)) (zz (zr (i:=4) wg.nd rfl (Or.inl rfl)) xg))))) (zd (zA (i:=5) wg.nd rfl (Or.inl rfl) (zD yp (pv 1) (pv 2))) (zd (zM (PW.pt (xA (vt (sL (pv 3))) (xz (zw ZM (pv 3) (pv 5) (zC _))))) (zf (zA (i:=5) wg.nd rfl (Or.inl rfl) (pv 3))) zt) (zd (zM (PW.pt (xA (vt (sL (pv 4))) (xz (zw vz (pv 4) (pv 5) (zC _))))) (zf (zA (i:=5) wg.nd rfl (Or.inl rfl) (pv 4))) zt) (zf (zm (pv 5))))))),?_⟩
 obtain ⟨ad,lo,hi⟩:=d
 refine ⟨_,rfl,a,_,rfl,hs,rfl,_,_,rfl,_,_,rfl,_,_,rfl,rfl,?_⟩
 refine ⟨_,rfl,_,rfl,_,_,rfl,rfl,?_⟩
 cases lo with
 | none =>
  refine ⟨_,rfl,_,rfl,iteF (iteF ?_)⟩
  cases hi with
  | none=>exact ⟨_,rfl,_,rfl,iteF (iteF ⟨_,rfl,q⟩)⟩
  | some u =>
   refine ⟨_,rfl,_,rfl,iteT ⟨_,rfl,_,rfl,_,_,rfl,rfl,_,rfl,?_⟩⟩
   have q':Q (.int (if u < v + ad then u else v + ad)) H:=q
   refine ite2 (fun c=>?_) (fun c=>?_)
   ·have c':u < v + ad:=of_decide_eq_true c
    rw [if_pos c'] at q'
    exact ⟨_,rfl,_,rfl,q'⟩
   ·have c':¬ u < v + ad:=fun z=>c (decide_eq_true z)
    rw [if_neg c'] at q'
    exact ⟨_,rfl,q'⟩
 | some l =>
  refine ⟨_,rfl,_,rfl,iteT ⟨_,rfl,_,rfl,_,_,rfl,rfl,_,rfl,?_⟩⟩
  have q0:Q (.int (jF hi (if l > v + ad then l else v + ad))) H:=q
  clear q
  refine ite2 (fun c=>?_) (fun c=>?_)
  ·have c':l > v + ad:=of_decide_eq_true c
   rw [if_pos c'] at q0
   have q:=q0
   refine ⟨_,rfl,?_⟩
   cases hi with
   | none=>exact ⟨_,rfl,_,rfl,iteF (iteF ⟨_,rfl,q⟩)⟩
   | some u =>
    refine ⟨_,rfl,_,rfl,iteT ⟨_,rfl,_,rfl,_,_,rfl,rfl,_,rfl,?_⟩⟩
    have q':Q (.int (if u < l then u else l)) H:=q
    refine ite2 (fun c=>?_) (fun c=>?_)
    ·have c':u < l:=of_decide_eq_true c
     rw [if_pos c'] at q'
     exact ⟨_,rfl,_,rfl,q'⟩
    ·have c':¬ u < l:=fun z=>c (decide_eq_true z)
     rw [if_neg c'] at q'
     exact ⟨_,rfl,q'⟩
  ·have c':¬ l > v + ad:=fun z=>c (decide_eq_true z)
   rw [if_neg c'] at q0
   have q:=q0
   cases hi with
   | none=>exact ⟨_,rfl,_,rfl,iteF (iteF ⟨_,rfl,q⟩)⟩
   | some u =>
    refine ⟨_,rfl,_,rfl,iteT ⟨_,rfl,_,rfl,_,_,rfl,rfl,_,rfl,?_⟩⟩
    have q':Q (.int (if u < v + ad then u else v + ad)) H:=q
    refine ite2 (fun c=>?_) (fun c=>?_)
    ·have c':u < v + ad:=of_decide_eq_true c
     rw [if_pos c'] at q'
     exact ⟨_,rfl,_,rfl,q'⟩
    ·have c':¬ u < v + ad:=fun z=>c (decide_eq_true z)
     rw [if_neg c'] at q'
     exact ⟨_,rfl,q'⟩
theorem rk:FnScope ["thing"] ["thing"] (zh (top 19)):=⟨rfl,rfl,rfl,by decide +kernel,rfl,by decide +kernel,by decide +kernel⟩
theorem rn (F:Fun K "is_whole" "is_whole" (top 19) f fd) (B:Blt mg)     :
  FnOk P w K mg base CX0 (n + 1) f fd ["thing"] (zy K):=by
 refine F.ok rk yB (fun cdv A outer s H vs Q E hr h=>?_)
 obtain ⟨x,rfl,d,m,hd,q⟩:=h
 refine ⟨_,(zf (zm (yI (zi (zN (K:=K) rfl) rfl B.isinstance zn (za (pv 0) (za (yz rfl B.int jD) zb))) (yF (Yi (zi (zN (K:=K) rfl) rfl B.isinstance zn (za (pv 0) (za (yz rfl B.bool Yr) zb)))))))),?_⟩
 refine ⟨_,rfl,_,d,m,_,_,rfl,hd,Zh,_,rfl,?_⟩
 cases d with
 | int i=>exact iteT ⟨_,rfl,_,_,m,_,_,rfl,hd,vk,_,rfl,q⟩
 | bool b=>exact iteT ⟨_,rfl,_,_,m,_,_,rfl,hd,vk,_,rfl,q⟩
 | _=>exact iteF q
theorem Zx:FnScope ["thing"] ["thing"] (zh (top 23)):=⟨rfl,rfl,rfl,by decide +kernel,rfl,by decide +kernel,by decide +kernel⟩
theorem Zy (F:Fun K "is_end" "is_end" (top 23) f fd) (B:Blt mg) (qc0:zj P w K mg base n "is_whole" ["thing"] (zy K))    :
  FnOk P w K mg base CX0 (n + 1) f fd ["thing"] (uA K):=by
 refine F.ok Zx yB (fun cdv A outer s H vs Q E hr h=>?_)
 obtain ⟨x,rfl,d,m,hd,q⟩:=h
 refine ⟨_,(zf (zm (ZJ (Yh (uo (pv 0))) (yF (zg qc0 hr rfl (za (pv 0) zb)))))),?_⟩
 refine ⟨x,rfl,_,rfl,?_⟩
 rcases Yz hd with ⟨rfl,rfl⟩ | ⟨h1,h2⟩
 ·exact iteT q
 ·refine zJ (decide_eq_false h1) ⟨_,rfl,_,rfl,d,m,hd,?_⟩
  have e:endD d = zx d:=by cases d <;> first | rfl | exact absurd rfl h2
  rw [← e]; exact q
theorem xR:FnScope ["thing","add","low","high"] ["thing"] (zh (top 24)):=⟨rfl,rfl,rfl,by decide +kernel,rfl,by decide +kernel,by decide +kernel⟩
theorem ja (F:Fun K "is_deed" "is_deed" (top 24) f fd) (B:Blt mg) (qc0:zj P w K mg base n "is_end" ["thing"] (uA K)) (qc1:zj P w K mg base n "is_whole" ["thing"] (zy K))    :
  FnOk P w K mg base CX0 (n + 1) f fd ["thing"] (we K):=by
 refine F.ok xR yB (fun cdv A outer s H vs Q E hr h=>?_)
 obtain ⟨x,rfl,d,m,hd,q⟩:=h
 refine ⟨_,(zd (zM (PW.pt (xT (zZ (zP (zi (zN (K:=K) rfl) rfl B.isinstance zn (za (pv 0) (za (yz rfl B.tuple zY) zb))))) (xq (zw qv (zi zo rfl B.len yO (za (pv 0) zb)) ze (zC _))))) (zf (zm x6)) zt) (zd (wl (pv 0) (vw rfl (zz (zr (i:=1) xR.nd rfl (Or.inl rfl)) (zz (zr (i:=2) xR.nd rfl (Or.inl rfl)) (zz (zr (i:=3) xR.nd rfl (Or.inl rfl)) xg))))) (zd (zM (zZ (PW.pt (xA (zP (zg qc1 hr rfl (za (pv 1) zb))) (xA (zP (zg qc0 hr rfl (za (pv 2) zb))) (xz (zP (zg qc0 hr rfl (za (pv 3) zb)))))))) (zf (zm x6)) zt) (zd (zM (PW.pt (xT (vt (uo (pv 2))) (xq (vt (uo (pv 3)))))) (zf (zm x6)) zt) (zf (zm (ZJ (xh vz (pv 2) (pv 3) (zC _)) (yF (yI (xh yv (pv 2) (pv 3) (zC _)) (yF (xh yv (pv 1) ze (zC _)))))))))))),?_⟩
 refine ⟨_,rfl,_,d,m,_,_,rfl,hd,wL,_,rfl,?_⟩
 cases ht:tupD d with
 | false=>rw [Y6 ht] at q; exact iteT (iteT q)
 | true =>
  refine iteF ?_
  cases d with
  | tuple ds =>
   obtain ⟨a,xs,rfl,hs,hds⟩:=hd.inv_tup
   refine ⟨_,rfl,a,xs,rfl,.inr hs,rfl,_,rfl,?_⟩
   by_cases hl:ds.length = 3
   ·refine zJ (by rw [hds.length,hl]; rfl) ?_
    match ds,hl,hds,hd,q with
    | [d0,d1,d2],_,hds,hd,q =>
     obtain ⟨x0,x1,x2,rfl,o0,o1,o2⟩:=hds.inv3
     refine ⟨_,rfl,a,_,rfl,hs,rfl,_,_,rfl,_,_,rfl,_,_,rfl,rfl,?_⟩
     refine ⟨_,rfl,_,rfl,d0,m,o0,_,rfl,?_⟩
     cases h0:zx d0 with
     | false=>rw [r6 h0] at q; exact iteF (iteT q)
     | true =>
      cases d0 with
      | int i =>
       refine iteT ⟨_,rfl,_,rfl,d1,m,o1,_,rfl,?_⟩
       rw [Zj] at q
       cases h1:endD d1 with
       | false=>rw [h1] at q; exact iteF (iteT q)
       | true =>
        refine iteT ⟨_,rfl,_,rfl,d2,m,o2,_,rfl,?_⟩
        cases h2:endD d2 with
        | false=>rw [h1,h2] at q; exact iteT q
        | true =>
         rw [h1,h2] at q
         refine iteF ?_
         cases d1 with
         | none=>obtain rfl:=o1.inv_non; exact ⟨_,rfl,_,rfl,iteT (iteT q)⟩
         | int l =>
          obtain rfl:=o1.inv_int
          cases d2 with
          | none=>obtain rfl:=o2.inv_non; exact ⟨_,rfl,_,rfl,iteF ⟨_,rfl,_,rfl,iteT q⟩⟩
          | int u =>
           obtain rfl:=o2.inv_int
           refine ⟨_,rfl,_,rfl,iteF ⟨_,rfl,_,rfl,iteF ?_⟩⟩
           refine ⟨_,rfl,_,rfl,_,_,rfl,rfl,_,rfl,?_⟩
           obtain rfl:=o0.inv_int
           have q':Q (.bl (decide (l < u) || (decide (l = u) && decide (i = 0)))) H:=q
           refine ite2 (fun c=>?_) (fun c=>?_)
           ·rw [c] at q'; exact q'
           ·rw [Bool.eq_false_iff.mpr c] at q'
            refine ⟨_,rfl,_,rfl,rfl,_,rfl,?_⟩
            refine ite2 (fun d=>?_) (fun d=>?_)
            ·have d':l = u:=V.int.inj (of_decide_eq_true d)
             refine ⟨_,rfl,rfl,?_⟩
             rw [decide_eq_true d'] at q'
             have e:decide (V.int i = V.int 0) = decide (i = 0):=by
              by_cases z:i = 0
              ·rw [z]; rfl
              ·rw [decide_eq_false z,decide_eq_false fun w=>z (V.int.inj w)]
             show Q (.bl (decide (V.int i = V.int 0))) H
             rw [e]; exact q'
            ·have d':¬ l = u:=fun z=>d (decide_eq_true (congrArg V.int z))
             rw [decide_eq_false d'] at q'
             exact q'
          | _=>cases h2
         | _=>cases h1
      | _=>cases h0
   ·rw [sd hl] at q
    refine zO ?_ q
    rw [decide_eq_false fun z=>hl (by have:=V.int.inj z; have:=hds.length; omega)]; rfl
  | _=>cases ht
theorem sv:FnScope ["thing","least","greatest"] ["thing","least","greatest"] (zh (top 20)):=⟨rfl,rfl,rfl,by decide +kernel,rfl,by decide +kernel,by decide +kernel⟩
theorem sx (F:Fun K "is_within" "is_within" (top 20) f fd) (B:Blt mg) (qc0:zj P w K mg base n "is_whole" ["thing"] (zy K))    :
  FnOk P w K mg base CX0 (n + 1) f fd ["thing","least","greatest"] (wN K):=by
 refine F.ok sv vJ (fun cdv A outer s H vs Q E hr h=>?_)
 obtain ⟨x,y,z,rfl,d,m,l,u,hd,rfl,rfl,q⟩:=h
 refine ⟨_,(zf (zm (yI (zg qc0 hr rfl (za (pv 0) zb)) (yF (xI va va (pv 1) (pv 0) (pv 2)))))),?_⟩
 refine ⟨_,rfl,_,rfl,d,m,hd,_,rfl,?_⟩
 cases d with
 | int i =>
  obtain rfl:=hd.inv_int
  refine iteT ⟨_,rfl,_,rfl,_,_,rfl,rfl,_,rfl,?_⟩
  have q':Q (.bl (decide (l <= i) && decide (i <= u))) H:=q
  by_cases c:l <= i
  ·refine zO (decide_eq_true c) ⟨_,rfl,_,_,rfl,rfl,?_⟩
   rw [decide_eq_true c] at q'; exact q'
  ·refine zJ (decide_eq_false c) ?_
   rw [decide_eq_false c] at q'; exact q'
 | _=>exact iteF q
theorem wF:FnScope ["board","thing","hand","box","deed"] ["board","thing"] (zh (top 47)):=⟨rfl,rfl,rfl,by decide +kernel,rfl,by decide +kernel,by decide +kernel⟩
theorem Zz (F:Fun K "is_ask" "is_ask" (top 47) f fd) (B:Blt mg) (qc0:zj P w K mg base n "is_deed" ["thing"] (we K)) (qc1:zj P w K mg base n "is_within" ["thing","least","greatest"] (wN K))  {t_LAST_HAND:Tok} (g_LAST_HAND:mg "LAST_HAND" = some (.int 15 t_LAST_HAND))  :
  FnOk P w K mg base CX0 (n + 1) f fd ["board","thing"] (uB K):=by
 refine F.ok wF ym (fun cdv A outer s H vs Q E hr h=>?_)
 obtain ⟨x,y,rfl,b,d,m,hb,hd,q⟩:=h
 refine ⟨_,(zd (zM (PW.pt (xT (zZ (zP (zi (zN (K:=K) rfl) rfl B.isinstance zn (za (pv 1) (za (yz rfl B.tuple zY) zb))))) (xq (zw qv (zi zo rfl B.len yO (za (pv 1) zb)) ze (zC _))))) (zf (zm x6)) zt) (zd (wl (pv 1) (vw rfl (zz (zr (i:=2) wF.nd rfl (Or.inl rfl)) (zz (zr (i:=3) wF.nd rfl (Or.inl rfl)) (zz (zr (i:=4) wF.nd rfl (Or.inl rfl)) xg))))) (zf (zm (yI (zg qc1 hr rfl (za (pv 2) (za ze (za (zL rfl g_LAST_HAND (show RelV (.int 15) (.int 15 t_LAST_HAND) from ⟨_,rfl⟩)) zb)))) (yI (zg qc1 hr rfl (za (pv 3) (za ze (za (zD yJ (zi zo rfl B.len yO (za (pv 0) zb)) ze) zb)))) (yF (zg qc0 hr rfl (za (pv 4) zb))))))))),?_⟩
 obtain ⟨rb,rfl,hrb⟩:=id hb
 refine uw (fun t H'=>H' = H /\ (t = true -> askP b.length d = false) /\ (t = false -> ∃ (r:Addr) (v1 v2 v3:V) (d1 d2 d3:PyData),y = .ref r /\ d = .tuple [d1,d2,d3] /\ SqT K H r [v1,v2,v3] /\ Od K m H v1 d1 /\ Od K m H v2 d2 /\ Od K m H v3 d3)) (fun Kk hk=>⟨_,rfl,_,d,m,_,_,rfl,hd,yR d,_,rfl,?_⟩) ?_
 ·cases ht:uf d with
  | false=>exact iteT (hk _ _ ⟨rfl,(fun _=>by cases d <;> first | rfl | cases ht),fun z=>nomatch z⟩)
  | true =>
   obtain ⟨r,xs,ds,rfl,rfl,hs,os⟩:=xm hd ht
   have xl:=os.length
   refine iteF ⟨_,rfl,r,_,rfl,.inr hs,rfl,_,rfl,?_⟩
   by_cases h3:ds.length = 3
   ·match ds,h3,os,xl with
    | [d1,d2,d3],_,os,xl =>
     obtain ⟨v1,v2,v3,rfl,o1,o2,o3⟩:=os.inv3
     exact hk _ _ ⟨rfl,(fun z=>nomatch z),fun _=>⟨r,v1,v2,v3,d1,d2,d3,rfl,rfl,hs,o1,o2,o3⟩⟩
   ·have e:askP b.length (.tuple ds) = false:=by
     unfold askP
     split
     ·rename_i z; injection z with z; rw [z] at h3; exact absurd rfl h3
     ·rfl
    exact hk _ _ ⟨rfl,(fun _=>e),fun z=>absurd z (by rw [decide_eq_false fun w=>h3 (by have:=V.int.inj w; omega)]; decide)⟩
 rintro t H ⟨rfl,h1,h2⟩
 cases t with
 | true=>rw [h1 rfl] at q; exact iteT q
 | false =>
  obtain ⟨r,v1,v2,v3,d1,d2,d3,rfl,rfl,hs,o1,o2,o3⟩:=h2 rfl
  have e:askP b.length (.tuple [d1,d2,d3]) = (zF 0 15 d1 && (zF 0 ((b.length:Int) - 1) d2 && yC d3)):=rfl
  rw [e] at q
  refine iteF (wY ⟨_,rfl,r,_,rfl,hs,rfl,_,_,rfl,_,_,rfl,_,_,rfl,rfl,?_⟩)
  refine ⟨_,rfl,_,_,_,rfl,d1,m,0,15,o1,rfl,rfl,_,rfl,?_⟩
  cases e1:zF 0 15 d1 with
  | false=>rw [e1] at q; exact iteF q
  | true =>
   rw [e1] at q
   refine iteT ⟨_,rfl,_,rfl,rb,_,rfl,.inr hrb,_,_,rfl,rfl,_,_,_,rfl,d2,m,0,(b.length:Int) - 1,o2,rfl,by rw [List.length_map],_,rfl,?_⟩
   cases e2:zF 0 ((b.length:Int) - 1) d2 with
   | false=>rw [e2] at q; exact iteF q
   | true=>rw [e2] at q; exact iteT ⟨_,rfl,_,rfl,d3,m,o3,q⟩
theorem rp:FnScope ["thing"] ["thing"] (zh (top 45)):=⟨rfl,rfl,rfl,by decide +kernel,rfl,by decide +kernel,by decide +kernel⟩
theorem rq (F:Fun K "is_board" "is_board" (top 45) f fd) (B:Blt mg) (qc0:zj P w K mg base n "is_whole" ["thing"] (zy K))  {t_MOST_BOXES:Tok} (g_MOST_BOXES:mg "MOST_BOXES" = some (.int 16 t_MOST_BOXES))  :
  FnOk P w K mg base CX0 (n + 1) f fd ["thing"] (yK K):=by
 refine F.ok rp yB (fun cdv A outer s H vs Q E hr h=>?_)
 obtain ⟨x,rfl,d,m,hd,hl,q⟩:=h
 refine ⟨_,(zd (zM (PW.pt (xT (zZ (zP (zi (zN (K:=K) rfl) rfl B.isinstance zn (za (pv 0) (za (yz rfl B.tuple zY) zb))))) (xq (zZ (ZN va va ze (zi zo rfl B.len yO (za (pv 0) zb)) (zL rfl g_MOST_BOXES (show RelV (.int 16) (.int 16 t_MOST_BOXES) from ⟨_,rfl⟩))))))) (zf (zm x6)) zt) (zf (zm (zi (yi rfl) rfl B.all v8 (za (yl (CSc.of (N':=["value"]) (sub:=[none]) (zh (top 45)) ["thing"] rfl rfl (by decide +kernel) rfl) rfl (xB (pv 0)) (fun _ _ _ _ _ _=>zr (i:=0) (show (["value"]:List Str).Nodup by decide +kernel) rfl (Or.inl rfl)) (fun _ _ _ _ _ _=>z6) (fun _ _ _ _ _ _=>(zg qc0 hr rfl (za (pv 0) zb)))) zb))))),?_⟩
 refine uw (fun b H'=>H' = H /\ (b = true -> yc d = false) /\ (b = false -> ∃ (r:Addr) (xs:List V) (ds:List PyData),x = .ref r /\ d = .tuple ds /\ SqT K H r xs /\ Ods K m H xs ds /\ yc d = ds.all zx)) (fun Kk hk=>⟨_,rfl,_,d,m,_,_,rfl,hd,yR d,_,rfl,?_⟩) ?_
 ·cases ht:uf d with
  | false=>exact iteT (hk _ _ ⟨rfl,(fun _=>by cases d <;> first | rfl | cases ht),fun z=>nomatch z⟩)
  | true =>
   obtain ⟨r,xs,ds,rfl,rfl,hs,os⟩:=xm hd ht
   have xl:=os.length
   refine iteF ⟨_,rfl,r,_,rfl,.inr hs,_,_,rfl,rfl,_,rfl,?_⟩
   have e:yc (.tuple ds) = (decide (1 <= ds.length) && (decide (ds.length <= 16) && ds.all zx)):=rfl
   by_cases h1:1 <= ds.length
   ·refine zO (decide_eq_true (by omega)) ⟨_,_,rfl,rfl,_,rfl,?_⟩
    by_cases h2:ds.length <= 16
    ·exact hk _ _ ⟨rfl,(fun z=>absurd z (by rw [decide_eq_true (by omega)]; decide)),fun _=>⟨r,xs,ds,rfl,rfl,hs,os,by rw [e,decide_eq_true h1,decide_eq_true h2]; rfl⟩⟩
    ·exact hk _ _ ⟨rfl,(fun _=>by rw [e,decide_eq_false h2,decide_eq_true h1]; rfl),fun z=>absurd z (by rw [decide_eq_false (by omega)]; decide)⟩
   ·exact zJ (decide_eq_false (by omega)) ⟨_,rfl,hk _ _ ⟨rfl,(fun _=>by rw [e,decide_eq_false h1]; rfl),fun z=>nomatch z⟩⟩
 rintro b H ⟨rfl,hb1,hb2⟩
 cases b with
 | true=>rw [hb1 rfl] at q; exact iteT (q _ (Grow.refl _ _))
 | false =>
  obtain ⟨r,xs,ds,rfl,rfl,hs,os,eb⟩:=hb2 rfl
  rw [eb] at q
  have xl:=os.length
  have hl':ds.length <= 8000000:=hl
  refine iteF (wY ⟨_,rfl,r,rfl,⟨_,hs⟩,z9 (xs:=xs) (fun i ys H'=>ys = ((ds.take i).map zx).map V.bl /\ H' = H) ⟨rfl,rfl⟩ (fun i ys H' z=>by rw [z.2]; exact hs) ?_ ?_⟩)
  ·rintro i x ys H' hx ⟨rfl,rfl⟩
   obtain ⟨e,he,oe⟩:=os.get hx
   refine ⟨_,rfl,_,rfl,e,m,oe,y7 (by rw [List.length_map,List.length_map,List.length_take]; omega),?_,rfl⟩
   rw [List.take_succ,he,List.map_append,List.map_append]; rfl
  ·rintro ys H' ⟨rfl,rfl⟩ l hl0
   rw [xl,List.take_length]
   refine ⟨l,ds.map zx,rfl,SqL.of zc,?_⟩
   rw [List.all_map]
   exact q _ (Grow.new hl0 _)
theorem td:FnScope ["thing"] ["thing"] (zh (top 46)):=⟨rfl,rfl,rfl,by decide +kernel,rfl,by decide +kernel,by decide +kernel⟩
theorem tf (F:Fun K "need_board" "need_board" (top 46) f fd) (B:Blt mg) {A_NoBoard:Addr} (x_NoBoard:ExcC K mg "NoBoard" A_NoBoard) (qc0:zj P w K mg base n "is_board" ["thing"] (yK K))    :
  FnOk P w K mg base (CX1 P w) (n + 1) f fd ["thing"] (yU A_NoBoard K):=by
 refine Fun.okX F td xP (fun cdv A outer s H vs Q E hr h=>?_)
 obtain ⟨x,rfl,d,m,hd,hl,q⟩:=h
 refine ⟨_,(zf (zM (zZ (zP (zg qc0 hr rfl (za (pv 0) zb)))) (zf (xO rfl x_NoBoard rfl yZ z7)) zt)),?_⟩
 refine ⟨_,rfl,_,rfl,d,m,hd,hl,fun H1 g1=>⟨_,rfl,?_⟩⟩
 cases hb:yc d with
 | true =>
  rw [hb,if_pos rfl] at q
  exact iteF (q _ g1)
 | false =>
  rw [hb,if_neg (by decide)] at q
  exact iteT fun e=>q e _ g1
theorem rz:FnScope ["board","thing"] ["board","thing"] (zh (top 48)):=⟨rfl,rfl,rfl,by decide +kernel,rfl,by decide +kernel,by decide +kernel⟩
theorem rA (F:Fun K "are_asks" "are_asks" (top 48) f fd) (B:Blt mg) {A_NoBoard:Addr} (x_NoBoard:ExcC K mg "NoBoard" A_NoBoard) (qc0:zj P w K mg base n "is_ask" ["board","thing"] (uB K)) (qc1:zu P w K mg base n "need_board" ["thing"] (yU A_NoBoard K))    :
  FnOk P w K mg base (CX1 P w) (n + 1) f fd ["board","thing"] (xo A_NoBoard K):=by
 refine Fun.okX F rz yV (fun cdv A outer s H vs Q E hr h=>?_)
 obtain ⟨x,y,rfl,db,dc,m,hx,hy,lb,lc,q⟩:=h
 refine ⟨_,(zd (zI (zX qc1 (yx fun _ _ _ z=>z) hr rfl (za (pv 0) zb))) (zf (zm (yI (zi (zN (K:=K) rfl) rfl B.isinstance zn (za (pv 1) (za (yz rfl B.tuple zY) zb))) (yF (zi (yi rfl) rfl B.all v8 (za (yl (CSc.of (N':=["ask","board"]) (sub:=[none,some 0]) (zh (top 48)) ["board","thing"] rfl rfl (by decide +kernel) rfl) rfl (xB (pv 1)) (fun _ _ _ _ _ _=>zr (i:=0) (show (["ask","board"]:List Str).Nodup by decide +kernel) rfl (Or.inl rfl)) (fun _ _ _ _ _ _=>z6) (fun _ _ _ _ _ _=>(zg qc0 hr rfl (za (pv 1) (za (pv 0) zb))))) zb))))))),?_⟩
 refine ⟨_,rfl,_,rfl,db,m,hx,lb,?_⟩
 cases hbp:yc db with
 | false =>
  rw [hbp,if_neg (by decide)] at q
  rw [if_neg (by decide)]
  exact fun e H' g=>q e H' g
 | true =>
  rw [hbp,if_pos rfl] at q
  rw [if_pos rfl]
  intro H0 g0
  obtain ⟨b,hb,bl,b16,b1⟩:=y0 hx hbp
  rw [bl] at q
  have hb0:=g0.board hb
  have hy0:=hy.grow (g0.wk (m:=m))
  try dsimp only
  refine ⟨_,rfl,_,dc,m,_,_,rfl,hy0,yR dc,_,rfl,?_⟩
  cases ht:uf dc with
  | false=>have:=q _ g0; rw [qg ht] at this; exact iteF this
  | true =>
   obtain ⟨r,xs,ds,rfl,rfl,hs,os⟩:=xm hy0 ht
   have xl:=os.length
   have lc':ds.length <= 8000000:=lc
   refine iteT ⟨_,rfl,r,rfl,⟨_,hs⟩,z9 (xs:=xs) (fun i ys H'=>ys = ((ds.take i).map (askP b.length)).map V.bl /\ H' = H0) ⟨rfl,rfl⟩ (fun i ys H' z=>by rw [z.2]; exact hs) ?_ ?_⟩
   ·rintro i x ys H' hx' ⟨rfl,rfl⟩
    obtain ⟨d,hd,od⟩:=os.get hx'
    refine ⟨_,rfl,_,rfl,_,_,rfl,b,d,m,hb0,od,y7 (by rw [List.length_map,List.length_map,List.length_take]; omega),?_,rfl⟩
    rw [List.take_succ,hd,List.map_append,List.map_append]; rfl
   ·rintro ys H' ⟨rfl,rfl⟩ l hl
    rw [xl,List.take_length]
    refine ⟨l,ds.map (askP b.length),rfl,SqL.of zc,?_⟩
    rw [List.all_map]
    exact q _ (g0.trans (Grow.new hl _))
theorem sy:FnScope ["board","thing"] ["board","thing"] (zh (top 49)):=⟨rfl,rfl,rfl,by decide +kernel,rfl,by decide +kernel,by decide +kernel⟩
theorem sB (F:Fun K "need_asks" "need_asks" (top 49) f fd) (B:Blt mg) {A_NoBoard:Addr} {A_NoAsk:Addr} (x_NoBoard:ExcC K mg "NoBoard" A_NoBoard) (x_NoAsk:ExcC K mg "NoAsk" A_NoAsk) (qc0:zu P w K mg base n "are_asks" ["board","thing"] (xo A_NoBoard K))    :
  FnOk P w K mg base (CX1 P w) (n + 1) f fd ["board","thing"] (vY (clsB A_NoNumber A_NoDeed A_NoBoard A_NoAsk A_NoTree) K):=by
 refine Fun.okX F sy yV (fun cdv A outer s H vs Q E hr h=>?_)
 obtain ⟨x,y,rfl,db,da,m,hb,ha,bb,ba,q,qe⟩:=h
 refine ⟨_,(zf (zM (zZ (zP (zX qc0 (yx fun _ _ _ z=>z) hr rfl (za (pv 0) (za (pv 1) zb))))) (zf (xO rfl x_NoAsk rfl yZ z7)) zt)),?_⟩
 unfold dueB at q qe
 have w1:=y8 (d:=db)
 have w2:=y8 (d:=da)
 have w3:=bb.1
 have w4:=ba.1
 refine ⟨_,rfl,_,rfl,_,_,rfl,db,da,m,hb,ha,by omega,by omega,?_⟩
 cases hbp:yc db with
 | false =>
  rw [if_neg (by decide)]
  rw [hbp] at qe
  exact fun e H' g=>qe .board rfl e _ g
 | true =>
  rw [if_pos rfl]
  rw [hbp,if_pos rfl] at q qe
  intro H1 g1
  refine ⟨_,rfl,?_⟩
  cases c:wO (lenD db) da with
  | true=>rw [c] at q; exact iteF (q rfl _ g1)
  | false=>rw [c] at qe; exact iteT fun e=>qe .ask rfl e _ g1
theorem xc:FnScope ["board","asks","values","answers","hand","box","deed"] ["board","asks"] (zh (top 50)):=⟨rfl,rfl,rfl,by decide +kernel,rfl,by decide +kernel,by decide +kernel⟩
theorem ZA (F:Fun K "played" "played" (top 50) f fd) (B:Blt mg) {A_NoNumber:Addr} {A_NoDeed:Addr} {A_NoBoard:Addr} {A_NoAsk:Addr} {A_NoTree:Addr} (x_NoNumber:ExcC K mg "NoNumber" A_NoNumber) (x_NoDeed:ExcC K mg "NoDeed" A_NoDeed) (x_NoBoard:ExcC K mg "NoBoard" A_NoBoard) (x_NoAsk:ExcC K mg "NoAsk" A_NoAsk) (x_NoTree:ExcC K mg "NoTree" A_NoTree) (qc0:zj P w K mg base n "made" ["deed","value"] (uK K)) (qc1:zu P w K mg base n "need_asks" ["board","thing"] (vY (clsB A_NoNumber A_NoDeed A_NoBoard A_NoAsk A_NoTree) K))    :
  FnOk P w K mg base (CX1 P w) (n + 1) f fd ["board","asks"] (wB (clsB A_NoNumber A_NoDeed A_NoBoard A_NoAsk A_NoTree) K):=by
 refine Fun.okX F xc yV (fun cdv A outer s H vs Q E hr h=>?_)
 obtain ⟨x,y,rfl,db,da,m,hb0,ha0,bb,ba,q0,qe⟩:=h
 refine ⟨_,(zd (zI (zX qc1 (yx fun _ _ _ z=>z) hr rfl (za (pv 0) (za (pv 1) zb)))) (zd (zA (i:=2) xc.nd rfl (Or.inl rfl) (zV tN rfl B.list jE (za (pv 0) zb))) (zd (zA (i:=3) xc.nd rfl (Or.inl rfl) (yf zb)) (zd (vx PassesOwn.leaving rfl (xB (pv 1)) (vw rfl (zz (zr (i:=4) xc.nd rfl (Or.inl rfl)) (zz (zr (i:=5) xc.nd rfl (Or.inl rfl)) (zz (zr (i:=6) xc.nd rfl (Or.inl rfl)) xg)))) (zd (zI (vF PySem.F.plainAttrs_list PySem.F.slot_list_append PySem.F.type_list_append yw (pv 3) (za (zK zU (pv 2) (pv 5) (fun _ _=>rfl)) zb))) (zf (wl (zg qc0 hr rfl (za (pv 6) (za (zK zU (pv 2) (pv 5) (fun _ _=>rfl)) zb))) (rJ (pv 2) (pv 5) vi))))) (zf (zm (z8 (za (zV zW rfl B.tuple zY (za (pv 3) zb)) (za (zV zW rfl B.tuple zY (za (pv 2) zb)) zb))))))))),?_⟩
 refine ⟨_,rfl,_,rfl,_,_,rfl,db,da,m,hb0,ha0,bb,ba,fun hdue H1 g1=>?_,qe⟩
 have q1:=q0 hdue
 unfold dueB at hdue
 have hbp:yc db = true:=by
  cases c:yc db with
  | true=>rfl
  | false=>rw [c] at hdue; cases hdue
 rw [hbp,if_pos rfl] at hdue
 have hap:wO (lenD db) da = true:=by
  cases c:wO (lenD db) da with
  | true=>rfl
  | false=>rw [c] at hdue; cases hdue
 obtain ⟨b,hb,bl,b2,b1⟩:=y0 hb0 hbp
 rw [bl] at hap
 obtain ⟨ks,ha,hk,hok⟩:=Zu ha0 hap ba
 obtain ⟨br,rfl,hbs⟩:=g1.board hb
 obtain ⟨ar,xs,rfl,hs,hall⟩:=g1.asks ha
 refine ⟨_,rfl,br,_,rfl,.inr hbs,fun lv hlv=>⟨szl rfl,fun la hla=>?_⟩⟩
 have gv:Grow [lv,la] H1 (upd (upd H1 lv (.lst (b.map V.int))) la (.lst [])):=(Grow.new hlv _).trans (Grow.new hla _)
 have nva:lv ≠ la:=fun z=>by rw [← z,zc] at hla; cases hla
 have laf:H1 la = none:=by rw [zp (Ne.symm nva)] at hla; exact hla
 have hl:=hall.len
 refine ⟨_,rfl,ar,rfl,⟨_,gv.sqT hs⟩,jn (xs:=xs) (fun i σ H'=>∃ e4 e5 e6,σ = [some (.ref br),some (.ref ar),some (.ref lv),some (.ref la),e4,e5,e6] /\ Grow [lv,la] H1 H' /\ H' lv = some (.lst ((wJ b (ks.take i)).2.map V.int)) /\ H' la = some (.lst ((wJ b (ks.take i)).1.map V.int))) ⟨_,_,_,rfl,gv,by rw [zp nva,zc]; rfl,by rw [zc]; rfl⟩ ?_ ?_ ?_⟩
 ·rintro i σ H' _ ⟨e4,e5,e6,_,g,_⟩
  exact g.sqT hs
 ·rintro i x σ H' hx ⟨e4,e5,e6,rfl,g,h1,h2⟩
  obtain ⟨k,hk',hak⟩:=hall.get hx
  obtain ⟨r,rd,rfl,hr1,hr2⟩:=g.ask hak
  obtain ⟨o1,o2,o3,o4,o5⟩:=hok k (List.mem_of_getElem? hk')
  have hlen:=jO (b:=b) (ks:=ks.take i)
  have hj:k.box.toNat < (wJ b (ks.take i)).2.length:=by rw [hlen.1]; omega
  have hget:=YU hj
  have hst:=qI (b:=b) hk'
  generalize wJ b (ks.take i) = st at h1 h2 hlen hj hget hst
  obtain ⟨as,vs⟩:=st
  have hj':k.box.toNat < vs.length:=hj
  have hget':vs[k.box.toNat]? = some (vs.getD k.box.toNat 0):=hget
  have hix:ixN (vs.map V.int).length k.box = some k.box.toNat:=by rw [List.length_map]; exact vK o3 hj'
  have hgv:(vs.map V.int)[k.box.toNat]? = some (V.int (vs.getD k.box.toNat 0)):=by rw [List.getElem?_map,hget']; rfl
  have hti:(ks.take i).length <= 900:=by rw [List.length_take]; omega
  refine ⟨r,_,rfl,hr1,rfl,_,_,rfl,_,_,rfl,_,_,rfl,rfl,?_⟩
  refine ⟨_,rfl,.inl ⟨rfl,_,SqL.of h2⟩,?_⟩
  refine ⟨_,rfl,_,rfl,lv,_,_,_,rfl,rfl,SqL.of h1,sP hix hgv,?_⟩
  refine ⟨la,_,_,rfl,rfl,h2,?_,?_⟩
  ·rw [List.length_map]
   have:=hlen.2
   exact zB (by omega)
  have hlv2:upd H' la (.lst (as.map V.int ++ [V.int (vs.getD k.box.toNat 0)])) lv = some (.lst (vs.map V.int)):=by rw [zp nva]; exact h1
  have gla:Grow [lv,la] H' (upd H' la (.lst (as.map V.int ++ [V.int (vs.getD k.box.toNat 0)]))):=Grow.set h2 (by simp) _
  refine ⟨_,rfl,_,rfl,_,rfl,lv,_,_,_,rfl,rfl,SqL.of hlv2,sP hix hgv,_,_,rfl,k.deed,_,⟨rd,rfl,gla.sqT hr2⟩,rfl,?_⟩
  refine ⟨_,rfl,_,rfl,lv,_,_,_,rfl,rfl,hlv2,hix,?_⟩
  refine ⟨_,_,_,rfl,g.trans (gla.trans (Grow.set hlv2 (by simp) _)),?_,?_⟩
  ·rw [hst,zc]
   exact congrArg (fun z=>some (HO.lst z)) List.map_set.symm
  ·rw [hst,zp (Ne.symm nva),zc]
   exact congrArg (fun z=>some (HO.lst z)) (by rw [tU,List.map_append]; rfl)
 ·rintro σ H' ⟨e4,e5,e6,rfl,g,h1,h2⟩
  rw [hl,List.take_length] at h1 h2
  refine ⟨_,rfl,la,_,rfl,.inl ⟨SqL.of h2,fun ra hra=>?_⟩⟩
  have ga:Grow [] H' (upd H' ra (.tup ((wJ b ks).1.map V.int))):=Grow.new hra _
  refine ⟨_,rfl,lv,_,rfl,.inl ⟨SqL.of (ga.keep _ _ (by simp) h1),fun rv hrv=>⟨szl rfl,fun rt hrt=>?_⟩⟩⟩
  have gb:Grow [] (upd H' ra (.tup ((wJ b ks).1.map V.int))) (upd (upd H' ra (.tup ((wJ b ks).1.map V.int))) rv (.tup ((wJ b ks).2.map V.int))):=Grow.new hrv _
  have gc:=Grow.new (m:=[]) hrt (.tup [.ref ra,.ref rv])
  exact q1 _ _ (g1.trans ((Grow.fresh (m:=[lv,la]) (fun z hz=>by
   simp only [List.mem_cons,List.mem_nil_iff,or_false] at hz
   rcases hz with rfl | rfl
   ·exact hlv
   ·exact laf) g).trans (ga.trans (gb.trans gc))))
theorem Xh:FnScope ["add","low","high"] ["add","low","high"] (zh (top 27)):=⟨rfl,rfl,rfl,by decide +kernel,rfl,by decide +kernel,by decide +kernel⟩
theorem jK (F:Fun K "tidy" "tidy" (top 27) f fd) (B:Blt mg)     :
  FnOk P w K mg base CX0 (n + 1) f fd ["add","low","high"] (jM K):=by
 refine F.ok Xh vJ (fun cdv A outer s H vs Q E hr h=>?_)
 obtain ⟨x,y,z,rfl,a,lo,hi,rfl,rfl,rfl,q⟩:=h
 refine ⟨_,(zd (zM (PW.pt (xA (vt (sL (pv 1))) (xz (zw yv (pv 1) (pv 2) (zC _))))) (zf (zm (z8 (za ze (za (pv 1) (za (pv 2) zb)))))) zt) (zf (zm (z8 (za (pv 0) (za (pv 1) (za (pv 2) zb))))))),?_⟩
 cases lo with
 | none =>
  refine ⟨_,rfl,_,rfl,iteF (iteF ⟨_,rfl,_,rfl,_,rfl,szl rfl,fun t ht=>?_⟩)⟩
  have:=q t ht
  rw [XF] at this; exact this
 | some l =>
  cases hi with
  | none =>
   refine ⟨_,rfl,_,rfl,iteT ⟨_,rfl,_,rfl,rfl,_,rfl,iteF ⟨_,rfl,_,rfl,_,rfl,szl rfl,fun t ht=>?_⟩⟩⟩
   have:=q t ht
   rw [Yt (by simp)] at this; exact this
  | some u =>
   refine ⟨_,rfl,_,rfl,iteT ⟨_,rfl,_,rfl,rfl,_,rfl,?_⟩⟩
   refine ite2 (fun c=>?_) (fun c=>?_)
   ·have c':l = u:=V.int.inj (of_decide_eq_true c)
    subst c'
    refine ⟨_,rfl,_,rfl,szl rfl,fun t ht=>?_⟩
    have:=q t ht
    rw [XG] at this; exact this
   ·have c':l ≠ u:=fun z=>c (by rw [z]; simp)
    refine ⟨_,rfl,_,rfl,_,rfl,szl rfl,fun t ht=>?_⟩
    have:=q t ht
    rw [Yt (fun z=>c' (Option.some.inj z))] at this; exact this
theorem vZ:FnScope ["one","other","low","high"] ["one","other"] (zh (top 28)):=⟨rfl,rfl,rfl,by decide +kernel,rfl,by decide +kernel,by decide +kernel⟩
theorem ZB (F:Fun K "joined" "joined" (top 28) f fd) (B:Blt mg) (qc0:zj P w K mg base n "tidy" ["add","low","high"] (jM K)) (qc1:zj P w K mg base n "made" ["deed","value"] (uK K))    :
  FnOk P w K mg base CX0 (n + 1) f fd ["one","other"] (wo K):=by
 refine F.ok vZ ym (fun cdv A outer s H vs Q E hr h=>?_)
 obtain ⟨x,y,rfl,d,e,⟨a,rfl,hsa⟩,⟨b,rfl,hsb⟩,q⟩:=h
 refine ⟨_,(zd (zA (i:=2) vZ.nd rfl (Or.inl rfl) (rH (vt (uo (zK zS (pv 0) ze (fun _ _=>rfl)))) (zK zS (pv 1) ze (fun _ _=>rfl)) (zg qc1 hr rfl (za (pv 1) (za (zK zS (pv 0) ze (fun _ _=>rfl)) zb))))) (zd (zA (i:=3) vZ.nd rfl (Or.inl rfl) (rH (vt (uo (zK zS (pv 0) ze (fun _ _=>rfl)))) (zK zS (pv 1) ze (fun _ _=>rfl)) (zg qc1 hr rfl (za (pv 1) (za (zK zS (pv 0) ze (fun _ _=>rfl)) zb))))) (zf (zm (zg qc0 hr rfl (za (zD yp (zK zS (pv 0) ze (fun _ _=>rfl)) (zK zS (pv 1) ze (fun _ _=>rfl))) (za (pv 2) (za (pv 3) zb)))))))),?_⟩
 obtain ⟨da,lo,hi⟩:=d
 obtain ⟨ea,elo,ehi⟩:=e
 refine ⟨_,rfl,a,_,_,_,rfl,rfl,hsa,rfl,_,rfl,?_⟩
 cases lo with
 | none =>
  refine iteT ⟨_,rfl,b,_,_,_,rfl,rfl,hsb,rfl,?_⟩
  refine ⟨_,rfl,a,_,_,_,rfl,rfl,hsa,rfl,_,rfl,?_⟩
  cases hi with
  | none =>
   refine iteT ⟨_,rfl,b,_,_,_,rfl,rfl,hsb,rfl,?_⟩
   exact ⟨_,rfl,a,_,_,_,rfl,rfl,hsa,rfl,_,rfl,b,_,_,_,rfl,rfl,hsb,rfl,_,_,rfl,rfl,_,rfl,_,rfl,_,_,_,rfl,_,elo,ehi,rfl,rfl,rfl,q⟩
  | some u =>
   refine iteF ⟨_,rfl,_,rfl,a,_,_,_,rfl,rfl,hsa,rfl,_,_,rfl,⟨ea,elo,ehi⟩,u,⟨b,rfl,hsb⟩,rfl,?_⟩
   exact ⟨_,rfl,a,_,_,_,rfl,rfl,hsa,rfl,_,rfl,b,_,_,_,rfl,rfl,hsb,rfl,_,_,rfl,rfl,_,rfl,_,rfl,_,_,_,rfl,_,elo,some ((Deed.mk ea elo ehi).mk' u),rfl,rfl,rfl,q⟩
 | some l =>
  refine iteF ⟨_,rfl,_,rfl,a,_,_,_,rfl,rfl,hsa,rfl,_,_,rfl,⟨ea,elo,ehi⟩,l,⟨b,rfl,hsb⟩,rfl,?_⟩
  refine ⟨_,rfl,a,_,_,_,rfl,rfl,hsa,rfl,_,rfl,?_⟩
  cases hi with
  | none =>
   refine iteT ⟨_,rfl,b,_,_,_,rfl,rfl,hsb,rfl,?_⟩
   exact ⟨_,rfl,a,_,_,_,rfl,rfl,hsa,rfl,_,rfl,b,_,_,_,rfl,rfl,hsb,rfl,_,_,rfl,rfl,_,rfl,_,rfl,_,_,_,rfl,_,(some ((Deed.mk ea elo ehi).mk' l)),ehi,rfl,rfl,rfl,q⟩
  | some u =>
   refine iteF ⟨_,rfl,_,rfl,a,_,_,_,rfl,rfl,hsa,rfl,_,_,rfl,⟨ea,elo,ehi⟩,u,⟨b,rfl,hsb⟩,rfl,?_⟩
   exact ⟨_,rfl,a,_,_,_,rfl,rfl,hsa,rfl,_,rfl,b,_,_,_,rfl,rfl,hsb,rfl,_,_,rfl,rfl,_,rfl,_,rfl,_,_,_,rfl,_,(some ((Deed.mk ea elo ehi).mk' l)),some ((Deed.mk ea elo ehi).mk' u),rfl,rfl,rfl,q⟩
theorem yE:FnScope ["board","asks","together","ahead","hand","box","deed"] ["board","asks"] (zh (top 51)):=⟨rfl,rfl,rfl,by decide +kernel,rfl,by decide +kernel,by decide +kernel⟩
theorem rB (F:Fun K "gathered" "gathered" (top 51) f fd) (B:Blt mg) (qc0:zj P w K mg base n "joined" ["one","other"] (wo K))   {a_LOOK:Addr} (g_LOOK:mg "LOOK" = some (.ref a_LOOK)) (s_LOOK:∀ H,SqT K H a_LOOK ([V.int 0,V.non,V.non])) :
  FnOk P w K mg base CX0 (n + 1) f fd ["board","asks"] (wa K):=by
 refine F.ok yE ym (fun cdv A outer s H vs Q E hr h=>?_)
 obtain ⟨x,y,rfl,b,ks,⟨br,rfl,hbs⟩,b1,b2,⟨ar,xs,rfl,hs,hall⟩,hk,hok,q⟩:=h
 refine ⟨_,(zd (rT (i:=2) yE.nd rfl rfl (CSc.of (N':=["value"]) (sub:=[none]) (zh (top 51)) ["board","asks","together","ahead","hand","box","deed"] rfl rfl (by decide +kernel) rfl) rfl (xB (pv 0)) (fun _ _ _ _ _ _=>zr (i:=0) (show (["value"]:List Str).Nodup by decide +kernel) rfl (Or.inl rfl)) (fun _ _ _ _ _ _=>z6) (fun _ _ _ _ _ _=>(zL rfl g_LOOK (show RelV (.ref a_LOOK) (.ref a_LOOK) from rfl)))) (zd (zA (i:=3) yE.nd rfl (Or.inl rfl) (yf zb)) (zd (vx PassesOwn.never rfl (xB (pv 1)) (vw rfl (zz (zr (i:=4) yE.nd rfl (Or.inl rfl)) (zz (zr (i:=5) yE.nd rfl (Or.inl rfl)) (zz (zr (i:=6) yE.nd rfl (Or.inl rfl)) xg)))) (zd (zI (vF PySem.F.plainAttrs_list PySem.F.slot_list_append PySem.F.type_list_append yw (pv 3) (za (zK zU (pv 2) (pv 5) (fun _ _=>rfl)) zb))) (zf (wl (zg qc0 hr rfl (za (zK zU (pv 2) (pv 5) (fun _ _=>rfl)) (za (pv 6) zb))) (rJ (pv 2) (pv 5) vi))))) (zf (zm (z8 (za (zV zW rfl B.tuple zY (za (pv 2) zb)) (za (zV zW rfl B.tuple zY (za (pv 3) zb)) zb)))))))),?_⟩
 have glen:∀ {i:Nat},(vP b.length (ks.take i)).1.length = b.length /\ (vP b.length (ks.take i)).2.length = (ks.take i).length:=by
  intro i
  have key:∀ (ks:List Ask) (st:List Deed × List Deed),(ks.foldl sT st).1.length = st.1.length /\ (ks.foldl sT st).2.length = st.2.length + ks.length:=by
   intro ks
   induction ks with
   | nil=>intro st; exact ⟨rfl,rfl⟩
   | cons k ks ih =>
    intro st
    have:=ih (sT st k)
    refine ⟨this.1.trans (by simp [sT]),this.2.trans ?_⟩
    simp [sT]; omega
  have:=key (ks.take i) (List.replicate b.length look,[])
  exact ⟨this.1.trans (by simp),this.2.trans (Nat.zero_add _)⟩
 refine ⟨_,rfl,br,rfl,⟨_,hbs⟩,jN (fun _=>V.ref a_LOOK) hbs (by rw [List.length_map]; omega) (fun x H' R _ _ k=>k _ (Grow.refl _ _)) ?_⟩
 intro H1 lt g1 hlt
 refine ⟨szl rfl,fun la hla=>?_⟩
 have nta:lt ≠ la:=fun z=>by rw [← z,zc] at hla; cases hla
 have gv:Grow [lt,la] H1 (upd (upd H1 lt (.lst ((b.map V.int).map fun _=>V.ref a_LOOK))) la (.lst [])):=(Grow.new hlt _).trans (Grow.new hla _)
 have laf:H1 la = none:=by rw [zp (Ne.symm nta)] at hla; exact hla
 have hs1:=g1.sqT hs
 have hall1:=g1.allA hall
 have hrep:AllR (yg K (upd (upd H1 lt (.lst ((b.map V.int).map fun _=>V.ref a_LOOK))) la (.lst []))) ((b.map V.int).map fun _=>V.ref a_LOOK) (List.replicate b.length look):=by
  have z:=rS (R:=yg K (upd (upd H1 lt (.lst ((b.map V.int).map fun _=>V.ref a_LOOK))) la (.lst []))) (x:=V.ref a_LOOK) (k:=look) ⟨a_LOOK,rfl,s_LOOK _⟩ (b.map V.int)
  rw [List.length_map] at z
  exact z
 refine ⟨_,rfl,ar,rfl,⟨_,gv.sqT hs1⟩,jn (xs:=xs) (fun i σ H'=>∃ e4 e5 e6,σ = [some (.ref br),some (.ref ar),some (.ref lt),some (.ref la),e4,e5,e6] /\ Grow [lt,la] H1 H' /\ ∃ ys zs,H' lt = some (.lst ys) /\ AllR (yg K H') ys (vP b.length (ks.take i)).1 /\ H' la = some (.lst zs) /\ AllR (yg K H') zs (vP b.length (ks.take i)).2) ⟨_,_,_,rfl,gv,_,[],by rw [zp nta,zc],hrep,zc,trivial⟩ ?_ ?_ ?_⟩
 ·rintro i σ H' _ ⟨e4,e5,e6,_,g,_⟩
  exact g.sqT hs1
 ·rintro i x σ H' hx ⟨e4,e5,e6,rfl,g,ys,zs,h1,a1,h2,a2⟩
  obtain ⟨k,hk',hak⟩:=hall1.get hx
  obtain ⟨r,rd,rfl,hr1,hr2⟩:=g.ask hak
  obtain ⟨o1,o2,o3,o4,o5⟩:=hok k (List.mem_of_getElem? hk')
  have hst:=qK (n:=b.length) hk'
  have hlg:(vP b.length (ks.take i)).1.length = b.length /\ (vP b.length (ks.take i)).2.length = (ks.take i).length:=glen
  generalize vP b.length (ks.take i) = st at a1 a2 hst hlg
  obtain ⟨g1,g2⟩:=st
  have hj:k.box.toNat < g1.length:=by rw [hlg.1]; omega
  obtain ⟨xd,hxd,hdx⟩:=a1.getR (XJ hj)
  have hix:ixN ys.length k.box = some k.box.toNat:=vK o3 (by rw [a1.len]; exact hj)
  have hti:(ks.take i).length <= 900:=by rw [List.length_take]; omega
  have hz:zs.length = (ks.take i).length:=by rw [a2.len]; exact hlg.2
  refine ⟨r,_,rfl,hr1,rfl,_,_,rfl,_,_,rfl,_,_,rfl,rfl,?_⟩
  refine ⟨_,rfl,.inl ⟨rfl,_,SqL.of h2⟩,?_⟩
  refine ⟨_,rfl,_,rfl,lt,_,_,_,rfl,rfl,SqL.of h1,sP hix hxd,?_⟩
  refine ⟨la,_,_,rfl,rfl,h2,zB (by omega),?_⟩
  have hlt2:upd H' la (.lst (zs ++ [xd])) lt = some (.lst ys):=by rw [zp nta]; exact h1
  have gla:Grow [lt,la] H' (upd H' la (.lst (zs ++ [xd]))):=Grow.set h2 (by simp) _
  refine ⟨_,rfl,_,rfl,lt,_,_,_,rfl,rfl,SqL.of hlt2,sP hix hxd,_,rfl,_,_,rfl,g1.getD k.box.toNat look,k.deed,gla.deed hdx,⟨rd,rfl,gla.sqT hr2⟩,fun t ht=>?_⟩
  have gt:Grow [lt,la] (upd H' la (.lst (zs ++ [xd]))) (upd (upd H' la (.lst (zs ++ [xd]))) t (.tup (uL (g1.getD k.box.toNat look) k.deed).vs)):=Grow.new ht _
  have hlt3:upd (upd H' la (.lst (zs ++ [xd]))) t (.tup (uL (g1.getD k.box.toNat look) k.deed).vs) lt = some (.lst ys):=by rw [zp (zq hlt2 ht)]; exact hlt2
  have hla3:upd (upd H' la (.lst (zs ++ [xd]))) t (.tup (uL (g1.getD k.box.toNat look) k.deed).vs) la = some (.lst (zs ++ [xd])):=by rw [zp (zq zc ht)]; exact zc
  refine ⟨_,rfl,_,rfl,lt,_,_,_,rfl,rfl,hlt3,hix,?_⟩
  have gs:Grow [lt,la] (upd (upd H' la (.lst (zs ++ [xd]))) t (.tup (uL (g1.getD k.box.toNat look) k.deed).vs)) (upd (upd (upd H' la (.lst (zs ++ [xd]))) t (.tup (uL (g1.getD k.box.toNat look) k.deed).vs)) lt (.lst (ys.set k.box.toNat (.ref t)))):=Grow.set hlt3 (by simp) _
  have gall:=gla.trans (gt.trans gs)
  rw [hst]
  refine ⟨_,_,_,rfl,g.trans gall,ys.set k.box.toNat (.ref t),zs ++ [xd],zc,(gall.deedsR a1).set ⟨t,rfl,gs.sqT (SqT.of zc)⟩,by rw [zp (Ne.symm nta)]; exact hla3,(gall.deedsR a2).app (.one (gall.deed hdx))⟩

 rintro σ H' ⟨e4,e5,e6,rfl,g,ys,zs,h1,a1,h2,a2⟩
 rw [hall1.len,List.take_length] at a1 a2
 refine ⟨_,rfl,lt,_,rfl,.inl ⟨SqL.of h1,fun ra hra=>?_⟩⟩
 have ga:Grow [] H' (upd H' ra (.tup ys)):=Grow.new hra _
 refine ⟨_,rfl,la,_,rfl,.inl ⟨SqL.of (ga.keep _ _ (by simp) h2),fun rv hrv=>⟨szl rfl,fun rt hrt=>?_⟩⟩⟩
 have gb:Grow [] (upd H' ra (.tup ys)) (upd (upd H' ra (.tup ys)) rv (.tup zs)):=Grow.new hrv _
 have gc:=Grow.new (m:=[]) hrt (.tup [.ref ra,.ref rv])
 have gabc:=ga.trans (gb.trans gc)
 refine q _ _ (g1.trans ((Grow.fresh (m:=[lt,la]) (fun z hz=>by
  simp only [List.mem_cons,List.mem_nil_iff,or_false] at hz
  rcases hz with rfl | rfl
  ·exact hlt
  ·exact laf) g).trans gabc)) ⟨rt,ra,rv,rfl,SqT.of zc,⟨ra,ys,rfl,gc.sqT (gb.sqT (SqT.of zc)),gabc.deedsR a1⟩,⟨rv,zs,rfl,gc.sqT (SqT.of zc),gabc.deedsR a2⟩⟩
theorem ZC:FnScope ["board","asks"] ["board","asks"] (zh (top 52)):=⟨rfl,rfl,rfl,by decide +kernel,rfl,by decide +kernel,by decide +kernel⟩
theorem ZD (F:Fun K "all_of" "all_of" (top 52) f fd) (B:Blt mg) {A_NoNumber:Addr} {A_NoDeed:Addr} {A_NoBoard:Addr} {A_NoAsk:Addr} {A_NoTree:Addr} (x_NoNumber:ExcC K mg "NoNumber" A_NoNumber) (x_NoDeed:ExcC K mg "NoDeed" A_NoDeed) (x_NoBoard:ExcC K mg "NoBoard" A_NoBoard) (x_NoAsk:ExcC K mg "NoAsk" A_NoAsk) (x_NoTree:ExcC K mg "NoTree" A_NoTree) (qc0:zj P w K mg base n "gathered" ["board","asks"] (wa K)) (qc1:zu P w K mg base n "need_asks" ["board","thing"] (vY (clsB A_NoNumber A_NoDeed A_NoBoard A_NoAsk A_NoTree) K))    :
  FnOk P w K mg base (CX1 P w) (n + 1) f fd ["board","asks"] (wB (clsB A_NoNumber A_NoDeed A_NoBoard A_NoAsk A_NoTree) K):=by
 refine Fun.okX F ZC yV (fun cdv A outer s H vs Q E hr h=>?_)
 obtain ⟨x,y,rfl,db,da,m,hb0,ha0,bb,ba,q0,qe⟩:=h
 refine ⟨_,(zd (zI (zX qc1 (yx fun _ _ _ z=>z) hr rfl (za (pv 0) (za (pv 1) zb)))) (zf (zm (zK zS (zg qc0 hr rfl (za (pv 0) (za (pv 1) zb))) ze (fun _ _=>rfl))))),?_⟩
 refine ⟨_,rfl,_,rfl,_,_,rfl,db,da,m,hb0,ha0,bb,ba,fun hdue H1 g1=>?_,qe⟩
 have q1:=q0 hdue
 unfold dueB at hdue
 have hbp:yc db = true:=by
  cases c:yc db with
  | true=>rfl
  | false=>rw [c] at hdue; cases hdue
 rw [hbp,if_pos rfl] at hdue
 have hap:wO (lenD db) da = true:=by
  cases c:wO (lenD db) da with
  | true=>rfl
  | false=>rw [c] at hdue; cases hdue
 obtain ⟨b,hb,bl,b2,b1⟩:=y0 hb0 hbp
 rw [bl] at hap
 obtain ⟨ks,ha,hk,hok⟩:=Zu ha0 hap ba
 refine ⟨_,rfl,_,rfl,_,_,rfl,b,ks,g1.board hb,b1,b2,g1.asks ha,hk,hok,fun y2 H2 g2 h2=>?_⟩
 obtain ⟨r,r1,r2,rfl,h0,d1,d2⟩:=h2
 exact ⟨r,_,_,_,rfl,rfl,h0,rfl,q1 _ _ (g1.trans g2)⟩
theorem rC:FnScope ["board","asks"] ["board","asks"] (zh (top 53)):=⟨rfl,rfl,rfl,by decide +kernel,rfl,by decide +kernel,by decide +kernel⟩
theorem rD (F:Fun K "ahead_of" "ahead_of" (top 53) f fd) (B:Blt mg) {A_NoNumber:Addr} {A_NoDeed:Addr} {A_NoBoard:Addr} {A_NoAsk:Addr} {A_NoTree:Addr} (x_NoNumber:ExcC K mg "NoNumber" A_NoNumber) (x_NoDeed:ExcC K mg "NoDeed" A_NoDeed) (x_NoBoard:ExcC K mg "NoBoard" A_NoBoard) (x_NoAsk:ExcC K mg "NoAsk" A_NoAsk) (x_NoTree:ExcC K mg "NoTree" A_NoTree) (qc0:zj P w K mg base n "gathered" ["board","asks"] (wa K)) (qc1:zu P w K mg base n "need_asks" ["board","thing"] (vY (clsB A_NoNumber A_NoDeed A_NoBoard A_NoAsk A_NoTree) K))    :
  FnOk P w K mg base (CX1 P w) (n + 1) f fd ["board","asks"] (wB (clsB A_NoNumber A_NoDeed A_NoBoard A_NoAsk A_NoTree) K):=by
 refine Fun.okX F rC yV (fun cdv A outer s H vs Q E hr h=>?_)
 obtain ⟨x,y,rfl,db,da,m,hb0,ha0,bb,ba,q0,qe⟩:=h
 refine ⟨_,(zd (zI (zX qc1 (yx fun _ _ _ z=>z) hr rfl (za (pv 0) (za (pv 1) zb)))) (zf (zm (zK zS (zg qc0 hr rfl (za (pv 0) (za (pv 1) zb))) ze (fun _ _=>rfl))))),?_⟩
 refine ⟨_,rfl,_,rfl,_,_,rfl,db,da,m,hb0,ha0,bb,ba,fun hdue H1 g1=>?_,qe⟩
 have q1:=q0 hdue
 unfold dueB at hdue
 have hbp:yc db = true:=by
  cases c:yc db with
  | true=>rfl
  | false=>rw [c] at hdue; cases hdue
 rw [hbp,if_pos rfl] at hdue
 have hap:wO (lenD db) da = true:=by
  cases c:wO (lenD db) da with
  | true=>rfl
  | false=>rw [c] at hdue; cases hdue
 obtain ⟨b,hb,bl,b2,b1⟩:=y0 hb0 hbp
 rw [bl] at hap
 obtain ⟨ks,ha,hk,hok⟩:=Zu ha0 hap ba
 refine ⟨_,rfl,_,rfl,_,_,rfl,b,ks,g1.board hb,b1,b2,g1.asks ha,hk,hok,fun y2 H2 g2 h2=>?_⟩
 obtain ⟨r,r1,r2,rfl,h0,d1,d2⟩:=h2
 exact ⟨r,_,_,_,rfl,rfl,h0,rfl,q1 _ _ (g1.trans g2)⟩
theorem jb:FnScope ["deeds","tree"] ["deeds","tree"] (zh (top 35)):=⟨rfl,rfl,rfl,by decide +kernel,rfl,by decide +kernel,by decide +kernel⟩
theorem jc (F:Fun K "deed_of" "deed_of" (top 35) f fd) (B:Blt mg) {N:Nat} (qc0:zj P w K mg base n "joined" ["one","other"] (wo K)) (qc1:zj P w K mg base n "deed_of" ["deeds","tree"] (yM N K)) (qc2:zj P w K mg base n "is_whole" ["thing"] (zy K))    :
  FnOk P w K mg base CX0 (n + 1) f fd ["deeds","tree"] (yM (N + 1) K):=by
 refine F.ok jb ym (fun cdv A outer s H vs Q E hr h=>?_)
 obtain ⟨x,y,rfl,ds,t,f0,hd,ht,ho,f1,f2,hN,q⟩:=h
 refine ⟨_,(zd (zM (zP (zg qc2 hr rfl (za (pv 1) zb))) (zf (zm (zK zS (pv 0) (pv 1) (fun _ _=>rfl)))) zt) (zf (zm (zg qc0 hr rfl (za (zg qc1 hr rfl (za (pv 0) (za (zK zS (pv 1) ze (fun _ _=>rfl)) zb))) (za (zg qc1 hr rfl (za (pv 0) (za (zK zS (pv 1) ze (fun _ _=>rfl)) zb))) zb)))))),?_⟩
 have hd0:=hd
 obtain ⟨r,xs,rfl,hs,hall⟩:=hd0
 cases t with
 | leaf v =>
  cases (show y = V.int v from ht)
  cases (show v = f0 from ho)
  have f2':f0 + 1 <= ds.length:=f2
  have hj:f0.toNat < ds.length:=by omega
  obtain ⟨xx,hxx,hdx⟩:=hall.getR (List.getElem?_eq_getElem hj)
  refine ⟨_,rfl,_,rfl,.int _,[],.int _,_,rfl,iteT ⟨_,rfl,_,rfl,r,_,_,_,rfl,rfl,hs,sP (vK f1 (by rw [hall.len]; exact hj)) hxx,q _ _ (Grow.refl _ _) ?_⟩⟩
  show yg K H xx (ds.getD f0.toNat look)
  rw [List.getD_eq_getElem?_getD,List.getElem?_eq_getElem hj]; exact hdx
 | node tl tr =>
  have hh:max tl.ht tr.ht + 1 < N + 1:=hN
  have f2':f0 + (tl.count + tr.count) <= ds.length:=f2
  have c1:=yY tl
  have c2:=yY tr
  have kn:=vW (m:=[]) ht
  obtain ⟨a,xl,xr,rfl,hs2,h1,h2⟩:=ht
  refine ⟨_,rfl,_,rfl,_,[],kn,_,rfl,iteF ?_⟩
  refine ⟨_,rfl,_,rfl,a,_,_,_,rfl,rfl,hs2,rfl,_,_,rfl,ds,tl,f0,hd,h1,ho.1,f1,by omega,by omega,fun y1 H1 g1 hy1=>?_⟩
  refine ⟨_,rfl,_,rfl,a,_,_,_,rfl,rfl,g1.sqT hs2,rfl,_,_,rfl,ds,tr,f0 + tl.count,g1.deedsT hd,g1.tree h2,ho.2,by omega,by omega,by omega,fun y2 H2 g2 hy2=>?_⟩
  exact ⟨_,_,rfl,uc ds tl,uc ds tr,g2.deed hy1,hy2,fun t ht=>q _ _ (g1.trans (g2.trans (Grow.new ht _))) ⟨t,rfl,SqT.of zc⟩⟩
theorem sC:FnScope ["thing"] ["thing"] (zh (top 31)):=⟨rfl,rfl,rfl,by decide +kernel,rfl,by decide +kernel,by decide +kernel⟩
theorem sD (F:Fun K "need_many" "need_many" (top 31) f fd) (B:Blt mg) {A_NoNumber:Addr} (x_NoNumber:ExcC K mg "NoNumber" A_NoNumber) (qc0:zj P w K mg base n "is_within" ["thing","least","greatest"] (wN K))  {t_MOST_DEEDS:Tok} (g_MOST_DEEDS:mg "MOST_DEEDS" = some (.int 40 t_MOST_DEEDS))  :
  FnOk P w K mg base (CX1 P w) (n + 1) f fd ["thing"] (wA A_NoNumber K):=by
 refine Fun.okX F sC xP (fun cdv A outer s H vs Q E hr h=>?_)
 obtain ⟨x,rfl,d,m,hd,q⟩:=h
 refine ⟨_,(zf (zM (zZ (zP (zg qc0 hr rfl (za (pv 0) (za ze (za (zL rfl g_MOST_DEEDS (show RelV (.int 40) (.int 40 t_MOST_DEEDS) from ⟨_,rfl⟩)) zb)))))) (zf (xO rfl x_NoNumber rfl yZ z7)) zt)),?_⟩
 refine ⟨_,rfl,_,_,_,rfl,d,m,1,40,hd,rfl,rfl,_,rfl,?_⟩
 cases hw:zF 1 40 d with
 | true=>rw [if_pos hw] at q; exact iteF q
 | false=>rw [hw,if_neg (by decide)] at q; exact iteT q
theorem xf:FnScope ["thing","many","todo","reached","part"] ["thing","many"] (zh (top 32)):=⟨rfl,rfl,rfl,by decide +kernel,rfl,by decide +kernel,by decide +kernel⟩
theorem jd (F:Fun K "is_tree" "is_tree" (top 32) f fd) (B:Blt mg) {A_NoNumber:Addr} (x_NoNumber:ExcC K mg "NoNumber" A_NoNumber) (qc0:zj P w K mg base n "is_whole" ["thing"] (zy K)) (qc1:zu P w K mg base n "need_many" ["thing"] (wA A_NoNumber K))    :
  FnOk P w K mg base (CX1 P w) (n + 1) f fd ["thing","many"] (vp A_NoNumber K):=by
 refine Fun.okX F xf yV (fun cdv A outer s H vs Q E hr h=>?_)
 obtain ⟨x,y,rfl,d,dm,m,hd,hm,hw,q0,qe⟩:=h
 refine ⟨_,(zd (zI (zX qc1 (yx fun _ _ _ z=>z) hr rfl (za (pv 1) zb))) (zd (zA (i:=2) xf.nd rfl (Or.inl rfl) (yf (za (pv 0) zb))) (zd (zA (i:=3) xf.nd rfl (Or.inl rfl) ze) (zd (ZK PassesOwn.leaving (ZO (pv 2) (fun _=>rfl)) (zd (zA (i:=4) xf.nd rfl (Or.inl rfl) (Xy PySem.F.plainAttrs_list PySem.F.slot_list_pop PySem.F.type_list_pop Xz (pv 2))) (zf (zM (PW.pt (xA (zP (zi (zN (K:=K) rfl) rfl B.isinstance zn (za (pv 4) (za (yz rfl B.tuple zY) zb)))) (xz (zw yv (zi zo rfl B.len yO (za (pv 4) zb)) ze (zC _))))) (zd (zI (vF PySem.F.plainAttrs_list PySem.F.slot_list_append PySem.F.type_list_append yw (pv 2) (za (zK zS (pv 4) ze (fun _ _=>rfl)) zb))) (zf (zI (vF PySem.F.plainAttrs_list PySem.F.slot_list_append PySem.F.type_list_append yw (pv 2) (za (zK zS (pv 4) ze (fun _ _=>rfl)) zb))))) (zf (zM (PW.pt (xA (zP (zg qc0 hr rfl (za (pv 4) zb))) (xz (zw yv (pv 4) (pv 3) (zC _))))) (zf (Xp (i:=3) xf.nd rfl (Or.inl rfl) ze Xq)) (zf (zm x6)))))))) (zf (zm (xh yv (pv 3) (pv 1) (zC _)))))))),?_⟩
 refine ⟨_,rfl,_,rfl,dm,m,hm,?_⟩
 cases hmw:zF 1 40 dm with
 | false =>
  rw [if_neg (by decide)]
  exact fun e=>qe hmw e _ (Grow.refl _ _)
 | true =>
 rw [if_pos rfl]
 have q:=q0 hmw
 obtain ⟨n,rfl,n1,n40⟩:=Zq hmw
 obtain rfl:=hm.inv_int
 rw [sj] at q
 refine ⟨_,rfl,szl rfl,fun l hl=>?_⟩
 have gl:Grow (l :: m) H (upd H l (.lst [x])):=Grow.new hl _
 have gl1:Grow [l] H (upd H l (.lst [x])):=Grow.new hl _
 have hd1:=(hd.more hl).grow gl
 refine ⟨fun μ σ' H'=>∃ (xs:List V) (ds:List PyData) (k:Nat) (e:Option V),σ' = [some x,some (V.int n),some (V.ref l),some (V.int k),e] /\ Grow [l] H H' /\ H' l = some (.lst xs) /\ Ods K (l :: m) H' xs ds /\ runL (lvs d) 0 = runL (stk ds) k /\ wtOs ds = μ /\ μ <= 1000002,⟨_,[x],[d],0,_,rfl,gl1,zc,.cons hd1 .nil,by show _ = runL (lvs d ++ []) 0; rw [List.append_nil],rfl,by show wtO d + 2 + 0 <= _; omega⟩,?_⟩
 rintro μ σ' H1 ⟨xs,ds,k,e,rfl,g1,hl1,ha1,hO,rfl,hμ⟩
 refine ⟨_,rfl,!xs.isEmpty,.inl ⟨xs,SqL.of hl1,rfl⟩,?_⟩
 by_cases hx:xs = []
 ·subst hx
  cases ha1
  have hk:runL (lvs d) 0 = some k:=hO
  refine zJ rfl ⟨_,rfl,_,rfl,rfl,?_⟩
  have e:decide (V.int (k:Int) = V.int (n:Int)) = wy d n:=by
   unfold wy
   rw [hk]
   by_cases z:k = n
   ·rw [z,decide_eq_true rfl,decide_eq_true rfl]
   ·rw [decide_eq_false fun w=>z (by have:=V.int.inj w; omega),decide_eq_false fun w=>z (Option.some.inj w)]
  rw [e]
  exact q _ (g1.shrink hl)
 obtain ⟨ys,y,rfl⟩:=YW hx
 obtain ⟨js,j,rfl,hjs,hj⟩:=ha1.snocE
 rw [yT] at hμ
 rw [u6] at hO
 refine zO (by simp) ⟨fun σ' H'=>∃ μ,μ < wtOs (js ++ [j]) /\ ∃ (xs:List V) (ds:List PyData) (k:Nat) (e:Option V),σ' = [some x,some (V.int n),some (V.ref l),some (V.int k),e] /\ Grow [l] H H' /\ H' l = some (.lst xs) /\ Ods K (l :: m) H' xs ds /\ runL (lvs d) 0 = runL (stk ds) k /\ wtOs ds = μ /\ μ <= 1000002,fun _ _ z=>z,?_⟩
 refine ⟨_,rfl,.inl ⟨rfl,_,SqL.of hl1⟩,l,_,y,rfl,rfl,hl1,by simp,?_⟩
 rw [List.dropLast_concat]
 have g2:Grow [l] H1 (upd H1 l (.lst ys)):=Grow.set hl1 (by simp) _
 have g2m:Grow (l :: m) H1 (upd H1 l (.lst ys)):=g2.mono (by simp)
 have hjs2:=hjs.grow g2m
 have hj2:=hj.grow g2m
 have hlen:2 * ys.length <= wtOs js:=by rw [hjs.length]; exact vo
 have bad:runL (lvs d) 0 = none -> Q (.bl false) (upd H1 l (.lst ys)):=fun z=>by
  have:=q _ ((g1.trans g2).shrink hl)
  unfold wy at this
  rw [z,decide_eq_false (fun w=>nomatch w)] at this
  exact this
 refine ⟨_,rfl,_,j,l :: m,_,_,rfl,hj2,wL,_,rfl,?_⟩
 cases ht:tupD j with
 | false =>
  rw [YB ht] at hO
  refine iteF (iteF ?_)
  refine ⟨_,rfl,_,rfl,j,l :: m,hj2,_,rfl,?_⟩
  cases hwj:zx j with
  | false=>exact iteF (iteF (bad (hO.trans (u7 hwj))))
  | true =>
   cases j with
   | int v =>
    obtain rfl:=hj2.inv_int
    have hO2:runL (lvs d) 0 = if v = (k:Int) then runL (stk js) (k + 1) else none:=hO
    refine iteT ⟨_,rfl,_,rfl,rfl,_,rfl,?_⟩
    by_cases hv:v = (k:Int)
    ·rw [if_pos hv] at hO2
     refine zO (decide_eq_true (congrArg V.int hv)) ?_
     refine ⟨_,rfl,_,_,rfl,rfl,wtOs js,?_,ys,js,k + 1,_,rfl,g1.trans g2,zc,hjs2,hO2,rfl,by omega⟩
     rw [yT]; omega
    ·rw [if_neg hv] at hO2
     exact zJ (decide_eq_false fun z=>hv (V.int.inj z)) (bad hO2)
   | _=>cases hwj
 | true =>
  refine iteT ?_
  cases j with
  | tuple es =>
   obtain ⟨a,zs,rfl,hs,hes⟩:=hj2.inv_tup
   refine ⟨_,rfl,a,zs,rfl,.inr hs,rfl,_,rfl,?_⟩
   by_cases h2:es.length = 2
   ·match es,h2,hes,hO,hμ,hs with
    | [da,db],_,hes,hO,hμ,hs =>
     cases hes with
     | @cons xa _ _ _ oa tb =>
      obtain ⟨xb,rfl,ob⟩:=tb.inv1
      refine zO rfl ?_
      rw [vn] at hO
      have hμ2:wtOs js + (wtO da + 2 + (wtO db + 2 + 0) + 3 + 2) <= 1000002:=hμ
      refine ⟨_,rfl,.inl ⟨rfl,_,SqL.of zc⟩,_,rfl,a,_,_,_,rfl,rfl,hs,rfl,l,ys,_,rfl,rfl,zc,Zn (by omega),?_⟩
      have g3:Grow [l] (upd H1 l (.lst ys)) (upd (upd H1 l (.lst ys)) l (.lst (ys ++ [xb]))):=Grow.set zc (by simp) _
      have hs3:=g3.sqT hs
      refine ⟨_,rfl,.inl ⟨rfl,_,SqL.of zc⟩,_,rfl,a,_,_,_,rfl,rfl,hs3,rfl,l,ys ++ [xb],_,rfl,rfl,zc,Zn (by rw [List.length_append]; show ys.length + 1 <= 1000000; omega),?_⟩
      have g4:Grow [l] (upd (upd H1 l (.lst ys)) l (.lst (ys ++ [xb]))) (upd (upd (upd H1 l (.lst ys)) l (.lst (ys ++ [xb]))) l (.lst (ys ++ [xb] ++ [xa]))):=Grow.set zc (by simp) _
      have g34:Grow (l :: m) _ _:=(g3.trans g4).mono (m':=l :: m) (by simp)
      refine ⟨wtOs (js ++ [db] ++ [da]),?_,_,js ++ [db] ++ [da],k,_,rfl,g1.trans (g2.trans (g3.trans g4)),zc,((hjs2.grow g34).append (.cons (ob.grow g34) .nil)).append (.cons (oa.grow g34) .nil),?_,rfl,?_⟩
      ·rw [yT,yT,yT]
       show _ < wtOs js + (wtO da + 2 + (wtO db + 2 + 0) + 3 + 2)
       omega
      ·rw [u6,u6,← List.append_assoc]; exact hO
      ·rw [yT,yT]; omega
   ·refine zJ (decide_eq_false fun z=>h2 (by have:=V.int.inj z; have:=hes.length; omega)) ?_
    rw [YA h2] at hO
    exact ⟨_,rfl,_,rfl,.tuple es,l :: m,hj2,_,rfl,iteF (iteF (bad (hO.trans rfl)))⟩
  | _=>cases ht
theorem sE:FnScope ["thing","many"] ["thing","many"] (zh (top 34)):=⟨rfl,rfl,rfl,by decide +kernel,rfl,by decide +kernel,by decide +kernel⟩
theorem sF (F:Fun K "need_tree" "need_tree" (top 34) f fd) (B:Blt mg) {A_NoNumber:Addr} {A_NoTree:Addr} (x_NoNumber:ExcC K mg "NoNumber" A_NoNumber) (x_NoTree:ExcC K mg "NoTree" A_NoTree) (qc0:zu P w K mg base n "is_tree" ["thing","many"] (vp A_NoNumber K))    :
  FnOk P w K mg base (CX1 P w) (n + 1) f fd ["thing","many"] (qk A_NoTree K):=by
 refine Fun.okX F sE yV (fun cdv A outer s H vs Q E hr h=>?_)
 obtain ⟨x,y,rfl,d,n,m,hd,rfl,n1,n40,hw,q,qe⟩:=h
 refine ⟨_,(zf (zM (zZ (zP (zX qc0 (yx fun _ _ _ z=>z) hr rfl (za (pv 0) (za (pv 1) zb))))) (zf (xO rfl x_NoTree rfl yZ z7)) zt)),?_⟩
 have hmw:zF 1 40 (.int (n:Int)) = true:=by show (decide ((1:Int) <= n) && decide ((n:Int) <= 40)) = true; rw [decide_eq_true (by omega),decide_eq_true (by omega)]; rfl
 refine ⟨_,rfl,_,rfl,_,_,rfl,d,.int n,m,hd,.int _,hw,fun _ H1 g1=>⟨_,rfl,?_⟩,fun hz=>absurd (hmw.symm.trans hz) (by decide)⟩
 rw [sj]
 cases c:wy d n with
 | true=>exact iteF (q c _ g1)
 | false=>exact iteT fun e=>qe c e _ g1
theorem wG:FnScope ["thing","row"] ["thing"] (zh (top 33)):=⟨rfl,rfl,rfl,by decide +kernel,rfl,by decide +kernel,by decide +kernel⟩
theorem tj (F:Fun K "need_deeds" "need_deeds" (top 33) f fd) (B:Blt mg) {A_NoDeed:Addr} (x_NoDeed:ExcC K mg "NoDeed" A_NoDeed) (qc0:zj P w K mg base n "is_deed" ["thing"] (we K))  {t_MOST_DEEDS:Tok} (g_MOST_DEEDS:mg "MOST_DEEDS" = some (.int 40 t_MOST_DEEDS))  :
  FnOk P w K mg base (CX1 P w) (n + 1) f fd ["thing"] (qj A_NoDeed K):=by
 refine Fun.okX F wG xP (fun cdv A outer s H vs Q E hr h=>?_)
 obtain ⟨x,rfl,d,m,hd,q,qe⟩:=h
 refine ⟨_,(zd (zA (i:=1) wG.nd rfl (Or.inl rfl) (yI (zi (zN (K:=K) rfl) rfl B.isinstance zn (za (pv 0) (za (yz rfl B.tuple zY) zb))) (yF (xI va va ze (zi zo rfl B.len yO (za (pv 0) zb)) (zL rfl g_MOST_DEEDS (show RelV (.int 40) (.int 40 t_MOST_DEEDS) from ⟨_,rfl⟩)))))) (zf (zM (PW.pt (xT (zZ (zP (pv 1))) (xq (zZ (zP (zi (yi rfl) rfl B.all v8 (za (yl (CSc.of (N':=["deed"]) (sub:=[none]) (zh (top 33)) ["thing","row"] rfl rfl (by decide +kernel) rfl) rfl (xB (pv 0)) (fun _ _ _ _ _ _=>zr (i:=0) (show (["deed"]:List Str).Nodup by decide +kernel) rfl (Or.inl rfl)) (fun _ _ _ _ _ _=>z6) (fun _ _ _ _ _ _=>(zg qc0 hr rfl (za (pv 0) zb)))) zb))))))) (zf (xO rfl x_NoDeed rfl yZ z7)) zt))),?_⟩
 refine ⟨_,rfl,_,d,m,_,_,rfl,hd,wL,_,rfl,?_⟩
 cases d with
 | tuple ds =>
  obtain ⟨a,xs,rfl,hs,ha⟩:=hd.inv_tup
  have hl:=ha.length
  refine iteT ⟨_,rfl,a,_,rfl,.inr hs,_,_,rfl,rfl,_,rfl,?_⟩
  by_cases c1:1 <= ds.length
  ·refine zO (decide_eq_true (by omega)) ⟨_,_,rfl,rfl,?_⟩
   by_cases c2:ds.length <= 40
   ·refine ⟨_,rfl,_,rfl,zJ (by rw [decide_eq_true (show (xs.length:Int) <= 40 by omega)]; rfl) ?_⟩
    refine ⟨_,rfl,a,rfl,⟨_,hs⟩,z9 (xs:=xs) (fun i ys H'=>ys = ((ds.take i).map yC).map V.bl /\ H' = H) ⟨rfl,rfl⟩ (fun i ys H' p=>by rw [p.2]; exact hs) ?_ ?_⟩
    ·rintro i x ys H' hx ⟨rfl,rfl⟩
     obtain ⟨e,he,oe⟩:=ha.get hx
     refine ⟨_,rfl,_,rfl,e,m,oe,zB (by rw [List.length_map,List.length_map,List.length_take]; omega),?_,rfl⟩
     rw [List.take_succ,he,List.map_append,List.map_append]; rfl
    ·rintro ys H' ⟨rfl,rfl⟩ l hl'
     rw [hl,List.take_length]
     have g2:=Grow.new (m:=[]) hl' (.lst ((ds.map yC).map V.bl))
     refine ⟨l,ds.map yC,rfl,SqL.of zc,_,rfl,?_⟩
     have es:xw (.tuple ds) = (ds.map yC).all id:=by show (decide (1 <= ds.length) && decide (ds.length <= 40) && _) = _; rw [decide_eq_true c1,decide_eq_true c2,List.all_map]; rfl
     rw [← es]
     cases cs:xw (.tuple ds) with
     | true=>exact iteF (q cs _ g2)
     | false=>exact iteT fun e=>qe cs e _ g2
   ·have es:xw (.tuple ds) = false:=by show (decide (1 <= ds.length) && decide (ds.length <= 40) && _) = _; rw [decide_eq_false c2,Bool.and_false,Bool.false_and]
    exact ⟨_,rfl,_,rfl,zO (by rw [decide_eq_false (show ¬ (xs.length:Int) <= 40 by omega)]; rfl) fun e=>qe es e _ (Grow.refl _ _)⟩
  ·have es:xw (.tuple ds) = false:=by show (decide (1 <= ds.length) && decide (ds.length <= 40) && _) = _; rw [decide_eq_false c1]; rfl
   exact zJ (decide_eq_false (by omega)) ⟨_,rfl,_,rfl,iteT fun e=>qe es e _ (Grow.refl _ _)⟩
 | _=>exact iteF ⟨_,rfl,_,rfl,iteT fun e=>qe rfl e _ (Grow.refl _ _)⟩
theorem ZE:FnScope ["deeds","tree"] ["deeds","tree"] (zh (top 36)):=⟨rfl,rfl,rfl,by decide +kernel,rfl,by decide +kernel,by decide +kernel⟩
theorem ZF (F:Fun K "folded" "folded" (top 36) f fd) (B:Blt mg) {A_NoTree:Addr} {A_NoNumber:Addr} {A_NoDeed:Addr} (x_NoTree:ExcC K mg "NoTree" A_NoTree) (x_NoNumber:ExcC K mg "NoNumber" A_NoNumber) (x_NoDeed:ExcC K mg "NoDeed" A_NoDeed) (qc0:zj P w K mg base n "deed_of" ["deeds","tree"] (yM 41 K)) (qc1:zu P w K mg base n "need_tree" ["thing","many"] (qk A_NoTree K)) (qc2:zu P w K mg base n "need_deeds" ["thing"] (qj A_NoDeed K))    :
  FnOk P w K mg base (CX1 P w) (n + 1) f fd ["deeds","tree"] (Zr (clsB A_NoNumber A_NoDeed A_NoBoard A_NoAsk A_NoTree) K):=by
 refine Fun.okX F ZE yV (fun cdv A outer s H vs Q E hr h=>?_)
 obtain ⟨x,y,rfl,dd,dt,m,hd,ht,bd,q,qe⟩:=h
 refine ⟨_,(zd (zI (zX qc2 (yx fun _ _ _ z=>z) hr rfl (za (pv 0) zb))) (zd (zI (zX qc1 (yx fun _ _ _ z=>z) hr rfl (za (pv 1) (za (zi zo rfl B.len yO (za (pv 0) zb)) zb)))) (zf (zm (zg qc0 hr rfl (za (pv 0) (za (pv 1) zb))))))),?_⟩
 unfold XQ24 at q
 unfold dueF at q qe
 refine ⟨_,rfl,_,rfl,dd,m,hd,fun hdp H1 g1=>?_,fun hdp e H' g=>qe .deed (by rw [hdp]; rfl) e _ g⟩
 rw [hdp,if_pos rfl] at q qe
 obtain ⟨ds,hds,dl,d1,d2,hok⟩:=rh hd hdp
 obtain ⟨r,xs,rfl,hs,hall⟩:=g1.deedsT hds
 have hl:=hall.len
 have wt:=bd.1
 refine ⟨_,rfl,_,rfl,r,_,rfl,.inr hs,_,_,rfl,dt,lenD dd,m,ht.grow (g1.wk (m:=m)),congrArg V.int (by omega),by omega,by omega,by omega,fun htp H2 g2=>?_,fun htp e H' g=>qe .tree (by rw [htp]; rfl) e _ (g1.trans g)⟩
 have q2:=q (by rw [htp]; rfl)
 obtain ⟨t,hT,ho,hc,hh⟩:=YE (ht.grow ((g1.trans g2).wk (m:=m))) htp (by omega)
 exact ⟨_,rfl,_,rfl,_,_,rfl,ds,t,0,g2.deedsT ⟨r,xs,rfl,hs,hall⟩,hT,ho,by decide,by omega,hh,fun y3 H3 g3 hy3=>q2 _ _ (g1.trans (g2.trans g3))⟩
theorem tm:FnScope ["deeds","tree","value","values","left","right"] ["deeds","tree","value","values"] (zh (top 37)):=⟨rfl,rfl,rfl,by decide +kernel,rfl,by decide +kernel,by decide +kernel⟩
theorem Yg (F:Fun K "share" "share" (top 37) f fd) (B:Blt mg) {N:Nat} (qc0:zj P w K mg base n "joined" ["one","other"] (wo K)) (qc1:zj P w K mg base n "share" ["deeds","tree","value","values"] (xM N K)) (qc2:zj P w K mg base n "made" ["deed","value"] (uK K)) (qc3:zj P w K mg base n "is_whole" ["thing"] (zy K))    :
  FnOk P w K mg base CX0 (n + 1) f fd ["deeds","tree","value","values"] (xM (N + 1) K):=by
 refine F.ok tm YV (fun cdv A outer s H vs Q E hr h=>?_)
 obtain ⟨x,y,z,u,rfl,ds,t,f0,v0,l,zs,hd,ht,ho,f1,f2,hN,rfl,rfl,hl,hz,q⟩:=h
 refine ⟨_,(zd (zM (zP (zg qc3 hr rfl (za (pv 1) zb))) (zd (zI (vF PySem.F.plainAttrs_list PySem.F.slot_list_append PySem.F.type_list_append yw (pv 3) (za (pv 2) zb))) (zf (zm (zK zS (pv 0) (pv 1) (fun _ _=>rfl))))) zt) (zd (zA (i:=4) tm.nd rfl (Or.inl rfl) (zg qc1 hr rfl (za (pv 0) (za (zK zS (pv 1) ze (fun _ _=>rfl)) (za (pv 2) (za (pv 3) zb)))))) (zd (zA (i:=5) tm.nd rfl (Or.inl rfl) (zg qc1 hr rfl (za (pv 0) (za (zK zS (pv 1) ze (fun _ _=>rfl)) (za (zg qc2 hr rfl (za (pv 4) (za (pv 2) zb))) (za (pv 3) zb)))))) (zf (zm (zg qc0 hr rfl (za (pv 4) (za (pv 5) zb)))))))),?_⟩
 have hd0:=hd
 obtain ⟨r,xs,rfl,hs,hall⟩:=hd0
 cases t with
 | leaf v =>
  cases (show y = V.int v from ht)
  cases (show v = f0 from ho)
  have f2':f0 + 1 <= ds.length:=f2
  have hz':(zs.length:Int) + 1 <= 500:=hz
  have hj:f0.toNat < ds.length:=by omega
  obtain ⟨xx,hxx,hdx⟩:=hall.getR (List.getElem?_eq_getElem hj)
  refine ⟨_,rfl,_,rfl,.int _,[],.int _,_,rfl,iteT ⟨_,rfl,.inl ⟨rfl,_,SqL.of hl⟩,_,rfl,l,_,_,rfl,rfl,hl,?_,?_⟩⟩
  ·rw [List.length_map]; exact zB (by omega)
  have g1:Grow [l] H (upd H l (.lst (zs.map V.int ++ [V.int v0]))):=Grow.set hl (by simp) _
  refine ⟨_,rfl,_,rfl,r,_,_,_,rfl,rfl,g1.sqT hs,sP (vK f1 (by rw [hall.len]; exact hj)) hxx,q _ _ g1 ?_ ?_⟩
  ·rw [zc,List.map_append]; rfl
  ·show yg K _ xx (ds.getD f0.toNat look)
   rw [List.getD_eq_getElem?_getD,List.getElem?_eq_getElem hj]; exact g1.deed hdx
 | node tl tr =>
  have hh:max tl.ht tr.ht + 1 < N + 1:=hN
  have f2':f0 + (tl.count + tr.count) <= ds.length:=f2
  have hz':(zs.length:Int) + (tl.count + tr.count) <= 500:=hz
  have c1:=yY tl
  have c2:=yY tr
  have kn:=vW (m:=[]) ht
  obtain ⟨a,xl,xr,rfl,hs2,h1,h2⟩:=ht
  refine ⟨_,rfl,_,rfl,_,[],kn,_,rfl,iteF ?_⟩
  refine ⟨_,rfl,_,rfl,a,_,_,_,rfl,rfl,hs2,rfl,_,rfl,_,rfl,_,_,_,_,rfl,ds,tl,f0,v0,l,zs,hd,h1,ho.1,f1,by omega,by omega,rfl,rfl,hl,by omega,fun y1 H1 g1 hl1 hy1=>?_⟩
  have hln:=wK ds tl v0
  refine ⟨_,rfl,_,rfl,a,_,_,_,rfl,rfl,g1.sqT hs2,rfl,_,rfl,_,rfl,_,_,rfl,uc ds tl,v0,hy1,rfl,_,rfl,_,_,_,_,rfl,ds,tr,f0 + tl.count,_,l,zs ++ vO ds tl v0,g1.deedsT hd,g1.tree h2,ho.2,by omega,by omega,by omega,rfl,rfl,hl1,?_,fun y2 H2 g2 hl2 hy2=>?_⟩
  ·rw [List.length_append]; omega
  refine ⟨_,rfl,_,rfl,_,_,rfl,uc ds tl,uc ds tr,g2.deed hy1,hy2,fun t ht=>q _ _ (g1.trans (g2.trans (Grow.new ht _))) ?_ ⟨t,rfl,SqT.of zc⟩⟩
  rw [zp (zq hl2 ht),hl2,List.append_assoc]; rfl
theorem tq:FnScope ["thing"] ["thing"] (zh (top 25)):=⟨rfl,rfl,rfl,by decide +kernel,rfl,by decide +kernel,by decide +kernel⟩
theorem tu (F:Fun K "need_value" "need_value" (top 25) f fd) (B:Blt mg) {A_NoNumber:Addr} (x_NoNumber:ExcC K mg "NoNumber" A_NoNumber) (qc0:zj P w K mg base n "is_whole" ["thing"] (zy K))    :
  FnOk P w K mg base (CX1 P w) (n + 1) f fd ["thing"] (rg A_NoNumber K):=by
 refine Fun.okX F tq xP (fun cdv A outer s H vs Q E hr h=>?_)
 obtain ⟨x,rfl,d,m,hd,q⟩:=h
 refine ⟨_,(zf (zM (zZ (zP (zg qc0 hr rfl (za (pv 0) zb)))) (zf (xO rfl x_NoNumber rfl yZ z7)) zt)),?_⟩
 refine ⟨_,rfl,_,rfl,d,m,hd,_,rfl,?_⟩
 cases hw:zx d with
 | true=>rw [if_pos hw] at q; exact iteF q
 | false=>rw [hw,if_neg (by decide)] at q; exact iteT q
theorem wH:FnScope ["deeds","tree","value","values"] ["deeds","tree","value"] (zh (top 38)):=⟨rfl,rfl,rfl,by decide +kernel,rfl,by decide +kernel,by decide +kernel⟩
theorem tv (F:Fun K "shared_out" "shared_out" (top 38) f fd) (B:Blt mg) {A_NoTree:Addr} {A_NoNumber:Addr} {A_NoDeed:Addr} (x_NoTree:ExcC K mg "NoTree" A_NoTree) (x_NoNumber:ExcC K mg "NoNumber" A_NoNumber) (x_NoDeed:ExcC K mg "NoDeed" A_NoDeed) (qc0:zj P w K mg base n "share" ["deeds","tree","value","values"] (xM 41 K)) (qc1:zu P w K mg base n "need_tree" ["thing","many"] (qk A_NoTree K)) (qc2:zu P w K mg base n "need_deeds" ["thing"] (qj A_NoDeed K)) (qc3:zu P w K mg base n "need_value" ["thing"] (rg A_NoNumber K))    :
  FnOk P w K mg base (CX1 P w) (n + 1) f fd ["deeds","tree","value"] (Zs (clsB A_NoNumber A_NoDeed A_NoBoard A_NoAsk A_NoTree) K):=by
 refine Fun.okX F wH Z8 (fun cdv A outer s H vs Q E hr h=>?_)
 obtain ⟨x,y,z,rfl,dd,dt,dv,m,hd,ht,hv,bd,q,qe⟩:=h
 refine ⟨_,(zd (zI (zX qc3 (yx fun _ _ _ z=>z) hr rfl (za (pv 2) zb))) (zd (zI (zX qc2 (yx fun _ _ _ z=>z) hr rfl (za (pv 0) zb))) (zd (zI (zX qc1 (yx fun _ _ _ z=>z) hr rfl (za (pv 1) (za (zi zo rfl B.len yO (za (pv 0) zb)) zb)))) (zd (zA (i:=3) wH.nd rfl (Or.inl rfl) (yf zb)) (zd (zI (zg qc0 hr rfl (za (pv 0) (za (pv 1) (za (pv 2) (za (pv 3) zb)))))) (zf (zm (zV zW rfl B.tuple zY (za (pv 3) zb))))))))),?_⟩
 unfold XQ24 at q
 unfold dueS at q qe
 refine ⟨_,rfl,_,rfl,dv,m,hv,?_⟩
 cases hwv:zx dv with
 | false =>
  rw [if_neg (by decide)]
  rw [hwv] at qe
  exact fun e=>qe .number rfl e _ (Grow.refl _ _)
 | true =>
 rw [if_pos rfl]
 rw [hwv,if_pos rfl] at q qe
 obtain ⟨v0,rfl⟩:=yS hwv
 obtain rfl:=hv.inv_int
 unfold dueF at q qe
 refine ⟨_,rfl,_,rfl,dd,m,hd,fun hdp H1 g1=>?_,fun hdp e H' g=>qe .deed (by rw [hdp]; rfl) e _ g⟩
 rw [hdp,if_pos rfl] at q qe
 obtain ⟨ds,hds,dl,d1,d2,hok⟩:=rh hd hdp
 obtain ⟨r,xs,rfl,hs,hall⟩:=g1.deedsT hds
 have hl:=hall.len
 have wt:=bd.1
 refine ⟨_,rfl,_,rfl,r,_,rfl,.inr hs,_,_,rfl,dt,lenD dd,m,ht.grow (g1.wk (m:=m)),congrArg V.int (by omega),by omega,by omega,by omega,fun htp H2 g2=>?_,fun htp e H' g=>qe .tree (by rw [htp]; rfl) e _ (g1.trans g)⟩
 have q2:=q (by rw [htp]; rfl)
 obtain ⟨t,hT,ho,hc,hh⟩:=YE (ht.grow ((g1.trans g2).wk (m:=m))) htp (by omega)
 refine ⟨szl rfl,fun l hlf=>?_⟩
 have g3:Grow [] H2 (upd H2 l (.lst [])):=Grow.new hlf _
 have g23:=g2.trans g3
 refine ⟨_,rfl,_,rfl,_,rfl,_,rfl,_,_,_,_,rfl,ds,t,0,v0,l,[],g23.deedsT ⟨r,xs,rfl,hs,hall⟩,g3.tree hT,ho,by decide,by omega,hh,rfl,rfl,zc,by show (0:Int) + t.count <= 500; omega,fun y4 H4 g4 hl4 hy4=>?_⟩
 refine ⟨_,rfl,l,_,rfl,.inl ⟨SqL.of hl4,fun p hp=>q2 _ _ ?_⟩⟩
 exact g1.trans (g2.trans ((((g3.wk (m:=[l])).trans g4).shrink hlf).trans (Grow.new hp _)))
theorem xZ:FnScope ["first","many","left"] ["first","many"] (zh (top 39)):=⟨rfl,rfl,rfl,by decide +kernel,rfl,by decide +kernel,by decide +kernel⟩
theorem uh (F:Fun K "halved_from" "halved_from" (top 39) f fd) (B:Blt mg) {N:Nat} (qc0:zj P w K mg base n "halved_from" ["first","many"] (z4 N K))    :
  FnOk P w K mg base CX0 (n + 1) f fd ["first","many"] (z4 (N + 1) K):=by
 refine F.ok xZ ym (fun cdv A outer s H vs Q E hr h=>?_)
 obtain ⟨x,y,rfl,f0,m,rfl,rfl,m0,m1,q⟩:=h
 refine ⟨_,(zd (zM (zw yv (pv 1) ze (zC _)) (zf (zm (pv 0))) zt) (zd (zA (i:=2) xZ.nd rfl (Or.inl rfl) (zD uJ (zD yp (pv 1) ze) ze)) (zf (zm (z8 (za (zg qc0 hr rfl (za (pv 0) (za (pv 2) zb))) (za (zg qc0 hr rfl (za (zD yp (pv 0) (pv 2)) (za (zD yJ (pv 1) (pv 2)) zb))) zb))))))),?_⟩
 refine ⟨_,rfl,rfl,_,rfl,?_⟩
 by_cases c:m = 1
 ·refine zO (decide_eq_true (congrArg V.int c)) ⟨_,rfl,q _ _ (Grow.refl _ _) ?_⟩
  rw [jR (by omega)]; exact rfl
 refine zJ (decide_eq_false fun z=>c (V.int.inj z)) ?_
 refine ⟨_,rfl,_,_,rfl,rfl,_,_,rfl,rfl,⟨by decide,by decide⟩,?_⟩
 have hL:((m + 1) / 2).toNat = (m.toNat + 1) / 2:=by omega
 have hR:(m - (m + 1) / 2).toNat = m.toNat - (m.toNat + 1) / 2:=by omega
 refine ⟨_,rfl,_,rfl,_,_,rfl,f0,_,rfl,rfl,by omega,by omega,fun y1 H1 g1 h1=>?_⟩
 refine ⟨_,rfl,_,rfl,_,_,rfl,rfl,_,rfl,_,rfl,_,_,rfl,rfl,_,_,rfl,_,_,rfl,rfl,by omega,by omega,fun y2 H2 g2 h2=>⟨szl rfl,fun t ht=>?_⟩⟩
 have g3:Grow [] H2 (upd H2 t (.tup [y1,y2])):=Grow.new ht _
 refine q _ _ (g1.trans (g2.trans g3)) ?_
 rw [qJ (by omega)]
 refine ⟨t,y1,y2,rfl,SqT.of zc,?_,?_⟩
 ·rw [hL] at h1; exact g3.tree (g2.tree h1)
 ·rw [hR,show f0 + (m + 1) / 2 = f0 + (((m.toNat + 1) / 2:Nat):Int) by omega] at h2; exact g3.tree h2
theorem ZG:FnScope ["many"] ["many"] (zh (top 40)):=⟨rfl,rfl,rfl,by decide +kernel,rfl,by decide +kernel,by decide +kernel⟩
theorem ZH (F:Fun K "halved" "halved" (top 40) f fd) (B:Blt mg) {A_NoNumber:Addr} (x_NoNumber:ExcC K mg "NoNumber" A_NoNumber) (qc0:zj P w K mg base n "halved_from" ["first","many"] (z4 40 K)) (qc1:zu P w K mg base n "need_many" ["thing"] (wA A_NoNumber K))    :
  FnOk P w K mg base (CX1 P w) (n + 1) f fd ["many"] (qZ A_NoNumber K):=by
 refine Fun.okX F ZG xP (fun cdv A outer s H vs Q E hr h=>?_)
 obtain ⟨x,rfl,d,m0,hd,q,qe⟩:=h
 refine ⟨_,(zd (zI (zX qc1 (yx fun _ _ _ z=>z) hr rfl (za (pv 0) zb))) (zf (zm (zg qc0 hr rfl (za ze (za (pv 0) zb)))))),?_⟩
 refine ⟨_,rfl,_,rfl,d,m0,hd,?_⟩
 cases hmw:zF 1 40 d with
 | false =>
  rw [if_neg (by decide)]
  exact fun e=>qe hmw e _ (Grow.refl _ _)
 | true =>
 rw [if_pos rfl]
 have q2:=q hmw
 obtain ⟨n,rfl,n1,n40⟩:=Zq hmw
 obtain rfl:=hd.inv_int
 exact ⟨_,rfl,_,_,rfl,0,n,rfl,rfl,by omega,by omega,fun y H' g _=>q2 _ _ g⟩
theorem xS:FnScope ["many","tree","number"] ["many"] (zh (top 41)):=⟨rfl,rfl,rfl,by decide +kernel,rfl,by decide +kernel,by decide +kernel⟩
theorem je (F:Fun K "chained" "chained" (top 41) f fd) (B:Blt mg) {A_NoNumber:Addr} (x_NoNumber:ExcC K mg "NoNumber" A_NoNumber) (qc0:zu P w K mg base n "need_many" ["thing"] (wA A_NoNumber K))    :
  FnOk P w K mg base (CX1 P w) (n + 1) f fd ["many"] (qZ A_NoNumber K):=by
 refine Fun.okX F xS xP (fun cdv A outer s H vs Q E hr h=>?_)
 obtain ⟨x,rfl,d,m0,hd,q,qe⟩:=h
 refine ⟨_,(zd (zI (zX qc0 (yx fun _ _ _ z=>z) hr rfl (za (pv 0) zb))) (zd (zA (i:=1) xS.nd rfl (Or.inl rfl) ze) (zd (vx PassesOwn.leaving rfl (jl rfl B.range (za ze (za (pv 0) zb))) (zr (i:=2) xS.nd rfl (Or.inl rfl)) (zf (zA (i:=1) xS.nd rfl (Or.inl rfl) (z8 (za (pv 1) (za (pv 2) zb)))))) (zf (zm (pv 1)))))),?_⟩
 refine ⟨_,rfl,_,rfl,d,m0,hd,?_⟩
 cases hmw:zF 1 40 d with
 | false =>
  rw [if_neg (by decide)]
  exact fun e=>qe hmw e _ (Grow.refl _ _)
 | true =>
 rw [if_pos rfl]
 have q2:=q hmw
 obtain ⟨n,rfl,n1,n40⟩:=Zq hmw
 obtain rfl:=hd.inv_int
 refine ⟨_,rfl,_,_,rfl,⟨by omega,by omega,by omega,by omega⟩,wm (fun i σ H'=>∃ y e,σ = [some (.int n),some y,e] /\ Grow [] H H') ⟨_,_,rfl,Grow.refl _ _⟩ ?_ ?_⟩
 ·rintro i σ H1 hi ⟨y,e,rfl,g⟩
  exact ⟨_,rfl,_,rfl,szl rfl,fun t ht=>⟨_,_,rfl,g.trans (Grow.new ht _)⟩⟩
 ·rintro σ H1 ⟨y,e,rfl,g⟩
  exact ⟨_,rfl,q2 _ _ g⟩
theorem zG:FnScope ["_law_choice","_law_handed","_law_board_here","_law_asks_here","_law_deeds","_law_tree_here","_law_value","_law_many","_law_told","e","_law_some","_law_others"] ["_law_choice","_law_handed"] (zh (top 72)):=⟨rfl,rfl,rfl,by decide +kernel,rfl,by decide +kernel,by decide +kernel⟩
theorem sG (F:Fun K "_law_word" "_law_word" (top 72) f fd) (B:Blt mg) {A_AskError:Addr} {A_NoNumber:Addr} {A_NoDeed:Addr} {A_NoBoard:Addr} {A_NoAsk:Addr} {A_NoTree:Addr} {A_played:Addr} {A_all_of:Addr} {A_ahead_of:Addr} {A_halved:Addr} {A_chained:Addr} {A_TooMany:Addr} {A_NoToken:Addr} {A_NoText:Addr} {A_NoTable:Addr} {A_NoSide:Addr} {A_NoSettings:Addr} {A_NoRow:Addr} {A_NoOrder:Addr} {A_NoNet:Addr} {A_NoHand:Addr} {A_NoCalls:Addr} (x_AskError:ExcC K mg "AskError" A_AskError) (x_NoNumber:ExcC K mg "NoNumber" A_NoNumber) (x_NoDeed:ExcC K mg "NoDeed" A_NoDeed) (x_NoBoard:ExcC K mg "NoBoard" A_NoBoard) (x_NoAsk:ExcC K mg "NoAsk" A_NoAsk) (x_NoTree:ExcC K mg "NoTree" A_NoTree) (v_played:mg "played" = some (.ref A_played)) (v_all_of:mg "all_of" = some (.ref A_all_of)) (v_ahead_of:mg "ahead_of" = some (.ref A_ahead_of)) (v_halved:mg "halved" = some (.ref A_halved)) (v_chained:mg "chained" = some (.ref A_chained)) (v_TooMany:mg "TooMany" = some (.ref A_TooMany)) (v_NoToken:mg "NoToken" = some (.ref A_NoToken)) (v_NoText:mg "NoText" = some (.ref A_NoText)) (v_NoTable:mg "NoTable" = some (.ref A_NoTable)) (v_NoSide:mg "NoSide" = some (.ref A_NoSide)) (v_NoSettings:mg "NoSettings" = some (.ref A_NoSettings)) (v_NoRow:mg "NoRow" = some (.ref A_NoRow)) (v_NoOrder:mg "NoOrder" = some (.ref A_NoOrder)) (v_NoNet:mg "NoNet" = some (.ref A_NoNet)) (v_NoHand:mg "NoHand" = some (.ref A_NoHand)) (v_NoCalls:mg "NoCalls" = some (.ref A_NoCalls)) (v_NoTree:mg "NoTree" = some (.ref A_NoTree)) (v_NoAsk:mg "NoAsk" = some (.ref A_NoAsk)) (v_NoBoard:mg "NoBoard" = some (.ref A_NoBoard)) (v_NoDeed:mg "NoDeed" = some (.ref A_NoDeed)) (v_NoNumber:mg "NoNumber" = some (.ref A_NoNumber)) (u_NoNumber:PySem.W.mroIn K A_NoNumber (.ref A_AskError) = some true) (k_NoNumber:ExcK K A_NoNumber) (q_NoNumber_NoNumber:PySem.W.kitOne K (.ref A_NoNumber) (.ref A_NoNumber) = some true) (q_NoNumber_NoDeed:PySem.W.kitOne K (.ref A_NoNumber) (.ref A_NoDeed) = some false) (q_NoNumber_NoBoard:PySem.W.kitOne K (.ref A_NoNumber) (.ref A_NoBoard) = some false) (q_NoNumber_NoAsk:PySem.W.kitOne K (.ref A_NoNumber) (.ref A_NoAsk) = some false) (q_NoNumber_NoTree:PySem.W.kitOne K (.ref A_NoNumber) (.ref A_NoTree) = some false) (q_NoNumber_NoCalls:PySem.W.kitOne K (.ref A_NoNumber) (.ref A_NoCalls) = some false) (q_NoNumber_NoHand:PySem.W.kitOne K (.ref A_NoNumber) (.ref A_NoHand) = some false) (q_NoNumber_NoNet:PySem.W.kitOne K (.ref A_NoNumber) (.ref A_NoNet) = some false) (q_NoNumber_NoOrder:PySem.W.kitOne K (.ref A_NoNumber) (.ref A_NoOrder) = some false) (q_NoNumber_NoRow:PySem.W.kitOne K (.ref A_NoNumber) (.ref A_NoRow) = some false) (q_NoNumber_NoSettings:PySem.W.kitOne K (.ref A_NoNumber) (.ref A_NoSettings) = some false) (q_NoNumber_NoSide:PySem.W.kitOne K (.ref A_NoNumber) (.ref A_NoSide) = some false) (q_NoNumber_NoTable:PySem.W.kitOne K (.ref A_NoNumber) (.ref A_NoTable) = some false) (q_NoNumber_NoText:PySem.W.kitOne K (.ref A_NoNumber) (.ref A_NoText) = some false) (q_NoNumber_NoToken:PySem.W.kitOne K (.ref A_NoNumber) (.ref A_NoToken) = some false) (q_NoNumber_TooMany:PySem.W.kitOne K (.ref A_NoNumber) (.ref A_TooMany) = some false) (q_NoNumber_ValueError:PySem.W.kitOne K (.ref A_NoNumber) (.type "ValueError") = some true) (u_NoDeed:PySem.W.mroIn K A_NoDeed (.ref A_AskError) = some true) (k_NoDeed:ExcK K A_NoDeed) (q_NoDeed_NoNumber:PySem.W.kitOne K (.ref A_NoDeed) (.ref A_NoNumber) = some false) (q_NoDeed_NoDeed:PySem.W.kitOne K (.ref A_NoDeed) (.ref A_NoDeed) = some true) (q_NoDeed_NoBoard:PySem.W.kitOne K (.ref A_NoDeed) (.ref A_NoBoard) = some false) (q_NoDeed_NoAsk:PySem.W.kitOne K (.ref A_NoDeed) (.ref A_NoAsk) = some false) (q_NoDeed_NoTree:PySem.W.kitOne K (.ref A_NoDeed) (.ref A_NoTree) = some false) (q_NoDeed_NoCalls:PySem.W.kitOne K (.ref A_NoDeed) (.ref A_NoCalls) = some false) (q_NoDeed_NoHand:PySem.W.kitOne K (.ref A_NoDeed) (.ref A_NoHand) = some false) (q_NoDeed_NoNet:PySem.W.kitOne K (.ref A_NoDeed) (.ref A_NoNet) = some false) (q_NoDeed_NoOrder:PySem.W.kitOne K (.ref A_NoDeed) (.ref A_NoOrder) = some false) (q_NoDeed_NoRow:PySem.W.kitOne K (.ref A_NoDeed) (.ref A_NoRow) = some false) (q_NoDeed_NoSettings:PySem.W.kitOne K (.ref A_NoDeed) (.ref A_NoSettings) = some false) (q_NoDeed_NoSide:PySem.W.kitOne K (.ref A_NoDeed) (.ref A_NoSide) = some false) (q_NoDeed_NoTable:PySem.W.kitOne K (.ref A_NoDeed) (.ref A_NoTable) = some false) (q_NoDeed_NoText:PySem.W.kitOne K (.ref A_NoDeed) (.ref A_NoText) = some false) (q_NoDeed_NoToken:PySem.W.kitOne K (.ref A_NoDeed) (.ref A_NoToken) = some false) (q_NoDeed_TooMany:PySem.W.kitOne K (.ref A_NoDeed) (.ref A_TooMany) = some false) (q_NoDeed_ValueError:PySem.W.kitOne K (.ref A_NoDeed) (.type "ValueError") = some true) (u_NoBoard:PySem.W.mroIn K A_NoBoard (.ref A_AskError) = some true) (k_NoBoard:ExcK K A_NoBoard) (q_NoBoard_NoNumber:PySem.W.kitOne K (.ref A_NoBoard) (.ref A_NoNumber) = some false) (q_NoBoard_NoDeed:PySem.W.kitOne K (.ref A_NoBoard) (.ref A_NoDeed) = some false) (q_NoBoard_NoBoard:PySem.W.kitOne K (.ref A_NoBoard) (.ref A_NoBoard) = some true) (q_NoBoard_NoAsk:PySem.W.kitOne K (.ref A_NoBoard) (.ref A_NoAsk) = some false) (q_NoBoard_NoTree:PySem.W.kitOne K (.ref A_NoBoard) (.ref A_NoTree) = some false) (q_NoBoard_NoCalls:PySem.W.kitOne K (.ref A_NoBoard) (.ref A_NoCalls) = some false) (q_NoBoard_NoHand:PySem.W.kitOne K (.ref A_NoBoard) (.ref A_NoHand) = some false) (q_NoBoard_NoNet:PySem.W.kitOne K (.ref A_NoBoard) (.ref A_NoNet) = some false) (q_NoBoard_NoOrder:PySem.W.kitOne K (.ref A_NoBoard) (.ref A_NoOrder) = some false) (q_NoBoard_NoRow:PySem.W.kitOne K (.ref A_NoBoard) (.ref A_NoRow) = some false) (q_NoBoard_NoSettings:PySem.W.kitOne K (.ref A_NoBoard) (.ref A_NoSettings) = some false) (q_NoBoard_NoSide:PySem.W.kitOne K (.ref A_NoBoard) (.ref A_NoSide) = some false) (q_NoBoard_NoTable:PySem.W.kitOne K (.ref A_NoBoard) (.ref A_NoTable) = some false) (q_NoBoard_NoText:PySem.W.kitOne K (.ref A_NoBoard) (.ref A_NoText) = some false) (q_NoBoard_NoToken:PySem.W.kitOne K (.ref A_NoBoard) (.ref A_NoToken) = some false) (q_NoBoard_TooMany:PySem.W.kitOne K (.ref A_NoBoard) (.ref A_TooMany) = some false) (q_NoBoard_ValueError:PySem.W.kitOne K (.ref A_NoBoard) (.type "ValueError") = some true) (u_NoAsk:PySem.W.mroIn K A_NoAsk (.ref A_AskError) = some true) (k_NoAsk:ExcK K A_NoAsk) (q_NoAsk_NoNumber:PySem.W.kitOne K (.ref A_NoAsk) (.ref A_NoNumber) = some false) (q_NoAsk_NoDeed:PySem.W.kitOne K (.ref A_NoAsk) (.ref A_NoDeed) = some false) (q_NoAsk_NoBoard:PySem.W.kitOne K (.ref A_NoAsk) (.ref A_NoBoard) = some false) (q_NoAsk_NoAsk:PySem.W.kitOne K (.ref A_NoAsk) (.ref A_NoAsk) = some true) (q_NoAsk_NoTree:PySem.W.kitOne K (.ref A_NoAsk) (.ref A_NoTree) = some false) (q_NoAsk_NoCalls:PySem.W.kitOne K (.ref A_NoAsk) (.ref A_NoCalls) = some false) (q_NoAsk_NoHand:PySem.W.kitOne K (.ref A_NoAsk) (.ref A_NoHand) = some false) (q_NoAsk_NoNet:PySem.W.kitOne K (.ref A_NoAsk) (.ref A_NoNet) = some false) (q_NoAsk_NoOrder:PySem.W.kitOne K (.ref A_NoAsk) (.ref A_NoOrder) = some false) (q_NoAsk_NoRow:PySem.W.kitOne K (.ref A_NoAsk) (.ref A_NoRow) = some false) (q_NoAsk_NoSettings:PySem.W.kitOne K (.ref A_NoAsk) (.ref A_NoSettings) = some false) (q_NoAsk_NoSide:PySem.W.kitOne K (.ref A_NoAsk) (.ref A_NoSide) = some false) (q_NoAsk_NoTable:PySem.W.kitOne K (.ref A_NoAsk) (.ref A_NoTable) = some false) (q_NoAsk_NoText:PySem.W.kitOne K (.ref A_NoAsk) (.ref A_NoText) = some false) (q_NoAsk_NoToken:PySem.W.kitOne K (.ref A_NoAsk) (.ref A_NoToken) = some false) (q_NoAsk_TooMany:PySem.W.kitOne K (.ref A_NoAsk) (.ref A_TooMany) = some false) (q_NoAsk_ValueError:PySem.W.kitOne K (.ref A_NoAsk) (.type "ValueError") = some true) (u_NoTree:PySem.W.mroIn K A_NoTree (.ref A_AskError) = some true) (k_NoTree:ExcK K A_NoTree) (q_NoTree_NoNumber:PySem.W.kitOne K (.ref A_NoTree) (.ref A_NoNumber) = some false) (q_NoTree_NoDeed:PySem.W.kitOne K (.ref A_NoTree) (.ref A_NoDeed) = some false) (q_NoTree_NoBoard:PySem.W.kitOne K (.ref A_NoTree) (.ref A_NoBoard) = some false) (q_NoTree_NoAsk:PySem.W.kitOne K (.ref A_NoTree) (.ref A_NoAsk) = some false) (q_NoTree_NoTree:PySem.W.kitOne K (.ref A_NoTree) (.ref A_NoTree) = some true) (q_NoTree_NoCalls:PySem.W.kitOne K (.ref A_NoTree) (.ref A_NoCalls) = some false) (q_NoTree_NoHand:PySem.W.kitOne K (.ref A_NoTree) (.ref A_NoHand) = some false) (q_NoTree_NoNet:PySem.W.kitOne K (.ref A_NoTree) (.ref A_NoNet) = some false) (q_NoTree_NoOrder:PySem.W.kitOne K (.ref A_NoTree) (.ref A_NoOrder) = some false) (q_NoTree_NoRow:PySem.W.kitOne K (.ref A_NoTree) (.ref A_NoRow) = some false) (q_NoTree_NoSettings:PySem.W.kitOne K (.ref A_NoTree) (.ref A_NoSettings) = some false) (q_NoTree_NoSide:PySem.W.kitOne K (.ref A_NoTree) (.ref A_NoSide) = some false) (q_NoTree_NoTable:PySem.W.kitOne K (.ref A_NoTree) (.ref A_NoTable) = some false) (q_NoTree_NoText:PySem.W.kitOne K (.ref A_NoTree) (.ref A_NoText) = some false) (q_NoTree_NoToken:PySem.W.kitOne K (.ref A_NoTree) (.ref A_NoToken) = some false) (q_NoTree_TooMany:PySem.W.kitOne K (.ref A_NoTree) (.ref A_TooMany) = some false) (q_NoTree_ValueError:PySem.W.kitOne K (.ref A_NoTree) (.type "ValueError") = some true) (qc0:zu P w K mg base n "played" ["board","asks"] (wB (clsB A_NoNumber A_NoDeed A_NoBoard A_NoAsk A_NoTree) K)) (qc1:zu P w K mg base n "all_of" ["board","asks"] (wB (clsB A_NoNumber A_NoDeed A_NoBoard A_NoAsk A_NoTree) K)) (qc2:zu P w K mg base n "ahead_of" ["board","asks"] (wB (clsB A_NoNumber A_NoDeed A_NoBoard A_NoAsk A_NoTree) K)) (qc3:zu P w K mg base n "folded" ["deeds","tree"] (Zr (clsB A_NoNumber A_NoDeed A_NoBoard A_NoAsk A_NoTree) K)) (qc4:zu P w K mg base n "shared_out" ["deeds","tree","value"] (Zs (clsB A_NoNumber A_NoDeed A_NoBoard A_NoAsk A_NoTree) K)) (qc5:zu P w K mg base n "halved" ["many"] (qZ A_NoNumber K)) (qc6:zu P w K mg base n "chained" ["many"] (qZ A_NoNumber K)) (qc7:zu P w K mg base n "is_tree" ["thing","many"] (vp A_NoNumber K)) (g_ValueError:mg "ValueError" = none)   :
  FnOk P w K mg base CX0 (n + 1) f fd ["_law_choice","_law_handed"] (wE K):=by
 refine F.ok zG ym (fun cdv A outer s H vs Q E hr h=>?_)
 obtain ⟨x,y,rfl,w,l,xs,ds,m,rfl,w8,rfl,hD,q⟩:=h
 refine ⟨_,(@zd _ _ _ _ _ (@wl _ _ _ _ _ _ (pv 1) (qh rfl (zz (zr (i:=2) zG.nd rfl (Or.inl rfl)) (zz (zr (i:=3) zG.nd rfl (Or.inl rfl)) (zz (zr (i:=4) zG.nd rfl (Or.inl rfl)) (zz (zr (i:=5) zG.nd rfl (Or.inl rfl)) (zz (zr (i:=6) zG.nd rfl (Or.inl rfl)) (zz (zr (i:=7) zG.nd rfl (Or.inl rfl)) xg))))))) (by first | rfl | decide | exact Or.inl rfl | exact Or.inr rfl | exact Or.inr (Or.inl rfl) | exact Or.inr (Or.inr rfl) | exact fun _=>rfl | exact Nat.le_of_ble_eq_true rfl) (by first | rfl | decide | exact Or.inl rfl | exact Or.inr rfl | exact Or.inr (Or.inl rfl) | exact Or.inr (Or.inr rfl) | exact fun _=>rfl | exact Nat.le_of_ble_eq_true rfl) (by first | rfl | decide | exact Or.inl rfl | exact Or.inr rfl | exact Or.inr (Or.inl rfl) | exact Or.inr (Or.inr rfl) | exact fun _=>rfl | exact Nat.le_of_ble_eq_true rfl)) (@zd _ _ _ _ _ (@zA _ _ 8 _ _ _ _ zG.nd rfl (Or.inl rfl) z7 (by first | rfl | decide | exact Or.inl rfl | exact Or.inr rfl | exact Or.inr (Or.inl rfl) | exact Or.inr (Or.inr rfl) | exact fun _=>rfl | exact Nat.le_of_ble_eq_true rfl) (by first | rfl | decide | exact Or.inl rfl | exact Or.inr rfl | exact Or.inr (Or.inl rfl) | exact Or.inr (Or.inr rfl) | exact fun _=>rfl | exact Nat.le_of_ble_eq_true rfl)) (@zd _ _ _ _ _ (Z4 (K:=K) (i:=9) (E:=(fun _ c H'=>(∃ cc,xE w ds = some cc /\ c = some (clsB A_NoNumber A_NoDeed A_NoBoard A_NoAsk A_NoTree cc)) /\ Grow [] H H')) rfl rfl rfl rfl x_AskError rfl zG.nd rfl rfl rfl (fun ps=>(@zf _ _ _ (@zM _ _ _ _ _ _ _ _ (@zw _ _ _ _ _ _ _ _ vz (pv 0) ze (zC _)) (@zf _ _ _ (@zI _ _ _ _ (qi (fs3a qc0 v_played qc1 v_all_of qc2 v_ahead_of) (wq rfl) hr (@zK _ _ _ _ _ _ _ (uN (K:=K) rfl) (@yf _ _ _ _ (@za _ _ _ _ _ (zL rfl v_played (show RelV (.ref A_played) (.ref A_played) from rfl)) (@za _ _ _ _ _ (zL rfl v_all_of (show RelV (.ref A_all_of) (.ref A_all_of) from rfl)) (@za _ _ _ _ _ (zL rfl v_ahead_of (show RelV (.ref A_ahead_of) (.ref A_ahead_of) from rfl)) zb (by first | rfl | decide | exact Or.inl rfl | exact Or.inr rfl | exact Or.inr (Or.inl rfl) | exact Or.inr (Or.inr rfl) | exact fun _=>rfl | exact Nat.le_of_ble_eq_true rfl)) (by first | rfl | decide | exact Or.inl rfl | exact Or.inr rfl | exact Or.inr (Or.inl rfl) | exact Or.inr (Or.inr rfl) | exact fun _=>rfl | exact Nat.le_of_ble_eq_true rfl)) (by first | rfl | decide | exact Or.inl rfl | exact Or.inr rfl | exact Or.inr (Or.inl rfl) | exact Or.inr (Or.inr rfl) | exact fun _=>rfl | exact Nat.le_of_ble_eq_true rfl))) (pv 0) (fun _ _=>rfl)) (@za _ _ _ _ _ (pv 2) (@za _ _ _ _ _ (pv 3) zb (by first | rfl | decide | exact Or.inl rfl | exact Or.inr rfl | exact Or.inr (Or.inl rfl) | exact Or.inr (Or.inr rfl) | exact fun _=>rfl | exact Nat.le_of_ble_eq_true rfl)) (by first | rfl | decide | exact Or.inl rfl | exact Or.inr rfl | exact Or.inr (Or.inl rfl) | exact Or.inr (Or.inr rfl) | exact fun _=>rfl | exact Nat.le_of_ble_eq_true rfl))) (by first | rfl | decide | exact Or.inl rfl | exact Or.inr rfl | exact Or.inr (Or.inl rfl) | exact Or.inr (Or.inr rfl) | exact fun _=>rfl | exact Nat.le_of_ble_eq_true rfl))) (@zf _ _ _ (@zM _ _ _ _ _ _ _ _ (@zw _ _ _ _ _ _ _ _ yv (pv 0) ze (zC _)) (@zf _ _ _ (@zI _ _ _ _ (zX qc3 (wq rfl) hr rfl (@za _ _ _ _ _ (pv 4) (@za _ _ _ _ _ (pv 5) zb (by first | rfl | decide | exact Or.inl rfl | exact Or.inr rfl | exact Or.inr (Or.inl rfl) | exact Or.inr (Or.inr rfl) | exact fun _=>rfl | exact Nat.le_of_ble_eq_true rfl)) (by first | rfl | decide | exact Or.inl rfl | exact Or.inr rfl | exact Or.inr (Or.inl rfl) | exact Or.inr (Or.inr rfl) | exact fun _=>rfl | exact Nat.le_of_ble_eq_true rfl))) (by first | rfl | decide | exact Or.inl rfl | exact Or.inr rfl | exact Or.inr (Or.inl rfl) | exact Or.inr (Or.inr rfl) | exact fun _=>rfl | exact Nat.le_of_ble_eq_true rfl))) (@zf _ _ _ (@zM _ _ _ _ _ _ _ _ (@zw _ _ _ _ _ _ _ _ yv (pv 0) ze (zC _)) (@zf _ _ _ (@zI _ _ _ _ (zX qc4 (wq rfl) hr rfl (@za _ _ _ _ _ (pv 4) (@za _ _ _ _ _ (pv 5) (@za _ _ _ _ _ (pv 6) zb (by first | rfl | decide | exact Or.inl rfl | exact Or.inr rfl | exact Or.inr (Or.inl rfl) | exact Or.inr (Or.inr rfl) | exact fun _=>rfl | exact Nat.le_of_ble_eq_true rfl)) (by first | rfl | decide | exact Or.inl rfl | exact Or.inr rfl | exact Or.inr (Or.inl rfl) | exact Or.inr (Or.inr rfl) | exact fun _=>rfl | exact Nat.le_of_ble_eq_true rfl)) (by first | rfl | decide | exact Or.inl rfl | exact Or.inr rfl | exact Or.inr (Or.inl rfl) | exact Or.inr (Or.inr rfl) | exact fun _=>rfl | exact Nat.le_of_ble_eq_true rfl))) (by first | rfl | decide | exact Or.inl rfl | exact Or.inr rfl | exact Or.inr (Or.inl rfl) | exact Or.inr (Or.inr rfl) | exact fun _=>rfl | exact Nat.le_of_ble_eq_true rfl))) (@zf _ _ _ (@zM _ _ _ _ _ _ _ _ (@zw _ _ _ _ _ _ _ _ vz (pv 0) ze (zC _)) (@zf _ _ _ (@zI _ _ _ _ (qi (fs2a qc5 v_halved qc6 v_chained) (wq rfl) hr (@zK _ _ _ _ _ _ _ (uN (K:=K) rfl) (@yf _ _ _ _ (@za _ _ _ _ _ (zL rfl v_halved (show RelV (.ref A_halved) (.ref A_halved) from rfl)) (@za _ _ _ _ _ (zL rfl v_chained (show RelV (.ref A_chained) (.ref A_chained) from rfl)) zb (by first | rfl | decide | exact Or.inl rfl | exact Or.inr rfl | exact Or.inr (Or.inl rfl) | exact Or.inr (Or.inr rfl) | exact fun _=>rfl | exact Nat.le_of_ble_eq_true rfl)) (by first | rfl | decide | exact Or.inl rfl | exact Or.inr rfl | exact Or.inr (Or.inl rfl) | exact Or.inr (Or.inr rfl) | exact fun _=>rfl | exact Nat.le_of_ble_eq_true rfl))) (@zD _ _ _ _ _ _ _ _ yJ (pv 0) ze) (fun _ _=>rfl)) (@za _ _ _ _ _ (pv 7) zb (by first | rfl | decide | exact Or.inl rfl | exact Or.inr rfl | exact Or.inr (Or.inl rfl) | exact Or.inr (Or.inr rfl) | exact fun _=>rfl | exact Nat.le_of_ble_eq_true rfl))) (by first | rfl | decide | exact Or.inl rfl | exact Or.inr rfl | exact Or.inr (Or.inl rfl) | exact Or.inr (Or.inr rfl) | exact fun _=>rfl | exact Nat.le_of_ble_eq_true rfl))) (@zf _ _ _ (@zI _ _ _ _ (zX qc7 (wq rfl) hr rfl (@za _ _ _ _ _ (pv 5) (@za _ _ _ _ _ (pv 7) zb (by first | rfl | decide | exact Or.inl rfl | exact Or.inr rfl | exact Or.inr (Or.inl rfl) | exact Or.inr (Or.inr rfl) | exact fun _=>rfl | exact Nat.le_of_ble_eq_true rfl)) (by first | rfl | decide | exact Or.inl rfl | exact Or.inr rfl | exact Or.inr (Or.inl rfl) | exact Or.inr (Or.inr rfl) | exact fun _=>rfl | exact Nat.le_of_ble_eq_true rfl))) (by first | rfl | decide | exact Or.inl rfl | exact Or.inr rfl | exact Or.inr (Or.inl rfl) | exact Or.inr (Or.inr rfl) | exact fun _=>rfl | exact Nat.le_of_ble_eq_true rfl)))))))))))) (fun e=>(@zd _ _ _ _ _ (@zA _ _ 10 _ _ _ _ zG.nd rfl (Or.inl rfl) (@yf _ _ _ _ (@za _ _ _ _ _ (@zi _ _ _ _ _ _ _ _ _ (yP (K:=K) rfl) rfl B.isinstance zn (@za _ _ _ _ _ (pv 9) (@za _ _ _ _ _ (zL rfl v_NoNumber (show RelV (.ref A_NoNumber) (.ref A_NoNumber) from rfl)) zb (by first | rfl | decide | exact Or.inl rfl | exact Or.inr rfl | exact Or.inr (Or.inl rfl) | exact Or.inr (Or.inr rfl) | exact fun _=>rfl | exact Nat.le_of_ble_eq_true rfl)) (by first | rfl | decide | exact Or.inl rfl | exact Or.inr rfl | exact Or.inr (Or.inl rfl) | exact Or.inr (Or.inr rfl) | exact fun _=>rfl | exact Nat.le_of_ble_eq_true rfl)) (by first | rfl | decide | exact Or.inl rfl | exact Or.inr rfl | exact Or.inr (Or.inl rfl) | exact Or.inr (Or.inr rfl) | exact fun _=>rfl | exact Nat.le_of_ble_eq_true rfl) (by first | rfl | decide | exact Or.inl rfl | exact Or.inr rfl | exact Or.inr (Or.inl rfl) | exact Or.inr (Or.inr rfl) | exact fun _=>rfl | exact Nat.le_of_ble_eq_true rfl) (by first | rfl | decide | exact Or.inl rfl | exact Or.inr rfl | exact Or.inr (Or.inl rfl) | exact Or.inr (Or.inr rfl) | exact fun _=>rfl | exact Nat.le_of_ble_eq_true rfl) (by first | rfl | decide | exact Or.inl rfl | exact Or.inr rfl | exact Or.inr (Or.inl rfl) | exact Or.inr (Or.inr rfl) | exact fun _=>rfl | exact Nat.le_of_ble_eq_true rfl)) (@za _ _ _ _ _ (@zi _ _ _ _ _ _ _ _ _ (yP (K:=K) rfl) rfl B.isinstance zn (@za _ _ _ _ _ (pv 9) (@za _ _ _ _ _ (zL rfl v_NoDeed (show RelV (.ref A_NoDeed) (.ref A_NoDeed) from rfl)) zb (by first | rfl | decide | exact Or.inl rfl | exact Or.inr rfl | exact Or.inr (Or.inl rfl) | exact Or.inr (Or.inr rfl) | exact fun _=>rfl | exact Nat.le_of_ble_eq_true rfl)) (by first | rfl | decide | exact Or.inl rfl | exact Or.inr rfl | exact Or.inr (Or.inl rfl) | exact Or.inr (Or.inr rfl) | exact fun _=>rfl | exact Nat.le_of_ble_eq_true rfl)) (by first | rfl | decide | exact Or.inl rfl | exact Or.inr rfl | exact Or.inr (Or.inl rfl) | exact Or.inr (Or.inr rfl) | exact fun _=>rfl | exact Nat.le_of_ble_eq_true rfl) (by first | rfl | decide | exact Or.inl rfl | exact Or.inr rfl | exact Or.inr (Or.inl rfl) | exact Or.inr (Or.inr rfl) | exact fun _=>rfl | exact Nat.le_of_ble_eq_true rfl) (by first | rfl | decide | exact Or.inl rfl | exact Or.inr rfl | exact Or.inr (Or.inl rfl) | exact Or.inr (Or.inr rfl) | exact fun _=>rfl | exact Nat.le_of_ble_eq_true rfl) (by first | rfl | decide | exact Or.inl rfl | exact Or.inr rfl | exact Or.inr (Or.inl rfl) | exact Or.inr (Or.inr rfl) | exact fun _=>rfl | exact Nat.le_of_ble_eq_true rfl)) (@za _ _ _ _ _ (@zi _ _ _ _ _ _ _ _ _ (yP (K:=K) rfl) rfl B.isinstance zn (@za _ _ _ _ _ (pv 9) (@za _ _ _ _ _ (zL rfl v_NoBoard (show RelV (.ref A_NoBoard) (.ref A_NoBoard) from rfl)) zb (by first | rfl | decide | exact Or.inl rfl | exact Or.inr rfl | exact Or.inr (Or.inl rfl) | exact Or.inr (Or.inr rfl) | exact fun _=>rfl | exact Nat.le_of_ble_eq_true rfl)) (by first | rfl | decide | exact Or.inl rfl | exact Or.inr rfl | exact Or.inr (Or.inl rfl) | exact Or.inr (Or.inr rfl) | exact fun _=>rfl | exact Nat.le_of_ble_eq_true rfl)) (by first | rfl | decide | exact Or.inl rfl | exact Or.inr rfl | exact Or.inr (Or.inl rfl) | exact Or.inr (Or.inr rfl) | exact fun _=>rfl | exact Nat.le_of_ble_eq_true rfl) (by first | rfl | decide | exact Or.inl rfl | exact Or.inr rfl | exact Or.inr (Or.inl rfl) | exact Or.inr (Or.inr rfl) | exact fun _=>rfl | exact Nat.le_of_ble_eq_true rfl) (by first | rfl | decide | exact Or.inl rfl | exact Or.inr rfl | exact Or.inr (Or.inl rfl) | exact Or.inr (Or.inr rfl) | exact fun _=>rfl | exact Nat.le_of_ble_eq_true rfl) (by first | rfl | decide | exact Or.inl rfl | exact Or.inr rfl | exact Or.inr (Or.inl rfl) | exact Or.inr (Or.inr rfl) | exact fun _=>rfl | exact Nat.le_of_ble_eq_true rfl)) (@za _ _ _ _ _ (@zi _ _ _ _ _ _ _ _ _ (yP (K:=K) rfl) rfl B.isinstance zn (@za _ _ _ _ _ (pv 9) (@za _ _ _ _ _ (zL rfl v_NoAsk (show RelV (.ref A_NoAsk) (.ref A_NoAsk) from rfl)) zb (by first | rfl | decide | exact Or.inl rfl | exact Or.inr rfl | exact Or.inr (Or.inl rfl) | exact Or.inr (Or.inr rfl) | exact fun _=>rfl | exact Nat.le_of_ble_eq_true rfl)) (by first | rfl | decide | exact Or.inl rfl | exact Or.inr rfl | exact Or.inr (Or.inl rfl) | exact Or.inr (Or.inr rfl) | exact fun _=>rfl | exact Nat.le_of_ble_eq_true rfl)) (by first | rfl | decide | exact Or.inl rfl | exact Or.inr rfl | exact Or.inr (Or.inl rfl) | exact Or.inr (Or.inr rfl) | exact fun _=>rfl | exact Nat.le_of_ble_eq_true rfl) (by first | rfl | decide | exact Or.inl rfl | exact Or.inr rfl | exact Or.inr (Or.inl rfl) | exact Or.inr (Or.inr rfl) | exact fun _=>rfl | exact Nat.le_of_ble_eq_true rfl) (by first | rfl | decide | exact Or.inl rfl | exact Or.inr rfl | exact Or.inr (Or.inl rfl) | exact Or.inr (Or.inr rfl) | exact fun _=>rfl | exact Nat.le_of_ble_eq_true rfl) (by first | rfl | decide | exact Or.inl rfl | exact Or.inr rfl | exact Or.inr (Or.inl rfl) | exact Or.inr (Or.inr rfl) | exact fun _=>rfl | exact Nat.le_of_ble_eq_true rfl)) zb (by first | rfl | decide | exact Or.inl rfl | exact Or.inr rfl | exact Or.inr (Or.inl rfl) | exact Or.inr (Or.inr rfl) | exact fun _=>rfl | exact Nat.le_of_ble_eq_true rfl)) (by first | rfl | decide | exact Or.inl rfl | exact Or.inr rfl | exact Or.inr (Or.inl rfl) | exact Or.inr (Or.inr rfl) | exact fun _=>rfl | exact Nat.le_of_ble_eq_true rfl)) (by first | rfl | decide | exact Or.inl rfl | exact Or.inr rfl | exact Or.inr (Or.inl rfl) | exact Or.inr (Or.inr rfl) | exact fun _=>rfl | exact Nat.le_of_ble_eq_true rfl)) (by first | rfl | decide | exact Or.inl rfl | exact Or.inr rfl | exact Or.inr (Or.inl rfl) | exact Or.inr (Or.inr rfl) | exact fun _=>rfl | exact Nat.le_of_ble_eq_true rfl))) (by first | rfl | decide | exact Or.inl rfl | exact Or.inr rfl | exact Or.inr (Or.inl rfl) | exact Or.inr (Or.inr rfl) | exact fun _=>rfl | exact Nat.le_of_ble_eq_true rfl) (by first | rfl | decide | exact Or.inl rfl | exact Or.inr rfl | exact Or.inr (Or.inl rfl) | exact Or.inr (Or.inr rfl) | exact fun _=>rfl | exact Nat.le_of_ble_eq_true rfl)) (@zd _ _ _ _ _ (@zI _ _ _ _ (@vF _ _ _ _ _ _ _ _ _ _ _ _ PySem.F.plainAttrs_list PySem.F.slot_list_append PySem.F.type_list_append yw (pv 10) (@za _ _ _ _ _ (@zi _ _ _ _ _ _ _ _ _ (yP (K:=K) rfl) rfl B.isinstance zn (@za _ _ _ _ _ (pv 9) (@za _ _ _ _ _ (zL rfl v_NoTree (show RelV (.ref A_NoTree) (.ref A_NoTree) from rfl)) zb (by first | rfl | decide | exact Or.inl rfl | exact Or.inr rfl | exact Or.inr (Or.inl rfl) | exact Or.inr (Or.inr rfl) | exact fun _=>rfl | exact Nat.le_of_ble_eq_true rfl)) (by first | rfl | decide | exact Or.inl rfl | exact Or.inr rfl | exact Or.inr (Or.inl rfl) | exact Or.inr (Or.inr rfl) | exact fun _=>rfl | exact Nat.le_of_ble_eq_true rfl)) (by first | rfl | decide | exact Or.inl rfl | exact Or.inr rfl | exact Or.inr (Or.inl rfl) | exact Or.inr (Or.inr rfl) | exact fun _=>rfl | exact Nat.le_of_ble_eq_true rfl) (by first | rfl | decide | exact Or.inl rfl | exact Or.inr rfl | exact Or.inr (Or.inl rfl) | exact Or.inr (Or.inr rfl) | exact fun _=>rfl | exact Nat.le_of_ble_eq_true rfl) (by first | rfl | decide | exact Or.inl rfl | exact Or.inr rfl | exact Or.inr (Or.inl rfl) | exact Or.inr (Or.inr rfl) | exact fun _=>rfl | exact Nat.le_of_ble_eq_true rfl) (by first | rfl | decide | exact Or.inl rfl | exact Or.inr rfl | exact Or.inr (Or.inl rfl) | exact Or.inr (Or.inr rfl) | exact fun _=>rfl | exact Nat.le_of_ble_eq_true rfl)) zb (by first | rfl | decide | exact Or.inl rfl | exact Or.inr rfl | exact Or.inr (Or.inl rfl) | exact Or.inr (Or.inr rfl) | exact fun _=>rfl | exact Nat.le_of_ble_eq_true rfl)) (by first | rfl | decide | exact Or.inl rfl | exact Or.inr rfl | exact Or.inr (Or.inl rfl) | exact Or.inr (Or.inr rfl) | exact fun _=>rfl | exact Nat.le_of_ble_eq_true rfl) (by first | rfl | decide | exact Or.inl rfl | exact Or.inr rfl | exact Or.inr (Or.inl rfl) | exact Or.inr (Or.inr rfl) | exact fun _=>rfl | exact Nat.le_of_ble_eq_true rfl) (by first | rfl | decide | exact Or.inl rfl | exact Or.inr rfl | exact Or.inr (Or.inl rfl) | exact Or.inr (Or.inr rfl) | exact fun _=>rfl | exact Nat.le_of_ble_eq_true rfl) (by first | rfl | decide | exact Or.inl rfl | exact Or.inr rfl | exact Or.inr (Or.inl rfl) | exact Or.inr (Or.inr rfl) | exact fun _=>rfl | exact Nat.le_of_ble_eq_true rfl) (by first | rfl | decide | exact Or.inl rfl | exact Or.inr rfl | exact Or.inr (Or.inl rfl) | exact Or.inr (Or.inr rfl) | exact fun _=>rfl | exact Nat.le_of_ble_eq_true rfl)) (by first | rfl | decide | exact Or.inl rfl | exact Or.inr rfl | exact Or.inr (Or.inl rfl) | exact Or.inr (Or.inr rfl) | exact fun _=>rfl | exact Nat.le_of_ble_eq_true rfl)) (@zd _ _ _ _ _ (@zA _ _ 11 _ _ _ _ zG.nd rfl (Or.inl rfl) (@zi _ _ _ _ _ _ _ _ _ (rc (K:=K) rfl) rfl B.isinstance zn (@za _ _ _ _ _ (pv 9) (@za _ _ _ _ _ (@z8 _ _ _ _ _ (@za _ _ _ _ _ (zL rfl v_NoCalls (show RelV (.ref A_NoCalls) (.ref A_NoCalls) from rfl)) (@za _ _ _ _ _ (zL rfl v_NoHand (show RelV (.ref A_NoHand) (.ref A_NoHand) from rfl)) (@za _ _ _ _ _ (zL rfl v_NoNet (show RelV (.ref A_NoNet) (.ref A_NoNet) from rfl)) (@za _ _ _ _ _ (zL rfl v_NoOrder (show RelV (.ref A_NoOrder) (.ref A_NoOrder) from rfl)) (@za _ _ _ _ _ (zL rfl v_NoRow (show RelV (.ref A_NoRow) (.ref A_NoRow) from rfl)) (@za _ _ _ _ _ (zL rfl v_NoSettings (show RelV (.ref A_NoSettings) (.ref A_NoSettings) from rfl)) (@za _ _ _ _ _ (zL rfl v_NoSide (show RelV (.ref A_NoSide) (.ref A_NoSide) from rfl)) (@za _ _ _ _ _ (zL rfl v_NoTable (show RelV (.ref A_NoTable) (.ref A_NoTable) from rfl)) (@za _ _ _ _ _ (zL rfl v_NoText (show RelV (.ref A_NoText) (.ref A_NoText) from rfl)) (@za _ _ _ _ _ (zL rfl v_NoToken (show RelV (.ref A_NoToken) (.ref A_NoToken) from rfl)) zb (by first | rfl | decide | exact Or.inl rfl | exact Or.inr rfl | exact Or.inr (Or.inl rfl) | exact Or.inr (Or.inr rfl) | exact fun _=>rfl | exact Nat.le_of_ble_eq_true rfl)) (by first | rfl | decide | exact Or.inl rfl | exact Or.inr rfl | exact Or.inr (Or.inl rfl) | exact Or.inr (Or.inr rfl) | exact fun _=>rfl | exact Nat.le_of_ble_eq_true rfl)) (by first | rfl | decide | exact Or.inl rfl | exact Or.inr rfl | exact Or.inr (Or.inl rfl) | exact Or.inr (Or.inr rfl) | exact fun _=>rfl | exact Nat.le_of_ble_eq_true rfl)) (by first | rfl | decide | exact Or.inl rfl | exact Or.inr rfl | exact Or.inr (Or.inl rfl) | exact Or.inr (Or.inr rfl) | exact fun _=>rfl | exact Nat.le_of_ble_eq_true rfl)) (by first | rfl | decide | exact Or.inl rfl | exact Or.inr rfl | exact Or.inr (Or.inl rfl) | exact Or.inr (Or.inr rfl) | exact fun _=>rfl | exact Nat.le_of_ble_eq_true rfl)) (by first | rfl | decide | exact Or.inl rfl | exact Or.inr rfl | exact Or.inr (Or.inl rfl) | exact Or.inr (Or.inr rfl) | exact fun _=>rfl | exact Nat.le_of_ble_eq_true rfl)) (by first | rfl | decide | exact Or.inl rfl | exact Or.inr rfl | exact Or.inr (Or.inl rfl) | exact Or.inr (Or.inr rfl) | exact fun _=>rfl | exact Nat.le_of_ble_eq_true rfl)) (by first | rfl | decide | exact Or.inl rfl | exact Or.inr rfl | exact Or.inr (Or.inl rfl) | exact Or.inr (Or.inr rfl) | exact fun _=>rfl | exact Nat.le_of_ble_eq_true rfl)) (by first | rfl | decide | exact Or.inl rfl | exact Or.inr rfl | exact Or.inr (Or.inl rfl) | exact Or.inr (Or.inr rfl) | exact fun _=>rfl | exact Nat.le_of_ble_eq_true rfl)) (by first | rfl | decide | exact Or.inl rfl | exact Or.inr rfl | exact Or.inr (Or.inl rfl) | exact Or.inr (Or.inr rfl) | exact fun _=>rfl | exact Nat.le_of_ble_eq_true rfl))) zb (by first | rfl | decide | exact Or.inl rfl | exact Or.inr rfl | exact Or.inr (Or.inl rfl) | exact Or.inr (Or.inr rfl) | exact fun _=>rfl | exact Nat.le_of_ble_eq_true rfl)) (by first | rfl | decide | exact Or.inl rfl | exact Or.inr rfl | exact Or.inr (Or.inl rfl) | exact Or.inr (Or.inr rfl) | exact fun _=>rfl | exact Nat.le_of_ble_eq_true rfl)) (by first | rfl | decide | exact Or.inl rfl | exact Or.inr rfl | exact Or.inr (Or.inl rfl) | exact Or.inr (Or.inr rfl) | exact fun _=>rfl | exact Nat.le_of_ble_eq_true rfl) (by first | rfl | decide | exact Or.inl rfl | exact Or.inr rfl | exact Or.inr (Or.inl rfl) | exact Or.inr (Or.inr rfl) | exact fun _=>rfl | exact Nat.le_of_ble_eq_true rfl) (by first | rfl | decide | exact Or.inl rfl | exact Or.inr rfl | exact Or.inr (Or.inl rfl) | exact Or.inr (Or.inr rfl) | exact fun _=>rfl | exact Nat.le_of_ble_eq_true rfl) (by first | rfl | decide | exact Or.inl rfl | exact Or.inr rfl | exact Or.inr (Or.inl rfl) | exact Or.inr (Or.inr rfl) | exact fun _=>rfl | exact Nat.le_of_ble_eq_true rfl)) (by first | rfl | decide | exact Or.inl rfl | exact Or.inr rfl | exact Or.inr (Or.inl rfl) | exact Or.inr (Or.inr rfl) | exact fun _=>rfl | exact Nat.le_of_ble_eq_true rfl) (by first | rfl | decide | exact Or.inl rfl | exact Or.inr rfl | exact Or.inr (Or.inl rfl) | exact Or.inr (Or.inr rfl) | exact fun _=>rfl | exact Nat.le_of_ble_eq_true rfl)) (@zd _ _ _ _ _ (@zA _ _ 8 _ _ _ _ zG.nd rfl (Or.inl rfl) z7 (by first | rfl | decide | exact Or.inl rfl | exact Or.inr rfl | exact Or.inr (Or.inl rfl) | exact Or.inr (Or.inr rfl) | exact fun _=>rfl | exact Nat.le_of_ble_eq_true rfl) (by first | rfl | decide | exact Or.inl rfl | exact Or.inr rfl | exact Or.inr (Or.inl rfl) | exact Or.inr (Or.inr rfl) | exact fun _=>rfl | exact Nat.le_of_ble_eq_true rfl)) (@zf _ _ _ (@zM _ _ _ _ _ _ _ _ (@PW.pt _ _ _ (@xA _ _ _ _ _ _ _ (@zw _ _ _ _ _ _ _ _ yv (@vF _ _ _ _ _ _ _ _ _ _ _ _ PySem.F.plainAttrs_list PySem.F.slot_list_count PySem.F.type_list_count (re (K:=K) rfl) (pv 10) (@za _ _ _ _ _ x6 zb (by first | rfl | decide | exact Or.inl rfl | exact Or.inr rfl | exact Or.inr (Or.inl rfl) | exact Or.inr (Or.inr rfl) | exact fun _=>rfl | exact Nat.le_of_ble_eq_true rfl)) (by first | rfl | decide | exact Or.inl rfl | exact Or.inr rfl | exact Or.inr (Or.inl rfl) | exact Or.inr (Or.inr rfl) | exact fun _=>rfl | exact Nat.le_of_ble_eq_true rfl) (by first | rfl | decide | exact Or.inl rfl | exact Or.inr rfl | exact Or.inr (Or.inl rfl) | exact Or.inr (Or.inr rfl) | exact fun _=>rfl | exact Nat.le_of_ble_eq_true rfl) (by first | rfl | decide | exact Or.inl rfl | exact Or.inr rfl | exact Or.inr (Or.inl rfl) | exact Or.inr (Or.inr rfl) | exact fun _=>rfl | exact Nat.le_of_ble_eq_true rfl) (by first | rfl | decide | exact Or.inl rfl | exact Or.inr rfl | exact Or.inr (Or.inl rfl) | exact Or.inr (Or.inr rfl) | exact fun _=>rfl | exact Nat.le_of_ble_eq_true rfl) (by first | rfl | decide | exact Or.inl rfl | exact Or.inr rfl | exact Or.inr (Or.inl rfl) | exact Or.inr (Or.inr rfl) | exact fun _=>rfl | exact Nat.le_of_ble_eq_true rfl)) ze (zC _)) (@xA _ _ _ _ _ _ _ (@zZ _ _ _ _ (@zP _ _ _ (pv 11) (by first | rfl | decide | exact Or.inl rfl | exact Or.inr rfl | exact Or.inr (Or.inl rfl) | exact Or.inr (Or.inr rfl) | exact fun _=>rfl | exact Nat.le_of_ble_eq_true rfl))) (@xA _ _ _ _ _ _ _ (@zZ _ _ _ _ (@zP _ _ _ (@zi _ _ _ _ _ _ _ _ _ (yP (K:=K) rfl) rfl B.isinstance zn (@za _ _ _ _ _ (pv 9) (@za _ _ _ _ _ (zL rfl v_TooMany (show RelV (.ref A_TooMany) (.ref A_TooMany) from rfl)) zb (by first | rfl | decide | exact Or.inl rfl | exact Or.inr rfl | exact Or.inr (Or.inl rfl) | exact Or.inr (Or.inr rfl) | exact fun _=>rfl | exact Nat.le_of_ble_eq_true rfl)) (by first | rfl | decide | exact Or.inl rfl | exact Or.inr rfl | exact Or.inr (Or.inl rfl) | exact Or.inr (Or.inr rfl) | exact fun _=>rfl | exact Nat.le_of_ble_eq_true rfl)) (by first | rfl | decide | exact Or.inl rfl | exact Or.inr rfl | exact Or.inr (Or.inl rfl) | exact Or.inr (Or.inr rfl) | exact fun _=>rfl | exact Nat.le_of_ble_eq_true rfl) (by first | rfl | decide | exact Or.inl rfl | exact Or.inr rfl | exact Or.inr (Or.inl rfl) | exact Or.inr (Or.inr rfl) | exact fun _=>rfl | exact Nat.le_of_ble_eq_true rfl) (by first | rfl | decide | exact Or.inl rfl | exact Or.inr rfl | exact Or.inr (Or.inl rfl) | exact Or.inr (Or.inr rfl) | exact fun _=>rfl | exact Nat.le_of_ble_eq_true rfl) (by first | rfl | decide | exact Or.inl rfl | exact Or.inr rfl | exact Or.inr (Or.inl rfl) | exact Or.inr (Or.inr rfl) | exact fun _=>rfl | exact Nat.le_of_ble_eq_true rfl)) (by first | rfl | decide | exact Or.inl rfl | exact Or.inr rfl | exact Or.inr (Or.inl rfl) | exact Or.inr (Or.inr rfl) | exact fun _=>rfl | exact Nat.le_of_ble_eq_true rfl))) (@xz _ _ _ _ (@zP _ _ _ (@zi _ _ _ _ _ _ _ _ _ (yP (K:=K) rfl) rfl B.isinstance zn (@za _ _ _ _ _ (pv 9) (@za _ _ _ _ _ (yz rfl g_ValueError tY) zb (by first | rfl | decide | exact Or.inl rfl | exact Or.inr rfl | exact Or.inr (Or.inl rfl) | exact Or.inr (Or.inr rfl) | exact fun _=>rfl | exact Nat.le_of_ble_eq_true rfl)) (by first | rfl | decide | exact Or.inl rfl | exact Or.inr rfl | exact Or.inr (Or.inl rfl) | exact Or.inr (Or.inr rfl) | exact fun _=>rfl | exact Nat.le_of_ble_eq_true rfl)) (by first | rfl | decide | exact Or.inl rfl | exact Or.inr rfl | exact Or.inr (Or.inl rfl) | exact Or.inr (Or.inr rfl) | exact fun _=>rfl | exact Nat.le_of_ble_eq_true rfl) (by first | rfl | decide | exact Or.inl rfl | exact Or.inr rfl | exact Or.inr (Or.inl rfl) | exact Or.inr (Or.inr rfl) | exact fun _=>rfl | exact Nat.le_of_ble_eq_true rfl) (by first | rfl | decide | exact Or.inl rfl | exact Or.inr rfl | exact Or.inr (Or.inl rfl) | exact Or.inr (Or.inr rfl) | exact fun _=>rfl | exact Nat.le_of_ble_eq_true rfl) (by first | rfl | decide | exact Or.inl rfl | exact Or.inr rfl | exact Or.inr (Or.inl rfl) | exact Or.inr (Or.inr rfl) | exact fun _=>rfl | exact Nat.le_of_ble_eq_true rfl)) (by first | rfl | decide | exact Or.inl rfl | exact Or.inr rfl | exact Or.inr (Or.inl rfl) | exact Or.inr (Or.inr rfl) | exact fun _=>rfl | exact Nat.le_of_ble_eq_true rfl))))))) (@zf _ _ _ (@zA _ _ 8 _ _ _ _ zG.nd rfl (Or.inl rfl) (@zK _ _ _ _ _ _ _ (uN (K:=K) rfl) (@yf _ _ _ _ (@za _ _ _ _ _ z7 (@za _ _ _ _ _ z7 (@za _ _ _ _ _ z7 (@za _ _ _ _ _ z7 (@za _ _ _ _ _ z7 zb (by first | rfl | decide | exact Or.inl rfl | exact Or.inr rfl | exact Or.inr (Or.inl rfl) | exact Or.inr (Or.inr rfl) | exact fun _=>rfl | exact Nat.le_of_ble_eq_true rfl)) (by first | rfl | decide | exact Or.inl rfl | exact Or.inr rfl | exact Or.inr (Or.inl rfl) | exact Or.inr (Or.inr rfl) | exact fun _=>rfl | exact Nat.le_of_ble_eq_true rfl)) (by first | rfl | decide | exact Or.inl rfl | exact Or.inr rfl | exact Or.inr (Or.inl rfl) | exact Or.inr (Or.inr rfl) | exact fun _=>rfl | exact Nat.le_of_ble_eq_true rfl)) (by first | rfl | decide | exact Or.inl rfl | exact Or.inr rfl | exact Or.inr (Or.inl rfl) | exact Or.inr (Or.inr rfl) | exact fun _=>rfl | exact Nat.le_of_ble_eq_true rfl)) (by first | rfl | decide | exact Or.inl rfl | exact Or.inr rfl | exact Or.inr (Or.inl rfl) | exact Or.inr (Or.inr rfl) | exact fun _=>rfl | exact Nat.le_of_ble_eq_true rfl))) (@vF _ _ _ _ _ _ _ _ _ _ _ _ PySem.F.plainAttrs_list PySem.F.slot_list_index PySem.F.type_list_index (rf (K:=K) rfl) (pv 10) (@za _ _ _ _ _ x6 zb (by first | rfl | decide | exact Or.inl rfl | exact Or.inr rfl | exact Or.inr (Or.inl rfl) | exact Or.inr (Or.inr rfl) | exact fun _=>rfl | exact Nat.le_of_ble_eq_true rfl)) (by first | rfl | decide | exact Or.inl rfl | exact Or.inr rfl | exact Or.inr (Or.inl rfl) | exact Or.inr (Or.inr rfl) | exact fun _=>rfl | exact Nat.le_of_ble_eq_true rfl) (by first | rfl | decide | exact Or.inl rfl | exact Or.inr rfl | exact Or.inr (Or.inl rfl) | exact Or.inr (Or.inr rfl) | exact fun _=>rfl | exact Nat.le_of_ble_eq_true rfl) (by first | rfl | decide | exact Or.inl rfl | exact Or.inr rfl | exact Or.inr (Or.inl rfl) | exact Or.inr (Or.inr rfl) | exact fun _=>rfl | exact Nat.le_of_ble_eq_true rfl) (by first | rfl | decide | exact Or.inl rfl | exact Or.inr rfl | exact Or.inr (Or.inl rfl) | exact Or.inr (Or.inr rfl) | exact fun _=>rfl | exact Nat.le_of_ble_eq_true rfl) (by first | rfl | decide | exact Or.inl rfl | exact Or.inr rfl | exact Or.inr (Or.inl rfl) | exact Or.inr (Or.inr rfl) | exact fun _=>rfl | exact Nat.le_of_ble_eq_true rfl)) (fun _ _=>rfl)) (by first | rfl | decide | exact Or.inl rfl | exact Or.inr rfl | exact Or.inr (Or.inl rfl) | exact Or.inr (Or.inr rfl) | exact fun _=>rfl | exact Nat.le_of_ble_eq_true rfl) (by first | rfl | decide | exact Or.inl rfl | exact Or.inr rfl | exact Or.inr (Or.inl rfl) | exact Or.inr (Or.inr rfl) | exact fun _=>rfl | exact Nat.le_of_ble_eq_true rfl))) zt)))))))) (@zf _ _ _ (@zm _ _ _ _ (pv 8)))))),?_⟩
 obtain ⟨hq,ho,hlen,hbd⟩:=hD
 obtain ⟨x0,x1,x2,x3,x4,x5,d0,d1,d2,d3,d4,d5,rfl,rfl,o0,o1,o2,o3,o4,o5⟩:=qp ho hlen
 have b0:=hbd d0 (by simp)
 have b1:=hbd d1 (by simp)
 have b2:=hbd d2 (by simp)
 have b3:=hbd d3 (by simp)
 have w0:=y8 (d:=d0)
 have w1:=y8 (d:=d1)
 have z0:=b0.1
 have z1:=b1.1
 have z3:=b3.1
 have y3:=b3.2
 refine ⟨_,rfl,l,[x0,x1,x2,x3,x4,x5],rfl,hq,rfl,_,_,rfl,_,_,rfl,_,_,rfl,_,_,rfl,_,_,rfl,_,_,rfl,rfl,?_⟩
 refine c_nx ?_
 have qn:xE w [d0,d1,d2,d3,d4,d5] = none -> ∀ H',Grow [] H H' -> Q (.str "told") H':=fun h H' g=>by
  have:=q H' g
  rw [h] at this; exact this
 refine ⟨?_,fun e C' σ' H' hl' hn hE=>?_⟩
 ·rcases (by omega:w = 0 \/ w = 1 \/ w = 2 \/ w = 3 \/ w = 4 \/ w = 5 \/ w = 6 \/ w = 7) with rfl | rfl | rfl | rfl | rfl | rfl | rfl | rfl
  ·refine ⟨_,rfl,_,_,rfl,rfl,_,rfl,zO (decide_eq_true (by decide)) ⟨szl rfl,fun ln hln=>?_⟩⟩
   have gl:=Grow.new (m:=[]) hln (.lst [.ref A_played,.ref A_all_of,.ref A_ahead_of])
   exact ⟨_,rfl,ln,_,0,_,rfl,rfl,SqL.of zc,zT (j:=0) rfl,A_played,_,rfl,.inl ⟨rfl,rfl⟩,_,rfl,_,rfl,_,_,rfl,d0,d1,m,o0.grow (gl.wk (m:=m)),o1.grow (gl.wk (m:=m)),b0,b1,fun h r H' g=>⟨_,rfl,qn h _ (gl.trans g)⟩,fun c h e H' g=>⟨⟨c,h,rfl⟩,gl.trans g⟩⟩
  ·refine ⟨_,rfl,_,_,rfl,rfl,_,rfl,zO (decide_eq_true (by decide)) ⟨szl rfl,fun ln hln=>?_⟩⟩
   have gl:=Grow.new (m:=[]) hln (.lst [.ref A_played,.ref A_all_of,.ref A_ahead_of])
   exact ⟨_,rfl,ln,_,1,_,rfl,rfl,SqL.of zc,zT (j:=1) rfl,A_all_of,_,rfl,.inr (.inl ⟨rfl,rfl⟩),_,rfl,_,rfl,_,_,rfl,d0,d1,m,o0.grow (gl.wk (m:=m)),o1.grow (gl.wk (m:=m)),b0,b1,fun h r H' g=>⟨_,rfl,qn h _ (gl.trans g)⟩,fun c h e H' g=>⟨⟨c,h,rfl⟩,gl.trans g⟩⟩
  ·refine ⟨_,rfl,_,_,rfl,rfl,_,rfl,zO (decide_eq_true (by decide)) ⟨szl rfl,fun ln hln=>?_⟩⟩
   have gl:=Grow.new (m:=[]) hln (.lst [.ref A_played,.ref A_all_of,.ref A_ahead_of])
   exact ⟨_,rfl,ln,_,2,_,rfl,rfl,SqL.of zc,zT (j:=2) rfl,A_ahead_of,_,rfl,.inr (.inr ⟨rfl,rfl⟩),_,rfl,_,rfl,_,_,rfl,d0,d1,m,o0.grow (gl.wk (m:=m)),o1.grow (gl.wk (m:=m)),b0,b1,fun h r H' g=>⟨_,rfl,qn h _ (gl.trans g)⟩,fun c h e H' g=>⟨⟨c,h,rfl⟩,gl.trans g⟩⟩
  ·exact ⟨_,rfl,_,_,rfl,rfl,_,rfl,zJ (decide_eq_false (by decide)) ⟨_,rfl,rfl,_,rfl,zO (decide_eq_true rfl) ⟨_,rfl,_,rfl,_,_,rfl,d2,d3,m,o2,o3,b3,fun h r H' g=>⟨_,rfl,qn h _ (g)⟩,fun c h e H' g=>⟨⟨c,h,rfl⟩,g⟩⟩⟩⟩
  ·exact ⟨_,rfl,_,_,rfl,rfl,_,rfl,zJ (decide_eq_false (by decide)) ⟨_,rfl,rfl,_,rfl,zJ (decide_eq_false fun z=>absurd (V.int.inj z) (by decide)) ⟨_,rfl,rfl,_,rfl,zO (decide_eq_true rfl) ⟨_,rfl,_,rfl,_,rfl,_,_,_,rfl,d2,d3,d4,m,o2,o3,o4,b3,fun h r H' g=>⟨_,rfl,qn h _ (g)⟩,fun c h e H' g=>⟨⟨c,h,rfl⟩,g⟩⟩⟩⟩⟩
  ·refine ⟨_,rfl,_,_,rfl,rfl,_,rfl,zJ (decide_eq_false (by decide)) ⟨_,rfl,rfl,_,rfl,zJ (decide_eq_false fun z=>absurd (V.int.inj z) (by decide)) ⟨_,rfl,rfl,_,rfl,zJ (decide_eq_false fun z=>absurd (V.int.inj z) (by decide)) ⟨_,rfl,_,_,rfl,rfl,_,rfl,zO (decide_eq_true (by decide)) ⟨szl rfl,fun ln hln=>?_⟩⟩⟩⟩⟩
   have gl:=Grow.new (m:=[]) hln (.lst [.ref A_halved,.ref A_chained])
   have qm:zF 1 40 d5 = true -> xE 5 [d0,d1,d2,d3,d4,d5] = none:=fun h=>by show dueM d5 = none; unfold dueM; rw [h]; rfl
   have qf:zF 1 40 d5 = false -> xE 5 [d0,d1,d2,d3,d4,d5] = some .number:=fun h=>by show dueM d5 = some .number; unfold dueM; rw [h]; rfl
   exact ⟨_,rfl,_,_,rfl,rfl,ln,_,0,_,rfl,rfl,SqL.of zc,zT (j:=0) rfl,A_halved,_,rfl,.inl ⟨rfl,rfl⟩,_,rfl,_,rfl,d5,m,o5.grow (gl.wk (m:=m)),fun h r H' g=>⟨_,rfl,qn (qm h) _ (gl.trans g)⟩,fun h e H' g=>⟨⟨.number,qf h,rfl⟩,gl.trans g⟩⟩
  ·refine ⟨_,rfl,_,_,rfl,rfl,_,rfl,zJ (decide_eq_false (by decide)) ⟨_,rfl,rfl,_,rfl,zJ (decide_eq_false fun z=>absurd (V.int.inj z) (by decide)) ⟨_,rfl,rfl,_,rfl,zJ (decide_eq_false fun z=>absurd (V.int.inj z) (by decide)) ⟨_,rfl,_,_,rfl,rfl,_,rfl,zO (decide_eq_true (by decide)) ⟨szl rfl,fun ln hln=>?_⟩⟩⟩⟩⟩
   have gl:=Grow.new (m:=[]) hln (.lst [.ref A_halved,.ref A_chained])
   have qm:zF 1 40 d5 = true -> xE 6 [d0,d1,d2,d3,d4,d5] = none:=fun h=>by show dueM d5 = none; unfold dueM; rw [h]; rfl
   have qf:zF 1 40 d5 = false -> xE 6 [d0,d1,d2,d3,d4,d5] = some .number:=fun h=>by show dueM d5 = some .number; unfold dueM; rw [h]; rfl
   exact ⟨_,rfl,_,_,rfl,rfl,ln,_,1,_,rfl,rfl,SqL.of zc,zT (j:=1) rfl,A_chained,_,rfl,.inr ⟨rfl,rfl⟩,_,rfl,_,rfl,d5,m,o5.grow (gl.wk (m:=m)),fun h r H' g=>⟨_,rfl,qn (qm h) _ (gl.trans g)⟩,fun h e H' g=>⟨⟨.number,qf h,rfl⟩,gl.trans g⟩⟩
  ·have qm:zF 1 40 d5 = true -> xE 7 [d0,d1,d2,d3,d4,d5] = none:=fun h=>by show dueM d5 = none; unfold dueM; rw [h]; rfl
   have qf:zF 1 40 d5 = false -> xE 7 [d0,d1,d2,d3,d4,d5] = some .number:=fun h=>by show dueM d5 = some .number; unfold dueM; rw [h]; rfl
   exact ⟨_,rfl,_,_,rfl,rfl,_,rfl,zJ (decide_eq_false (by decide)) ⟨_,rfl,rfl,_,rfl,zJ (decide_eq_false fun z=>absurd (V.int.inj z) (by decide)) ⟨_,rfl,rfl,_,rfl,zJ (decide_eq_false fun z=>absurd (V.int.inj z) (by decide)) ⟨_,rfl,_,_,rfl,rfl,_,rfl,zJ (decide_eq_false (by decide)) ⟨_,rfl,_,rfl,_,_,rfl,d3,d5,m,o3,o5,by omega,fun h H' g=>⟨_,rfl,qn (qm h) _ g⟩,fun h e H' g=>⟨⟨.number,qf h,rfl⟩,g⟩⟩⟩⟩⟩⟩
 obtain ⟨⟨cc,hcc,hC⟩,g⟩:=hE
 rw [hcc] at q
 clear qn
 obtain ⟨s0,s1,s2,s3,s4,s5,s6,s7,s8,s9,s10,s11,rfl⟩:∃ a b c d e f g h i j k l,σ' = [a,b,c,d,e,f,g,h,i,j,k,l]:=by
  match σ',hl' with
  | [a,b,c,d,e,f,g,h,i,j,k,l],_=>exact ⟨a,b,c,d,e,f,g,h,i,j,k,l,rfl⟩
 cases cc with
 | number =>
  obtain rfl:A_NoNumber = C':=(Option.some.inj hC).symm
  refine ⟨u_NoNumber,?_⟩
  have gn:=Grow.new (m:=[]) hn (ExO e A_NoNumber)
  have he:=zc (H:=H') (a:=e) (o:=ExO e A_NoNumber)
  generalize upd H' e _ = H1 at gn he ⊢
  refine ⟨_,rfl,e,_,_,_,_,rfl,he,(fun _ r=>r),k_NoNumber,q_NoNumber_NoNumber,_,rfl,e,_,_,_,_,rfl,he,(fun _ r=>r),k_NoNumber,q_NoNumber_NoDeed,_,rfl,e,_,_,_,_,rfl,he,(fun _ r=>r),k_NoNumber,q_NoNumber_NoBoard,_,rfl,e,_,_,_,_,rfl,he,(fun _ r=>r),k_NoNumber,q_NoNumber_NoAsk,szl rfl,fun l1 hl1=>?_⟩
  have g1:=Grow.new (m:=[]) hl1 (.lst [.bl true,.bl false,.bl false,.bl false])
  have h1:=zc (H:=H1) (a:=l1) (o:=.lst [.bl true,.bl false,.bl false,.bl false])
  have he1:=g1.keep _ _ (by simp) he
  have ne1:e ≠ l1:=fun z=>by rw [z,hl1] at he; cases he
  generalize upd H1 l1 _ = H2 at g1 h1 he1 ⊢
  refine ⟨_,rfl,.inl ⟨rfl,_,SqL.of h1⟩,_,rfl,e,_,_,_,_,rfl,he1,(fun _ r=>r),k_NoNumber,q_NoNumber_NoTree,l1,_,_,rfl,rfl,h1,zB (by show 4 <= 1000; decide),?_⟩
  have g2:Grow [] H1 (upd H2 l1 (.lst ([V.bl true,.bl false,.bl false,.bl false] ++ [.bl false]))):=g1.put24 hl1 _
  have h2:=zc (H:=H2) (a:=l1) (o:=.lst ([V.bl true,.bl false,.bl false,.bl false] ++ [.bl false]))
  have he2:upd H2 l1 (.lst ([V.bl true,.bl false,.bl false,.bl false] ++ [.bl false])) e = some (ExO e A_NoNumber):=by rw [zp ne1]; exact he1
  generalize upd H2 l1 _ = H3 at g2 h2 he2 ⊢
  refine ⟨_,rfl,szl rfl,fun t1 ht1=>?_⟩
  have g3:=Grow.new (m:=[]) ht1 (.tup [.ref A_NoCalls,.ref A_NoHand,.ref A_NoNet,.ref A_NoOrder,.ref A_NoRow,.ref A_NoSettings,.ref A_NoSide,.ref A_NoTable,.ref A_NoText,.ref A_NoToken])
  refine ⟨e,A_NoNumber,t1,[A_NoCalls,A_NoHand,A_NoNet,A_NoOrder,A_NoRow,A_NoSettings,A_NoSide,A_NoTable,A_NoText,A_NoToken],rfl,g3.keep _ _ (by simp) he2,SqT.of zc,k_NoNumber,?_,?_⟩
  ·simp only [List.forall_mem_cons,List.not_mem_nil,false_implies,implies_true,and_true]
   exact ⟨q_NoNumber_NoCalls,q_NoNumber_NoHand,q_NoNumber_NoNet,q_NoNumber_NoOrder,q_NoNumber_NoRow,q_NoNumber_NoSettings,q_NoNumber_NoSide,q_NoNumber_NoTable,q_NoNumber_NoText,q_NoNumber_NoToken⟩
  have h3:=g3.keep _ _ (by simp) h2
  have he3:=g3.keep _ _ (by simp) he2
  have G3:=g.trans (gn.trans (g2.trans g3))
  generalize upd H3 t1 _ = H4 at h3 he3 G3 ⊢
  refine ⟨_,rfl,.inl ⟨rfl,_,SqL.of h3⟩,l1,[true,false,false,false,false],rfl,rfl,SqL.of h3,rfl,_,rfl,zO rfl ?_⟩
  refine ⟨_,rfl,_,rfl,iteT ⟨_,rfl,e,_,_,_,_,rfl,he3,(fun _ r=>r),k_NoNumber,q_NoNumber_TooMany,_,rfl,iteT ⟨_,rfl,e,_,_,_,_,rfl,he3,(fun _ r=>r),k_NoNumber,q_NoNumber_ValueError,_,rfl,iteT ?_⟩⟩⟩
  refine ⟨szl rfl,fun l2 hl2=>?_⟩
  have g4:=Grow.new (m:=[]) hl2 (.lst [.str "number",.str "deed",.str "board",.str "ask",.str "tree"])
  have h4:=g4.keep _ _ (by simp) h3
  refine ⟨_,rfl,.inl ⟨rfl,_,SqL.of h4⟩,l1,[true,false,false,false,false],rfl,rfl,SqL.of h4,by decide,by decide,?_⟩
  exact ⟨l2,_,0,_,rfl,rfl,SqL.of zc,zT (j:=0) rfl,_,rfl,q _ (G3.trans g4)⟩
 | deed =>
  obtain rfl:A_NoDeed = C':=(Option.some.inj hC).symm
  refine ⟨u_NoDeed,?_⟩
  have gn:=Grow.new (m:=[]) hn (ExO e A_NoDeed)
  have he:=zc (H:=H') (a:=e) (o:=ExO e A_NoDeed)
  generalize upd H' e _ = H1 at gn he ⊢
  refine ⟨_,rfl,e,_,_,_,_,rfl,he,(fun _ r=>r),k_NoDeed,q_NoDeed_NoNumber,_,rfl,e,_,_,_,_,rfl,he,(fun _ r=>r),k_NoDeed,q_NoDeed_NoDeed,_,rfl,e,_,_,_,_,rfl,he,(fun _ r=>r),k_NoDeed,q_NoDeed_NoBoard,_,rfl,e,_,_,_,_,rfl,he,(fun _ r=>r),k_NoDeed,q_NoDeed_NoAsk,szl rfl,fun l1 hl1=>?_⟩
  have g1:=Grow.new (m:=[]) hl1 (.lst [.bl false,.bl true,.bl false,.bl false])
  have h1:=zc (H:=H1) (a:=l1) (o:=.lst [.bl false,.bl true,.bl false,.bl false])
  have he1:=g1.keep _ _ (by simp) he
  have ne1:e ≠ l1:=fun z=>by rw [z,hl1] at he; cases he
  generalize upd H1 l1 _ = H2 at g1 h1 he1 ⊢
  refine ⟨_,rfl,.inl ⟨rfl,_,SqL.of h1⟩,_,rfl,e,_,_,_,_,rfl,he1,(fun _ r=>r),k_NoDeed,q_NoDeed_NoTree,l1,_,_,rfl,rfl,h1,zB (by show 4 <= 1000; decide),?_⟩
  have g2:Grow [] H1 (upd H2 l1 (.lst ([V.bl false,.bl true,.bl false,.bl false] ++ [.bl false]))):=g1.put24 hl1 _
  have h2:=zc (H:=H2) (a:=l1) (o:=.lst ([V.bl false,.bl true,.bl false,.bl false] ++ [.bl false]))
  have he2:upd H2 l1 (.lst ([V.bl false,.bl true,.bl false,.bl false] ++ [.bl false])) e = some (ExO e A_NoDeed):=by rw [zp ne1]; exact he1
  generalize upd H2 l1 _ = H3 at g2 h2 he2 ⊢
  refine ⟨_,rfl,szl rfl,fun t1 ht1=>?_⟩
  have g3:=Grow.new (m:=[]) ht1 (.tup [.ref A_NoCalls,.ref A_NoHand,.ref A_NoNet,.ref A_NoOrder,.ref A_NoRow,.ref A_NoSettings,.ref A_NoSide,.ref A_NoTable,.ref A_NoText,.ref A_NoToken])
  refine ⟨e,A_NoDeed,t1,[A_NoCalls,A_NoHand,A_NoNet,A_NoOrder,A_NoRow,A_NoSettings,A_NoSide,A_NoTable,A_NoText,A_NoToken],rfl,g3.keep _ _ (by simp) he2,SqT.of zc,k_NoDeed,?_,?_⟩
  ·simp only [List.forall_mem_cons,List.not_mem_nil,false_implies,implies_true,and_true]
   exact ⟨q_NoDeed_NoCalls,q_NoDeed_NoHand,q_NoDeed_NoNet,q_NoDeed_NoOrder,q_NoDeed_NoRow,q_NoDeed_NoSettings,q_NoDeed_NoSide,q_NoDeed_NoTable,q_NoDeed_NoText,q_NoDeed_NoToken⟩
  have h3:=g3.keep _ _ (by simp) h2
  have he3:=g3.keep _ _ (by simp) he2
  have G3:=g.trans (gn.trans (g2.trans g3))
  generalize upd H3 t1 _ = H4 at h3 he3 G3 ⊢
  refine ⟨_,rfl,.inl ⟨rfl,_,SqL.of h3⟩,l1,[false,true,false,false,false],rfl,rfl,SqL.of h3,rfl,_,rfl,zO rfl ?_⟩
  refine ⟨_,rfl,_,rfl,iteT ⟨_,rfl,e,_,_,_,_,rfl,he3,(fun _ r=>r),k_NoDeed,q_NoDeed_TooMany,_,rfl,iteT ⟨_,rfl,e,_,_,_,_,rfl,he3,(fun _ r=>r),k_NoDeed,q_NoDeed_ValueError,_,rfl,iteT ?_⟩⟩⟩
  refine ⟨szl rfl,fun l2 hl2=>?_⟩
  have g4:=Grow.new (m:=[]) hl2 (.lst [.str "number",.str "deed",.str "board",.str "ask",.str "tree"])
  have h4:=g4.keep _ _ (by simp) h3
  refine ⟨_,rfl,.inl ⟨rfl,_,SqL.of h4⟩,l1,[false,true,false,false,false],rfl,rfl,SqL.of h4,by decide,by decide,?_⟩
  exact ⟨l2,_,1,_,rfl,rfl,SqL.of zc,zT (j:=1) rfl,_,rfl,q _ (G3.trans g4)⟩
 | board =>
  obtain rfl:A_NoBoard = C':=(Option.some.inj hC).symm
  refine ⟨u_NoBoard,?_⟩
  have gn:=Grow.new (m:=[]) hn (ExO e A_NoBoard)
  have he:=zc (H:=H') (a:=e) (o:=ExO e A_NoBoard)
  generalize upd H' e _ = H1 at gn he ⊢
  refine ⟨_,rfl,e,_,_,_,_,rfl,he,(fun _ r=>r),k_NoBoard,q_NoBoard_NoNumber,_,rfl,e,_,_,_,_,rfl,he,(fun _ r=>r),k_NoBoard,q_NoBoard_NoDeed,_,rfl,e,_,_,_,_,rfl,he,(fun _ r=>r),k_NoBoard,q_NoBoard_NoBoard,_,rfl,e,_,_,_,_,rfl,he,(fun _ r=>r),k_NoBoard,q_NoBoard_NoAsk,szl rfl,fun l1 hl1=>?_⟩
  have g1:=Grow.new (m:=[]) hl1 (.lst [.bl false,.bl false,.bl true,.bl false])
  have h1:=zc (H:=H1) (a:=l1) (o:=.lst [.bl false,.bl false,.bl true,.bl false])
  have he1:=g1.keep _ _ (by simp) he
  have ne1:e ≠ l1:=fun z=>by rw [z,hl1] at he; cases he
  generalize upd H1 l1 _ = H2 at g1 h1 he1 ⊢
  refine ⟨_,rfl,.inl ⟨rfl,_,SqL.of h1⟩,_,rfl,e,_,_,_,_,rfl,he1,(fun _ r=>r),k_NoBoard,q_NoBoard_NoTree,l1,_,_,rfl,rfl,h1,zB (by show 4 <= 1000; decide),?_⟩
  have g2:Grow [] H1 (upd H2 l1 (.lst ([V.bl false,.bl false,.bl true,.bl false] ++ [.bl false]))):=g1.put24 hl1 _
  have h2:=zc (H:=H2) (a:=l1) (o:=.lst ([V.bl false,.bl false,.bl true,.bl false] ++ [.bl false]))
  have he2:upd H2 l1 (.lst ([V.bl false,.bl false,.bl true,.bl false] ++ [.bl false])) e = some (ExO e A_NoBoard):=by rw [zp ne1]; exact he1
  generalize upd H2 l1 _ = H3 at g2 h2 he2 ⊢
  refine ⟨_,rfl,szl rfl,fun t1 ht1=>?_⟩
  have g3:=Grow.new (m:=[]) ht1 (.tup [.ref A_NoCalls,.ref A_NoHand,.ref A_NoNet,.ref A_NoOrder,.ref A_NoRow,.ref A_NoSettings,.ref A_NoSide,.ref A_NoTable,.ref A_NoText,.ref A_NoToken])
  refine ⟨e,A_NoBoard,t1,[A_NoCalls,A_NoHand,A_NoNet,A_NoOrder,A_NoRow,A_NoSettings,A_NoSide,A_NoTable,A_NoText,A_NoToken],rfl,g3.keep _ _ (by simp) he2,SqT.of zc,k_NoBoard,?_,?_⟩
  ·simp only [List.forall_mem_cons,List.not_mem_nil,false_implies,implies_true,and_true]
   exact ⟨q_NoBoard_NoCalls,q_NoBoard_NoHand,q_NoBoard_NoNet,q_NoBoard_NoOrder,q_NoBoard_NoRow,q_NoBoard_NoSettings,q_NoBoard_NoSide,q_NoBoard_NoTable,q_NoBoard_NoText,q_NoBoard_NoToken⟩
  have h3:=g3.keep _ _ (by simp) h2
  have he3:=g3.keep _ _ (by simp) he2
  have G3:=g.trans (gn.trans (g2.trans g3))
  generalize upd H3 t1 _ = H4 at h3 he3 G3 ⊢
  refine ⟨_,rfl,.inl ⟨rfl,_,SqL.of h3⟩,l1,[false,false,true,false,false],rfl,rfl,SqL.of h3,rfl,_,rfl,zO rfl ?_⟩
  refine ⟨_,rfl,_,rfl,iteT ⟨_,rfl,e,_,_,_,_,rfl,he3,(fun _ r=>r),k_NoBoard,q_NoBoard_TooMany,_,rfl,iteT ⟨_,rfl,e,_,_,_,_,rfl,he3,(fun _ r=>r),k_NoBoard,q_NoBoard_ValueError,_,rfl,iteT ?_⟩⟩⟩
  refine ⟨szl rfl,fun l2 hl2=>?_⟩
  have g4:=Grow.new (m:=[]) hl2 (.lst [.str "number",.str "deed",.str "board",.str "ask",.str "tree"])
  have h4:=g4.keep _ _ (by simp) h3
  refine ⟨_,rfl,.inl ⟨rfl,_,SqL.of h4⟩,l1,[false,false,true,false,false],rfl,rfl,SqL.of h4,by decide,by decide,?_⟩
  exact ⟨l2,_,2,_,rfl,rfl,SqL.of zc,zT (j:=2) rfl,_,rfl,q _ (G3.trans g4)⟩
 | ask =>
  obtain rfl:A_NoAsk = C':=(Option.some.inj hC).symm
  refine ⟨u_NoAsk,?_⟩
  have gn:=Grow.new (m:=[]) hn (ExO e A_NoAsk)
  have he:=zc (H:=H') (a:=e) (o:=ExO e A_NoAsk)
  generalize upd H' e _ = H1 at gn he ⊢
  refine ⟨_,rfl,e,_,_,_,_,rfl,he,(fun _ r=>r),k_NoAsk,q_NoAsk_NoNumber,_,rfl,e,_,_,_,_,rfl,he,(fun _ r=>r),k_NoAsk,q_NoAsk_NoDeed,_,rfl,e,_,_,_,_,rfl,he,(fun _ r=>r),k_NoAsk,q_NoAsk_NoBoard,_,rfl,e,_,_,_,_,rfl,he,(fun _ r=>r),k_NoAsk,q_NoAsk_NoAsk,szl rfl,fun l1 hl1=>?_⟩
  have g1:=Grow.new (m:=[]) hl1 (.lst [.bl false,.bl false,.bl false,.bl true])
  have h1:=zc (H:=H1) (a:=l1) (o:=.lst [.bl false,.bl false,.bl false,.bl true])
  have he1:=g1.keep _ _ (by simp) he
  have ne1:e ≠ l1:=fun z=>by rw [z,hl1] at he; cases he
  generalize upd H1 l1 _ = H2 at g1 h1 he1 ⊢
  refine ⟨_,rfl,.inl ⟨rfl,_,SqL.of h1⟩,_,rfl,e,_,_,_,_,rfl,he1,(fun _ r=>r),k_NoAsk,q_NoAsk_NoTree,l1,_,_,rfl,rfl,h1,zB (by show 4 <= 1000; decide),?_⟩
  have g2:Grow [] H1 (upd H2 l1 (.lst ([V.bl false,.bl false,.bl false,.bl true] ++ [.bl false]))):=g1.put24 hl1 _
  have h2:=zc (H:=H2) (a:=l1) (o:=.lst ([V.bl false,.bl false,.bl false,.bl true] ++ [.bl false]))
  have he2:upd H2 l1 (.lst ([V.bl false,.bl false,.bl false,.bl true] ++ [.bl false])) e = some (ExO e A_NoAsk):=by rw [zp ne1]; exact he1
  generalize upd H2 l1 _ = H3 at g2 h2 he2 ⊢
  refine ⟨_,rfl,szl rfl,fun t1 ht1=>?_⟩
  have g3:=Grow.new (m:=[]) ht1 (.tup [.ref A_NoCalls,.ref A_NoHand,.ref A_NoNet,.ref A_NoOrder,.ref A_NoRow,.ref A_NoSettings,.ref A_NoSide,.ref A_NoTable,.ref A_NoText,.ref A_NoToken])
  refine ⟨e,A_NoAsk,t1,[A_NoCalls,A_NoHand,A_NoNet,A_NoOrder,A_NoRow,A_NoSettings,A_NoSide,A_NoTable,A_NoText,A_NoToken],rfl,g3.keep _ _ (by simp) he2,SqT.of zc,k_NoAsk,?_,?_⟩
  ·simp only [List.forall_mem_cons,List.not_mem_nil,false_implies,implies_true,and_true]
   exact ⟨q_NoAsk_NoCalls,q_NoAsk_NoHand,q_NoAsk_NoNet,q_NoAsk_NoOrder,q_NoAsk_NoRow,q_NoAsk_NoSettings,q_NoAsk_NoSide,q_NoAsk_NoTable,q_NoAsk_NoText,q_NoAsk_NoToken⟩
  have h3:=g3.keep _ _ (by simp) h2
  have he3:=g3.keep _ _ (by simp) he2
  have G3:=g.trans (gn.trans (g2.trans g3))
  generalize upd H3 t1 _ = H4 at h3 he3 G3 ⊢
  refine ⟨_,rfl,.inl ⟨rfl,_,SqL.of h3⟩,l1,[false,false,false,true,false],rfl,rfl,SqL.of h3,rfl,_,rfl,zO rfl ?_⟩
  refine ⟨_,rfl,_,rfl,iteT ⟨_,rfl,e,_,_,_,_,rfl,he3,(fun _ r=>r),k_NoAsk,q_NoAsk_TooMany,_,rfl,iteT ⟨_,rfl,e,_,_,_,_,rfl,he3,(fun _ r=>r),k_NoAsk,q_NoAsk_ValueError,_,rfl,iteT ?_⟩⟩⟩
  refine ⟨szl rfl,fun l2 hl2=>?_⟩
  have g4:=Grow.new (m:=[]) hl2 (.lst [.str "number",.str "deed",.str "board",.str "ask",.str "tree"])
  have h4:=g4.keep _ _ (by simp) h3
  refine ⟨_,rfl,.inl ⟨rfl,_,SqL.of h4⟩,l1,[false,false,false,true,false],rfl,rfl,SqL.of h4,by decide,by decide,?_⟩
  exact ⟨l2,_,3,_,rfl,rfl,SqL.of zc,zT (j:=3) rfl,_,rfl,q _ (G3.trans g4)⟩
 | tree =>
  obtain rfl:A_NoTree = C':=(Option.some.inj hC).symm
  refine ⟨u_NoTree,?_⟩
  have gn:=Grow.new (m:=[]) hn (ExO e A_NoTree)
  have he:=zc (H:=H') (a:=e) (o:=ExO e A_NoTree)
  generalize upd H' e _ = H1 at gn he ⊢
  refine ⟨_,rfl,e,_,_,_,_,rfl,he,(fun _ r=>r),k_NoTree,q_NoTree_NoNumber,_,rfl,e,_,_,_,_,rfl,he,(fun _ r=>r),k_NoTree,q_NoTree_NoDeed,_,rfl,e,_,_,_,_,rfl,he,(fun _ r=>r),k_NoTree,q_NoTree_NoBoard,_,rfl,e,_,_,_,_,rfl,he,(fun _ r=>r),k_NoTree,q_NoTree_NoAsk,szl rfl,fun l1 hl1=>?_⟩
  have g1:=Grow.new (m:=[]) hl1 (.lst [.bl false,.bl false,.bl false,.bl false])
  have h1:=zc (H:=H1) (a:=l1) (o:=.lst [.bl false,.bl false,.bl false,.bl false])
  have he1:=g1.keep _ _ (by simp) he
  have ne1:e ≠ l1:=fun z=>by rw [z,hl1] at he; cases he
  generalize upd H1 l1 _ = H2 at g1 h1 he1 ⊢
  refine ⟨_,rfl,.inl ⟨rfl,_,SqL.of h1⟩,_,rfl,e,_,_,_,_,rfl,he1,(fun _ r=>r),k_NoTree,q_NoTree_NoTree,l1,_,_,rfl,rfl,h1,zB (by show 4 <= 1000; decide),?_⟩
  have g2:Grow [] H1 (upd H2 l1 (.lst ([V.bl false,.bl false,.bl false,.bl false] ++ [.bl true]))):=g1.put24 hl1 _
  have h2:=zc (H:=H2) (a:=l1) (o:=.lst ([V.bl false,.bl false,.bl false,.bl false] ++ [.bl true]))
  have he2:upd H2 l1 (.lst ([V.bl false,.bl false,.bl false,.bl false] ++ [.bl true])) e = some (ExO e A_NoTree):=by rw [zp ne1]; exact he1
  generalize upd H2 l1 _ = H3 at g2 h2 he2 ⊢
  refine ⟨_,rfl,szl rfl,fun t1 ht1=>?_⟩
  have g3:=Grow.new (m:=[]) ht1 (.tup [.ref A_NoCalls,.ref A_NoHand,.ref A_NoNet,.ref A_NoOrder,.ref A_NoRow,.ref A_NoSettings,.ref A_NoSide,.ref A_NoTable,.ref A_NoText,.ref A_NoToken])
  refine ⟨e,A_NoTree,t1,[A_NoCalls,A_NoHand,A_NoNet,A_NoOrder,A_NoRow,A_NoSettings,A_NoSide,A_NoTable,A_NoText,A_NoToken],rfl,g3.keep _ _ (by simp) he2,SqT.of zc,k_NoTree,?_,?_⟩
  ·simp only [List.forall_mem_cons,List.not_mem_nil,false_implies,implies_true,and_true]
   exact ⟨q_NoTree_NoCalls,q_NoTree_NoHand,q_NoTree_NoNet,q_NoTree_NoOrder,q_NoTree_NoRow,q_NoTree_NoSettings,q_NoTree_NoSide,q_NoTree_NoTable,q_NoTree_NoText,q_NoTree_NoToken⟩
  have h3:=g3.keep _ _ (by simp) h2
  have he3:=g3.keep _ _ (by simp) he2
  have G3:=g.trans (gn.trans (g2.trans g3))
  generalize upd H3 t1 _ = H4 at h3 he3 G3 ⊢
  refine ⟨_,rfl,.inl ⟨rfl,_,SqL.of h3⟩,l1,[false,false,false,false,true],rfl,rfl,SqL.of h3,rfl,_,rfl,zO rfl ?_⟩
  refine ⟨_,rfl,_,rfl,iteT ⟨_,rfl,e,_,_,_,_,rfl,he3,(fun _ r=>r),k_NoTree,q_NoTree_TooMany,_,rfl,iteT ⟨_,rfl,e,_,_,_,_,rfl,he3,(fun _ r=>r),k_NoTree,q_NoTree_ValueError,_,rfl,iteT ?_⟩⟩⟩
  refine ⟨szl rfl,fun l2 hl2=>?_⟩
  have g4:=Grow.new (m:=[]) hl2 (.lst [.str "number",.str "deed",.str "board",.str "ask",.str "tree"])
  have h4:=g4.keep _ _ (by simp) h3
  refine ⟨_,rfl,.inl ⟨rfl,_,SqL.of h4⟩,l1,[false,false,false,false,true],rfl,rfl,SqL.of h4,by decide,by decide,?_⟩
  exact ⟨l2,_,4,_,rfl,rfl,SqL.of zc,zT (j:=4) rfl,_,rfl,q _ (G3.trans g4)⟩
theorem vc:FnScope ["_law_thing"] ["_law_thing"] (zh (top 61)):=⟨rfl,rfl,rfl,by decide +kernel,rfl,by decide +kernel,by decide +kernel⟩
theorem vd (F:Fun K "_law_is_whole" "_law_is_whole" (top 61) f fd) (B:Blt mg)     :
  FnOk P w K mg base CX0 (n + 1) f fd ["_law_thing"] (zy K):=by
 refine F.ok vc yB (fun cdv A outer s H vs Q E hr h=>?_)
 obtain ⟨x,rfl,d,m,hd,q⟩:=h
 refine ⟨_,(zf (zm (yI (zi (zN (K:=K) rfl) rfl B.isinstance zn (za (pv 0) (za (yz rfl B.int jD) zb))) (yF (Yi (zi (zN (K:=K) rfl) rfl B.isinstance zn (za (pv 0) (za (yz rfl B.bool Yr) zb)))))))),?_⟩
 refine ⟨_,rfl,_,d,m,_,_,rfl,hd,Zh,_,rfl,?_⟩
 cases d with
 | int i=>exact iteT ⟨_,rfl,_,_,m,_,_,rfl,hd,vk,_,rfl,q⟩
 | bool b=>exact iteT ⟨_,rfl,_,_,m,_,_,rfl,hd,vk,_,rfl,q⟩
 | _=>exact iteF q
theorem ui:FnScope ["_law_thing","_law_deep"] ["_law_thing","_law_deep"] (zh (top 69)):=⟨rfl,rfl,rfl,by decide +kernel,rfl,by decide +kernel,by decide +kernel⟩
theorem uj (F:Fun K "_law_leaves" "_law_leaves" (top 69) f fd) (B:Blt mg) {N:Nat} (qc0:zj P w K mg base n "_law_leaves" ["_law_thing","_law_deep"] (yD N K))    :
  FnOk P w K mg base CX0 (n + 1) f fd ["_law_thing","_law_deep"] (yD (N + 1) K):=by
 refine F.ok ui ym (fun cdv A outer s H vs Q E hr h=>?_)
 obtain ⟨x,y,rfl,d,dp,m,hd,rfl,hdp,hN,hw,q⟩:=h
 refine ⟨_,(zd (zM (zZ (zP (zi (zN (K:=K) rfl) rfl B.isinstance zn (za (pv 0) (za (yz rfl B.tuple zY) zb))))) (zf (zm (yf (za (pv 0) zb)))) zt) (zd (zM (PW.pt (xT (zw qv (zi zo rfl B.len yO (za (pv 0) zb)) ze (zC _)) (xq (zw yv (pv 1) ze (zC _))))) (zf (zm (yf (za vq zb)))) zt) (zf (zm (zD rM (zg qc0 hr rfl (za (zK zS (pv 0) ze (fun _ _=>rfl)) (za (zD yJ (pv 1) ze) zb))) (zg qc0 hr rfl (za (zK zS (pv 0) ze (fun _ _=>rfl)) (za (zD yJ (pv 1) ze) zb)))))))),?_⟩
 refine ⟨_,rfl,_,d,m,_,_,rfl,hd,wL,_,rfl,?_⟩
 cases ht:tupD d with
 | false =>
  rw [YB ht] at q
  refine iteT ⟨_,rfl,szl rfl,fun l hl=>?_⟩
  have g:=Grow.new (m:=[]) hl (.lst [x])
  exact q l [x] _ hl g zc (.cons (hd.grow (g.mono (by simp))) .nil)
 | true =>
  refine iteF ?_
  cases d with
  | tuple es =>
   obtain ⟨a,zs,rfl,hs,hes⟩:=hd.inv_tup
   refine ⟨_,rfl,a,zs,rfl,.inr hs,rfl,_,rfl,?_⟩
   have hdp1:1 <= dp:=by have h1:PyData.depthAll es + 1 <= dp:=hdp; omega
   by_cases h2:es.length = 2
   ·match es,h2,hes,hN,hw,hs,q,hdp with
    | [da,db],_,hes,hN,hw,hs,q,hdp =>
     cases hes with
     | cons oa tb =>
      obtain ⟨xb,rfl,ob⟩:=tb.inv1
      rename_i xa
      refine zJ rfl ⟨_,rfl,rfl,_,rfl,zJ (decide_eq_false fun z=>by have:=V.int.inj z; omega) ?_⟩
      have hdp2:max da.depth (max db.depth 0) + 1 <= dp:=hdp
      rw [vn] at q
      have hN2:max da.depth (max db.depth 0) + 1 < N + 1:=hN
      have hw2:wtO da + 2 + (wtO db + 2 + 0) + 3 <= 1000000:=hw
      refine ⟨_,rfl,a,_,_,_,rfl,rfl,hs,rfl,_,rfl,_,_,rfl,rfl,_,_,rfl,da,dp - 1,m,oa,congrArg V.int (by omega),by omega,by omega,by omega,fun l1 xs1 H1 f1 g1 e1 t1=>?_⟩
      refine ⟨_,rfl,a,_,_,_,rfl,rfl,g1.sqT hs,rfl,_,rfl,_,_,rfl,rfl,_,_,rfl,db,dp - 1,m,ob.grow (g1.mono (by simp)),congrArg V.int (by omega),by omega,by omega,by omega,fun l2 xs2 H2 f2 g2 e2 t2=>?_⟩
      have k1:=lvs_len (d:=da)
      have k2:=lvs_len (d:=db)
      refine ⟨l1,l2,xs1,xs2,rfl,rfl,g2.keep _ _ (by simp) e1,e2,Nat.le_of_lt (Zn (by rw [t1.length,t2.length]; omega)),fun l3 hl3=>?_⟩
      have g3:=Grow.new (m:=[]) hl3 (.lst (xs1 ++ xs2))
      have G:=g1.trans (g2.trans g3)
      exact q l3 _ _ ((g1.trans g2).free (by simp) hl3) G zc (((t1.grow (g2.mono (by simp))).append t2).grow (g3.mono (by simp)))
   ·refine zO ?_ (iteT ⟨szl rfl,fun l hl=>?_⟩)
    ·rw [decide_eq_false fun z=>h2 (by have:=V.int.inj z; have:=hes.length; omega)]; rfl
    rw [YA h2] at q
    exact q l [V.non] _ hl (Grow.new hl _) zc (.cons .non .nil)
  | _=>cases ht
theorem xF:FnScope ["_law_thing","_law_many","_law_found"] ["_law_thing","_law_many"] (zh (top 70)):=⟨rfl,rfl,rfl,by decide +kernel,rfl,by decide +kernel,by decide +kernel⟩
theorem v4 (F:Fun K "_law_is_tree" "_law_is_tree" (top 70) f fd) (B:Blt mg) (qc0:zj P w K mg base n "_law_is_whole" ["_law_thing"] (zy K)) (qc1:zj P w K mg base n "_law_leaves" ["_law_thing","_law_deep"] (yD 62 K))    :
  FnOk P w K mg base CX0 (n + 1) f fd ["_law_thing","_law_many"] (wC K):=by
 refine F.ok xF ym (fun cdv A outer s H vs Q E hr h=>?_)
 obtain ⟨x,y,rfl,d,m,n,hd,rfl,n1,n40,hdp0,hw,q⟩:=h
 have hdp:d.depth < 62:=by omega
 refine ⟨_,(zd (zA (i:=2) xF.nd rfl (Or.inl rfl) (zg qc1 hr rfl (za (pv 0) (za ze zb)))) (zf (zm (yI (zi (yi rfl) rfl B.all v8 (za (yl (CSc.of (N':=["_law_one"]) (sub:=[none]) (zh (top 70)) ["_law_thing","_law_many","_law_found"] rfl rfl (by decide +kernel) rfl) rfl (jk (pv 2)) (fun _ _ _ _ _ _=>zr (i:=0) (show (["_law_one"]:List Str).Nodup by decide +kernel) rfl (Or.inl rfl)) (fun _ _ _ _ _ _=>z6) (fun _ _ _ _ _ _=>(zg qc0 hr rfl (za (pv 0) zb)))) zb)) (yF (xh (XH hr) (pv 2) (wX rfl rfl B.list rfl B.range (za (pv 1) zb)) (zC _))))))),?_⟩
 refine ⟨_,rfl,_,_,rfl,d,60,m,hd,rfl,by omega,hdp,hw,fun l xs H1 f1 g1 e1 t1=>?_⟩
 have hlen:=lvs_len (d:=d)
 have hxl:=t1.length
 have big:∀ i:Nat,i <= xs.length -> i < sizeLine:=fun i hi=>Nat.lt_of_le_of_lt (show i <= 1000001 by omega) (by decide)
 refine ⟨_,rfl,l,rfl,⟨_,SqL.of e1⟩,qG (xs:=xs) (fun i ys σ' H'=>H' = H1 /\ (∃ e,σ' = [e]) /\ ys = (((lvs d).take i).map zx).map V.bl) ⟨rfl,⟨_,rfl⟩,rfl⟩ ?_ ?_ ?_⟩
 ·rintro i ys σ' H' _ ⟨rfl,_⟩
  exact SqL.of e1
 ·rintro i x ys σ' H' hx ⟨rfl,⟨e,rfl⟩,rfl⟩
  obtain ⟨dx,hdx,ox⟩:=t1.get hx
  have hi:i < xs.length:=(List.getElem?_eq_some_iff.mp hx).1
  refine ⟨_,rfl,_,rfl,dx,m,ox,?_,rfl,⟨_,rfl⟩,?_⟩
  ·rw [List.length_map,List.length_map,List.length_take]; exact big _ (by omega)
  ·obtain ⟨hi2,edx⟩:=List.getElem?_eq_some_iff.mp hdx
   rw [List.take_succ_eq_append_getElem hi2,edx,List.map_append,List.map_append]; rfl
 ·rintro ys σ' H' ⟨rfl,_,rfl⟩ l2 hl2
  have g2:=Grow.new (m:=[]) hl2 (.lst ((((lvs d).take xs.length).map zx).map V.bl))
  have e1':=g2.keep _ _ (by simp) e1
  have G2:=g1.trans g2
  refine ⟨l2,_,rfl,SqL.of zc,_,rfl,?_⟩
  have eall:((((lvs d).take xs.length).map zx).all id) = (lvs d).all zx:=by
   rw [hxl,List.take_length,List.all_map]; rfl
  rw [eall]
  generalize upd H' l2 (.lst ((((lvs d).take xs.length).map zx).map V.bl)) = H2 at e1' G2 ⊢
  cases hall:(lvs d).all zx with
  | false =>
   have:=q _ G2
   unfold wy at this
   rw [decide_eq_false (qc hall)] at this
   exact iteF this
  | true =>
   obtain ⟨is,his⟩:=qb hall
   have hxs:xs = is.map V.int:=by
    rw [his] at t1
    exact qd t1
   subst hxs
   refine iteT ⟨_,rfl,_,rfl,n,rfl,by omega,fun l3 hl3=>?_⟩
   have g3:=Grow.new (m:=[]) hl3 (.lst ((List.range n).map fun i:Nat=>V.int i))
   have er:((List.range n).map fun i:Nat=>V.int i) = ((List.range n).map fun i:Nat=>(i:Int)).map V.int:=by rw [List.map_map]; rfl
   refine ⟨l,l3,_,_,rfl,rfl,SqL.of (g3.keep _ _ (by simp) e1'),SqL.of zc,tS,by rw [er]; exact tS,?_⟩
   have e:eqVs (is.map V.int) ((List.range n).map fun i:Nat=>V.int i) = wy d n:=by
    rw [er,tR]
    unfold wy
    rw [his]
    have key:is = ((List.range n).map fun i:Nat=>(i:Int)) ↔ runL (is.map PyData.int) 0 = some n:=by
     rw [qa,List.length_map]
     constructor
     ·intro z
      have zl:is.length = n:=by rw [z,List.length_map,List.length_range]
      refine ⟨?_,by omega⟩
      rw [zl,← List.range_eq_range',z,List.map_map]; rfl
     ·rintro ⟨a,c⟩
      have zl:is.length = n:=by omega
      rw [zl,← List.range_eq_range'] at a
      have a2:is.map PyData.int = ((List.range n).map fun i:Nat=>(i:Int)).map PyData.int:=by rw [a,List.map_map]; rfl
      exact List.map_inj_right (f:=PyData.int) (fun x y h=>by injection h) |>.mp a2
    by_cases z:is = ((List.range n).map fun i:Nat=>(i:Int))
    ·rw [decide_eq_true z,decide_eq_true (key.mp z)]
    ·rw [decide_eq_false z,decide_eq_false fun w=>z (key.mpr w)]
   show Q (.bl (eqVs (is.map V.int) ((List.range n).map fun i:Nat=>V.int i))) _
   rw [e]
   exact q _ (G2.trans g3)
theorem v6:FnScope ["_law_thing"] ["_law_thing"] (zh (top 62)):=⟨rfl,rfl,rfl,by decide +kernel,rfl,by decide +kernel,by decide +kernel⟩
theorem v7 (F:Fun K "_law_is_deed" "_law_is_deed" (top 62) f fd) (B:Blt mg) (qc0:zj P w K mg base n "_law_is_whole" ["_law_thing"] (zy K))    :
  FnOk P w K mg base CX0 (n + 1) f fd ["_law_thing"] (xn K):=by
 refine F.ok v6 yB (fun cdv A outer s H vs Q E hr h=>?_)
 obtain ⟨x,rfl,d,m,hd,q⟩:=h
 refine ⟨_,(zd (zM (PW.pt (xT (zZ (zP (zi (zN (K:=K) rfl) rfl B.isinstance zn (za (pv 0) (za (yz rfl B.tuple zY) zb))))) (xT (zw qv (zi zo rfl B.len yO (za (pv 0) zb)) ze (zC _)) (xq (zZ (zP (zg qc0 hr rfl (za (zK zS (pv 0) ze (fun _ _=>rfl)) zb)))))))) (zf (zm x6)) zt) (zd (zM (zZ (zP (zi (yi rfl) rfl B.all v8 (za (yl (CSc.of (N':=["_law_end"]) (sub:=[none]) (zh (top 62)) ["_law_thing"] rfl rfl (by decide +kernel) rfl) rfl (xB (yk (yH (K:=K) rfl) (pv 0) (yA ze) yN)) (fun _ _ _ _ _ _=>zr (i:=0) (show (["_law_end"]:List Str).Nodup by decide +kernel) rfl (Or.inl rfl)) (fun _ _ _ _ _ _=>z6) (fun _ _ _ _ _ _=>(ZJ (Yh (uo (pv 0))) (yF (zg qc0 hr rfl (za (pv 0) zb)))))) zb)))) (zf (zm x6)) zt) (zd (zM (zw jA vq (yk (yH (K:=K) rfl) (pv 0) (yA ze) yN) (by with_unfolding_all rfl)) (zf (zm x6)) zt) (zf (zm (ZJ (xh vz (zK zS (pv 0) ze (fun _ _=>rfl)) (zK zS (pv 0) ze (fun _ _=>rfl)) (zC _)) (yF (yI (xh yv (zK zS (pv 0) ze (fun _ _=>rfl)) (zK zS (pv 0) ze (fun _ _=>rfl)) (zC _)) (yF (xh yv (zK zS (pv 0) ze (fun _ _=>rfl)) ze (zC _))))))))))),?_⟩
 refine uw (fun t H'=>H' = H /\ (t = true -> yC d = false) /\ (t = false -> ∃ (r:Addr) (a:Int) (v2 v3:V) (d2 d3:PyData),x = .ref r /\ d = .tuple [.int a,d2,d3] /\ SqT K H r [.int a,v2,v3] /\ Od K m H v2 d2 /\ Od K m H v3 d3)) (fun Kk hk=>⟨_,rfl,_,d,m,_,_,rfl,hd,yR d,_,rfl,?_⟩) ?_
 ·cases ht:uf d with
  | false=>exact iteT (hk _ _ ⟨rfl,(fun _=>by cases d <;> first | rfl | cases ht),fun z=>nomatch z⟩)
  | true =>
   obtain ⟨r,xs,ds,rfl,rfl,hs,os⟩:=xm hd ht
   have xl:=os.length
   refine iteF ⟨_,rfl,r,_,rfl,.inr hs,rfl,_,rfl,?_⟩
   by_cases h3:ds.length = 3
   ·match ds,h3,os,xl with
    | [d1,d2,d3],_,os,xl =>
     obtain ⟨v1,v2,v3,rfl,o1,o2,o3⟩:=os.inv3
     refine iteF ⟨_,rfl,r,_,_,_,rfl,rfl,hs,zT (j:=0) rfl,_,rfl,d1,m,o1,_,rfl,hk _ _ ⟨rfl,fun z=>?_,fun z=>?_⟩⟩
     ·have e:zx d1 = false:=by cases ha:zx d1 with | false=>rfl | true=>rw [ha] at z; cases z
      exact r6 e
     ·have e:zx d1 = true:=by cases ha:zx d1 with | true=>rfl | false=>rw [ha] at z; cases z
      obtain ⟨a,rfl⟩:=yS e
      rw [o1.inv_int] at hs
      exact ⟨r,a,v2,v3,d2,d3,rfl,rfl,hs,o2,o3⟩
   ·exact zO (by rw [decide_eq_false fun w=>h3 (by have:=V.int.inj w; omega)]; rfl) (hk _ _ ⟨rfl,(fun _=>sd h3),fun z=>nomatch z⟩)
 rintro t H ⟨rfl,h1,h2⟩
 cases t with
 | true=>have:=q _ (Grow.refl _ _); rw [h1 rfl] at this; exact iteT this
 | false =>
  obtain ⟨r,a,v2,v3,d2,d3,rfl,rfl,hs,o2,o3⟩:=h2 rfl
  have e:yC (.tuple [.int a,d2,d3]) = ((endD d2 && endD d3) && Zi a d2 d3):=rfl
  rw [e] at q
  refine iteF (wY ?_)
  refine uw (fun t H'=>t = (!(endD d2 && endD d3)) /\ Grow [] H H') (fun Kk hk=>⟨_,rfl,_,rfl,r,_,rfl,hs,fun p1 H1 g1 h1=>⟨p1,rfl,⟨_,h1⟩,z9 (xs:=[v2,v3]) (fun i ys H'=>ys = (([endD d2,endD d3]).take i).map V.bl /\ H' = H1) ⟨rfl,rfl⟩ (fun i ys H' z=>by rw [z.2]; exact (show SqT K H1 p1 [v2,v3] from h1)) ?_ ?_⟩⟩) ?_
  ·rintro i v ys H' hx ⟨rfl,rfl⟩
   have key:∀ dv:PyData,Od K m H' v dv -> ([endD d2,endD d3].take (i + 1)) = [endD d2,endD d3].take i ++ [endD dv] -> tOrV (tIsN (tVar 0)) (ju (zy K) [] E0 (ZP (tVar 0) tNil)) [some v] H' (fun y H5=>(List.map V.bl (List.take i [endD d2,endD d3])).length < sizeLine /\ List.map V.bl (List.take i [endD d2,endD d3]) ++ [y] = List.map V.bl (List.take (i + 1) [endD d2,endD d3]) /\ H5 = H'):=by
    intro dv ov et
    have hl2:(List.map V.bl (List.take i [endD d2,endD d3])).length < sizeLine:=y7 (by rw [List.length_map,List.length_take]; show min i 2 <= 16000000; omega)
    rw [et,List.map_append]
    rcases Yz ov with ⟨rfl,rfl⟩ | ⟨n1,n2⟩
    ·exact ⟨_,rfl,_,rfl,iteT ⟨hl2,rfl,rfl⟩⟩
    ·refine ⟨_,rfl,_,rfl,zJ (decide_eq_false n1) ⟨_,rfl,_,rfl,dv,m,ov,hl2,?_,rfl⟩⟩
     have:endD dv = zx dv:=by cases dv <;> first | rfl | exact absurd rfl n2
     rw [this]; rfl
   match i,hx with
   | 0,hx=>cases Option.some.inj hx; exact key d2 (o2.grow g1.wk) rfl
   | 1,hx=>cases Option.some.inj hx; exact key d3 (o3.grow g1.wk) rfl
  ·rintro ys H' ⟨rfl,rfl⟩ l hl
   exact ⟨l,[endD d2,endD d3],rfl,SqL.of zc,_,rfl,hk _ _ ⟨by show (!(endD d2 && (endD d3 && true))) = _; rw [Bool.and_true],g1.trans (Grow.new hl _)⟩⟩
  rintro _ H1 ⟨rfl,g1⟩
  have q':=q _ g1
  cases hw:(endD d2 && endD d3) with
  | false=>rw [hw] at q'; exact iteT q'
  | true =>
   rw [hw,Bool.true_and] at q
   rw [Bool.and_eq_true] at hw
   obtain ⟨e2,rfl⟩:=vm hw.1
   obtain ⟨e3,rfl⟩:=vm hw.2
   rw [uZ o2,uZ o3] at hs
   refine iteF (wY ⟨_,rfl,_,rfl,r,_,rfl,g1.sqT hs,fun p2 H2 g2 s2=>?_⟩)
   have g12:=g1.trans g2
   have lowq:Zi a (oD e2) (oD e3) = true -> Q (.bl true) H2:=fun z=>by have:=q _ g12; rw [z] at this; exact this
   have fl:([ov e2,ov e3]).all xW = true:=by cases e2 <;> cases e3 <;> rfl
   refine ⟨p2,[ov e2,ov e3],rfl,.inr s2,rfl,fl,_,rfl,?_⟩
   cases e2 with
   | none=>exact iteT (lowq (by cases e3 <;> rfl))
   | some l =>
    cases e3 with
    | none=>exact iteT (lowq rfl)
    | some u =>
     have q2:Q (.bl (decide (l < u) || (decide (l = u) && decide (a = 0)))) H2:=q _ g12
     have hs2:=g12.sqT hs
     have i1:atI [V.int a,V.int l,V.int u] 1 = some (.int l):=zT (j:=1) rfl
     have i2:atI [V.int a,V.int l,V.int u] 2 = some (.int u):=zT (j:=2) rfl
     refine iteF (wY ⟨_,rfl,r,_,_,_,rfl,rfl,hs2,i1,_,rfl,r,_,_,_,rfl,rfl,hs2,i2,_,_,rfl,rfl,_,rfl,?_⟩)
     by_cases c1:l < u
     ·rw [decide_eq_true c1] at q2
      exact zO (decide_eq_true c1) q2
     ·rw [decide_eq_false c1] at q2
      refine zJ (decide_eq_false c1) ⟨_,rfl,r,_,_,_,rfl,rfl,hs2,i1,_,rfl,r,_,_,_,rfl,rfl,hs2,i2,rfl,_,rfl,?_⟩
      by_cases c2:l = u
      ·rw [decide_eq_true c2] at q2
       refine zO (decide_eq_true (congrArg V.int c2)) ⟨_,rfl,r,_,_,_,rfl,rfl,hs2,zT (j:=0) rfl,rfl,?_⟩
       have e:decide (V.int a = V.int 0) = decide (a = 0):=by
        by_cases z:a = 0
        ·rw [z]; rfl
        ·rw [decide_eq_false z,decide_eq_false fun w=>z (V.int.inj w)]
       rw [e]; exact q2
      ·rw [decide_eq_false c2] at q2
       exact zJ (decide_eq_false fun z=>c2 (V.int.inj z)) q2
theorem wR:FnScope ["_law_thing"] ["_law_thing"] (zh (top 71)):=⟨rfl,rfl,rfl,by decide +kernel,rfl,by decide +kernel,by decide +kernel⟩
theorem wS (F:Fun K "_law_are_deeds" "_law_are_deeds" (top 71) f fd) (B:Blt mg) (qc0:zj P w K mg base n "_law_is_deed" ["_law_thing"] (xn K))    :
  FnOk P w K mg base CX0 (n + 1) f fd ["_law_thing"] (wD K):=by
 refine F.ok wR yB (fun cdv A outer s H vs Q E hr h=>?_)
 obtain ⟨x,rfl,d,m,hd,q⟩:=h
 refine ⟨_,(zf (zm (yI (zi (zN (K:=K) rfl) rfl B.isinstance zn (za (pv 0) (za (yz rfl B.tuple zY) zb))) (yI (xI va va ze (zi zo rfl B.len yO (za (pv 0) zb)) ze) (yF (zi (yi rfl) rfl B.all v8 (za (yl (CSc.of (N':=["_law_one"]) (sub:=[none]) (zh (top 71)) ["_law_thing"] rfl rfl (by decide +kernel) rfl) rfl (xB (pv 0)) (fun _ _ _ _ _ _=>zr (i:=0) (show (["_law_one"]:List Str).Nodup by decide +kernel) rfl (Or.inl rfl)) (fun _ _ _ _ _ _=>z6) (fun _ _ _ _ _ _=>(zg qc0 hr rfl (za (pv 0) zb)))) zb))))))),?_⟩
 refine ⟨_,rfl,_,d,m,_,_,rfl,hd,wL,_,rfl,?_⟩
 cases d with
 | tuple ds =>
  obtain ⟨a,xs,rfl,hs,ha⟩:=hd.inv_tup
  have hl:=ha.length
  have es:xw (.tuple ds) = (decide (1 <= ds.length) && decide (ds.length <= 40) && ds.all yC):=rfl
  refine iteT ⟨_,rfl,a,_,rfl,.inr hs,_,_,rfl,rfl,_,rfl,?_⟩
  by_cases c1:1 <= ds.length
  ·refine zO (decide_eq_true (by omega)) ⟨_,_,rfl,rfl,_,rfl,?_⟩
   by_cases c2:ds.length <= 40
   ·refine zO (decide_eq_true (by omega)) ⟨_,rfl,a,rfl,⟨_,hs⟩,z9 (xs:=xs) (fun i ys H'=>ys = ((ds.take i).map yC).map V.bl /\ Grow [] H H') ⟨rfl,Grow.refl _ _⟩ (fun i ys H' p=>p.2.sqT hs) ?_ ?_⟩
    ·rintro i x ys H' hx ⟨rfl,g⟩
     obtain ⟨e,he,oe⟩:=ha.get hx
     refine ⟨_,rfl,_,rfl,e,m,oe.grow (g.wk (m:=m)),fun H2 g2=>⟨zB (by rw [List.length_map,List.length_map,List.length_take]; omega),?_,g.trans g2⟩⟩
     rw [List.take_succ,he,List.map_append,List.map_append]; rfl
    ·rintro ys H' ⟨rfl,g⟩ l hl'
     rw [hl,List.take_length]
     refine ⟨l,ds.map yC,rfl,SqL.of zc,?_⟩
     have q2:=q _ (g.trans (Grow.new hl' (.lst ((ds.map yC).map V.bl))))
     rw [es,decide_eq_true c1,decide_eq_true c2] at q2
     rw [List.all_map]
     exact q2
   ·have q2:=q _ (Grow.refl _ _)
    rw [es,decide_eq_false c2,Bool.and_false,Bool.false_and] at q2
    exact zJ (decide_eq_false (by omega)) q2
  ·have q2:=q _ (Grow.refl _ _)
   rw [es,decide_eq_false c1] at q2
   exact zJ (decide_eq_false (by omega)) ⟨_,rfl,iteF q2⟩
 | _=>exact iteF (q _ (Grow.refl _ _))
theorem uk:FnScope ["_law_board_here","_law_thing"] ["_law_board_here","_law_thing"] (zh (top 64)):=⟨rfl,rfl,rfl,by decide +kernel,rfl,by decide +kernel,by decide +kernel⟩
theorem ul (F:Fun K "_law_is_ask" "_law_is_ask" (top 64) f fd) (B:Blt mg) (qc0:zj P w K mg base n "_law_is_deed" ["_law_thing"] (xn K)) (qc1:zj P w K mg base n "_law_is_whole" ["_law_thing"] (zy K))    :
  FnOk P w K mg base CX0 (n + 1) f fd ["_law_board_here","_law_thing"] (wZ K):=by
 refine F.ok uk ym (fun cdv A outer s H vs Q E hr h=>?_)
 obtain ⟨x,y,rfl,b,d,m,hb,hd,q⟩:=h
 refine ⟨_,(zd (zM (PW.pt (xT (zZ (zP (zi (zN (K:=K) rfl) rfl B.isinstance zn (za (pv 1) (za (yz rfl B.tuple zY) zb))))) (xT (zw qv (zi zo rfl B.len yO (za (pv 1) zb)) ze (zC _)) (xq (zZ (zP (zi (yi rfl) rfl B.all v8 (za (yl (CSc.of (N':=["_law_one"]) (sub:=[none]) (zh (top 64)) ["_law_board_here","_law_thing"] rfl rfl (by decide +kernel) rfl) rfl (xB (yk (yH (K:=K) rfl) (pv 1) yN (yA ze))) (fun _ _ _ _ _ _=>zr (i:=0) (show (["_law_one"]:List Str).Nodup by decide +kernel) rfl (Or.inl rfl)) (fun _ _ _ _ _ _=>z6) (fun _ _ _ _ _ _=>(zg qc1 hr rfl (za (pv 0) zb)))) zb)))))))) (zf (zm x6)) zt) (zf (zm (yI (xI va vz ze (zK zS (pv 1) ze (fun _ _=>rfl)) ze) (yI (xI va vz ze (zK zS (pv 1) ze (fun _ _=>rfl)) (zi zo rfl B.len yO (za (pv 0) zb))) (yF (zg qc0 hr rfl (za (zK zS (pv 1) ze (fun _ _=>rfl)) zb)))))))),?_⟩
 obtain ⟨rb,rfl,hrb⟩:=id hb
 refine uw (fun t H'=>Grow [] H H' /\ (t = true -> askP b.length d = false) /\ (t = false -> ∃ (r:Addr) (i1 i2:Int) (v3:V) (d3:PyData),y = .ref r /\ d = .tuple [.int i1,.int i2,d3] /\ SqT K H' r [.int i1,.int i2,v3] /\ Od K m H' v3 d3)) (fun Kk hk=>⟨_,rfl,_,d,m,_,_,rfl,hd,yR d,_,rfl,?_⟩) ?_
 ·cases ht:uf d with
  | false=>exact iteT (hk _ _ ⟨Grow.refl _ _,(fun _=>by cases d <;> first | rfl | cases ht),fun z=>nomatch z⟩)
  | true =>
   obtain ⟨r,xs,ds,rfl,rfl,hs,os⟩:=xm hd ht
   have xl:=os.length
   refine iteF ⟨_,rfl,r,_,rfl,.inr hs,rfl,_,rfl,?_⟩
   by_cases h3:ds.length = 3
   ·match ds,h3,os,xl with
    | [d1,d2,d3],_,os,xl =>
     obtain ⟨v1,v2,v3,rfl,o1,o2,o3⟩:=os.inv3
     refine iteF ⟨_,rfl,_,rfl,r,_,rfl,hs,fun p1 H1 g1 h1=>⟨p1,rfl,⟨_,h1⟩,z9 (xs:=[v1,v2]) (fun i ys H'=>ys = (([zx d1,zx d2]).take i).map V.bl /\ H' = H1) ⟨rfl,rfl⟩ (fun i ys H' z=>by rw [z.2]; exact (show SqT K H1 p1 [v1,v2] from h1)) ?_ ?_⟩⟩
     ·rintro i v ys H' hx ⟨rfl,rfl⟩
      have hl2:(List.map V.bl (List.take i [zx d1,zx d2])).length < sizeLine:=y7 (by rw [List.length_map,List.length_take]; show min i 2 <= 16000000; omega)
      match i,hx with
      | 0,hx=>cases Option.some.inj hx; exact ⟨_,rfl,_,rfl,d1,m,o1.grow g1.wk,hl2,rfl,rfl⟩
      | 1,hx=>cases Option.some.inj hx; exact ⟨_,rfl,_,rfl,d2,m,o2.grow g1.wk,hl2,rfl,rfl⟩
     ·rintro ys H' ⟨rfl,rfl⟩ l hl
      have gl:=g1.trans (Grow.new hl (.lst (([zx d1,zx d2].take 2).map V.bl)))
      refine ⟨l,[zx d1,zx d2],rfl,SqL.of zc,_,rfl,hk _ _ ⟨gl,fun z=>?_,fun z=>?_⟩⟩
      ·show (zF 0 15 d1 && (zF 0 ((b.length:Int) - 1) d2 && yC d3)) = false
       cases w1:zx d1 with
       | false=>rw [xY w1]; rfl
       | true =>
        cases w2:zx d2 with
        | false=>rw [xY (l:=0) w2,Bool.false_and,Bool.and_false]
        | true=>rw [w1,w2] at z; cases z
      ·cases w1:zx d1 with
       | false=>rw [w1] at z; cases z
       | true =>
        cases w2:zx d2 with
        | false=>rw [w1,w2] at z; cases z
        | true =>
         obtain ⟨i1,rfl⟩:=yS w1
         obtain ⟨i2,rfl⟩:=yS w2
         rw [o1.inv_int,o2.inv_int] at hs
         exact ⟨r,i1,i2,v3,d3,rfl,rfl,gl.sqT hs,o3.grow gl.wk⟩
   ·have e:askP b.length (.tuple ds) = false:=by
     unfold askP
     split
     ·rename_i z; injection z with z; rw [z] at h3; exact absurd rfl h3
     ·rfl
    exact zO (by rw [decide_eq_false fun w=>h3 (by have:=V.int.inj w; omega)]; rfl) (hk _ _ ⟨Grow.refl _ _,(fun _=>e),fun z=>nomatch z⟩)
 rintro t H0 ⟨g0,h1,h2⟩
 cases t with
 | true=>have:=q _ g0; rw [h1 rfl] at this; exact iteT this
 | false =>
  obtain ⟨r,i1,i2,v3,d3,rfl,rfl,hs,o3⟩:=h2 rfl
  have e:askP b.length (.tuple [.int i1,.int i2,d3]) = ((decide (0 <= i1) && decide (i1 <= 15)) && ((decide (0 <= i2) && decide (i2 <= (b.length:Int) - 1)) && yC d3)):=rfl
  rw [e] at q
  refine iteF (wY ?_)
  refine ⟨_,rfl,r,_,_,_,rfl,rfl,hs,zT (j:=0) rfl,_,_,rfl,rfl,_,rfl,?_⟩
  by_cases c1:0 <= i1
  ·rw [decide_eq_true c1] at q
   refine zO (decide_eq_true c1) ⟨_,_,rfl,rfl,_,rfl,?_⟩
   by_cases c2:i1 <= 15
   ·rw [decide_eq_true c2] at q
    refine zO (decide_eq_true (by omega)) ⟨_,rfl,r,_,_,_,rfl,rfl,hs,zT (j:=1) rfl,_,_,rfl,rfl,_,rfl,?_⟩
    by_cases c3:0 <= i2
    ·rw [decide_eq_true c3] at q
     refine zO (decide_eq_true c3) ⟨_,rfl,rb,_,rfl,.inr (g0.sqT hrb),_,_,rfl,rfl,_,rfl,?_⟩
     rw [List.length_map]
     by_cases c4:i2 <= (b.length:Int) - 1
     ·rw [decide_eq_true c4] at q
      exact zO (decide_eq_true (by omega)) ⟨_,rfl,r,_,_,_,rfl,rfl,hs,zT (j:=2) rfl,_,rfl,d3,m,o3,fun H' g'=>q _ (g0.trans g')⟩
     ·rw [decide_eq_false c4] at q
      have:=q _ g0
      exact zJ (decide_eq_false (by omega)) this
    ·rw [decide_eq_false c3] at q
     exact zJ (decide_eq_false c3) ⟨_,rfl,iteF (q _ g0)⟩
   ·rw [decide_eq_false c2] at q
    exact zJ (decide_eq_false (by omega)) (q _ g0)
  ·rw [decide_eq_false c1] at q
   exact zJ (decide_eq_false c1) ⟨_,rfl,iteF (q _ g0)⟩
theorem ve:FnScope ["_law_board_here","_law_thing"] ["_law_board_here","_law_thing"] (zh (top 65)):=⟨rfl,rfl,rfl,by decide +kernel,rfl,by decide +kernel,by decide +kernel⟩
theorem vf (F:Fun K "_law_are_asks" "_law_are_asks" (top 65) f fd) (B:Blt mg) (qc0:zj P w K mg base n "_law_is_ask" ["_law_board_here","_law_thing"] (wZ K))    :
  FnOk P w K mg base CX0 (n + 1) f fd ["_law_board_here","_law_thing"] (sh K):=by
 refine F.ok ve ym (fun cdv A outer s H vs Q E hr h=>?_)
 obtain ⟨x,y,rfl,b,d,m,hb,hd,hl,q⟩:=h
 refine ⟨_,(zf (zm (yI (zi (zN (K:=K) rfl) rfl B.isinstance zn (za (pv 1) (za (yz rfl B.tuple zY) zb))) (yF (zi (yi rfl) rfl B.all v8 (za (yl (CSc.of (N':=["_law_one","_law_board_here"]) (sub:=[none,some 0]) (zh (top 65)) ["_law_board_here","_law_thing"] rfl rfl (by decide +kernel) rfl) rfl (xB (pv 1)) (fun _ _ _ _ _ _=>zr (i:=0) (show (["_law_one","_law_board_here"]:List Str).Nodup by decide +kernel) rfl (Or.inl rfl)) (fun _ _ _ _ _ _=>z6) (fun _ _ _ _ _ _=>(zg qc0 hr rfl (za (pv 1) (za (pv 0) zb))))) zb)))))),?_⟩
 refine ⟨_,rfl,_,d,m,_,_,rfl,hd,yR d,_,rfl,?_⟩
 cases ht:uf d with
 | false=>have:=q _ (Grow.refl _ _); rw [qg ht] at this; exact iteF this
 | true =>
  obtain ⟨r,xs,ds,rfl,rfl,hs,os⟩:=xm hd ht
  have xl:=os.length
  have lc':ds.length <= 8000000:=hl
  refine iteT ⟨_,rfl,r,rfl,⟨_,hs⟩,z9 (xs:=xs) (fun i ys H'=>ys = ((ds.take i).map (askP b.length)).map V.bl /\ Grow [] H H') ⟨rfl,Grow.refl _ _⟩ (fun i ys H' z=>z.2.sqT hs) ?_ ?_⟩
  ·rintro i x ys H' hx' ⟨rfl,g⟩
   obtain ⟨d,hd,od⟩:=os.get hx'
   refine ⟨_,rfl,_,rfl,_,_,rfl,b,d,m,g.board hb,od.grow g.wk,fun H2 g2=>⟨y7 (by rw [List.length_map,List.length_map,List.length_take]; omega),?_,g.trans g2⟩⟩
   rw [List.take_succ,hd,List.map_append,List.map_append]; rfl
  ·rintro ys H' ⟨rfl,g⟩ l hl
   rw [xl,List.take_length]
   refine ⟨l,ds.map (askP b.length),rfl,SqL.of zc,?_⟩
   rw [List.all_map]
   exact q _ (g.trans (Grow.new hl _))
theorem vg:FnScope ["_law_thing"] ["_law_thing"] (zh (top 63)):=⟨rfl,rfl,rfl,by decide +kernel,rfl,by decide +kernel,by decide +kernel⟩
theorem vh (F:Fun K "_law_is_board" "_law_is_board" (top 63) f fd) (B:Blt mg) (qc0:zj P w K mg base n "_law_is_whole" ["_law_thing"] (zy K))    :
  FnOk P w K mg base CX0 (n + 1) f fd ["_law_thing"] (yK K):=by
 refine F.ok vg yB (fun cdv A outer s H vs Q E hr h=>?_)
 obtain ⟨x,rfl,d,m,hd,hl,q⟩:=h
 refine ⟨_,(zd (zM (PW.pt (xT (zZ (zP (zi (zN (K:=K) rfl) rfl B.isinstance zn (za (pv 0) (za (yz rfl B.tuple zY) zb))))) (xT (zw vz (zi zo rfl B.len yO (za (pv 0) zb)) ze (zC _)) (xq (zw ZM (zi zo rfl B.len yO (za (pv 0) zb)) ze (zC _)))))) (zf (zm x6)) zt) (zf (zm (zi (yi rfl) rfl B.all v8 (za (yl (CSc.of (N':=["_law_value"]) (sub:=[none]) (zh (top 63)) ["_law_thing"] rfl rfl (by decide +kernel) rfl) rfl (xB (pv 0)) (fun _ _ _ _ _ _=>zr (i:=0) (show (["_law_value"]:List Str).Nodup by decide +kernel) rfl (Or.inl rfl)) (fun _ _ _ _ _ _=>z6) (fun _ _ _ _ _ _=>(zg qc0 hr rfl (za (pv 0) zb)))) zb))))),?_⟩
 refine uw (fun b H'=>H' = H /\ (b = true -> yc d = false) /\ (b = false -> ∃ (r:Addr) (xs:List V) (ds:List PyData),x = .ref r /\ d = .tuple ds /\ SqT K H r xs /\ Ods K m H xs ds /\ yc d = ds.all zx)) (fun Kk hk=>⟨_,rfl,_,d,m,_,_,rfl,hd,yR d,_,rfl,?_⟩) ?_
 ·cases ht:uf d with
  | false=>exact iteT (hk _ _ ⟨rfl,(fun _=>by cases d <;> first | rfl | cases ht),fun z=>nomatch z⟩)
  | true =>
   obtain ⟨r,xs,ds,rfl,rfl,hs,os⟩:=xm hd ht
   have xl:=os.length
   refine iteF ⟨_,rfl,r,_,rfl,.inr hs,_,_,rfl,rfl,_,rfl,?_⟩
   have e:yc (.tuple ds) = (decide (1 <= ds.length) && (decide (ds.length <= 16) && ds.all zx)):=rfl
   by_cases h1:1 <= ds.length
   ·refine zJ (decide_eq_false (by omega)) ⟨_,rfl,r,_,rfl,.inr hs,_,_,rfl,rfl,_,rfl,?_⟩
    by_cases h2:ds.length <= 16
    ·exact hk _ _ ⟨rfl,(fun z=>absurd z (by rw [decide_eq_false (by omega)]; decide)),fun _=>⟨r,xs,ds,rfl,rfl,hs,os,by rw [e,decide_eq_true h1,decide_eq_true h2]; rfl⟩⟩
    ·exact hk _ _ ⟨rfl,(fun _=>by rw [e,decide_eq_false h2,decide_eq_true h1]; rfl),fun z=>absurd z (by rw [decide_eq_true (by omega)]; decide)⟩
   ·exact zO (decide_eq_true (by omega)) (hk _ _ ⟨rfl,(fun _=>by rw [e,decide_eq_false h1]; rfl),fun z=>nomatch z⟩)
 rintro b H ⟨rfl,hb1,hb2⟩
 cases b with
 | true=>rw [hb1 rfl] at q; exact iteT (q _ (Grow.refl _ _))
 | false =>
  obtain ⟨r,xs,ds,rfl,rfl,hs,os,eb⟩:=hb2 rfl
  rw [eb] at q
  have xl:=os.length
  have hl':ds.length <= 8000000:=hl
  refine iteF (wY ⟨_,rfl,r,rfl,⟨_,hs⟩,z9 (xs:=xs) (fun i ys H'=>ys = ((ds.take i).map zx).map V.bl /\ H' = H) ⟨rfl,rfl⟩ (fun i ys H' z=>by rw [z.2]; exact hs) ?_ ?_⟩)
  ·rintro i x ys H' hx ⟨rfl,rfl⟩
   obtain ⟨e,he,oe⟩:=os.get hx
   refine ⟨_,rfl,_,rfl,e,m,oe,y7 (by rw [List.length_map,List.length_map,List.length_take]; omega),?_,rfl⟩
   rw [List.take_succ,he,List.map_append,List.map_append]; rfl
  ·rintro ys H' ⟨rfl,rfl⟩ l hl0
   rw [xl,List.take_length]
   refine ⟨l,ds.map zx,rfl,SqL.of zc,?_⟩
   rw [List.all_map]
   exact q _ (Grow.new hl0 _)
theorem yo:FnScope ["_law_choice","_law_handed","_law_board_here","_law_asks_here","_law_deeds","_law_tree_here","_law_value","_law_many"] ["_law_choice","_law_handed"] (zh (top 73)):=⟨rfl,rfl,rfl,by decide +kernel,rfl,by decide +kernel,by decide +kernel⟩
theorem rE (F:Fun K "_law_due" "_law_due" (top 73) f fd) (B:Blt mg) (qc0:zj P w K mg base n "_law_is_tree" ["_law_thing","_law_many"] (wC K)) (qc1:zj P w K mg base n "_law_are_deeds" ["_law_thing"] (wD K)) (qc2:zj P w K mg base n "_law_is_whole" ["_law_thing"] (zy K)) (qc3:zj P w K mg base n "_law_are_asks" ["_law_board_here","_law_thing"] (sh K)) (qc4:zj P w K mg base n "_law_is_board" ["_law_thing"] (yK K))    :
  FnOk P w K mg base CX0 (n + 1) f fd ["_law_choice","_law_handed"] (wE K):=by
 refine F.ok yo ym (fun cdv A outer s H vs Q E hr h=>?_)
 obtain ⟨x,y,rfl,w,l,xs,ds,m,rfl,w8,rfl,hD,q⟩:=h
 refine ⟨_,(zd (wl (pv 1) (qh rfl (zz (zr (i:=2) yo.nd rfl (Or.inl rfl)) (zz (zr (i:=3) yo.nd rfl (Or.inl rfl)) (zz (zr (i:=4) yo.nd rfl (Or.inl rfl)) (zz (zr (i:=5) yo.nd rfl (Or.inl rfl)) (zz (zr (i:=6) yo.nd rfl (Or.inl rfl)) (zz (zr (i:=7) yo.nd rfl (Or.inl rfl)) xg)))))))) (zd (zM (zw vz (pv 0) ze (zC _)) (zd (zM (zZ (zP (zg qc4 hr rfl (za (pv 2) zb)))) (zf (zm z7)) zt) (zf (zm (zK zU (yf (za z7 (za z7 zb))) (zV vB rfl B.int jD (za (zg qc3 hr rfl (za (pv 2) (za (pv 3) zb))) zb)) (fun _ _=>rfl))))) zt) (zd (zM (zw ZM (pv 0) ze (zC _)) (zf (zm (zK zU (yf (za z7 (za z7 zb))) (zV vB rfl B.int jD (za (yI (zg qc2 hr rfl (za (pv 7) zb)) (yF (xI va va ze (pv 7) ze))) zb)) (fun _ _=>rfl)))) zt) (zd (zM (PW.pt (xA (zw yv (pv 0) ze (zC _)) (xz (zZ (zP (zg qc2 hr rfl (za (pv 6) zb))))))) (zf (zm z7)) zt) (zd (zM (zZ (zP (zg qc1 hr rfl (za (pv 4) zb)))) (zf (zm z7)) zt) (zf (zm (zK zU (yf (za z7 (za z7 zb))) (zV vB rfl B.int jD (za (zg qc0 hr rfl (za (pv 5) (za (zi zo rfl B.len yO (za (pv 4) zb)) zb))) zb)) (fun _ _=>rfl))))))))),?_⟩
 obtain ⟨hq,ho,hlen,hbd⟩:=hD
 obtain ⟨x0,x1,x2,x3,x4,x5,d0,d1,d2,d3,d4,d5,rfl,rfl,o0,o1,o2,o3,o4,o5⟩:=qp ho hlen
 have b0:=hbd d0 (by simp)
 have b1:=hbd d1 (by simp)
 have b2:=hbd d2 (by simp)
 have b3:=hbd d3 (by simp)
 have w0:=y8 (d:=d0)
 have w1:=y8 (d:=d1)
 have z0:=b0.1
 have z1:=b1.1
 have z3:=b3.1
 have y3:=b3.2
 refine ⟨_,rfl,l,[x0,x1,x2,x3,x4,x5],rfl,hq,rfl,_,_,rfl,_,_,rfl,_,_,rfl,_,_,rfl,_,_,rfl,_,_,rfl,rfl,?_⟩
 refine c_nx ?_
 refine ⟨_,rfl,_,_,rfl,rfl,_,rfl,?_⟩
 by_cases c3:w < 3
 ·rw [Yd c3] at q
  unfold dueB at q
  refine zO (decide_eq_true (by omega)) ⟨_,rfl,_,rfl,d0,m,o0,by omega,fun H1 g1=>⟨_,rfl,?_⟩⟩
  cases hb:yc d0 with
  | false=>rw [hb] at q; exact iteT (q _ g1)
  | true =>
   rw [hb,if_pos rfl] at q
   obtain ⟨b,hB,bl,b16,bl1⟩:=y0 o0 hb
   rw [bl] at q
   refine iteF ?_
   refine ⟨szl rfl,fun ln hln=>?_⟩
   have gl:=Grow.new (m:=[]) hln (.lst [.str "ask",.str "told"])
   have hn:=zc (H:=H1) (a:=ln) (o:=.lst [.str "ask",.str "told"])
   have G:=g1.trans gl
   generalize upd H1 ln _ = H2 at gl hn G ⊢
   refine ⟨_,rfl,_,rfl,_,_,rfl,b,d1,m,G.board hB,o1.grow (G.wk (m:=m)),by omega,fun H3 g3=>.inr ⟨_,rfl,sr (g3.keep _ _ (by simp) hn) ?_⟩⟩
   have q2:=q _ (G.trans g3)
   cases c:wO b.length d1 with
   | true=>rw [c] at q2; exact q2
   | false=>rw [c] at q2; exact q2
 refine zJ (decide_eq_false (by omega)) ?_
 refine c_nx ?_
 refine ⟨_,rfl,_,_,rfl,rfl,_,rfl,?_⟩
 by_cases c4:4 < w
 ·rw [Ye c4] at q
  unfold dueM at q
  refine zO (decide_eq_true (by omega)) ⟨szl rfl,fun ln hln=>?_⟩
  have gl:=Grow.new (m:=[]) hln (.lst [.str "number",.str "told"])
  have hn:=zc (H:=H) (a:=ln) (o:=.lst [.str "number",.str "told"])
  have q2:=q _ gl
  have o5':=o5.grow (gl.wk (m:=m))
  generalize upd H ln _ = H2 at gl hn q2 o5' ⊢
  refine ⟨_,rfl,_,rfl,d5,m,o5',_,rfl,?_⟩
  cases d5 with
  | int i =>
   obtain rfl:=o5'.inv_int
   have ew:zF 1 40 (.int i) = (decide (1 <= i) && decide (i <= 40)):=rfl
   rw [ew] at q2
   refine iteT ⟨_,rfl,_,_,rfl,rfl,_,rfl,?_⟩
   by_cases e1:1 <= i
   ·rw [decide_eq_true e1,Bool.true_and] at q2
    refine zO (decide_eq_true e1) ⟨_,_,rfl,rfl,.inr ⟨_,rfl,sr hn ?_⟩⟩
    by_cases e2:i <= 40
    ·rw [decide_eq_true e2] at q2 ⊢; exact q2
    ·rw [decide_eq_false e2] at q2 ⊢; exact q2
   ·rw [decide_eq_false e1] at q2
    exact zJ (decide_eq_false e1) (.inr ⟨_,rfl,sr hn q2⟩)
  | _=>exact iteF (.inr ⟨_,rfl,sr hn q2⟩)
 refine zJ (decide_eq_false (by omega)) ?_
 refine c_nx ?_
 refine c_if (fun σ' H'=>σ' = [some (.int w),some (.ref l),some x0,some x1,some x2,some x3,some x4,some x5] /\ H' = H /\ ∀ H'',Grow [] H H'' -> Q (Zv (dueF d2 d3)) H'') ?_ (fun kk=>?_)
 ·rintro σ' H1 ⟨rfl,rfl,q2⟩
  unfold dueF at q2
  refine ⟨_,rfl,_,rfl,d2,m,o2,fun H1 g1=>⟨_,rfl,?_⟩⟩
  cases hb:xw d2 with
  | false=>rw [hb] at q2; exact iteT (q2 _ g1)
  | true =>
   rw [hb,if_pos rfl] at q2
   obtain ⟨es,hes,el,e1,e40,_⟩:=rh o2 hb
   rw [← el] at q2
   refine iteF ?_
   refine ⟨szl rfl,fun ln hln=>?_⟩
   have gl:=Grow.new (m:=[]) hln (.lst [.str "tree",.str "told"])
   have hn:=zc (H:=H1) (a:=ln) (o:=.lst [.str "tree",.str "told"])
   have G:=g1.trans gl
   generalize upd H1 ln _ = H2 at gl hn G ⊢
   obtain ⟨r2,xs2,rfl,hs2,hall2⟩:=G.deedsT hes
   have l2:=hall2.len
   refine ⟨_,rfl,_,rfl,r2,_,rfl,.inr hs2,_,_,rfl,d3,m,es.length,o3.grow (G.wk (m:=m)),congrArg V.int (by omega),e1,e40,by omega,by omega,fun H3 g3=>.inr ⟨_,rfl,sr (g3.keep _ _ (by simp) hn) ?_⟩⟩
   have q3:=q2 _ (G.trans g3)
   cases c:wy d3 es.length with
   | true=>rw [c] at q3; exact q3
   | false=>rw [c] at q3; exact q3
 ·rcases (by omega:w = 3 \/ w = 4) with rfl | rfl
  ·exact ⟨_,rfl,rfl,_,rfl,zJ (decide_eq_false fun z=>absurd (V.int.inj z) (by decide)) (kk _ _ ⟨rfl,rfl,q⟩)⟩
  ·have q':∀ H',Grow [] H H' -> Q (Zv (dueS d4 d2 d3)) H':=q
   unfold dueS at q'
   refine ⟨_,rfl,rfl,_,rfl,zO (decide_eq_true rfl) ⟨_,rfl,_,rfl,d4,m,o4,_,rfl,?_⟩⟩
   cases hv:zx d4 with
   | false=>rw [hv] at q'; exact iteT (q' _ (Grow.refl _ _))
   | true=>rw [hv,if_pos rfl] at q'; exact iteF (kk _ _ ⟨rfl,rfl,q'⟩)
theorem yL:FnScope ["_law_pot_here","_law_thing","_law_some"] ["_law_pot_here","_law_thing"] (zh (top 66)):=⟨rfl,rfl,rfl,by decide +kernel,rfl,by decide +kernel,by decide +kernel⟩
theorem tw (F:Fun K "_law_other" "_law_other" (top 66) f fd) (B:Blt mg) (qc0:zj P w K mg base n "_law_draw" ["_law_pot_here","_law_many"] (xi K)) (qc1:zj P w K mg base n "_law_is_whole" ["_law_thing"] (zy K))    :
  FnOk P w K mg base CX0 (n + 1) f fd ["_law_pot_here","_law_thing"] (wP K):=by
 refine F.ok yL ym (fun cdv A outer s H vs Q E hr h=>?_)
 obtain ⟨x,y,rfl,a,d,n,k,w,ml,rfl,pp,am,oml,hd,gd,n1,q⟩:=h
 refine ⟨_,(@zd _ _ _ _ _ (@zA _ _ 2 _ _ _ _ yL.nd rfl (Or.inl rfl) (@rX _ K _ _ _ _ (@zk _ _ _ _ _ _ _ t8 (@zk _ _ _ _ _ _ _ XZ (@zk _ _ _ _ _ _ _ XZ (@zk _ _ _ _ _ _ _ Yx (@zk _ _ _ _ _ _ _ Yx (@zk _ _ _ _ _ _ _ (@wu _ _ _ _ _ _ _ yW (by first | rfl | decide | exact Or.inl rfl | exact Or.inr rfl | exact Or.inr (Or.inl rfl) | exact Or.inr (Or.inr rfl) | exact fun _=>rfl | exact Nat.le_of_ble_eq_true rfl)) (@zk _ _ _ _ _ _ _ (@wu _ _ _ _ _ _ _ (@zk _ _ _ _ _ _ _ yy yW (by first | rfl | decide | exact Or.inl rfl | exact Or.inr rfl | exact Or.inr (Or.inl rfl) | exact Or.inr (Or.inr rfl) | exact fun _=>rfl | exact Nat.le_of_ble_eq_true rfl)) (by first | rfl | decide | exact Or.inl rfl | exact Or.inr rfl | exact Or.inr (Or.inl rfl) | exact Or.inr (Or.inr rfl) | exact fun _=>rfl | exact Nat.le_of_ble_eq_true rfl)) (@zk _ _ _ _ _ _ _ (@rX _ _ _ _ _ _ yW (by first | rfl | decide | exact Or.inl rfl | exact Or.inr rfl | exact Or.inr (Or.inl rfl) | exact Or.inr (Or.inr rfl) | exact fun _=>rfl | exact Nat.le_of_ble_eq_true rfl)) (@zk _ _ _ _ _ _ _ Y5 (@zk _ _ _ _ _ _ _ X0 (@zk _ _ _ _ _ _ _ yy (@zk _ _ _ _ _ _ _ yy (@zk _ _ _ _ _ _ _ yy (@zk _ _ _ _ _ _ _ yy (@zk _ _ _ _ _ _ _ yy (@zk _ _ _ _ _ _ _ (X1 ⟨by decide,by decide,by decide⟩) (@zk _ _ _ _ _ _ _ (Y2 ⟨by decide,by decide,by decide⟩) (@zk _ _ _ _ _ _ _ (@wu _ _ _ _ _ _ _ (@zk _ _ _ _ _ _ _ yy (@zk _ _ _ _ _ _ _ t8 (@zk _ _ _ _ _ _ _ t8 yW (by first | rfl | decide | exact Or.inl rfl | exact Or.inr rfl | exact Or.inr (Or.inl rfl) | exact Or.inr (Or.inr rfl) | exact fun _=>rfl | exact Nat.le_of_ble_eq_true rfl)) (by first | rfl | decide | exact Or.inl rfl | exact Or.inr rfl | exact Or.inr (Or.inl rfl) | exact Or.inr (Or.inr rfl) | exact fun _=>rfl | exact Nat.le_of_ble_eq_true rfl)) (by first | rfl | decide | exact Or.inl rfl | exact Or.inr rfl | exact Or.inr (Or.inl rfl) | exact Or.inr (Or.inr rfl) | exact fun _=>rfl | exact Nat.le_of_ble_eq_true rfl)) (by first | rfl | decide | exact Or.inl rfl | exact Or.inr rfl | exact Or.inr (Or.inl rfl) | exact Or.inr (Or.inr rfl) | exact fun _=>rfl | exact Nat.le_of_ble_eq_true rfl)) yW (by first | rfl | decide | exact Or.inl rfl | exact Or.inr rfl | exact Or.inr (Or.inl rfl) | exact Or.inr (Or.inr rfl) | exact fun _=>rfl | exact Nat.le_of_ble_eq_true rfl)) (by first | rfl | decide | exact Or.inl rfl | exact Or.inr rfl | exact Or.inr (Or.inl rfl) | exact Or.inr (Or.inr rfl) | exact fun _=>rfl | exact Nat.le_of_ble_eq_true rfl)) (by first | rfl | decide | exact Or.inl rfl | exact Or.inr rfl | exact Or.inr (Or.inl rfl) | exact Or.inr (Or.inr rfl) | exact fun _=>rfl | exact Nat.le_of_ble_eq_true rfl)) (by first | rfl | decide | exact Or.inl rfl | exact Or.inr rfl | exact Or.inr (Or.inl rfl) | exact Or.inr (Or.inr rfl) | exact fun _=>rfl | exact Nat.le_of_ble_eq_true rfl)) (by first | rfl | decide | exact Or.inl rfl | exact Or.inr rfl | exact Or.inr (Or.inl rfl) | exact Or.inr (Or.inr rfl) | exact fun _=>rfl | exact Nat.le_of_ble_eq_true rfl)) (by first | rfl | decide | exact Or.inl rfl | exact Or.inr rfl | exact Or.inr (Or.inl rfl) | exact Or.inr (Or.inr rfl) | exact fun _=>rfl | exact Nat.le_of_ble_eq_true rfl)) (by first | rfl | decide | exact Or.inl rfl | exact Or.inr rfl | exact Or.inr (Or.inl rfl) | exact Or.inr (Or.inr rfl) | exact fun _=>rfl | exact Nat.le_of_ble_eq_true rfl)) (by first | rfl | decide | exact Or.inl rfl | exact Or.inr rfl | exact Or.inr (Or.inl rfl) | exact Or.inr (Or.inr rfl) | exact fun _=>rfl | exact Nat.le_of_ble_eq_true rfl)) (by first | rfl | decide | exact Or.inl rfl | exact Or.inr rfl | exact Or.inr (Or.inl rfl) | exact Or.inr (Or.inr rfl) | exact fun _=>rfl | exact Nat.le_of_ble_eq_true rfl)) tZ) (by first | rfl | decide | exact Or.inl rfl | exact Or.inr rfl | exact Or.inr (Or.inl rfl) | exact Or.inr (Or.inr rfl) | exact fun _=>rfl | exact Nat.le_of_ble_eq_true rfl)) (by first | rfl | decide | exact Or.inl rfl | exact Or.inr rfl | exact Or.inr (Or.inl rfl) | exact Or.inr (Or.inr rfl) | exact fun _=>rfl | exact Nat.le_of_ble_eq_true rfl)) (by first | rfl | decide | exact Or.inl rfl | exact Or.inr rfl | exact Or.inr (Or.inl rfl) | exact Or.inr (Or.inr rfl) | exact fun _=>rfl | exact Nat.le_of_ble_eq_true rfl)) (by first | rfl | decide | exact Or.inl rfl | exact Or.inr rfl | exact Or.inr (Or.inl rfl) | exact Or.inr (Or.inr rfl) | exact fun _=>rfl | exact Nat.le_of_ble_eq_true rfl)) (by first | rfl | decide | exact Or.inl rfl | exact Or.inr rfl | exact Or.inr (Or.inl rfl) | exact Or.inr (Or.inr rfl) | exact fun _=>rfl | exact Nat.le_of_ble_eq_true rfl)) (by first | rfl | decide | exact Or.inl rfl | exact Or.inr rfl | exact Or.inr (Or.inl rfl) | exact Or.inr (Or.inr rfl) | exact fun _=>rfl | exact Nat.le_of_ble_eq_true rfl)) (by first | rfl | decide | exact Or.inl rfl | exact Or.inr rfl | exact Or.inr (Or.inl rfl) | exact Or.inr (Or.inr rfl) | exact fun _=>rfl | exact Nat.le_of_ble_eq_true rfl)) (by first | rfl | decide | exact Or.inl rfl | exact Or.inr rfl | exact Or.inr (Or.inl rfl) | exact Or.inr (Or.inr rfl) | exact fun _=>rfl | exact Nat.le_of_ble_eq_true rfl)) (by first | rfl | decide | exact Or.inl rfl | exact Or.inr rfl | exact Or.inr (Or.inl rfl) | exact Or.inr (Or.inr rfl) | exact fun _=>rfl | exact Nat.le_of_ble_eq_true rfl)) (by first | rfl | decide | exact Or.inl rfl | exact Or.inr rfl | exact Or.inr (Or.inl rfl) | exact Or.inr (Or.inr rfl) | exact fun _=>rfl | exact Nat.le_of_ble_eq_true rfl) (by first | rfl | decide | exact Or.inl rfl | exact Or.inr rfl | exact Or.inr (Or.inl rfl) | exact Or.inr (Or.inr rfl) | exact fun _=>rfl | exact Nat.le_of_ble_eq_true rfl)) (@zd _ _ _ _ _ (@zA _ _ 2 _ _ _ _ yL.nd rfl (Or.inl rfl) (@zD _ _ _ _ _ _ _ _ rM (pv 2) (@rX _ K _ _ _ _ (@zk _ _ _ _ _ _ _ (@wu _ _ _ _ _ _ _ (@zk _ _ _ _ _ _ _ yy (@zk _ _ _ _ _ _ _ yy (@zk _ _ _ _ _ _ _ yy yW (by first | rfl | decide | exact Or.inl rfl | exact Or.inr rfl | exact Or.inr (Or.inl rfl) | exact Or.inr (Or.inr rfl) | exact fun _=>rfl | exact Nat.le_of_ble_eq_true rfl)) (by first | rfl | decide | exact Or.inl rfl | exact Or.inr rfl | exact Or.inr (Or.inl rfl) | exact Or.inr (Or.inr rfl) | exact fun _=>rfl | exact Nat.le_of_ble_eq_true rfl)) (by first | rfl | decide | exact Or.inl rfl | exact Or.inr rfl | exact Or.inr (Or.inl rfl) | exact Or.inr (Or.inr rfl) | exact fun _=>rfl | exact Nat.le_of_ble_eq_true rfl)) (by first | rfl | decide | exact Or.inl rfl | exact Or.inr rfl | exact Or.inr (Or.inl rfl) | exact Or.inr (Or.inr rfl) | exact fun _=>rfl | exact Nat.le_of_ble_eq_true rfl)) (@zk _ _ _ _ _ _ _ (@wu _ _ _ _ _ _ _ (@zk _ _ _ _ _ _ _ yy (@zk _ _ _ _ _ _ _ yy (@zk _ _ _ _ _ _ _ yy yW (by first | rfl | decide | exact Or.inl rfl | exact Or.inr rfl | exact Or.inr (Or.inl rfl) | exact Or.inr (Or.inr rfl) | exact fun _=>rfl | exact Nat.le_of_ble_eq_true rfl)) (by first | rfl | decide | exact Or.inl rfl | exact Or.inr rfl | exact Or.inr (Or.inl rfl) | exact Or.inr (Or.inr rfl) | exact fun _=>rfl | exact Nat.le_of_ble_eq_true rfl)) (by first | rfl | decide | exact Or.inl rfl | exact Or.inr rfl | exact Or.inr (Or.inl rfl) | exact Or.inr (Or.inr rfl) | exact fun _=>rfl | exact Nat.le_of_ble_eq_true rfl)) (by first | rfl | decide | exact Or.inl rfl | exact Or.inr rfl | exact Or.inr (Or.inl rfl) | exact Or.inr (Or.inr rfl) | exact fun _=>rfl | exact Nat.le_of_ble_eq_true rfl)) (@zk _ _ _ _ _ _ _ (@wu _ _ _ _ _ _ _ (@zk _ _ _ _ _ _ _ yy (@zk _ _ _ _ _ _ _ yy (@zk _ _ _ _ _ _ _ yy yW (by first | rfl | decide | exact Or.inl rfl | exact Or.inr rfl | exact Or.inr (Or.inl rfl) | exact Or.inr (Or.inr rfl) | exact fun _=>rfl | exact Nat.le_of_ble_eq_true rfl)) (by first | rfl | decide | exact Or.inl rfl | exact Or.inr rfl | exact Or.inr (Or.inl rfl) | exact Or.inr (Or.inr rfl) | exact fun _=>rfl | exact Nat.le_of_ble_eq_true rfl)) (by first | rfl | decide | exact Or.inl rfl | exact Or.inr rfl | exact Or.inr (Or.inl rfl) | exact Or.inr (Or.inr rfl) | exact fun _=>rfl | exact Nat.le_of_ble_eq_true rfl)) (by first | rfl | decide | exact Or.inl rfl | exact Or.inr rfl | exact Or.inr (Or.inl rfl) | exact Or.inr (Or.inr rfl) | exact fun _=>rfl | exact Nat.le_of_ble_eq_true rfl)) (@zk _ _ _ _ _ _ _ (@wu _ _ _ _ _ _ _ (@zk _ _ _ _ _ _ _ yy (@zk _ _ _ _ _ _ _ yy (@zk _ _ _ _ _ _ _ (@wu _ _ _ _ _ _ _ (@zk _ _ _ _ _ _ _ yy (@zk _ _ _ _ _ _ _ t8 (@zk _ _ _ _ _ _ _ t8 yW (by first | rfl | decide | exact Or.inl rfl | exact Or.inr rfl | exact Or.inr (Or.inl rfl) | exact Or.inr (Or.inr rfl) | exact fun _=>rfl | exact Nat.le_of_ble_eq_true rfl)) (by first | rfl | decide | exact Or.inl rfl | exact Or.inr rfl | exact Or.inr (Or.inl rfl) | exact Or.inr (Or.inr rfl) | exact fun _=>rfl | exact Nat.le_of_ble_eq_true rfl)) (by first | rfl | decide | exact Or.inl rfl | exact Or.inr rfl | exact Or.inr (Or.inl rfl) | exact Or.inr (Or.inr rfl) | exact fun _=>rfl | exact Nat.le_of_ble_eq_true rfl)) (by first | rfl | decide | exact Or.inl rfl | exact Or.inr rfl | exact Or.inr (Or.inl rfl) | exact Or.inr (Or.inr rfl) | exact fun _=>rfl | exact Nat.le_of_ble_eq_true rfl)) yW (by first | rfl | decide | exact Or.inl rfl | exact Or.inr rfl | exact Or.inr (Or.inl rfl) | exact Or.inr (Or.inr rfl) | exact fun _=>rfl | exact Nat.le_of_ble_eq_true rfl)) (by first | rfl | decide | exact Or.inl rfl | exact Or.inr rfl | exact Or.inr (Or.inl rfl) | exact Or.inr (Or.inr rfl) | exact fun _=>rfl | exact Nat.le_of_ble_eq_true rfl)) (by first | rfl | decide | exact Or.inl rfl | exact Or.inr rfl | exact Or.inr (Or.inl rfl) | exact Or.inr (Or.inr rfl) | exact fun _=>rfl | exact Nat.le_of_ble_eq_true rfl)) (by first | rfl | decide | exact Or.inl rfl | exact Or.inr rfl | exact Or.inr (Or.inl rfl) | exact Or.inr (Or.inr rfl) | exact fun _=>rfl | exact Nat.le_of_ble_eq_true rfl)) (@uX _ _ _ _ _ _ _ _ (@rX _ _ _ _ _ _ (@uY _ _ _ _ _ (@Zd _ _ _ _ d (pv 1)) (by first | rfl | decide | exact Or.inl rfl | exact Or.inr rfl | exact Or.inr (Or.inl rfl) | exact Or.inr (Or.inr rfl) | exact fun _=>rfl | exact Nat.le_of_ble_eq_true rfl)) (by first | rfl | decide | exact Or.inl rfl | exact Or.inr rfl | exact Or.inr (Or.inl rfl) | exact Or.inr (Or.inr rfl) | exact fun _=>rfl | exact Nat.le_of_ble_eq_true rfl)) (@uX _ _ _ _ _ _ _ _ (@wu _ _ _ _ _ _ _ (@uY _ _ _ _ _ (@Zd _ _ _ _ d (pv 1)) (by first | rfl | decide | exact Or.inl rfl | exact Or.inr rfl | exact Or.inr (Or.inl rfl) | exact Or.inr (Or.inr rfl) | exact fun _=>rfl | exact Nat.le_of_ble_eq_true rfl)) (by first | rfl | decide | exact Or.inl rfl | exact Or.inr rfl | exact Or.inr (Or.inl rfl) | exact Or.inr (Or.inr rfl) | exact fun _=>rfl | exact Nat.le_of_ble_eq_true rfl)) (@uY _ _ _ _ _ (@X3 _ _ _ _ _ _ (@Y4 _ _ _ _ _ _ _ _ _ _ _ (@Zd _ _ _ _ d (pv 1)) Y3) (show ([some (.inl 0)]:List OKey).Nodup by decide) rfl rfl (fun z=>nomatch z) (by decide)) tZ) (by first | rfl | decide | exact Or.inl rfl | exact Or.inr rfl | exact Or.inr (Or.inl rfl) | exact Or.inr (Or.inr rfl) | exact fun _=>rfl | exact Nat.le_of_ble_eq_true rfl)) (by first | rfl | decide | exact Or.inl rfl | exact Or.inr rfl | exact Or.inr (Or.inl rfl) | exact Or.inr (Or.inr rfl) | exact fun _=>rfl | exact Nat.le_of_ble_eq_true rfl)) (by first | rfl | decide | exact Or.inl rfl | exact Or.inr rfl | exact Or.inr (Or.inl rfl) | exact Or.inr (Or.inr rfl) | exact fun _=>rfl | exact Nat.le_of_ble_eq_true rfl)) (by first | rfl | decide | exact Or.inl rfl | exact Or.inr rfl | exact Or.inr (Or.inl rfl) | exact Or.inr (Or.inr rfl) | exact fun _=>rfl | exact Nat.le_of_ble_eq_true rfl)) (by first | rfl | decide | exact Or.inl rfl | exact Or.inr rfl | exact Or.inr (Or.inl rfl) | exact Or.inr (Or.inr rfl) | exact fun _=>rfl | exact Nat.le_of_ble_eq_true rfl)) (by first | rfl | decide | exact Or.inl rfl | exact Or.inr rfl | exact Or.inr (Or.inl rfl) | exact Or.inr (Or.inr rfl) | exact fun _=>rfl | exact Nat.le_of_ble_eq_true rfl)) (by first | rfl | decide | exact Or.inl rfl | exact Or.inr rfl | exact Or.inr (Or.inl rfl) | exact Or.inr (Or.inr rfl) | exact fun _=>rfl | exact Nat.le_of_ble_eq_true rfl))) (by first | rfl | decide | exact Or.inl rfl | exact Or.inr rfl | exact Or.inr (Or.inl rfl) | exact Or.inr (Or.inr rfl) | exact fun _=>rfl | exact Nat.le_of_ble_eq_true rfl) (by first | rfl | decide | exact Or.inl rfl | exact Or.inr rfl | exact Or.inr (Or.inl rfl) | exact Or.inr (Or.inr rfl) | exact fun _=>rfl | exact Nat.le_of_ble_eq_true rfl)) (@zd _ _ _ _ _ (@zM _ _ _ _ _ _ _ _ (@zP _ _ _ (@zg _ _ _ _ _ _ _ _ _ _ qc1 hr rfl (@za _ _ _ _ _ (pv 1) zb (by first | rfl | decide | exact Or.inl rfl | exact Or.inr rfl | exact Or.inr (Or.inl rfl) | exact Or.inr (Or.inr rfl) | exact fun _=>rfl | exact Nat.le_of_ble_eq_true rfl)) (by first | rfl | decide | exact Or.inl rfl | exact Or.inr rfl | exact Or.inr (Or.inl rfl) | exact Or.inr (Or.inr rfl) | exact fun _=>rfl | exact Nat.le_of_ble_eq_true rfl) (by first | rfl | decide | exact Or.inl rfl | exact Or.inr rfl | exact Or.inr (Or.inl rfl) | exact Or.inr (Or.inr rfl) | exact fun _=>rfl | exact Nat.le_of_ble_eq_true rfl) (by first | rfl | decide | exact Or.inl rfl | exact Or.inr rfl | exact Or.inr (Or.inl rfl) | exact Or.inr (Or.inr rfl) | exact fun _=>rfl | exact Nat.le_of_ble_eq_true rfl)) (by first | rfl | decide | exact Or.inl rfl | exact Or.inr rfl | exact Or.inr (Or.inl rfl) | exact Or.inr (Or.inr rfl) | exact fun _=>rfl | exact Nat.le_of_ble_eq_true rfl)) (@zf _ _ _ (@zA _ _ 2 _ _ _ _ yL.nd rfl (Or.inl rfl) (@zD _ _ _ _ _ _ _ _ rM (pv 2) (@zD _ _ _ _ _ _ _ _ XA (@yf _ _ _ _ (@za _ _ _ _ _ (@zD _ _ _ _ _ _ _ _ yp (pv 1) ze) (@za _ _ _ _ _ (@zD _ _ _ _ _ _ _ _ yJ (pv 1) ze) (@za _ _ _ _ _ (@zD _ _ _ _ _ _ _ _ yJ ze (pv 1)) (@za _ _ _ _ _ (@zV _ _ _ _ _ _ _ _ _ tI rfl B.str Wn (@za _ _ _ _ _ (pv 1) zb (by first | rfl | decide | exact Or.inl rfl | exact Or.inr rfl | exact Or.inr (Or.inl rfl) | exact Or.inr (Or.inr rfl) | exact fun _=>rfl | exact Nat.le_of_ble_eq_true rfl)) (by first | rfl | decide | exact Or.inl rfl | exact Or.inr rfl | exact Or.inr (Or.inl rfl) | exact Or.inr (Or.inr rfl) | exact fun _=>rfl | exact Nat.le_of_ble_eq_true rfl) (by first | rfl | decide | exact Or.inl rfl | exact Or.inr rfl | exact Or.inr (Or.inl rfl) | exact Or.inr (Or.inr rfl) | exact fun _=>rfl | exact Nat.le_of_ble_eq_true rfl) (by first | rfl | decide | exact Or.inl rfl | exact Or.inr rfl | exact Or.inr (Or.inl rfl) | exact Or.inr (Or.inr rfl) | exact fun _=>rfl | exact Nat.le_of_ble_eq_true rfl) (by first | rfl | decide | exact Or.inl rfl | exact Or.inr rfl | exact Or.inr (Or.inl rfl) | exact Or.inr (Or.inr rfl) | exact fun _=>rfl | exact Nat.le_of_ble_eq_true rfl)) zb (by first | rfl | decide | exact Or.inl rfl | exact Or.inr rfl | exact Or.inr (Or.inl rfl) | exact Or.inr (Or.inr rfl) | exact fun _=>rfl | exact Nat.le_of_ble_eq_true rfl)) (by first | rfl | decide | exact Or.inl rfl | exact Or.inr rfl | exact Or.inr (Or.inl rfl) | exact Or.inr (Or.inr rfl) | exact fun _=>rfl | exact Nat.le_of_ble_eq_true rfl)) (by first | rfl | decide | exact Or.inl rfl | exact Or.inr rfl | exact Or.inr (Or.inl rfl) | exact Or.inr (Or.inr rfl) | exact fun _=>rfl | exact Nat.le_of_ble_eq_true rfl)) (by first | rfl | decide | exact Or.inl rfl | exact Or.inr rfl | exact Or.inr (Or.inl rfl) | exact Or.inr (Or.inr rfl) | exact fun _=>rfl | exact Nat.le_of_ble_eq_true rfl))) ze)) (by first | rfl | decide | exact Or.inl rfl | exact Or.inr rfl | exact Or.inr (Or.inl rfl) | exact Or.inr (Or.inr rfl) | exact fun _=>rfl | exact Nat.le_of_ble_eq_true rfl) (by first | rfl | decide | exact Or.inl rfl | exact Or.inr rfl | exact Or.inr (Or.inl rfl) | exact Or.inr (Or.inr rfl) | exact fun _=>rfl | exact Nat.le_of_ble_eq_true rfl))) zt) (@zf _ _ _ (@zm _ _ _ _ (@zK _ _ _ _ _ _ _ zU (pv 2) (@zg _ _ _ _ _ _ _ _ _ _ qc0 hr rfl (@za _ _ _ _ _ (pv 0) (@za _ _ _ _ _ (@zi _ _ _ _ _ _ _ _ _ zo rfl B.len yO (@za _ _ _ _ _ (pv 2) zb (by first | rfl | decide | exact Or.inl rfl | exact Or.inr rfl | exact Or.inr (Or.inl rfl) | exact Or.inr (Or.inr rfl) | exact fun _=>rfl | exact Nat.le_of_ble_eq_true rfl)) (by first | rfl | decide | exact Or.inl rfl | exact Or.inr rfl | exact Or.inr (Or.inl rfl) | exact Or.inr (Or.inr rfl) | exact fun _=>rfl | exact Nat.le_of_ble_eq_true rfl) (by first | rfl | decide | exact Or.inl rfl | exact Or.inr rfl | exact Or.inr (Or.inl rfl) | exact Or.inr (Or.inr rfl) | exact fun _=>rfl | exact Nat.le_of_ble_eq_true rfl) (by first | rfl | decide | exact Or.inl rfl | exact Or.inr rfl | exact Or.inr (Or.inl rfl) | exact Or.inr (Or.inr rfl) | exact fun _=>rfl | exact Nat.le_of_ble_eq_true rfl) (by first | rfl | decide | exact Or.inl rfl | exact Or.inr rfl | exact Or.inr (Or.inl rfl) | exact Or.inr (Or.inr rfl) | exact fun _=>rfl | exact Nat.le_of_ble_eq_true rfl)) zb (by first | rfl | decide | exact Or.inl rfl | exact Or.inr rfl | exact Or.inr (Or.inl rfl) | exact Or.inr (Or.inr rfl) | exact fun _=>rfl | exact Nat.le_of_ble_eq_true rfl)) (by first | rfl | decide | exact Or.inl rfl | exact Or.inr rfl | exact Or.inr (Or.inl rfl) | exact Or.inr (Or.inr rfl) | exact fun _=>rfl | exact Nat.le_of_ble_eq_true rfl)) (by first | rfl | decide | exact Or.inl rfl | exact Or.inr rfl | exact Or.inr (Or.inl rfl) | exact Or.inr (Or.inr rfl) | exact fun _=>rfl | exact Nat.le_of_ble_eq_true rfl) (by first | rfl | decide | exact Or.inl rfl | exact Or.inr rfl | exact Or.inr (Or.inl rfl) | exact Or.inr (Or.inr rfl) | exact fun _=>rfl | exact Nat.le_of_ble_eq_true rfl) (by first | rfl | decide | exact Or.inl rfl | exact Or.inr rfl | exact Or.inr (Or.inl rfl) | exact Or.inr (Or.inr rfl) | exact fun _=>rfl | exact Nat.le_of_ble_eq_true rfl)) (fun _ _=>rfl))))))),?_⟩
 have am':∀ b ∈ [a],b ∈ ml:=fun b hb=>by rw [List.mem_singleton.mp hb]; exact am
 refine ⟨ml,trivial,oml,fun x1 H1 g1 o1=>?_⟩
 obtain ⟨l1,xs1,rfl,hl1,m1,s1,t1⟩:=o1.inv_lst
 have pp1:=pp.grow g1
 have hd1:=hd.grow (g1.mono (by simp))
 refine ⟨_,rfl,ml,⟨⟨_,rfl,hd1⟩,⟨_,rfl,hd1⟩,⟨_,rfl,hd1⟩,trivial⟩,yQ g1 oml,fun x2 H2 g2 o2=>?_⟩
 obtain ⟨l2,xs2,rfl,hl2,m2,s2,t2⟩:=o2.inv_lst
 have e1:=t1.length
 have e2:=t2.length
 refine ⟨l1,l2,xs1,xs2,rfl,rfl,g2.keep _ _ (by simp) hl1,hl2,Nat.le_of_lt (zB (by rw [e1,e2]; exact Nat.le_of_ble_eq_true rfl)),fun l3 hl3=>?_⟩
 have d3:=Grow.new (m:=[]) hl3 (.lst (xs1 ++ xs2))
 have G3:=g1.trans (g2.trans d3)
 have pp3:=pp.grow G3
 have t3:=((t1.grow (g2.mono (by simp))).append t2).grow (d3.mono (m':=ml) (by simp))
 have h3:upd H2 l3 (.lst (xs1 ++ xs2)) l3 = some (.lst (xs1 ++ xs2)):=zc
 have n3:l3 ∉ [a]:=fun z=>wx (pp.grow (g1.trans g2)) l3 z hl3
 have hd3:=hd.grow (G3.mono (by simp))
 have gd0:∀ e ∈ L25a ++ (L25b ++ [.list [d],.tuple [d],.dict [(.int 0,d)]]),GdD (n + 1) (k + 3) (w + 30000) e:=by
  intro e he
  rcases List.mem_append.mp he with he | he
  ·exact YC (List.all_eq_true.mp Xb e he) n k w
  rcases List.mem_append.mp he with he | he
  ·exact YC (List.all_eq_true.mp Xc e he) n k w
  have g1':=gd.one
  simp only [List.mem_cons,List.not_mem_nil,or_false] at he
  rcases he with rfl | rfl | rfl
  ·exact g1'.lst.mono (by omega) (by omega) (by omega)
  ·exact g1'.tup.mono (by omega) (by omega) (by omega)
  ·refine ⟨?_,?_,?_⟩
   ·show (leD _ (.int 0) && leD _ d && true) = true
    rw [leD_mono (show (10:Int) ^ 30 + n <= 10 ^ 30 + (n + 1:Nat) by omega) gd.le,(xv (n:=n + 1) (i:=0) (by omega) (by omega)).le]; rfl
   ·show max (max 0 d.depth) 0 + 1 <= k + 3
    have:=gd.dp; omega
   ·show 1921 + wtO d + 4 + 0 + 3 <= w + 30000
    have:=gd.wt; omega
 generalize upd H2 l3 (.lst (xs1 ++ xs2)) = H3 at G3 pp3 t3 h3 hd3 ⊢
 refine XX (c_if (fun σ H'=>∃ (l:Addr) (xs:List V) (ds:List PyData),σ = [some (.ref a),some y,some (.ref l)] /\ Grow [] H H' /\ H' l = some (.lst xs) /\ l ∉ [a] /\ Ods K ml H' xs ds /\ ds.length <= 100 /\ ds ≠ [] /\ ∀ e ∈ ds,GdD (n + 1) (k + 3) (w + 30000) e) ?_ (fun hR=>?_))
 ·rintro σ H4 ⟨l,xs,ds,rfl,g4,h4,n4,t4,len4,ne4,gd4⟩
  have pp4:=pp.grow g4
  have e4:=t4.length
  have pos:0 < ds.length:=List.length_pos_iff.mpr ne4
  refine ⟨_,rfl,_,rfl,_,rfl,l,_,rfl,.inl (SqL.of h4),_,_,rfl,a,_,rfl,rfl,pp4,by rw [e4]; omega,by rw [e4]; omega,fun j0 H5 u5 v5 g5 pp5=>?_⟩
  obtain ⟨j,rfl⟩:∃ j:Nat,j0 = j:=⟨j0.toNat,by omega⟩
  obtain ⟨x5,hx5⟩:∃ x,xs[j]? = some x:=⟨_,List.getElem?_eq_getElem (by omega)⟩
  obtain ⟨d5,hd5,o5⟩:=t4.get hx5
  exact ⟨l,_,j,x5,rfl,rfl,SqL.of (g5.keep _ _ n4 h4),zT hx5,q _ d5 H5 ((g4.mono (by simp)).trans g5) pp5 (o5.grow (g5.mono am')) (gd4 d5 (List.mem_of_getElem? hd5))⟩
 ·refine ⟨_,rfl,_,rfl,d,ml,hd3,_,rfl,?_⟩
  have base:=hR [some (.ref a),some y,some (.ref l3)] H3 ⟨l3,_,_,rfl,G3,h3,n3,t3,Nat.le_of_ble_eq_true rfl,(fun z=>nomatch z),gd0⟩
  cases hw:zx d with
  | false=>exact iteF base
  | true =>
   cases d with
   | int v =>
    obtain rfl:=hd.inv_int
    have hv:-(10 ^ 30) - (n:Int) <= v /\ v <= 10 ^ 30 + n:=by
     have z:=gd.le
     simp only [leD,Bool.and_eq_true,decide_eq_true_eq] at z
     omega
    have gi:∀ i:Int,-(10 ^ 30) - ((n + 1:Nat):Int) <= i -> i <= 10 ^ 30 + ((n + 1:Nat):Int) -> GdD (n + 1) (k + 3) (w + 30000) (.int i):=fun i p1 p2=>(xv p1 p2).mono (Nat.le_refl _) (by omega) (by omega)
    have hlog:v.natAbs.log2 < 1920:=of_decide_eq_true (showable_le (X4 (n:=n) (by omega)) gd.le)
    have gs:GdD (n + 1) (k + 3) (w + 30000) (.str (toString v)):=⟨rfl,Nat.zero_le _,by have:=sZ hlog; omega⟩
    refine iteT ⟨_,rfl,_,rfl,_,_,rfl,rfl,_,rfl,_,_,rfl,rfl,_,rfl,_,_,rfl,rfl,_,rfl,v,rfl,hlog,szl rfl,fun l4 hl4=>?_⟩
    have d4:=Grow.new (m:=[]) hl4 (.lst [V.int (v + 1),V.int (v - 1),V.int (0 - v),V.str (toString v)])
    refine ⟨l4,2,_,rfl,rfl,zc,by decide,by decide,szl rfl,fun l5 hl5=>?_⟩
    have d5:=Grow.new (m:=[]) hl5 (.lst (List.replicate (2:Int).toNat [V.int (v + 1),V.int (v - 1),V.int (0 - v),V.str (toString v)]).flatten)
    refine ⟨l3,l5,_,_,rfl,rfl,(d4.trans d5).keep _ _ (by simp) h3,zc,Nat.le_of_lt (zB (by rw [t3.length]; exact Nat.le_of_ble_eq_true rfl)),fun l6 hl6=>?_⟩
    have d6:=Grow.new (m:=[]) hl6 (.lst ((xs1 ++ xs2) ++ (List.replicate (2:Int).toNat [V.int (v + 1),V.int (v - 1),V.int (0 - v),V.str (toString v)]).flatten))
    have G6:=G3.trans (d4.trans (d5.trans d6))
    have t4:∀ Hx,Ods K ml Hx (List.replicate (2:Int).toNat [V.int (v + 1),V.int (v - 1),V.int (0 - v),V.str (toString v)]).flatten ([.int (v + 1),.int (v - 1),.int (0 - v),.str (toString v)] ++ [.int (v + 1),.int (v - 1),.int (0 - v),.str (toString v)]):=fun Hx=>.cons (.int _) (.cons (.int _) (.cons (.int _) (.cons (.str _) (.cons (.int _) (.cons (.int _) (.cons (.int _) (.cons (.str _) .nil)))))))
    refine hR _ _ ⟨l6,_,_,rfl,G6,zc,fun z=>wx (pp3.grow (d4.trans d5)) l6 z hl6,(t3.grow ((d4.trans (d5.trans d6)).mono (by simp))).append (t4 _),Nat.le_of_ble_eq_true rfl,(fun z=>nomatch z),?_⟩
    intro e he
    rcases List.mem_append.mp he with he | he
    ·exact gd0 e he
    ·have key:∀ e ∈ [PyData.int (v + 1),.int (v - 1),.int (0 - v),.str (toString v)],GdD (n + 1) (k + 3) (w + 30000) e:=by
      intro e he
      simp only [List.mem_cons,List.not_mem_nil,or_false] at he
      rcases he with rfl | rfl | rfl | rfl
      ·exact gi _ (by omega) (by omega)
      ·exact gi _ (by omega) (by omega)
      ·exact gi _ (by omega) (by omega)
      ·exact gs
     rcases List.mem_append.mp he with he | he
     ·exact key e he
     ·exact key e he
   | _=>cases hw
theorem xG:FnScope ["_law_pot_here","_law_thing","_law_deep","_law_choice","_law_at"] ["_law_pot_here","_law_thing","_law_deep"] (zh (top 67)):=⟨rfl,rfl,rfl,by decide +kernel,rfl,by decide +kernel,by decide +kernel⟩
theorem sH (F:Fun K "_law_bent" "_law_bent" (top 67) f fd) (B:Blt mg) {N:Nat} (qc0:zj P w K mg base n "_law_bent" ["_law_pot_here","_law_thing","_law_deep"] (y9 N K)) (qc1:zj P w K mg base n "_law_other" ["_law_pot_here","_law_thing"] (wP K)) (qc2:zj P w K mg base n "_law_draw" ["_law_pot_here","_law_many"] (xi K))    :
  FnOk P w K mg base CX0 (n + 1) f fd ["_law_pot_here","_law_thing","_law_deep"] (y9 (N + 1) K):=by
 refine F.ok xG vJ (fun cdv A outer s H vs Q E hr h=>?_)
 obtain ⟨x,y,z,rfl,a,d,n,k,w,dp,ml,rfl,rfl,pp,am,oml,hd,gd,n1,hN,dp0,w1,q⟩:=h
 refine ⟨_,(@zd _ _ _ _ _ (@zA _ _ 3 _ _ _ _ xG.nd rfl (Or.inl rfl) (@zg _ _ _ _ _ _ _ _ _ _ qc2 hr rfl (@za _ _ _ _ _ (pv 0) (@za _ _ _ _ _ ze zb (by first | rfl | decide | exact Or.inl rfl | exact Or.inr rfl | exact Or.inr (Or.inl rfl) | exact Or.inr (Or.inr rfl) | exact fun _=>rfl | exact Nat.le_of_ble_eq_true rfl)) (by first | rfl | decide | exact Or.inl rfl | exact Or.inr rfl | exact Or.inr (Or.inl rfl) | exact Or.inr (Or.inr rfl) | exact fun _=>rfl | exact Nat.le_of_ble_eq_true rfl)) (by first | rfl | decide | exact Or.inl rfl | exact Or.inr rfl | exact Or.inr (Or.inl rfl) | exact Or.inr (Or.inr rfl) | exact fun _=>rfl | exact Nat.le_of_ble_eq_true rfl) (by first | rfl | decide | exact Or.inl rfl | exact Or.inr rfl | exact Or.inr (Or.inl rfl) | exact Or.inr (Or.inr rfl) | exact fun _=>rfl | exact Nat.le_of_ble_eq_true rfl) (by first | rfl | decide | exact Or.inl rfl | exact Or.inr rfl | exact Or.inr (Or.inl rfl) | exact Or.inr (Or.inr rfl) | exact fun _=>rfl | exact Nat.le_of_ble_eq_true rfl)) (by first | rfl | decide | exact Or.inl rfl | exact Or.inr rfl | exact Or.inr (Or.inl rfl) | exact Or.inr (Or.inr rfl) | exact fun _=>rfl | exact Nat.le_of_ble_eq_true rfl) (by first | rfl | decide | exact Or.inl rfl | exact Or.inr rfl | exact Or.inr (Or.inl rfl) | exact Or.inr (Or.inr rfl) | exact fun _=>rfl | exact Nat.le_of_ble_eq_true rfl)) (@zd _ _ _ _ _ (@zM _ _ _ _ _ _ _ _ (@PW.pt _ _ _ (@xT _ _ _ _ _ _ _ (@zZ _ _ _ _ (@zP _ _ _ (@zi _ _ _ _ _ _ _ _ _ (zN (K:=K) rfl) rfl B.isinstance zn (@za _ _ _ _ _ (pv 1) (@za _ _ _ _ _ (yz rfl B.tuple zY) zb (by first | rfl | decide | exact Or.inl rfl | exact Or.inr rfl | exact Or.inr (Or.inl rfl) | exact Or.inr (Or.inr rfl) | exact fun _=>rfl | exact Nat.le_of_ble_eq_true rfl)) (by first | rfl | decide | exact Or.inl rfl | exact Or.inr rfl | exact Or.inr (Or.inl rfl) | exact Or.inr (Or.inr rfl) | exact fun _=>rfl | exact Nat.le_of_ble_eq_true rfl)) (by first | rfl | decide | exact Or.inl rfl | exact Or.inr rfl | exact Or.inr (Or.inl rfl) | exact Or.inr (Or.inr rfl) | exact fun _=>rfl | exact Nat.le_of_ble_eq_true rfl) (by first | rfl | decide | exact Or.inl rfl | exact Or.inr rfl | exact Or.inr (Or.inl rfl) | exact Or.inr (Or.inr rfl) | exact fun _=>rfl | exact Nat.le_of_ble_eq_true rfl) (by first | rfl | decide | exact Or.inl rfl | exact Or.inr rfl | exact Or.inr (Or.inl rfl) | exact Or.inr (Or.inr rfl) | exact fun _=>rfl | exact Nat.le_of_ble_eq_true rfl) (by first | rfl | decide | exact Or.inl rfl | exact Or.inr rfl | exact Or.inr (Or.inl rfl) | exact Or.inr (Or.inr rfl) | exact fun _=>rfl | exact Nat.le_of_ble_eq_true rfl)) (by first | rfl | decide | exact Or.inl rfl | exact Or.inr rfl | exact Or.inr (Or.inl rfl) | exact Or.inr (Or.inr rfl) | exact fun _=>rfl | exact Nat.le_of_ble_eq_true rfl))) (@xT _ _ _ _ _ _ _ (@zw _ _ _ _ _ _ _ _ yv (pv 2) ze (zC _)) (@xq _ _ _ _ (@zw _ _ _ _ _ _ _ _ yv (pv 3) ze (zC _)))))) (@zf _ _ _ (@zm _ _ _ _ (@zg _ _ _ _ _ _ _ _ _ _ qc1 hr rfl (@za _ _ _ _ _ (pv 0) (@za _ _ _ _ _ (pv 1) zb (by first | rfl | decide | exact Or.inl rfl | exact Or.inr rfl | exact Or.inr (Or.inl rfl) | exact Or.inr (Or.inr rfl) | exact fun _=>rfl | exact Nat.le_of_ble_eq_true rfl)) (by first | rfl | decide | exact Or.inl rfl | exact Or.inr rfl | exact Or.inr (Or.inl rfl) | exact Or.inr (Or.inr rfl) | exact fun _=>rfl | exact Nat.le_of_ble_eq_true rfl)) (by first | rfl | decide | exact Or.inl rfl | exact Or.inr rfl | exact Or.inr (Or.inl rfl) | exact Or.inr (Or.inr rfl) | exact fun _=>rfl | exact Nat.le_of_ble_eq_true rfl) (by first | rfl | decide | exact Or.inl rfl | exact Or.inr rfl | exact Or.inr (Or.inl rfl) | exact Or.inr (Or.inr rfl) | exact fun _=>rfl | exact Nat.le_of_ble_eq_true rfl) (by first | rfl | decide | exact Or.inl rfl | exact Or.inr rfl | exact Or.inr (Or.inl rfl) | exact Or.inr (Or.inr rfl) | exact fun _=>rfl | exact Nat.le_of_ble_eq_true rfl)))) zt) (@zd _ _ _ _ _ (@zA _ _ 4 _ _ _ _ xG.nd rfl (Or.inl rfl) (@zg _ _ _ _ _ _ _ _ _ _ qc2 hr rfl (@za _ _ _ _ _ (pv 0) (@za _ _ _ _ _ (@zD _ _ _ _ _ _ _ _ yp (@zi _ _ _ _ _ _ _ _ _ zo rfl B.len yO (@za _ _ _ _ _ (pv 1) zb (by first | rfl | decide | exact Or.inl rfl | exact Or.inr rfl | exact Or.inr (Or.inl rfl) | exact Or.inr (Or.inr rfl) | exact fun _=>rfl | exact Nat.le_of_ble_eq_true rfl)) (by first | rfl | decide | exact Or.inl rfl | exact Or.inr rfl | exact Or.inr (Or.inl rfl) | exact Or.inr (Or.inr rfl) | exact fun _=>rfl | exact Nat.le_of_ble_eq_true rfl) (by first | rfl | decide | exact Or.inl rfl | exact Or.inr rfl | exact Or.inr (Or.inl rfl) | exact Or.inr (Or.inr rfl) | exact fun _=>rfl | exact Nat.le_of_ble_eq_true rfl) (by first | rfl | decide | exact Or.inl rfl | exact Or.inr rfl | exact Or.inr (Or.inl rfl) | exact Or.inr (Or.inr rfl) | exact fun _=>rfl | exact Nat.le_of_ble_eq_true rfl) (by first | rfl | decide | exact Or.inl rfl | exact Or.inr rfl | exact Or.inr (Or.inl rfl) | exact Or.inr (Or.inr rfl) | exact fun _=>rfl | exact Nat.le_of_ble_eq_true rfl)) ze) zb (by first | rfl | decide | exact Or.inl rfl | exact Or.inr rfl | exact Or.inr (Or.inl rfl) | exact Or.inr (Or.inr rfl) | exact fun _=>rfl | exact Nat.le_of_ble_eq_true rfl)) (by first | rfl | decide | exact Or.inl rfl | exact Or.inr rfl | exact Or.inr (Or.inl rfl) | exact Or.inr (Or.inr rfl) | exact fun _=>rfl | exact Nat.le_of_ble_eq_true rfl)) (by first | rfl | decide | exact Or.inl rfl | exact Or.inr rfl | exact Or.inr (Or.inl rfl) | exact Or.inr (Or.inr rfl) | exact fun _=>rfl | exact Nat.le_of_ble_eq_true rfl) (by first | rfl | decide | exact Or.inl rfl | exact Or.inr rfl | exact Or.inr (Or.inl rfl) | exact Or.inr (Or.inr rfl) | exact fun _=>rfl | exact Nat.le_of_ble_eq_true rfl) (by first | rfl | decide | exact Or.inl rfl | exact Or.inr rfl | exact Or.inr (Or.inl rfl) | exact Or.inr (Or.inr rfl) | exact fun _=>rfl | exact Nat.le_of_ble_eq_true rfl)) (by first | rfl | decide | exact Or.inl rfl | exact Or.inr rfl | exact Or.inr (Or.inl rfl) | exact Or.inr (Or.inr rfl) | exact fun _=>rfl | exact Nat.le_of_ble_eq_true rfl) (by first | rfl | decide | exact Or.inl rfl | exact Or.inr rfl | exact Or.inr (Or.inl rfl) | exact Or.inr (Or.inr rfl) | exact fun _=>rfl | exact Nat.le_of_ble_eq_true rfl)) (@zd _ _ _ _ _ (@zM _ _ _ _ _ _ _ _ (@zw _ _ _ _ _ _ _ _ yv (pv 3) ze (zC _)) (@zf _ _ _ (@zm _ _ _ _ (@zV _ _ _ _ _ _ _ _ _ (qT (K:=K) rfl) rfl B.list jE (@za _ _ _ _ _ (pv 1) zb (by first | rfl | decide | exact Or.inl rfl | exact Or.inr rfl | exact Or.inr (Or.inl rfl) | exact Or.inr (Or.inr rfl) | exact fun _=>rfl | exact Nat.le_of_ble_eq_true rfl)) (by first | rfl | decide | exact Or.inl rfl | exact Or.inr rfl | exact Or.inr (Or.inl rfl) | exact Or.inr (Or.inr rfl) | exact fun _=>rfl | exact Nat.le_of_ble_eq_true rfl) (by first | rfl | decide | exact Or.inl rfl | exact Or.inr rfl | exact Or.inr (Or.inl rfl) | exact Or.inr (Or.inr rfl) | exact fun _=>rfl | exact Nat.le_of_ble_eq_true rfl) (by first | rfl | decide | exact Or.inl rfl | exact Or.inr rfl | exact Or.inr (Or.inl rfl) | exact Or.inr (Or.inr rfl) | exact fun _=>rfl | exact Nat.le_of_ble_eq_true rfl) (by first | rfl | decide | exact Or.inl rfl | exact Or.inr rfl | exact Or.inr (Or.inl rfl) | exact Or.inr (Or.inr rfl) | exact fun _=>rfl | exact Nat.le_of_ble_eq_true rfl)))) zt) (@zd _ _ _ _ _ (@zM _ _ _ _ _ _ _ _ (@zw _ _ _ _ _ _ _ _ yv (pv 3) ze (zC _)) (@zf _ _ _ (@zm _ _ _ _ (@zD _ _ _ _ _ _ _ _ (wb (K:=K) rfl) (@zD _ _ _ _ _ _ _ _ (wb (K:=K) rfl) (@yk _ _ _ _ _ _ _ _ _ _ (yH (K:=K) rfl) (pv 1) yN (@yA _ _ _ (pv 4))) (@z8 _ _ _ _ _ (@za _ _ _ _ _ (@zg _ _ _ _ _ _ _ _ _ _ qc1 hr rfl (@za _ _ _ _ _ (pv 0) (@za _ _ _ _ _ ze zb (by first | rfl | decide | exact Or.inl rfl | exact Or.inr rfl | exact Or.inr (Or.inl rfl) | exact Or.inr (Or.inr rfl) | exact fun _=>rfl | exact Nat.le_of_ble_eq_true rfl)) (by first | rfl | decide | exact Or.inl rfl | exact Or.inr rfl | exact Or.inr (Or.inl rfl) | exact Or.inr (Or.inr rfl) | exact fun _=>rfl | exact Nat.le_of_ble_eq_true rfl)) (by first | rfl | decide | exact Or.inl rfl | exact Or.inr rfl | exact Or.inr (Or.inl rfl) | exact Or.inr (Or.inr rfl) | exact fun _=>rfl | exact Nat.le_of_ble_eq_true rfl) (by first | rfl | decide | exact Or.inl rfl | exact Or.inr rfl | exact Or.inr (Or.inl rfl) | exact Or.inr (Or.inr rfl) | exact fun _=>rfl | exact Nat.le_of_ble_eq_true rfl) (by first | rfl | decide | exact Or.inl rfl | exact Or.inr rfl | exact Or.inr (Or.inl rfl) | exact Or.inr (Or.inr rfl) | exact fun _=>rfl | exact Nat.le_of_ble_eq_true rfl)) zb (by first | rfl | decide | exact Or.inl rfl | exact Or.inr rfl | exact Or.inr (Or.inl rfl) | exact Or.inr (Or.inr rfl) | exact fun _=>rfl | exact Nat.le_of_ble_eq_true rfl)))) (@yk _ _ _ _ _ _ _ _ _ _ (yH (K:=K) rfl) (pv 1) (@yA _ _ _ (pv 4)) yN)))) zt) (@zd _ _ _ _ _ (@zM _ _ _ _ _ _ _ _ (@zw _ _ _ _ _ _ _ _ yv (pv 3) ze (zC _)) (@zf _ _ _ (@zm _ _ _ _ (@zD _ _ _ _ _ _ _ _ (wb (K:=K) rfl) (@zD _ _ _ _ _ _ _ _ (wb (K:=K) rfl) (@yk _ _ _ _ _ _ _ _ _ _ (yH (K:=K) rfl) (pv 1) yN (@yA _ _ _ (pv 4))) (@yk _ _ _ _ _ _ _ _ _ _ (yH (K:=K) rfl) (pv 1) (@yA _ _ _ (pv 4)) (@yA _ _ _ (@zD _ _ _ _ _ _ _ _ yp (pv 4) ze)))) (@yk _ _ _ _ _ _ _ _ _ _ (yH (K:=K) rfl) (pv 1) (@yA _ _ _ (pv 4)) yN)))) zt) (@zd _ _ _ _ _ (@zM _ _ _ _ _ _ _ _ (@PW.pt _ _ _ (@xT _ _ _ _ _ _ _ (@zw _ _ _ _ _ _ _ _ yv (pv 3) ze (zC _)) (@xq _ _ _ _ (@zw _ _ _ _ _ _ _ _ yv (pv 4) (@zi _ _ _ _ _ _ _ _ _ zo rfl B.len yO (@za _ _ _ _ _ (pv 1) zb (by first | rfl | decide | exact Or.inl rfl | exact Or.inr rfl | exact Or.inr (Or.inl rfl) | exact Or.inr (Or.inr rfl) | exact fun _=>rfl | exact Nat.le_of_ble_eq_true rfl)) (by first | rfl | decide | exact Or.inl rfl | exact Or.inr rfl | exact Or.inr (Or.inl rfl) | exact Or.inr (Or.inr rfl) | exact fun _=>rfl | exact Nat.le_of_ble_eq_true rfl) (by first | rfl | decide | exact Or.inl rfl | exact Or.inr rfl | exact Or.inr (Or.inl rfl) | exact Or.inr (Or.inr rfl) | exact fun _=>rfl | exact Nat.le_of_ble_eq_true rfl) (by first | rfl | decide | exact Or.inl rfl | exact Or.inr rfl | exact Or.inr (Or.inl rfl) | exact Or.inr (Or.inr rfl) | exact fun _=>rfl | exact Nat.le_of_ble_eq_true rfl) (by first | rfl | decide | exact Or.inl rfl | exact Or.inr rfl | exact Or.inr (Or.inl rfl) | exact Or.inr (Or.inr rfl) | exact fun _=>rfl | exact Nat.le_of_ble_eq_true rfl)) (zC _))))) (@zf _ _ _ (@zm _ _ _ _ (@zD _ _ _ _ _ _ _ _ (wb (K:=K) rfl) (@yk _ _ _ _ _ _ _ _ _ _ (yH (K:=K) rfl) (pv 1) yN (@yA _ _ _ (pv 4))) (@yk _ _ _ _ _ _ _ _ _ _ (yH (K:=K) rfl) (pv 1) (@yA _ _ _ (@zD _ _ _ _ _ _ _ _ yp (pv 4) ze)) yN)))) zt) (@zf _ _ _ (@zm _ _ _ _ (@zD _ _ _ _ _ _ _ _ (wb (K:=K) rfl) (@zD _ _ _ _ _ _ _ _ (wb (K:=K) rfl) (@yk _ _ _ _ _ _ _ _ _ _ (yH (K:=K) rfl) (pv 1) yN (@yA _ _ _ (pv 4))) (@z8 _ _ _ _ _ (@za _ _ _ _ _ (@zg _ _ _ _ _ _ _ _ _ _ qc0 hr rfl (@za _ _ _ _ _ (pv 0) (@za _ _ _ _ _ (@zK _ _ _ _ _ _ _ zS (pv 1) (pv 4) (fun _ _=>rfl)) (@za _ _ _ _ _ (@zD _ _ _ _ _ _ _ _ yJ (pv 2) ze) zb (by first | rfl | decide | exact Or.inl rfl | exact Or.inr rfl | exact Or.inr (Or.inl rfl) | exact Or.inr (Or.inr rfl) | exact fun _=>rfl | exact Nat.le_of_ble_eq_true rfl)) (by first | rfl | decide | exact Or.inl rfl | exact Or.inr rfl | exact Or.inr (Or.inl rfl) | exact Or.inr (Or.inr rfl) | exact fun _=>rfl | exact Nat.le_of_ble_eq_true rfl)) (by first | rfl | decide | exact Or.inl rfl | exact Or.inr rfl | exact Or.inr (Or.inl rfl) | exact Or.inr (Or.inr rfl) | exact fun _=>rfl | exact Nat.le_of_ble_eq_true rfl)) (by first | rfl | decide | exact Or.inl rfl | exact Or.inr rfl | exact Or.inr (Or.inl rfl) | exact Or.inr (Or.inr rfl) | exact fun _=>rfl | exact Nat.le_of_ble_eq_true rfl) (by first | rfl | decide | exact Or.inl rfl | exact Or.inr rfl | exact Or.inr (Or.inl rfl) | exact Or.inr (Or.inr rfl) | exact fun _=>rfl | exact Nat.le_of_ble_eq_true rfl) (by first | rfl | decide | exact Or.inl rfl | exact Or.inr rfl | exact Or.inr (Or.inl rfl) | exact Or.inr (Or.inr rfl) | exact fun _=>rfl | exact Nat.le_of_ble_eq_true rfl)) zb (by first | rfl | decide | exact Or.inl rfl | exact Or.inr rfl | exact Or.inr (Or.inl rfl) | exact Or.inr (Or.inr rfl) | exact fun _=>rfl | exact Nat.le_of_ble_eq_true rfl)))) (@yk _ _ _ _ _ _ _ _ _ _ (yH (K:=K) rfl) (pv 1) (@yA _ _ _ (@zD _ _ _ _ _ _ _ _ yp (pv 4) ze)) yN))))))))))),?_⟩
 have am':∀ b ∈ [a],b ∈ ml:=fun b hb=>by rw [List.mem_singleton.mp hb]; exact am
 refine ⟨_,rfl,_,_,rfl,a,10,rfl,rfl,pp,by decide,by decide,fun ch H1 l1 u1 g1 pp1=>?_⟩
 have hd1:=hd.grow (g1.mono am')
 have om1:=X8 g1 pp1 oml
 have oth:∀ σ:L2.St,σ = [some (.ref a),some y,some (.int dp),some (.int ch),none] -> tRet (ju (wP K) [] E0 (ZP (tVar 0) (ZP (tVar 1) tNil))) { nx:=fun _ H'=>Q V.non H',rt:=Q } σ H1:=fun σ hσ=>by
  subst hσ
  exact ⟨_,rfl,_,rfl,_,_,rfl,a,d,n,k,w,ml,rfl,pp1,am,om1,hd1,gd,n1,fun z d' H' g' pp' o' gd'=>q _ _ _ (g1.trans g') pp' o' (gd'.mono (Nat.le_refl _) (Nat.le_refl _) (by omega))⟩
 refine ⟨_,rfl,_,d,ml,_,_,rfl,hd1,wL,_,rfl,?_⟩
 cases ht:tupD d with
 | false=>exact iteT (iteT (oth _ rfl))
 | true =>
  refine iteF ⟨_,rfl,rfl,_,rfl,?_⟩
  by_cases hdp:dp = 0
  ·exact zO (decide_eq_true (congrArg V.int (by omega))) (iteT (oth _ rfl))
  refine zJ (decide_eq_false fun z=>hdp (by have:=V.int.inj z; omega)) ⟨_,rfl,rfl,_,rfl,?_⟩
  by_cases hc0:ch = 0
  ·exact zO (decide_eq_true (congrArg V.int hc0)) (oth _ rfl)
  refine zJ (decide_eq_false fun z=>hc0 (V.int.inj z)) ?_
  clear oth
  cases d with
  | tuple ds =>
   obtain ⟨b,xs,rfl,hs1,t1⟩:=hd1.inv_tup
   have hk:PyData.depthAll ds + 1 <= k:=gd.dp
   have hw:wtOs ds + 3 <= w:=gd.wt
   have gds0:GdS n (PyData.depthAll ds) (wtOs ds) ds:=GdS.of gd.le
   have gds:=gds0.mono (Nat.le_succ n) (show PyData.depthAll ds <= k + 2 by omega) (Nat.le_refl _)
   have hxl:=t1.length
   have hlen:2 * ds.length <= wtOs ds:=vo
   refine ⟨_,rfl,_,rfl,b,xs,rfl,.inr hs1,_,_,rfl,rfl,_,_,rfl,a,_,rfl,rfl,pp1,by omega,by omega,fun at0 H2 l2 u2 g2 pp2=>?_⟩
   obtain ⟨t,rfl⟩:∃ t:Nat,at0 = t:=⟨at0.toNat,by omega⟩
   have htl:t <= xs.length:=by omega
   have hs2:=g2.sqT hs1
   have t2:=t1.grow (g2.mono am')
   have om2:=X8 g2 pp2 om1
   have G2:=g1.trans g2
   have ep:cutV xs none (some (t:Int)) = xs.take t:=YZ
   have es:cutV xs (some (t:Int)) none = xs.drop t:=j3
   have es1:cutV xs (some ((t:Int) + 1)) none = xs.drop (t + 1):=j3 (c:=t + 1)
   have wsp:=Ya (ds:=ds) t
   have lt:(xs.take t).length <= xs.length:=by rw [List.length_take]; omega
   have ld:∀ i,(xs.drop i).length <= xs.length:=fun i=>by rw [List.length_drop]; omega
   clear g1 g2 hd hd1 hs1 t1 pp pp1
   refine ⟨_,rfl,rfl,_,rfl,?_⟩
   by_cases c1:ch = 1
   ·refine zO (decide_eq_true (congrArg V.int c1)) ⟨_,rfl,b,_,rfl,.inr hs2,fun l3 h3 s3=>?_⟩
    have d3:=Grow.new (m:=[]) h3 (.lst xs)
    exact q _ _ _ (G2.trans (d3.mono (by simp))) (pp2.grow d3) (.lst zc (fun z=>om2 l3 z h3) s3 (t2.grow (d3.mono (by simp)))) (gds.lst.mono (Nat.le_refl _) (by omega) (by omega))
   refine zJ (decide_eq_false fun z=>c1 (V.int.inj z)) ⟨_,rfl,rfl,_,rfl,?_⟩
   by_cases c2:ch = 2
   ·refine zO (decide_eq_true (congrArg V.int c2)) ⟨_,rfl,_,rfl,_,rfl,b,xs,rfl,hs2,fun p3 H3 g3 s3=>?_⟩
    rw [ep] at s3
    refine ⟨_,rfl,_,_,rfl,a,.int 0,n,0,1921,ml,rfl,pp2.grow g3,am,yQ g3 om2,.int 0,xv (by omega) (by omega),n1,fun z d' H4 g4 pp4 o4 gd4=>⟨szl rfl,fun t5 h5=>?_⟩⟩
    have d5:=Grow.new (m:=[]) h5 (.tup [z])
    refine ⟨p3,t5,_,_,rfl,rfl,d5.sqT (g4.sqT s3),SqT.of zc,Nat.le_of_lt (y7 (by show _ + 1 <= 16000000; omega)),fun p6 H6 g6 s6=>?_⟩
    have G6:Grow [a] H2 H6:=(g3.mono (by simp)).trans (g4.trans ((d5.trans g6).mono (by simp)))
    refine ⟨_,rfl,_,rfl,_,rfl,b,xs,rfl,G6.sqT hs2,fun p7 H7 g7 s7=>?_⟩
    rw [es] at s7
    refine ⟨p6,p7,_,_,rfl,rfl,g7.sqT s6,s7,Nat.le_of_lt (y7 (by have:=ld t; rw [List.length_append]; show _ + 1 + _ <= 16000000; omega)),fun p8 H8 g8 s8=>?_⟩
    have G8:Grow [a] H2 H8:=G6.trans ((g7.trans g8).mono (by simp))
    have o8:=o4.grow ((d5.trans (g6.trans (g7.trans g8))).mono (m':=ml) (by simp))
    exact q _ _ H8 (G2.trans G8) (pp4.grow (d5.trans (g6.trans (g7.trans g8)))) (.tup s8 ((((t2.grow (G8.mono am')).take t).append (.cons o8 .nil)).append ((t2.grow (G8.mono am')).drop t))) ((((gds.take t).append (gd4.mono (Nat.le_refl _) (show 0 + 3 <= k + 2 by omega) (Nat.le_refl _)).one).append (gds.drop t)).tup.mono (Nat.le_refl _) (by omega) (by omega))
   refine zJ (decide_eq_false fun z=>c2 (V.int.inj z)) ⟨_,rfl,rfl,_,rfl,?_⟩
   by_cases c3:ch = 3
   ·refine zO (decide_eq_true (congrArg V.int c3)) ⟨_,rfl,_,rfl,_,rfl,b,xs,rfl,hs2,fun p3 H3 g3 s3=>?_⟩
    rw [ep] at s3
    refine ⟨_,rfl,_,rfl,_,rfl,_,rfl,_,_,rfl,rfl,_,rfl,b,xs,rfl,g3.sqT hs2,fun p4 H4 g4 s4=>?_⟩
    have lc:=vE xs (some (t:Int)) (some ((t:Int) + 1))
    refine ⟨p3,p4,_,_,rfl,rfl,g4.sqT s3,s4,Nat.le_of_lt (y7 (by omega)),fun p6 H6 g6 s6=>?_⟩
    have G6:=g3.trans (g4.trans g6)
    refine ⟨_,rfl,_,rfl,_,rfl,b,xs,rfl,G6.sqT hs2,fun p7 H7 g7 s7=>?_⟩
    rw [es] at s7
    refine ⟨p6,p7,_,_,rfl,rfl,g7.sqT s6,s7,Nat.le_of_lt (y7 (by have:=ld t; rw [List.length_append]; omega)),fun p8 H8 g8 s8=>?_⟩
    have G8':=G6.trans (g7.trans g8)
    have G8:Grow [a] H2 H8:=G8'.mono (by simp)
    exact q _ _ H8 (G2.trans G8) (pp2.grow G8') (.tup s8 ((((t2.grow (G8.mono am')).take t).append (t2.grow (G8.mono am')).cut).append ((t2.grow (G8.mono am')).drop t))) ((((gds.take t).append gds.cut).append (gds.drop t)).tup.mono (Nat.le_refl _) (by omega) (by omega))
   refine zJ (decide_eq_false fun z=>c3 (V.int.inj z)) ⟨_,rfl,rfl,_,rfl,?_⟩
   have cutr:tRet (tOp (XU K) (tSl (rSlG K) (tVar 1) sM (YK (tVar 4))) (tSl (rSlG K) (tVar 1) (YK (tOp (rI0 fun i j=>V.int (i + j)) (tVar 4) (tC (V.int 1)))) sM)) { nx:=fun _ H'=>Q V.non H',rt:=Q } [some (.ref a),some (.ref b),some (.int dp),some (.int ch),some (.int t)] H2:=by
    refine ⟨_,rfl,_,rfl,_,rfl,b,xs,rfl,hs2,fun p3 H3 g3 s3=>?_⟩
    rw [ep] at s3
    refine ⟨_,rfl,_,rfl,_,_,rfl,rfl,_,rfl,b,xs,rfl,g3.sqT hs2,fun p7 H7 g7 s7=>?_⟩
    rw [es1] at s7
    refine ⟨p3,p7,_,_,rfl,rfl,g7.sqT s3,s7,Nat.le_of_lt (y7 (by have:=ld (t + 1); omega)),fun p8 H8 g8 s8=>?_⟩
    have G8':=g3.trans (g7.trans g8)
    have G8:Grow [a] H2 H8:=G8'.mono (by simp)
    have wd:=ww (xs:=ds) (t + 1)
    have wt:=wv (xs:=ds) t
    exact q _ _ H8 (G2.trans G8) (pp2.grow G8') (.tup s8 (((t2.grow (G8.mono am')).take t).append ((t2.grow (G8.mono am')).drop (t + 1)))) (((gds.take t).append (gds.drop (t + 1))).tup.mono (Nat.le_refl _) (by omega) (by omega))
   by_cases c4:ch = 4
   ·exact zO (decide_eq_true (congrArg V.int c4)) (iteT cutr)
   refine zJ (decide_eq_false fun z=>c4 (V.int.inj z)) ⟨_,rfl,_,rfl,b,xs,rfl,.inr hs2,rfl,_,rfl,?_⟩
   by_cases c5:t = xs.length
   ·exact zO (decide_eq_true (congrArg V.int (by omega))) cutr
   refine zJ (decide_eq_false fun z=>c5 (by have:=V.int.inj z; omega)) ?_
   clear cutr
   obtain ⟨xe,hxe⟩:∃ x,xs[t]? = some x:=⟨_,List.getElem?_eq_getElem (by omega)⟩
   obtain ⟨e,hde,oe⟩:=t2.get hxe
   have wde:=sg hde
   have lee:leD (10 ^ 30 + n) e = true:=xj.mp gd.le e (List.mem_of_getElem? hde)
   have dee:e.depth <= PyData.depthAll ds:=yn.mp (Nat.le_refl _) e (List.mem_of_getElem? hde)
   refine wY ⟨_,rfl,_,rfl,_,rfl,b,xs,rfl,hs2,fun p3 H3 g3 s3=>?_⟩
   rw [ep] at s3
   refine ⟨_,rfl,_,rfl,_,rfl,b,_,t,_,rfl,rfl,g3.sqT hs2,zT hxe,_,rfl,_,_,rfl,rfl,_,_,_,rfl,a,e,n,e.depth,wtO e,dp - 1,ml,rfl,congrArg V.int (by omega),pp2.grow g3,am,yQ g3 om2,oe.grow (g3.mono (by simp)),⟨lee,Nat.le_refl _,Nat.le_refl _⟩,n1,by omega,by omega,by omega,fun z d' H4 g4 pp4 o4 gd4=>⟨szl rfl,fun t5 h5=>?_⟩⟩
   have d5:=Grow.new (m:=[]) h5 (.tup [z])
   refine ⟨p3,t5,_,_,rfl,rfl,d5.sqT (g4.sqT s3),SqT.of zc,Nat.le_of_lt (y7 (by show _ + 1 <= 16000000; omega)),fun p6 H6 g6 s6=>?_⟩
   have G6:Grow [a] H2 H6:=(g3.mono (by simp)).trans (g4.trans ((d5.trans g6).mono (by simp)))
   refine ⟨_,rfl,_,rfl,_,_,rfl,rfl,_,rfl,b,xs,rfl,G6.sqT hs2,fun p7 H7 g7 s7=>?_⟩
   rw [es1] at s7
   refine ⟨p6,p7,_,_,rfl,rfl,g7.sqT s6,s7,Nat.le_of_lt (y7 (by have:=ld (t + 1); rw [List.length_append]; show _ + 1 + _ <= 16000000; omega)),fun p8 H8 g8 s8=>?_⟩
   have G8:Grow [a] H2 H8:=G6.trans ((g7.trans g8).mono (by simp))
   have o8:=o4.grow ((d5.trans (g6.trans (g7.trans g8))).mono (m':=ml) (by simp))
   exact q _ _ H8 (G2.trans G8) (pp4.grow (d5.trans (g6.trans (g7.trans g8)))) (.tup s8 ((((t2.grow (G8.mono am')).take t).append (.cons o8 .nil)).append ((t2.grow (G8.mono am')).drop (t + 1)))) ((((gds.take t).append (gd4.mono (Nat.le_refl _) (show e.depth + 3 <= k + 2 by omega) (Nat.le_refl _)).one).append (gds.drop (t + 1))).tup.mono (Nat.le_refl _) (by omega) (by omega))
  | _=>cases ht
theorem yj:FnScope ["_law_pot_here","_law_choice","_law_far","_law_k"] ["_law_pot_here"] (zh (top 57)):=⟨rfl,rfl,rfl,by decide +kernel,rfl,by decide +kernel,by decide +kernel⟩
theorem um (F:Fun K "_law_number" "_law_number" (top 57) f fd) (B:Blt mg) (qc0:zj P w K mg base n "_law_draw" ["_law_pot_here","_law_many"] (xi K))    :
  FnOk P w K mg base CX0 (n + 1) f fd ["_law_pot_here"] (xK K):=by
 refine F.ok yj yB (fun cdv A outer s H vs Q E hr h=>?_)
 obtain ⟨x,rfl,a,rfl,pp,q⟩:=h
 refine ⟨_,(zd (zA (i:=1) yj.nd rfl (Or.inl rfl) (zg qc0 hr rfl (za (pv 0) (za ze zb)))) (zd (zM (zw yv (pv 1) ze (zC _)) (zd (zA (i:=2) yj.nd rfl (Or.inl rfl) ze) (zd (vx PassesOwn.never rfl (yX rfl B.range (za ze zb)) (zr (i:=3) yj.nd rfl (Or.inl rfl)) (zf (zA (i:=2) yj.nd rfl (Or.inl rfl) (zD yp (zD x9 (pv 2) (zD vy ze ze)) (zg qc0 hr rfl (za (pv 0) (za (zD vy ze ze) zb))))))) (zf (zm (zD x9 (zD wn (pv 2) (zD yJ (zD vy ze ze) ze)) (zD yJ ze (zD x9 ze (zg qc0 hr rfl (za (pv 0) (za ze zb)))))))))) zt) (zf (zm (zD yJ (zg qc0 hr rfl (za (pv 0) (za (zK zU (yf (za ze (za ze (za ze zb)))) (zD yJ (pv 1) ze) (fun _ _=>rfl)) zb))) (zK zU (yf (za ze (za ze (za ze zb)))) (zD yJ (pv 1) ze) (fun _ _=>rfl))))))),?_⟩
 refine ⟨_,rfl,_,_,rfl,a,4,rfl,rfl,pp,by decide,by decide,fun c0 H1 l0 u0 g1 pp1=>?_⟩
 refine ⟨_,rfl,rfl,_,rfl,?_⟩
 refine ite2 (fun c=>?_) (fun c=>?_)
 ·refine ⟨_,rfl,by decide,by decide,wm (fun i σ H'=>∃ far e,σ = [some (.ref a),some (.int c0),some (.int far),e] /\ Grow [a] H H' /\ Pot H' a) ⟨0,none,rfl,g1,pp1⟩ ?_ ?_⟩
  ·rintro i σ H2 hi ⟨far,e,rfl,g2,pp2⟩
   refine ⟨_,rfl,_,_,rfl,rfl,⟨by decide,by decide,by decide⟩,_,_,rfl,rfl,ur ⟨by decide,by decide⟩,?_⟩
   refine ⟨_,rfl,_,_,rfl,rfl,⟨by decide,by decide,by decide⟩,_,_,rfl,a,_,rfl,rfl,pp2,by decide,by decide,fun n3 H3 l3 u3 g3 pp3=>?_⟩
   exact ⟨_,_,rfl,rfl,_,_,rfl,g2.trans g3,pp3⟩
  ·rintro σ H2 ⟨far,e,rfl,g2,pp2⟩
   refine ⟨_,rfl,_,_,rfl,rfl,⟨by decide,by decide,by decide⟩,_,_,rfl,rfl,_,_,rfl,rfl,(by show (0:Int) < 10 ^ 30 - 20; decide),?_⟩
   refine ⟨_,rfl,_,_,rfl,a,2,rfl,rfl,pp2,by decide,by decide,fun n3 H3 l3 u3 g3 pp3=>?_⟩
   refine ⟨_,_,rfl,rfl,ur ⟨by omega,by omega⟩,_,_,rfl,rfl,_,_,rfl,rfl,ur ⟨by omega,by omega⟩,?_⟩
   have r0:0 <= far % (10 ^ 30 - 20):=Int.emod_nonneg _ (by decide)
   have r1:far % (10 ^ 30 - 20) < 10 ^ 30 - 20:=Int.emod_lt_of_pos _ (by decide)
   refine q _ _ ?_ (g2.trans g3) pp3
   show Sm (far % (10 ^ 30 - 20) * (1 - 2 * n3))
   obtain rfl | rfl:n3 = 0 \/ n3 = 1:=by omega
   ·exact ⟨by omega,by omega⟩
   ·exact ⟨by omega,by omega⟩
 ·have c':c0 ≠ 0:=fun z=>c (by rw [z]; simp)
  obtain rfl | rfl | rfl:c0 = 1 \/ c0 = 2 \/ c0 = 3:=by omega
  ·refine ⟨_,rfl,szl rfl,fun t1 ht1=>⟨_,rfl,_,_,rfl,rfl,t1,_,_,_,rfl,rfl,SqL.of zc,rfl,?_⟩⟩
   refine ⟨_,_,rfl,a,3,rfl,rfl,pp1.new ht1 _,by decide,by decide,fun n1 H2 l1 u1 g2 pp2=>⟨szl rfl,fun t2 ht2=>⟨_,rfl,_,_,rfl,rfl,t2,_,_,_,rfl,rfl,SqL.of zc,rfl,?_⟩⟩⟩
   refine ⟨_,_,rfl,rfl,q _ _ ?_ (g1.trans ((Grow.new ht1 _).trans (g2.trans (Grow.new ht2 _)))) (pp2.new ht2 _)⟩
   show Sm (n1 - 1)
   exact ⟨by omega,by omega⟩
  ·refine ⟨_,rfl,szl rfl,fun t1 ht1=>⟨_,rfl,_,_,rfl,rfl,t1,_,_,_,rfl,rfl,SqL.of zc,rfl,?_⟩⟩
   refine ⟨_,_,rfl,a,19,rfl,rfl,pp1.new ht1 _,by decide,by decide,fun n1 H2 l1 u1 g2 pp2=>⟨szl rfl,fun t2 ht2=>⟨_,rfl,_,_,rfl,rfl,t2,_,_,_,rfl,rfl,SqL.of zc,rfl,?_⟩⟩⟩
   refine ⟨_,_,rfl,rfl,q _ _ ?_ (g1.trans ((Grow.new ht1 _).trans (g2.trans (Grow.new ht2 _)))) (pp2.new ht2 _)⟩
   show Sm (n1 - 9)
   exact ⟨by omega,by omega⟩
  ·refine ⟨_,rfl,szl rfl,fun t1 ht1=>⟨_,rfl,_,_,rfl,rfl,t1,_,_,_,rfl,rfl,SqL.of zc,rfl,?_⟩⟩
   refine ⟨_,_,rfl,a,199,rfl,rfl,pp1.new ht1 _,by decide,by decide,fun n1 H2 l1 u1 g2 pp2=>⟨szl rfl,fun t2 ht2=>⟨_,rfl,_,_,rfl,rfl,t2,_,_,_,rfl,rfl,SqL.of zc,rfl,?_⟩⟩⟩
   refine ⟨_,_,rfl,rfl,q _ _ ?_ (g1.trans ((Grow.new ht1 _).trans (g2.trans (Grow.new ht2 _)))) (pp2.new ht2 _)⟩
   show Sm (n1 - 99)
   exact ⟨by omega,by omega⟩
theorem w6:FnScope ["_law_pot_here","_law_first","_law_many","_law_left"] ["_law_pot_here","_law_first","_law_many"] (zh (top 68)):=⟨rfl,rfl,rfl,by decide +kernel,rfl,by decide +kernel,by decide +kernel⟩
theorem sI (F:Fun K "_law_tree" "_law_tree" (top 68) f fd) (B:Blt mg) {N:Nat} (qc0:zj P w K mg base n "_law_tree" ["_law_pot_here","_law_first","_law_many"] (ye N K)) (qc1:zj P w K mg base n "_law_draw" ["_law_pot_here","_law_many"] (xi K))    :
  FnOk P w K mg base CX0 (n + 1) f fd ["_law_pot_here","_law_first","_law_many"] (ye (N + 1) K):=by
 refine F.ok w6 vJ (fun cdv A outer s H vs Q E hr h=>?_)
 obtain ⟨x,y,z,rfl,a,f0,m,rfl,rfl,rfl,pp,f1,m0,m1,fm,q⟩:=h
 refine ⟨_,(zd (zM (zw yv (pv 2) ze (zC _)) (zf (zm (pv 1))) zt) (zd (zA (i:=3) w6.nd rfl (Or.inl rfl) (zD yp ze (zg qc1 hr rfl (za (pv 0) (za (zD yJ (pv 2) ze) zb))))) (zf (zm (z8 (za (zg qc0 hr rfl (za (pv 0) (za (pv 1) (za (pv 3) zb)))) (za (zg qc0 hr rfl (za (pv 0) (za (zD yp (pv 1) (pv 3)) (za (zD yJ (pv 2) (pv 3)) zb)))) zb))))))),?_⟩
 refine ⟨_,rfl,rfl,_,rfl,?_⟩
 by_cases cm:m = 1
 ·subst cm
  exact zO (decide_eq_true rfl) ⟨_,rfl,q _ (.leaf f0) _ (Grow.refl _ _) pp rfl rfl rfl Nat.zero_lt_one ⟨by omega,by omega⟩⟩
 refine zJ (decide_eq_false fun z=>cm (V.int.inj z)) ?_
 refine ⟨_,rfl,_,rfl,_,_,rfl,rfl,_,_,rfl,a,_,rfl,rfl,pp,by omega,by omega,fun n1 H1 l1 u1 g1 pp1=>⟨_,_,rfl,rfl,?_⟩⟩
 refine ⟨_,rfl,_,rfl,_,rfl,_,_,_,rfl,a,f0,1 + n1,rfl,rfl,rfl,pp1,f1,by omega,by omega,by omega,fun y2 T2 H2 g2 pp2 h2 o2 k2 d2 n2=>?_⟩
 refine ⟨_,rfl,_,rfl,_,rfl,_,_,rfl,rfl,_,rfl,_,rfl,_,_,rfl,rfl,_,_,_,rfl,a,f0 + (1 + n1),m - (1 + n1),rfl,rfl,rfl,pp2,by omega,by omega,by omega,by omega,fun y3 T3 H3 g3 pp3 h3 o3 k3 d3 n3=>⟨szl rfl,fun t4 ht4=>?_⟩⟩
 have g4:Grow [a] H3 (upd H3 t4 (.tup [y2,y3])):=Grow.new ht4 _
 refine q _ (.node T2 T3) _ (g1.trans (g2.trans (g3.trans g4))) (pp3.new ht4 _) ⟨t4,y2,y3,rfl,SqT.of zc,g4.tree (g3.tree h2),g4.tree h3⟩ ⟨o2,by rw [k2]; exact o3⟩ ?_ ?_ ⟨n2,n3⟩
 ·show T2.count + T3.count = m; omega
 ·show max T2.ht T3.ht + 1 < m.toNat; omega
theorem yG:FnScope ["_law_pot_here","_law_choice","_law_add","_law_one","_law_other_here"] ["_law_pot_here"] (zh (top 58)):=⟨rfl,rfl,rfl,by decide +kernel,rfl,by decide +kernel,by decide +kernel⟩
theorem sJ (F:Fun K "_law_deed" "_law_deed" (top 58) f fd) (B:Blt mg) (qc0:zj P w K mg base n "_law_number" ["_law_pot_here"] (xK K)) (qc1:zj P w K mg base n "_law_draw" ["_law_pot_here","_law_many"] (xi K))    :
  FnOk P w K mg base CX0 (n + 1) f fd ["_law_pot_here"] (sO K):=by
 refine F.ok yG yB (fun cdv A outer s H vs Q E hr h=>?_)
 obtain ⟨x,rfl,a,rfl,pp,q⟩:=h
 refine ⟨_,(zd (zA (i:=1) yG.nd rfl (Or.inl rfl) (zg qc1 hr rfl (za (pv 0) (za ze zb)))) (zd (zA (i:=2) yG.nd rfl (Or.inl rfl) (zg qc0 hr rfl (za (pv 0) zb))) (zd (zA (i:=3) yG.nd rfl (Or.inl rfl) (zg qc0 hr rfl (za (pv 0) zb))) (zd (zA (i:=4) yG.nd rfl (Or.inl rfl) (zg qc0 hr rfl (za (pv 0) zb))) (zd (zM (zw vz (pv 1) ze (zC _)) (zf (zm (z8 (za (zD x9 (pv 2) (pv 1)) (za vq (za vq zb)))))) zt) (zd (zM (PW.pt (xT (zw yv (pv 1) ze (zC _)) (xq (zw yv (pv 3) (pv 4) (zC _))))) (zf (zm (z8 (za ze (za (pv 3) (za (pv 3) zb)))))) zt) (zd (zM (zw yv (pv 1) ze (zC _)) (zf (zm (z8 (za (pv 2) (za (pv 3) (za vq zb)))))) zt) (zd (zM (zw yv (pv 1) ze (zC _)) (zf (zm (z8 (za (pv 2) (za vq (za (pv 3) zb)))))) zt) (zf (zm (z8 (za (pv 2) (za (zi (tH rfl) rfl B.min XB (za (pv 3) (za (pv 4) zb))) (za (zi (vA rfl) rfl B.max YQ (za (pv 3) (za (pv 4) zb))) zb)))))))))))))),?_⟩
 refine ⟨_,rfl,_,_,rfl,a,6,rfl,rfl,pp,by decide,by decide,fun c0 H1 l0 u0 g1 pp1=>?_⟩
 refine ⟨_,rfl,_,rfl,a,rfl,pp1,fun A H2 sA g2 pp2=>?_⟩
 refine ⟨_,rfl,_,rfl,a,rfl,pp2,fun n H3 sn g3 pp3=>?_⟩
 refine ⟨_,rfl,_,rfl,a,rfl,pp3,fun o H4 so g4 pp4=>?_⟩
 have gA:=g1.trans (g2.trans (g3.trans g4))
 refine ⟨_,rfl,_,_,rfl,rfl,_,rfl,?_⟩
 by_cases c1:c0 < 2
 ·refine zO (decide_eq_true c1) ⟨_,rfl,_,rfl,_,_,rfl,rfl,ur ⟨by omega,by omega⟩,szl rfl,fun t ht=>?_⟩
  refine q ⟨A * c0,none,none⟩ _ _ ok_n (Wo ?_) (gA.trans (Grow.new ht _)) (pp4.new ht _) ⟨t,rfl,SqT.of zc⟩
  obtain ⟨a1,a2⟩:=sA
  obtain rfl | rfl:c0 = 0 \/ c0 = 1:=by omega
  ·rw [Int.mul_zero]; exact ⟨by omega,by omega⟩
  ·rw [Int.mul_one]; exact ⟨a1,a2⟩
 refine zJ (decide_eq_false c1) ?_
 have set0:Deed.Ok ⟨0,some n,some n⟩:=fun l h e1 e2=>by cases e1; cases e2; exact .inr ⟨rfl,rfl⟩
 have sm0:Sm 0:=⟨by decide,by decide⟩
 refine ⟨_,rfl,rfl,_,rfl,?_⟩
 by_cases c2:c0 = 2
 ·refine zO (decide_eq_true (congrArg V.int c2)) (iteT ⟨_,rfl,_,rfl,szl rfl,fun t ht=>?_⟩)
  exact q ⟨0,some n,some n⟩ _ _ set0 ⟨sm0,(fun l e=>by cases e; exact sn),(fun l e=>by cases e; exact sn)⟩ (gA.trans (Grow.new ht _)) (pp4.new ht _) ⟨t,rfl,SqT.of zc⟩
 refine zJ (decide_eq_false fun z=>c2 (V.int.inj z)) ⟨_,rfl,_,rfl,rfl,_,rfl,?_⟩
 by_cases c3:n = o
 ·refine zO (decide_eq_true (congrArg V.int c3)) ⟨_,rfl,_,rfl,szl rfl,fun t ht=>?_⟩
  exact q ⟨0,some n,some n⟩ _ _ set0 ⟨sm0,(fun l e=>by cases e; exact sn),(fun l e=>by cases e; exact sn)⟩ (gA.trans (Grow.new ht _)) (pp4.new ht _) ⟨t,rfl,SqT.of zc⟩
 refine zJ (decide_eq_false fun z=>c3 (V.int.inj z)) ⟨_,rfl,rfl,_,rfl,?_⟩
 by_cases c4:c0 = 3
 ·refine zO (decide_eq_true (congrArg V.int c4)) ⟨_,rfl,_,rfl,szl rfl,fun t ht=>?_⟩
  exact q ⟨A,some n,none⟩ _ _ Wr (Wp sA sn) (gA.trans (Grow.new ht _)) (pp4.new ht _) ⟨t,rfl,SqT.of zc⟩
 refine zJ (decide_eq_false fun z=>c4 (V.int.inj z)) ⟨_,rfl,rfl,_,rfl,?_⟩
 by_cases c5:c0 = 4
 ·refine zO (decide_eq_true (congrArg V.int c5)) ⟨_,rfl,_,rfl,szl rfl,fun t ht=>?_⟩
  exact q ⟨A,none,some n⟩ _ _ ok_n (Wq sA sn) (gA.trans (Grow.new ht _)) (pp4.new ht _) ⟨t,rfl,SqT.of zc⟩
 refine zJ (decide_eq_false fun z=>c5 (V.int.inj z)) ?_
 refine ⟨_,rfl,_,rfl,_,rfl,_,_,rfl,_,rfl,_,rfl,_,_,rfl,szl rfl,fun t ht=>?_⟩
 refine q ⟨A,some (if o < n then o else n),some (if o > n then o else n)⟩ _ _ ?_ ⟨sA,?_,?_⟩ (gA.trans (Grow.new ht _)) (pp4.new ht _) ⟨t,rfl,SqT.of zc⟩
 ·intro l h e1 e2
  cases e1; cases e2
  left; split <;> split <;> omega
 ·intro l e; cases e; split
  ·exact so
  ·exact sn
 ·intro l e; cases e; split
  ·exact so
  ·exact sn
theorem yr:FnScope ["_law_pot_here","_law_board_here","_law_most","_law_many","_law_near","_law_found","_law_k"] ["_law_pot_here","_law_board_here","_law_most"] (zh (top 60)):=⟨rfl,rfl,rfl,by decide +kernel,rfl,by decide +kernel,by decide +kernel⟩
theorem sK (F:Fun K "_law_asks" "_law_asks" (top 60) f fd) (B:Blt mg) (qc0:zj P w K mg base n "_law_deed" ["_law_pot_here"] (sO K)) (qc1:zj P w K mg base n "_law_draw" ["_law_pot_here","_law_many"] (xi K))    :
  FnOk P w K mg base CX0 (n + 1) f fd ["_law_pot_here","_law_board_here","_law_most"] (jQ K):=by
 refine F.ok yr vJ (fun cdv A outer s H vs Q E hr h=>?_)
 obtain ⟨x,y,z,rfl,a,b,m,rfl,hb,rfl,m0,m1,pp,b1,b2,q⟩:=h
 refine ⟨_,(zd (zA (i:=3) yr.nd rfl (Or.inl rfl) (zg qc1 hr rfl (za (pv 0) (za ze zb)))) (zd (zM (zw yv (pv 3) ze (zC _)) (zf (zA (i:=3) yr.nd rfl (Or.inl rfl) (zg qc1 hr rfl (za (pv 0) (za (zD yp (pv 2) ze) zb))))) zt) (zd (zA (i:=4) yr.nd rfl (Or.inl rfl) (zD yp ze (zg qc1 hr rfl (za (pv 0) (za (zi zo rfl B.len yO (za (pv 1) zb)) zb))))) (zd (zA (i:=5) yr.nd rfl (Or.inl rfl) (yf zb)) (zd (vx PassesOwn.never rfl (yX rfl B.range (za (pv 3) zb)) (zr (i:=6) yr.nd rfl (Or.inl rfl)) (zf (zI (vF PySem.F.plainAttrs_list PySem.F.slot_list_append PySem.F.type_list_append yw (pv 5) (za (z8 (za (zg qc1 hr rfl (za (pv 0) (za ze zb))) (za (zg qc1 hr rfl (za (pv 0) (za (pv 4) zb))) (za (zg qc0 hr rfl (za (pv 0) zb)) zb)))) zb))))) (zf (zm (zV zW rfl B.tuple zY (za (pv 5) zb))))))))),?_⟩
 obtain ⟨br,rfl,hbs⟩:=hb
 refine ⟨_,rfl,_,_,rfl,a,8,rfl,rfl,pp,by decide,by decide,fun c0 H1 l0 u0 g1 pp1=>?_⟩
 refine ⟨_,rfl,rfl,_,rfl,?_⟩
 by_cases c:c0 = 7
 ·refine zO (decide_eq_true (congrArg V.int c)) ?_
  refine ⟨_,rfl,_,rfl,_,_,rfl,rfl,_,_,rfl,a,_,rfl,rfl,pp1,by omega,by omega,fun M HM lM uM gM ppM=>?_⟩
  have hM:M <= 40:=by omega
  replace gM:=g1.trans gM
  refine ⟨_,rfl,_,rfl,br,_,rfl,.inr (gM.sqT hbs),_,_,rfl,a,_,rfl,rfl,ppM,by rw [List.length_map]; omega,by rw [List.length_map]; omega,fun n1 H2 l1 u1 g2 pp2=>⟨_,_,rfl,rfl,?_⟩⟩
  rw [List.length_map] at u1
  have gB:=gM.trans g2
  refine ⟨szl rfl,fun lf hlf=>?_⟩
  have hne:=pp2.ne hlf
  have gC:Grow [a,lf] H2 (upd H2 lf (.lst [])):=Grow.new hlf _
  refine ⟨_,rfl,_,rfl,by omega,by omega,wm (fun i σ H'=>∃ e,σ = [some (.ref a),some (.ref br),some (.int m),some (.int M),some (.int (1 + n1)),some (.ref lf),e] /\ Grow [a,lf] H2 H' /\ Pot H' a /\ ∃ xs ks,H' lf = some (.lst xs) /\ AllA K H' xs ks /\ ks.length = i /\ ∀ k ∈ ks,ub b.length k /\ k.deed.Sm) ⟨none,rfl,gC,pp2.new hlf _,[],[],zc,trivial,rfl,(fun k hk=>by cases hk)⟩ ?_ ?_⟩
  ·rintro i σ H3 hi ⟨e,rfl,g3,pp3,xs,ks,hl3,ha3,hk3,hok3⟩
   refine ⟨_,rfl,.inl ⟨rfl,_,SqL.of hl3⟩,?_⟩
   refine ⟨_,rfl,_,_,rfl,a,16,rfl,rfl,pp3,by decide,by decide,fun h4 H4 l4 u4 g4 pp4=>?_⟩
   refine ⟨_,rfl,_,rfl,_,_,rfl,a,_,rfl,rfl,pp4,by omega,by omega,fun b5 H5 l5 u5 g5 pp5=>?_⟩
   refine ⟨_,rfl,_,rfl,a,rfl,pp5,fun d6 y6 H6 ok6 sm6 g6 pp6 hd6=>⟨szl rfl,fun t7 ht7=>?_⟩⟩
   obtain ⟨rd,rfl,hrd⟩:=hd6
   have g36:=g4.trans (g5.trans g6)
   have g37:Grow [a] H3 (upd H6 t7 (.tup [.int h4,.int b5,.ref rd])):=g36.trans (Grow.new ht7 _)
   have hl7:=g37.keep _ _ hne hl3
   have hlen:xs.length = ks.length:=ha3.len
   have gF:=(g37.mono (m':=[a,lf]) (by simp)).trans (Grow.set hl7 (by simp) (xs ++ [.ref t7]))
   refine ⟨lf,xs,_,rfl,rfl,hl7,zB (by omega),_,rfl,g3.trans gF,?_,xs ++ [.ref t7],ks ++ [⟨h4,b5,d6⟩],zc,?_,?_,?_⟩
   ·obtain ⟨z0,z1,hz,hz0⟩:=pp6.new ht7 (.tup [.int h4,.int b5,.ref rd])
    exact ⟨z0,z1,by rw [zp (show a ≠ lf from fun z=>hne (by rw [z]; simp))]; exact hz,hz0⟩
   ·refine (gF.allA ha3).snoc ⟨t7,rd,rfl,?_,?_⟩
    ·exact (Grow.set (m:=[a,lf]) hl7 (by simp) (xs ++ [.ref t7])).sqT (SqT.of zc)
    ·exact (Grow.set (m:=[a,lf]) hl7 (by simp) (xs ++ [.ref t7])).sqT ((Grow.new (m:=[]) ht7 _).sqT hrd)
   ·rw [List.length_append]; show ks.length + 1 = _; omega
   ·intro k hk
    rcases List.mem_append.mp hk with z | z
    ·exact hok3 k z
    ·rw [List.mem_singleton.mp z]
     exact ⟨⟨l4,by show h4 <= 15; omega,l5,by show b5 < (b.length:Int); omega,ok6⟩,sm6⟩
  ·rintro σ H3 ⟨e,rfl,g3,pp3,xs,ks,hl3,ha3,hk3,hok3⟩
   refine ⟨_,rfl,lf,_,rfl,.inl ⟨SqL.of hl3,fun r hr=>?_⟩⟩
   have g8:=g3.less (m':=[a]) (fun z hz=>by
    simp only [List.mem_cons,List.mem_nil_iff,or_false] at hz
    rcases hz with rfl | rfl
    ·exact .inl (by simp)
    ·exact .inr hlf)
   exact q _ ks _ (gB.trans (g8.trans (Grow.new hr _))) (pp3.new hr _) ⟨r,xs,rfl,SqT.of zc,(Grow.new (m:=[]) hr _).allA ha3⟩ (by omega) hok3
 ·refine zJ (decide_eq_false fun z=>c (V.int.inj z)) ?_
  obtain ⟨M,rfl⟩:∃ M,c0 = M:=⟨_,rfl⟩
  have lM:=l0
  have hM:c0 <= 40:=by omega
  have gM:=g1
  have ppM:=pp1
  refine ⟨_,rfl,_,rfl,br,_,rfl,.inr (gM.sqT hbs),_,_,rfl,a,_,rfl,rfl,ppM,by rw [List.length_map]; omega,by rw [List.length_map]; omega,fun n1 H2 l1 u1 g2 pp2=>⟨_,_,rfl,rfl,?_⟩⟩
  rw [List.length_map] at u1
  have gB:=gM.trans g2
  refine ⟨szl rfl,fun lf hlf=>?_⟩
  have hne:=pp2.ne hlf
  have gC:Grow [a,lf] H2 (upd H2 lf (.lst [])):=Grow.new hlf _
  refine ⟨_,rfl,_,rfl,by omega,by omega,wm (fun i σ H'=>∃ e,σ = [some (.ref a),some (.ref br),some (.int m),some (.int c0),some (.int (1 + n1)),some (.ref lf),e] /\ Grow [a,lf] H2 H' /\ Pot H' a /\ ∃ xs ks,H' lf = some (.lst xs) /\ AllA K H' xs ks /\ ks.length = i /\ ∀ k ∈ ks,ub b.length k /\ k.deed.Sm) ⟨none,rfl,gC,pp2.new hlf _,[],[],zc,trivial,rfl,(fun k hk=>by cases hk)⟩ ?_ ?_⟩
  ·rintro i σ H3 hi ⟨e,rfl,g3,pp3,xs,ks,hl3,ha3,hk3,hok3⟩
   refine ⟨_,rfl,.inl ⟨rfl,_,SqL.of hl3⟩,?_⟩
   refine ⟨_,rfl,_,_,rfl,a,16,rfl,rfl,pp3,by decide,by decide,fun h4 H4 l4 u4 g4 pp4=>?_⟩
   refine ⟨_,rfl,_,rfl,_,_,rfl,a,_,rfl,rfl,pp4,by omega,by omega,fun b5 H5 l5 u5 g5 pp5=>?_⟩
   refine ⟨_,rfl,_,rfl,a,rfl,pp5,fun d6 y6 H6 ok6 sm6 g6 pp6 hd6=>⟨szl rfl,fun t7 ht7=>?_⟩⟩
   obtain ⟨rd,rfl,hrd⟩:=hd6
   have g36:=g4.trans (g5.trans g6)
   have g37:Grow [a] H3 (upd H6 t7 (.tup [.int h4,.int b5,.ref rd])):=g36.trans (Grow.new ht7 _)
   have hl7:=g37.keep _ _ hne hl3
   have hlen:xs.length = ks.length:=ha3.len
   have gF:=(g37.mono (m':=[a,lf]) (by simp)).trans (Grow.set hl7 (by simp) (xs ++ [.ref t7]))
   refine ⟨lf,xs,_,rfl,rfl,hl7,zB (by omega),_,rfl,g3.trans gF,?_,xs ++ [.ref t7],ks ++ [⟨h4,b5,d6⟩],zc,?_,?_,?_⟩
   ·obtain ⟨z0,z1,hz,hz0⟩:=pp6.new ht7 (.tup [.int h4,.int b5,.ref rd])
    exact ⟨z0,z1,by rw [zp (show a ≠ lf from fun z=>hne (by rw [z]; simp))]; exact hz,hz0⟩
   ·refine (gF.allA ha3).snoc ⟨t7,rd,rfl,?_,?_⟩
    ·exact (Grow.set (m:=[a,lf]) hl7 (by simp) (xs ++ [.ref t7])).sqT (SqT.of zc)
    ·exact (Grow.set (m:=[a,lf]) hl7 (by simp) (xs ++ [.ref t7])).sqT ((Grow.new (m:=[]) ht7 _).sqT hrd)
   ·rw [List.length_append]; show ks.length + 1 = _; omega
   ·intro k hk
    rcases List.mem_append.mp hk with z | z
    ·exact hok3 k z
    ·rw [List.mem_singleton.mp z]
     exact ⟨⟨l4,by show h4 <= 15; omega,l5,by show b5 < (b.length:Int); omega,ok6⟩,sm6⟩
  ·rintro σ H3 ⟨e,rfl,g3,pp3,xs,ks,hl3,ha3,hk3,hok3⟩
   refine ⟨_,rfl,lf,_,rfl,.inl ⟨SqL.of hl3,fun r hr=>?_⟩⟩
   have g8:=g3.less (m':=[a]) (fun z hz=>by
    simp only [List.mem_cons,List.mem_nil_iff,or_false] at hz
    rcases hz with rfl | rfl
    ·exact .inl (by simp)
    ·exact .inr hlf)
   exact q _ ks _ (gB.trans (g8.trans (Grow.new hr _))) (pp3.new hr _) ⟨r,xs,rfl,SqT.of zc,(Grow.new (m:=[]) hr _).allA ha3⟩ (by omega) hok3
theorem tz:FnScope ["_law_pot_here"] ["_law_pot_here"] (zh (top 59)):=⟨rfl,rfl,rfl,by decide +kernel,rfl,by decide +kernel,by decide +kernel⟩
theorem tD (F:Fun K "_law_board" "_law_board" (top 59) f fd) (B:Blt mg) (qc0:zj P w K mg base n "_law_draw" ["_law_pot_here","_law_many"] (xi K)) (qc1:zj P w K mg base n "_law_number" ["_law_pot_here"] (xK K))    :
  FnOk P w K mg base CX0 (n + 1) f fd ["_law_pot_here"] (rR K):=by
 refine F.ok tz yB (fun cdv A outer s H vs Q E hr h=>?_)
 obtain ⟨x,rfl,a,rfl,pp,q⟩:=h
 refine ⟨_,(zf (zm (zV zW rfl B.tuple zY (za (yl (CSc.of (N':=["_law_k","_law_pot_here"]) (sub:=[none,some 0]) (zh (top 59)) ["_law_pot_here"] rfl rfl (by decide +kernel) rfl) rfl (yX rfl B.range (za (zD yp ze (zg qc0 hr rfl (za (pv 0) (za ze zb)))) zb)) (fun _ _ _ _ _ _=>zr (i:=0) (show (["_law_k","_law_pot_here"]:List Str).Nodup by decide +kernel) rfl (Or.inl rfl)) (fun _ _ _ _ _ _=>z6) (fun _ _ _ _ _ _=>(zg qc1 hr rfl (za (pv 1) zb)))) zb)))),?_⟩
 refine ⟨_,rfl,_,_,rfl,a,16,rfl,rfl,pp,by decide,by decide,fun n0 H1 l0 u0 g1 pp1=>?_⟩
 refine ⟨_,_,rfl,rfl,_,rfl,by omega,by omega,vj (fun i ys H'=>∃ b:List Int,ys = b.map V.int /\ b.length = i /\ InB (10 ^ 30) b /\ Grow [a] H H' /\ Pot H' a) ⟨[],rfl,rfl,(fun v hv=>by cases hv),g1,pp1⟩ ?_ ?_⟩
 ·rintro i ys H2 hi ⟨b,rfl,hb,hB,g2,pp2⟩
  refine ⟨_,rfl,_,rfl,a,rfl,pp2,fun n H3 sn g3 pp3=>⟨?_,b ++ [n],?_,?_,?_,g2.trans g3,pp3⟩⟩
  ·rw [List.length_map]; exact zB (by omega)
  ·rw [List.map_append]; rfl
  ·rw [List.length_append]; show b.length + 1 = _; omega
  ·intro v hv
   rcases List.mem_append.mp hv with z | z
   ·exact hB v z
   ·rw [List.mem_singleton.mp z]; exact sn
 ·rintro ys H2 ⟨b,rfl,hb,hB,g2,pp2⟩ l hl
  refine ⟨l,_,rfl,.inl ⟨SqL.of zc,fun r hr=>?_⟩⟩
  exact q _ b _ (g2.trans ((Grow.new (m:=[a]) hl _).trans (Grow.new hr _))) ((pp2.new hl _).new hr _) ⟨r,rfl,SqT.of zc⟩ (by omega) (by omega) hB
theorem zE:FnScope ["_law_pot_here","_law_wrong","_law_board_here","_law_asks_here","_law_deeds","_law_some","_law_handed","_law_k","_law_thing","_law_deep","_law_kept","_law_choice"] ["_law_pot_here"] (zh (top 74)):=⟨rfl,rfl,rfl,by decide +kernel,rfl,by decide +kernel,by decide +kernel⟩
theorem tE (F:Fun K "_law_right" "_law_right" (top 74) f fd) (B:Blt mg) (qc0:zj P w K mg base n "_law_draw" ["_law_pot_here","_law_many"] (xi K)) (qc1:zj P w K mg base n "_law_word" ["_law_choice","_law_handed"] (wE K)) (qc2:zj P w K mg base n "_law_due" ["_law_choice","_law_handed"] (wE K)) (qc3:zj P w K mg base n "_law_bent" ["_law_pot_here","_law_thing","_law_deep"] (y9 42 K)) (qc4:zj P w K mg base n "_law_number" ["_law_pot_here"] (xK K)) (qc5:zj P w K mg base n "_law_tree" ["_law_pot_here","_law_first","_law_many"] (ye 40 K)) (qc6:zj P w K mg base n "_law_deed" ["_law_pot_here"] (sO K)) (qc7:zj P w K mg base n "_law_asks" ["_law_pot_here","_law_board_here","_law_most"] (jQ K)) (qc8:zj P w K mg base n "_law_board" ["_law_pot_here"] (rR K)) (g_enumerate:mg "enumerate" = none)   :
  FnOk P w K mg base CX0 (n + 1) f fd ["_law_pot_here"] (uD K):=by
 refine F.ok zE yB (fun cdv A outer s H vs Q E hr h=>?_)
 obtain ⟨x,rfl,a,rfl,pp,q⟩:=h
 refine ⟨_,(zd (rT (i:=1) zE.nd rfl rfl (CSc.of (N':=["_law_k","_law_pot_here"]) (sub:=[none,some 0]) (zh (top 74)) ["_law_pot_here","_law_wrong","_law_board_here","_law_asks_here","_law_deeds","_law_some","_law_handed","_law_k","_law_thing","_law_deep","_law_kept","_law_choice"] rfl rfl (by decide +kernel) rfl) rfl (yX rfl B.range (za ze zb)) (fun _ _ _ _ _ _=>zr (i:=0) (show (["_law_k","_law_pot_here"]:List Str).Nodup by decide +kernel) rfl (Or.inl rfl)) (fun _ _ _ _ _ _=>z6) (fun _ _ _ _ _ _=>(zg qc0 hr rfl (za (pv 1) (za ze zb))))) (zd (zA (i:=2) zE.nd rfl (Or.inl rfl) (zg qc8 hr rfl (za (pv 0) zb))) (zd (zA (i:=3) zE.nd rfl (Or.inl rfl) (zg qc7 hr rfl (za (pv 0) (za (pv 2) (za ze zb))))) (zd (zA (i:=4) zE.nd rfl (Or.inl rfl) (zV zW rfl B.tuple zY (za (yl (CSc.of (N':=["_law_k","_law_pot_here"]) (sub:=[none,some 0]) (zh (top 74)) ["_law_pot_here","_law_wrong","_law_board_here","_law_asks_here","_law_deeds","_law_some","_law_handed","_law_k","_law_thing","_law_deep","_law_kept","_law_choice"] rfl rfl (by decide +kernel) rfl) rfl (yX rfl B.range (za (zD yp ze (zg qc0 hr rfl (za (pv 0) (za (zK zU (yf (za ze (za ze (za ze zb)))) (zg qc0 hr rfl (za (pv 0) (za ze zb))) (fun _ _=>rfl)) zb)))) zb)) (fun _ _ _ _ _ _=>zr (i:=0) (show (["_law_k","_law_pot_here"]:List Str).Nodup by decide +kernel) rfl (Or.inl rfl)) (fun _ _ _ _ _ _=>z6) (fun _ _ _ _ _ _=>(zg qc6 hr rfl (za (pv 1) zb)))) zb))) (zd (zA (i:=5) zE.nd rfl (Or.inl rfl) (yf (za (z8 (za (pv 2) (za ze zb))) (za (z8 (za (pv 3) (za ze zb))) (za (z8 (za (pv 4) (za ze zb))) (za (z8 (za (zg qc5 hr rfl (za (pv 0) (za ze (za (zi zo rfl B.len yO (za (pv 4) zb)) zb)))) (za ze zb))) (za (z8 (za (zg qc4 hr rfl (za (pv 0) zb)) (za ze zb))) zb))))))) (zd (zI (vF PySem.F.plainAttrs_list PySem.F.slot_list_append PySem.F.type_list_append yw (pv 5) (za (z8 (za (zD yp ze (zg qc0 hr rfl (za (pv 0) (za ze zb)))) (za ze zb))) zb))) (zd (zA (i:=6) zE.nd rfl (Or.inl rfl) (Ze zb)) (zd (vx PassesOwn.never rfl (ZZ false (K:=K) rfl rfl g_enumerate (za (pv 5) zb)) (vw rfl (zz (zr (i:=7) zE.nd rfl (Or.inl rfl)) (zz (vw rfl (zz (zr (i:=8) zE.nd rfl (Or.inl rfl)) (zz (zr (i:=9) zE.nd rfl (Or.inl rfl)) xg))) xg))) (zd (zM (zw yv (zK zU (pv 1) (pv 7) (fun _ _=>rfl)) ze (zC _)) (zf (zA (i:=8) zE.nd rfl (Or.inl rfl) (zg qc3 hr rfl (za (pv 0) (za (pv 8) (za (pv 9) zb)))))) zt) (zf (zI (vF PySem.F.plainAttrs_list PySem.F.slot_list_append PySem.F.type_list_append yw (pv 6) (za (pv 8) zb)))))) (zd (zA (i:=10) zE.nd rfl (Or.inl rfl) (zi (uy (K:=K) rfl hr) rfl B.repr Yq (za (pv 6) zb))) (zd (vx PassesOwn.never rfl (jk (zD rM (wX rfl rfl B.list rfl B.range (za ze zb)) (yf (za (zg qc0 hr rfl (za (pv 0) (za ze zb))) zb)))) (zr (i:=11) zE.nd rfl (Or.inl rfl)) (zf (zM (zw qv (zg qc1 hr rfl (za (pv 11) (za (pv 6) zb))) (zg qc2 hr rfl (za (pv 11) (za (pv 6) zb))) (zC _)) (zf (zm x6)) zt))) (zf (zm (xh yv (zi (uy (K:=K) rfl hr) rfl B.repr Yq (za (pv 6) zb)) (pv 10) (zC _)))))))))))))),?_⟩
 refine Za (fun v H'=>∃ (l:Addr) (bs:List Int),v = .ref l /\ H' l = some (.lst (bs.map V.int)) /\ l ∉ [a] /\ bs.length = 6 /\ Grow [a] H H' /\ Pot H' a) (fun Kk hk=>⟨_,rfl,by decide,by decide,vj (fun j ys H'=>∃ bs:List Int,ys = bs.map V.int /\ bs.length = j /\ Grow [a] H H' /\ Pot H' a) ⟨[],rfl,rfl,Grow.refl _ _,pp⟩ ?_ ?_⟩) ?_
 ·rintro j ys H1 hj ⟨bs,rfl,bl,g1,pp1⟩
  have j6:j < 6:=hj
  exact ⟨_,rfl,_,_,rfl,a,2,rfl,rfl,pp1,by decide,by decide,fun n H2 n0 n1 g2 pp2=>⟨zB (by rw [List.length_map]; omega),bs ++ [n],by rw [List.map_append]; rfl,by rw [List.length_append,bl]; rfl,g1.trans g2,pp2⟩⟩
 ·rintro ys H1 ⟨bs,rfl,bl,g1,pp1⟩ l hl
  exact hk _ _ ⟨l,bs,rfl,zc,fun z=>wx pp1 l z hl,bl,g1.trans (Grow.new hl _),pp1.new hl _⟩
 rintro _ H1 ⟨lw,bs,rfl,hw1,nw,bl,g1,pp1⟩
 refine Za (fun v H'=>∃ b,yh K H' v b /\ 1 <= b.length /\ b.length <= 16 /\ InB (10 ^ 30) b /\ Grow [a] H1 H' /\ Pot H' a) (fun Kk hk=>⟨_,rfl,_,rfl,a,rfl,pp1,fun y b H' g pp' hb b1 b16 bb=>hk _ _ ⟨b,hb,b1,b16,bb,g,pp'⟩⟩) ?_
 rintro yb H2 ⟨b,hb2,b1,b16,bb,g2,pp2⟩
 refine Za (fun v H'=>∃ ks,vL K H' v ks /\ ks.length <= 40 /\ (∀ k ∈ ks,ub b.length k /\ k.deed.Sm) /\ Grow [a] H2 H' /\ Pot H' a) (fun Kk hk=>⟨_,rfl,_,rfl,_,_,_,rfl,a,b,38,rfl,hb2,rfl,by decide,by decide,pp2,b1,b16,fun y ks H' g pp' hks k40 kok=>hk _ _ ⟨ks,hks,k40,kok,g,pp'⟩⟩) ?_
 rintro ya H3 ⟨ks,hks3,k40,kok,g3,pp3⟩
 refine Za (fun v H'=>∃ es,wV K H' v es /\ 1 <= es.length /\ es.length <= 38 /\ (∀ e ∈ es,e.Sm) /\ Grow [a] H3 H' /\ Pot H' a) (fun Kk hk=>⟨_,rfl,szl rfl,fun ln hln=>?_⟩) ?_
 ·have gln:=Grow.new (m:=[]) hln (.lst [.int 3,.int 9,.int 38])
  have nln:ln ∉ [a]:=fun z=>wx pp3 ln z hln
  have hn:=zc (H:=H3) (a:=ln) (o:=.lst [.int 3,.int 9,.int 38])
  have ppn:=pp3.grow gln
  generalize upd H3 ln _ = H4 at gln hn ppn ⊢
  refine ⟨_,rfl,_,_,rfl,a,3,rfl,rfl,ppn,by decide,by decide,fun n H5 n0 n1 g5 pp5=>?_⟩
  obtain ⟨M,hM,M3,M38⟩:∃ M:Int,atI ([.int 3,.int 9,.int 38]:List V) n = some (V.int M) /\ 3 <= M /\ M <= 37 + 1:=by
   obtain rfl | rfl | rfl:n = 0 \/ n = 1 \/ n = 2:=by omega
   ·exact ⟨3,rfl,by omega,by omega⟩
   ·exact ⟨9,rfl,by omega,by omega⟩
   ·exact ⟨38,rfl,by omega,by omega⟩
  refine ⟨ln,_,n,_,rfl,rfl,SqL.of (g5.keep _ _ nln hn),hM,_,_,rfl,a,M,rfl,rfl,pp5,by omega,by omega,fun n2 H6 n20 n21 g6 pp6=>⟨_,_,rfl,rfl,_,rfl,by omega,by omega,vj (fun j ys H'=>∃ es:List Deed,AllR (yg K H') ys es /\ es.length = j /\ (∀ e ∈ es,e.Sm) /\ Grow [a] H6 H' /\ Pot H' a) ⟨[],trivial,rfl,nofun,Grow.refl _ _,pp6⟩ ?_ ?_⟩⟩
  ·rintro j ys H7 hj ⟨es,ha,el,sm,g7,pp7⟩
   refine ⟨_,rfl,_,rfl,a,rfl,pp7,fun d y H8 dok dsm g8 pp8 hd=>⟨zB (by rw [ha.len]; omega),es ++ [d],(ha.imp fun _ _ z=>g8.deed z).app (AllR.one hd),by rw [List.length_append,el]; rfl,fun e he=>?_,g7.trans g8,pp8⟩⟩
   rcases List.mem_append.mp he with z | z
   ·exact sm e z
   ·rw [List.mem_singleton.mp z]; exact dsm
  ·rintro ys H7 ⟨es,ha,el,sm,g7,pp7⟩ l7 hl7
   refine ⟨l7,_,rfl,.inl ⟨SqL.of zc,fun r hr=>?_⟩⟩
   have g8:=(Grow.new (m:=[]) hl7 (.lst ys)).trans (Grow.new (m:=[]) hr (.tup ys))
   exact hk _ _ ⟨es,⟨r,ys,rfl,SqT.of zc,ha.imp fun _ _ z=>g8.deed z⟩,by omega,by omega,sm,gln.wk.trans (g5.trans (g6.trans (g7.trans g8.wk))),pp7.grow g8⟩
 rintro yd H4 ⟨es,hes4,e1,e38,esm,g4,pp4⟩
 obtain ⟨rd,xd,rfl,hrd,hxd⟩:=hes4
 have exl:=hxd.len
 refine Za (fun v H'=>∃ (l t1 t2 t3 t4 t5:Addr) (yt:V) (t:Tr) (n:Int),v = .ref l /\ H4 l = none /\ l ∉ [a] /\ H' l = some (.lst [.ref t1,.ref t2,.ref t3,.ref t4,.ref t5]) /\ SqT K H' t1 [yb,.int 2] /\ SqT K H' t2 [ya,.int 4] /\ SqT K H' t3 [.ref rd,.int 3] /\ SqT K H' t4 [yt,.int 9] /\ SqT K H' t5 [.int n,.int 0] /\ xu K H' yt t /\ t.count <= 40 /\ trB t /\ Sm n /\ Grow [a] H4 H' /\ Pot H' a) (fun Kk hk=>⟨_,rfl,szl rfl,fun t1 ht1=>⟨_,rfl,szl rfl,fun t2 ht2=>⟨_,rfl,szl rfl,fun t3 ht3=>?_⟩⟩⟩) ?_
 ·have q1:=Grow.new (m:=[]) ht1 (.tup [yb,.int 2])
  have q2:=Grow.new (m:=[]) ht2 (.tup [ya,.int 4])
  have q3:=Grow.new (m:=[]) ht3 (.tup [.ref rd,.int 3])
  have s1:=(q2.trans q3).sqT (SqT.of (K:=K) (zc (H:=H4) (a:=t1) (o:=.tup [yb,.int 2])))
  have s2:=q3.sqT (SqT.of (K:=K) (zc (H:=upd H4 t1 (.tup [yb,.int 2])) (a:=t2) (o:=.tup [ya,.int 4])))
  have s3:=SqT.of (K:=K) (zc (H:=upd (upd H4 t1 (.tup [yb,.int 2])) t2 (.tup [ya,.int 4])) (a:=t3) (o:=.tup [.ref rd,.int 3]))
  have G3:=q1.trans (q2.trans q3)
  have ppt:=pp4.grow G3
  generalize upd (upd (upd H4 t1 _) t2 _) t3 _ = H5 at s1 s2 s3 G3 ppt ⊢
  refine ⟨_,rfl,_,rfl,rd,_,rfl,.inr (G3.sqT hrd),_,_,_,rfl,a,0,(xd.length:Int),rfl,rfl,rfl,ppt,by decide,by omega,by omega,by omega,fun yt t H6 g6 pp6 hT ho hc hh tb=>⟨szl rfl,fun t4 ht4=>?_⟩⟩
  have q4:=Grow.new (m:=[]) ht4 (.tup [yt,.int 9])
  have s4:=SqT.of (K:=K) (zc (H:=H6) (a:=t4) (o:=.tup [yt,.int 9]))
  have pp4':=pp6.grow q4
  have hT':=q4.tree hT
  have G4:Grow [a] H4 (upd H6 t4 (.tup [yt,.int 9])):=G3.wk.trans (g6.trans q4.wk)
  have s1':=(g6.trans q4.wk).sqT s1
  have s2':=(g6.trans q4.wk).sqT s2
  have s3':=(g6.trans q4.wk).sqT s3
  generalize upd H6 t4 _ = H6' at s4 pp4' hT' G4 s1' s2' s3' ⊢
  refine ⟨_,rfl,_,rfl,a,rfl,pp4',fun n H7 sm g7 pp7=>⟨szl rfl,fun t5 ht5=>⟨szl rfl,fun l hl=>?_⟩⟩⟩
  have q5:=Grow.new (m:=[]) ht5 (.tup [.int n,.int 0])
  have q6:=Grow.new (m:=[]) hl (.lst [.ref t1,.ref t2,.ref t3,.ref t4,.ref t5])
  have nl:l ∉ [a]:=fun z=>wx (pp7.grow q5) l z hl
  have GG:Grow [a] H6' (upd (upd H7 t5 (.tup [.int n,.int 0])) l (.lst [.ref t1,.ref t2,.ref t3,.ref t4,.ref t5])):=g7.trans (q5.trans q6).wk
  exact hk _ _ ⟨l,t1,t2,t3,t4,t5,yt,t,n,rfl,(G4.trans (g7.trans q5.wk)).free nl hl,nl,zc,GG.sqT s1',GG.sqT s2',GG.sqT s3',GG.sqT s4,q6.sqT (SqT.of zc),GG.tree hT',by omega,tb,sm,G4.trans GG,(pp7.grow q5).grow q6⟩
 rintro _ H5 ⟨l,t1,t2,t3,t4,t5,yt,t,n,rfl,hl0,nl,hl5,s1,s2,s3,s4,s5,hT,hc,tb,sn,g5,pp5⟩
 refine ⟨_,rfl,.inl ⟨rfl,_,SqL.of hl5⟩,_,rfl,_,_,rfl,a,40,rfl,rfl,pp5,by decide,by decide,fun n6 H6 n60 n61 g6 pp6=>⟨_,_,rfl,rfl,szl rfl,fun t6 ht6=>?_⟩⟩
 have q6:=Grow.new (m:=[]) ht6 (.tup [.int (1 + n6),.int 0])
 have hl6:=q6.keep _ _ (by simp) (g6.keep _ _ nl hl5)
 refine ⟨l,_,_,rfl,rfl,hl6,zB (by show 5 <= 1000; decide),?_⟩
 have g7:Grow [l,a] H5 (upd (upd H6 t6 (.tup [.int (1 + n6),.int 0])) l (.lst ([.ref t1,.ref t2,.ref t3,.ref t4,.ref t5] ++ [.ref t6]))):=(g6.mono (by simp)).trans (q6.wk.trans (Grow.set hl6 (by simp) _))
 have s6:SqT K (upd (upd H6 t6 (.tup [.int (1 + n6),.int 0])) l (.lst ([.ref t1,.ref t2,.ref t3,.ref t4,.ref t5] ++ [.ref t6]))) t6 [.int (1 + n6),.int 0]:=(Grow.set (m:=[l]) hl6 (by simp) _).sqT (SqT.of zc)
 have pp7:Pot (upd (upd H6 t6 (.tup [.int (1 + n6),.int 0])) l (.lst ([.ref t1,.ref t2,.ref t3,.ref t4,.ref t5] ++ [.ref t6]))) a:=by
  obtain ⟨z0,z1,hz,z3⟩:=pp6.grow q6
  exact ⟨z0,z1,by rw [zp (show a ≠ l from fun z=>nl (by rw [z]; simp))]; exact hz,z3⟩
 have hl7:=zc (H:=upd H6 t6 (.tup [.int (1 + n6),.int 0])) (a:=l) (o:=.lst ([.ref t1,.ref t2,.ref t3,.ref t4,.ref t5] ++ [.ref t6]))
 generalize upd (upd H6 t6 _) l _ = H7 at g7 s6 pp7 hl7 ⊢
 refine ⟨szl rfl,fun lh hlh nb=>?_⟩
 have gh:=Grow.new (m:=[]) hlh (.lst [])
 have nlh:lh ∉ [a]:=fun z=>wx pp7 lh z hlh
 have nll:l ≠ lh:=fun z=>by rw [z,hlh] at hl7; cases hl7
 have g48:Grow [l,a] H4 (upd H7 lh (.lst [])):=(g5.mono (by simp)).trans (g7.trans gh.wk)
 have hw8:upd H7 lh (.lst []) lw = some (.lst (bs.map V.int)):=by
  refine (g48.keep _ _ ?_ ((g2.trans (g3.trans g4)).keep _ _ nw hw1))
  simp only [List.mem_cons,List.not_mem_nil,or_false,not_or]
  refine ⟨fun z=>?_,fun z=>nw (by rw [z]; simp)⟩
  have:=(g2.trans (g3.trans g4)).keep _ _ nw hw1
  rw [z,hl0] at this; cases this
 have hb8:=g48.board ((g3.trans g4).board hb2)
 have hk8:=g48.asks (g4.asks hks3)
 have hr8:=g48.sqT hrd
 have hx8:AllR (yg K (upd H7 lh (.lst []))) xd es:=hxd.imp fun _ _ z=>g48.deed z
 have G58:Grow [l,a] H5 (upd H7 lh (.lst [])):=g7.trans gh.wk
 have hl8:=gh.keep _ _ (by simp) hl7
 have pp8:=pp7.grow gh
 have hh8:=zc (H:=H7) (a:=lh) (o:=.lst [])
 have hlh4:H4 lh = none:=by
  cases qq:H4 lh with
  | none=>rfl
  | some o =>
   have:=((g5.mono (m':=[l,a]) (by simp)).trans g7).keep lh o (by simp only [List.mem_cons,List.not_mem_nil,or_false,not_or]; exact ⟨fun z=>nll z.symm,fun z=>nlh (by rw [z]; simp)⟩) qq
   rw [hlh] at this; cases this
 have items:AllR (qr K [lh,a] (upd H7 lh (.lst []))) ([.ref t1,.ref t2,.ref t3,.ref t4,.ref t5] ++ [.ref t6]) [(.tuple (b.map PyData.int),2),(jP ks,4),(.tuple (es.map vM),3),(trD t,9),(.int n,0),(.int (1 + n6),0)] :=
  ⟨⟨t1,yb,rfl,G58.sqT s1,qX hb8⟩,⟨t2,ya,rfl,G58.sqT s2,Zo hk8⟩,⟨t3,_,rfl,G58.sqT s3,.tup hr8 (ss hx8)⟩,⟨t4,yt,rfl,G58.sqT s4,vW (G58.tree hT)⟩,⟨t5,_,rfl,G58.sqT s5,.int _⟩,⟨t6,_,rfl,gh.sqT s6,.int _⟩,trivial⟩
 have gds:∀ p ∈ [((.tuple (b.map PyData.int):PyData),2),(jP ks,4),(.tuple (es.map vM),3),(trD t,9),(.int n,0),(.int (1 + n6),0)],GdD 0 40 400000 p.1 /\ p.2 <= 9:=by
  intro p hp
  simp only [List.mem_cons,List.not_mem_nil,or_false] at hp
  rcases hp with rfl | rfl | rfl | rfl | rfl | rfl
  ·exact ⟨(qY b16 bb).mono (Nat.le_refl _) (by decide) (Nat.le_refl _),Nat.le_of_ble_eq_true rfl⟩
  ·exact ⟨(Zp b16 (by omega) kok).mono (Nat.le_refl _) (by decide) (Nat.le_refl _),Nat.le_of_ble_eq_true rfl⟩
  ·exact ⟨Zw (by omega) esm,Nat.le_of_ble_eq_true rfl⟩
  ·exact ⟨Yf tb hc,Nat.le_of_ble_eq_true rfl⟩
  ·exact ⟨(xv (n:=0) (by have:=sn.1; omega) (by have:=sn.2; omega)).mono (Nat.le_refl _) (by decide) (by decide),Nat.le_of_ble_eq_true rfl⟩
  ·exact ⟨(xv (n:=0) (by omega) (by omega)).mono (Nat.le_refl _) (by decide) (by decide),Nat.le_of_ble_eq_true rfl⟩
 generalize hps:[((.tuple (b.map PyData.int):PyData),2),(jP ks,4),(.tuple (es.map vM),3),(trD t,9),(.int n,0),(.int (1 + n6),0)] = ps at items gds
 generalize hvs:([.ref t1,.ref t2,.ref t3,.ref t4,.ref t5] ++ [.ref t6]:List V) = vs at items hl8
 have vl:vs.length = 6:=by rw [← hvs]; rfl
 have psl:=items.len
 clear hps hvs hb8 hk8 hr8 hx8 G58 s1 s2 s3 s4 s5 s6 hT hl7 hl6 hl5 hks3 hb2 hrd hxd
 generalize upd H7 lh _ = H8 at g48 hw8 hl8 pp8 hh8 items ⊢
 have lmem:∀ z,z ≠ lh -> z ∉ [a] -> z ∉ [lh,a]:=fun z h1 h2 h3=>by
  rcases List.mem_cons.mp h3 with e | e
  ·exact h1 e
  ·exact h2 e
 have nlw:lw ≠ lh:=fun z=>by
  have:=(g2.trans (g3.trans g4)).keep _ _ nw hw1
  rw [z,hlh4] at this; cases this
 refine ⟨_,rfl,l,_,rfl,SqL.of hl8,jZ (xs:=vs) (fun i σ H'=>∃ (e7 e8 e9:Option V) (xs:List V) (ds:List PyData),σ = [some (.ref a),some (.ref lw),some yb,some ya,some (.ref rd),some (.ref l),some (.ref lh),e7,e8,e9,none,none] /\ H' lh = some (.lst xs) /\ Ods K [lh,a] H' xs ds /\ ds.length = i /\ (∀ d ∈ ds,GdD 1 43 840000 d) /\ Grow [lh,a] H8 H' /\ Pot H' a) ⟨_,_,_,[],[],rfl,hh8,.nil,rfl,nofun,Grow.refl _ _,pp8⟩ (fun i σ H' _ ⟨_,_,_,_,_,_,_,_,_,_,g,_⟩=>SqL.of (g.keep _ _ (lmem l nll nl) hl8)) ?_ ?_⟩
 ·rintro i v σ H9 T hv ⟨e7,e8,e9,xs,ds,rfl,hh9,os,dl,gd,g9,pp9⟩ hT
  obtain ⟨pq,hp,tt,x,rfl,ht,od⟩:=items.get hv
  have gp:=gds pq (List.mem_of_getElem? hp)
  have i6:i < 6:=by have:=(List.getElem?_eq_some_iff.mp hv).1; omega
  have gT:=Grow.new (m:=[]) hT (.tup [.int i,.ref tt])
  have hTT:=zc (H:=H9) (a:=T) (o:=.tup [.int i,.ref tt])
  have g10:=g9.trans (gT.wk (m:=[lh,a]))
  have hh10:=gT.keep _ _ (by simp) hh9
  have os10:=os.grow (gT.wk (m:=[lh,a]))
  have pp10:=pp9.grow gT
  generalize upd H9 T _ = H10 at gT hTT g10 hh10 os10 pp10 ⊢
  refine ⟨T,_,rfl,SqT.of hTT,rfl,_,_,rfl,_,_,rfl,tt,_,rfl,g10.sqT ht,rfl,_,_,rfl,_,_,rfl,rfl,rfl,?_⟩
  have od10:=od.grow g10
  have om10:∀ b ∈ [lh,a],H10 b ≠ none:=fun b hb=>by
   rcases List.mem_cons.mp hb with e | e
   ·rw [e,hh10]; exact fun z=>nomatch z
   ·exact wx pp10 b e
  refine c_if (fun σ' H'=>∃ (z:V) (dz:PyData),σ' = [some (.ref a),some (.ref lw),some yb,some ya,some (.ref rd),some (.ref l),some (.ref lh),some (.int i),some z,some (.int pq.2),none,none] /\ Od K [lh,a] H' z dz /\ GdD 1 43 840000 dz /\ Grow [a] H10 H' /\ Pot H' a) ?_ (fun kk=>?_)
  ·rintro σ' H11 ⟨z,dz,rfl,oz,gz,g11,pp11⟩
   have hh11:=g11.keep _ _ nlh hh10
   have os11:=os10.grow (g11.mono (m':=[lh,a]) (by simp))
   have ol:=os11.length
   refine ⟨_,rfl,.inl ⟨rfl,_,SqL.of hh11⟩,_,rfl,lh,_,_,rfl,rfl,hh11,zB (by omega),?_⟩
   have gs:Grow [lh,a] H11 (upd H11 lh (.lst (xs ++ [z]))):=Grow.set hh11 (by simp) _
   refine ⟨_,_,_,xs ++ [z],ds ++ [dz],rfl,zc,(os11.append (.cons oz .nil)).grow gs,by rw [List.length_append,dl]; rfl,fun d hd=>?_,g10.trans ((g11.mono (by simp)).trans gs),?_⟩
   ·rcases List.mem_append.mp hd with e | e
    ·exact gd d e
    ·rw [List.mem_singleton.mp e]; exact gz
   ·obtain ⟨z0,z1,hz,z3⟩:=pp11
    exact ⟨z0,z1,by rw [zp (show a ≠ lh from fun z=>nlh (by rw [z]; simp))]; exact hz,z3⟩
  ·have hw10:=g10.keep _ _ (lmem lw nlw nw) hw8
   obtain ⟨bi,hbi⟩:∃ bi,bs[i]? = some bi:=⟨_,List.getElem?_eq_getElem (by omega)⟩
   refine ⟨_,rfl,_,rfl,lw,_,i,.int bi,rfl,rfl,SqL.of hw10,zT (by rw [List.getElem?_map,hbi]; rfl),rfl,_,rfl,ite2 (fun c=>?_) (fun c=>?_)⟩
   ·exact ⟨_,rfl,_,rfl,_,rfl,_,_,_,rfl,a,pq.1,0,40,400000,pq.2,[lh,a],rfl,rfl,pp10,by simp,om10,od10,gp.1,by decide,by omega,by omega,by decide,fun z d' H' g pp' o gd'=>kk _ _ ⟨z,d',rfl,o,gd',g,pp'⟩⟩
   ·exact kk _ _ ⟨x,pq.1,rfl,od10,gp.1.mono (by decide) (by decide) (by decide),Grow.refl _ _,pp10⟩
 rintro σ H9 ⟨e7,e8,e9,xs,ds,rfl,hh9,os,dl,gd,g9,pp9⟩
 rw [vl] at dl
 have G9:Grow [lh,l,a] H4 H9:=(g48.mono (by simp)).trans (g9.mono (by simp))
 have osA:=os.less24 (m':=[a]) (by simp)
 have hD:Hd24 K [a] H9 lh xs ds:=⟨SqL.of hh9,osA,dl,fun d hd=>⟨(gd d hd).wt,Nat.le_trans (gd d hd).dp (by decide)⟩⟩
 have gL:GdD 1 44 6000000 (.list ds):=by
  have g:=xD gd
  rw [dl] at g
  exact g.lst.mono (Nat.le_refl _) (by decide) (by decide)
 obtain ⟨z1,z2,z3⟩:=gL.showsW (by decide) (by decide) (by decide)
 have oL:∀ H',Grow [] H9 H' -> Od K [a] H' (.ref lh) (.list ds):=fun H' g=>.lst (g.keep _ _ (by simp) hh9) nlh nb (osA.grow (g.wk (m:=[a])))
 refine ⟨_,rfl,_,_,[a],rfl,oL _ (Grow.refl _ _),z1,z2,z3,?_⟩
 refine ⟨8,rfl,by decide,fun l1 hl1=>?_⟩
 have r1:=Grow.new (m:=[]) hl1 (.lst ((List.range 8).map fun i:Nat=>V.int i))
 have hr1:=zc (H:=H9) (a:=l1) (o:=.lst ((List.range 8).map fun i:Nat=>V.int i))
 have n1':l1 ∉ [a]:=fun z=>wx pp9 l1 z hl1
 have pr1:=pp9.grow r1
 generalize upd H9 l1 _ = Ha at r1 hr1 pr1 ⊢
 refine ⟨_,rfl,_,_,rfl,a,8,rfl,rfl,pr1,by decide,by decide,fun n8 Hb n80 n81 gb ppb=>⟨szl rfl,fun l2 hl2=>?_⟩⟩
 have r2:=Grow.new (m:=[]) hl2 (.lst [.int n8])
 refine ⟨l1,l2,_,_,rfl,rfl,r2.keep _ _ (by simp) (gb.keep _ _ n1' hr1),zc,szl rfl,fun l3 hl3=>?_⟩
 have r3:=r2.trans (Grow.new (m:=[]) hl3 (.lst (((List.range 8).map fun i:Nat=>V.int i) ++ [.int n8])))
 have h3:=zc (H:=upd Hb l2 (.lst [.int n8])) (a:=l3) (o:=.lst (((List.range 8).map fun i:Nat=>V.int i) ++ [.int n8]))
 have ppc:=ppb.grow r3
 have Gc:Grow [a] H9 (upd (upd Hb l2 (.lst [.int n8])) l3 (.lst (((List.range 8).map fun i:Nat=>V.int i) ++ [.int n8]))):=r1.wk.trans (gb.trans r3.wk)
 generalize upd (upd Hb l2 _) l3 _ = Hc at r3 h3 ppc Gc ⊢
 have hhc:=Gc.keep _ _ nlh hh9
 have osC:=osA.grow Gc
 have hDc:Hd24 K [a] Hc lh xs ds:=⟨SqL.of hhc,osC,dl,hD.bd⟩
 have oLc:∀ H',Grow [] Hc H' -> Od K [a] H' (.ref lh) (.list ds):=fun H' g=>.lst (g.keep _ _ (by simp) hhc) nlh nb (osC.grow (g.wk (m:=[a])))
 refine ⟨l3,rfl,⟨_,SqL.of h3⟩,ZL (xs:=((List.range 8).map fun i:Nat=>V.int i) ++ [.int n8]) (fun i σ H'=>∃ (e7 e8 e9 e11:Option V),σ = [some (.ref a),some (.ref lw),some yb,some ya,some (.ref rd),some (.ref l),some (.ref lh),e7,e8,e9,some (.str (PyData.list ds).shown),e11] /\ Grow [] Hc H') ⟨_,_,_,_,rfl,Grow.refl _ _⟩ (fun i σ H' _ ⟨_,_,_,_,_,g⟩=>SqL.of (g.keep _ _ (by simp) h3)) ?_ ?_⟩
 ·rintro i v σ Hd hv ⟨e7,e8,e9,e11,rfl,gd'⟩
  obtain ⟨w,rfl,w8⟩:∃ w:Nat,v = .int w /\ w < 8:=by
   have hm:=List.mem_of_getElem? hv
   rcases List.mem_append.mp hm with z | z
   ·obtain ⟨w,hw,rfl⟩:=List.mem_map.mp z
    exact ⟨w,rfl,List.mem_range.mp hw⟩
   ·rw [List.mem_singleton.mp z]
    exact ⟨n8.toNat,congrArg V.int (by omega),by omega⟩
  refine ⟨_,rfl,_,rfl,_,_,rfl,w,lh,xs,ds,[a],rfl,w8,rfl,hDc.grow gd',fun He ge=>?_⟩
  refine ⟨_,rfl,_,rfl,_,_,rfl,w,lh,xs,ds,[a],rfl,w8,rfl,hDc.grow (gd'.trans ge),fun Hf gf=>?_⟩
  exact ⟨q8 _,_,rfl,zJ (by rw [decide_eq_true rfl]; rfl) ⟨_,_,_,_,rfl,gd'.trans (ge.trans gf)⟩⟩
 ·rintro σ Hd ⟨e7,e8,e9,e11,rfl,gd'⟩
  refine ⟨_,rfl,_,_,[a],rfl,oLc _ gd',z1,z2,z3,_,rfl,rfl,?_⟩
  rw [decide_eq_true rfl]
  have GH4:Grow [a] H H4:=g1.trans (g2.trans (g3.trans g4))
  have Gend:Grow [a] H4 Hd:=(G9.less (m':=[a]) fun b hb=>by
   simp only [List.mem_cons,List.not_mem_nil,or_false] at hb
   rcases hb with rfl | rfl | rfl
   ·exact .inr hlh4
   ·exact .inr hl0
   ·exact .inl (by simp)).trans (Gc.trans gd'.wk)
  exact q _ (GH4.trans Gend) (ppc.grow gd')
theorem xp:FnScope ["_law_script","_law_k","_law_primes","_law_cell"] ["_law_script","_law_k"] (zh (top 55)):=⟨rfl,rfl,rfl,by decide +kernel,rfl,by decide +kernel,by decide +kernel⟩
theorem rF (F:Fun K "_law_pot" "_law_pot" (top 55) f fd) (B:Blt mg)     :
  FnOk P w K mg base CX0 (n + 1) f fd ["_law_script","_law_k"] (Ys K):=by
 refine F.ok xp ym (fun cdv A outer s H vs Q E hr h=>?_)
 obtain ⟨x,y,rfl,a,ns,k,rfl,rfl,hs,k0,k1,q⟩:=h
 refine ⟨_,(zd (zA (i:=2) xp.nd rfl (Or.inl rfl) (yf (za ze (za ze (za ze (za ze (za ze (za ze (za ze (za ze zb)))))))))) (zd (zA (i:=3) xp.nd rfl (Or.inl rfl) ze) (zd (zM (zw vz (pv 1) (zi zo rfl B.len yO (za (pv 0) zb)) (zC _)) (zf (zA (i:=3) xp.nd rfl (Or.inl rfl) (zK zU (pv 0) (pv 1) (fun _ _=>rfl)))) zt) (zf (zm (yf (za (zi (vA rfl) rfl B.max YQ (za ze (za (zD yJ (pv 3) (zD vy ze ze)) zb))) (za (zD wn (zD vy (zD yp (zD yp (zD wn (pv 3) (zK zU (pv 2) (zD wn (pv 1) ze) (fun _ _=>rfl))) (zD x9 ze (pv 1))) ze) ze) (zK zU (pv 2) (zD wn (pv 1) ze) (fun _ _=>rfl))) zb)))))))),?_⟩
 refine ⟨szl rfl,fun lp hlp=>?_⟩
 have g0:Grow [] H _:=Grow.new hlp (.lst ([2147483629,2147483587,2147483579,2147483563,2147483549,2147483543,2147483497,2147483489].map V.int))
 have hlp2:=zc (H:=H) (a:=lp) (o:=.lst ([2147483629,2147483587,2147483579,2147483563,2147483549,2147483543,2147483497,2147483489].map V.int))
 obtain ⟨qq,hq,q0,q1⟩:∃ qq:Int,atI (([2147483629,2147483587,2147483579,2147483563,2147483549,2147483543,2147483497,2147483489]:List Int).map V.int) (k % 8) = some (V.int qq) /\ 0 < qq /\ qq < 2147483648:=by
  obtain h | h | h | h | h | h | h | h:k % 8 = 0 \/ k % 8 = 1 \/ k % 8 = 2 \/ k % 8 = 3 \/ k % 8 = 4 \/ k % 8 = 5 \/ k % 8 = 6 \/ k % 8 = 7:=by omega
  all_goals (rw [h]; exact ⟨_,rfl,by decide,by decide⟩)
 have hs2:=(g0.scr hs).sq
 have hl:(ns.map V.int).length = ns.length:=List.length_map ..
 refine ⟨_,rfl,_,rfl,a,_,rfl,.inl hs2,_,_,rfl,rfl,_,rfl,?_⟩
 by_cases c:k < ((ns.map V.int).length:Int)
 ·refine zO (decide_eq_true c) ?_
  have hj:k.toNat < ns.length:=by omega
  refine ⟨_,rfl,_,rfl,a,_,_,V.int ns[k.toNat],rfl,rfl,hs2,sP (vK k0 (by omega)) (by rw [List.getElem?_map,List.getElem?_eq_getElem hj]; rfl),?_⟩
  refine ⟨_,rfl,_,_,rfl,rfl,⟨by decide,by decide,by decide⟩,_,_,rfl,rfl,_,_,rfl,?_⟩
  refine ⟨_,rfl,_,rfl,_,rfl,_,_,rfl,rfl,(by show (0:Int) < 8; decide),lp,_,_,_,rfl,rfl,SqL.of hlp2,hq,_,_,rfl,rfl,q0,?_⟩
  refine ⟨_,rfl,_,_,rfl,rfl,XC ⟨by decide,by decide⟩ ⟨by omega,by omega⟩,_,_,rfl,rfl,_,_,rfl,rfl,_,_,rfl,rfl,⟨by decide,by decide,?_⟩,?_⟩
  ·have e0:0 <= ns[k.toNat] % qq:=Int.emod_nonneg _ (by omega)
   have e1:ns[k.toNat] % qq < qq:=Int.emod_lt_of_pos _ q0
   show (ns[k.toNat] % qq + 7919 * k + 5).natAbs < 2 ^ 64
   omega
  refine ⟨_,rfl,_,rfl,_,_,rfl,rfl,(by show (0:Int) < 8; decide),lp,_,_,_,rfl,rfl,SqL.of hlp2,hq,_,_,rfl,rfl,q0,szl rfl,fun p hp=>?_⟩
  refine q p _ (g0.free (by simp) hp) (g0.trans (Grow.new hp _)) ⟨_,_,zc,?_⟩
  show 0 <= (if (ns[k.toNat] - 10 ^ (18:Int).toNat) > 0 then _ else _)
  split <;> omega
 ·refine zJ (decide_eq_false c) ?_
  refine ⟨_,rfl,_,_,rfl,rfl,⟨by decide,by decide,by decide⟩,_,_,rfl,rfl,_,_,rfl,?_⟩
  refine ⟨_,rfl,_,rfl,_,rfl,_,_,rfl,rfl,(by show (0:Int) < 8; decide),lp,_,_,_,rfl,rfl,SqL.of hlp2,hq,_,_,rfl,rfl,q0,?_⟩
  refine ⟨_,rfl,_,_,rfl,rfl,XC ⟨by decide,by decide⟩ ⟨by omega,by omega⟩,_,_,rfl,rfl,_,_,rfl,rfl,_,_,rfl,rfl,⟨by decide,by decide,?_⟩,?_⟩
  ·have e0:0 <= (0:Int) % qq:=Int.emod_nonneg _ (by omega)
   have e1:(0:Int) % qq < qq:=Int.emod_lt_of_pos _ q0
   show ((0:Int) % qq + 7919 * k + 5).natAbs < 2 ^ 64
   omega
  refine ⟨_,rfl,_,rfl,_,_,rfl,rfl,(by show (0:Int) < 8; decide),lp,_,_,_,rfl,rfl,SqL.of hlp2,hq,_,_,rfl,rfl,q0,szl rfl,fun p hp=>?_⟩
  refine q p _ (g0.free (by simp) hp) (g0.trans (Grow.new hp _)) ⟨_,_,zc,?_⟩
  show 0 <= (if ((0:Int) - 10 ^ (18:Int).toNat) > 0 then _ else _)
  split <;> omega
theorem X9:FnScope ["_law_script"] ["_law_script"] (zh (top 75)):=⟨rfl,rfl,rfl,by decide +kernel,rfl,by decide +kernel,by decide +kernel⟩
theorem Wa (F:Fun K "law" "law" (top 75) f fd) (B:Blt mg) (qc0:zj P w K mg base n "_law_right" ["_law_pot_here"] (uD K)) (qc1:zj P w K mg base n "_law_pot" ["_law_script","_law_k"] (Ys K))    :
  FnOk P w K mg base CX0 (n + 1) f fd ["_law_script"] (rN K):=by
 refine F.ok X9 yB (fun cdv A outer s H vs Q E hr h=>?_)
 obtain ⟨x,rfl,a,ns,rfl,hs,h63,q⟩:=h
 refine ⟨_,(zf (zm (zi (yi rfl) rfl B.all v8 (za (yl (CSc.of (N':=["_law_k","_law_script"]) (sub:=[none,some 0]) (zh (top 75)) ["_law_script"] rfl rfl (by decide +kernel) rfl) rfl (yX rfl B.range (za (zi (vA rfl) rfl B.max YQ (za ze (za (zi (tH rfl) rfl B.min XB (za (zi zo rfl B.len yO (za (pv 0) zb)) (za ze zb))) zb))) zb)) (fun _ _ _ _ _ _=>zr (i:=0) (show (["_law_k","_law_script"]:List Str).Nodup by decide +kernel) rfl (Or.inl rfl)) (fun _ _ _ _ _ _=>z6) (fun _ _ _ _ _ _=>(zg qc0 hr rfl (za (zg qc1 hr rfl (za (pv 1) (za (pv 0) zb))) zb)))) zb)))),?_⟩
 have hl:(ns.map V.int).length = ns.length:=List.length_map ..
 refine ⟨_,rfl,a,_,rfl,.inl hs.sq,_,_,rfl,_,_,rfl,_,rfl,?_,?_,vj (fun j ys H'=>Grow [] H H' /\ ys = (List.replicate j true).map V.bl) ⟨Grow.refl _ _,rfl⟩ ?_ ?_⟩
 ·split <;> split <;> omega
 ·rw [hl]; split <;> split <;> omega
 ·rintro j ys H1 hj ⟨g,rfl⟩
  have j63:j < 1000:=by
   have hj':=hj
   revert hj'
   split <;> split <;> omega
  refine ⟨_,rfl,_,rfl,_,_,rfl,a,ns,_,rfl,rfl,g.scr hs,by omega,by omega,fun pot H2 hp g2 pp=>?_⟩
  refine ⟨_,rfl,pot,rfl,pp,fun H3 g3 pp3=>⟨zB (by rw [List.length_map,List.length_replicate]; omega),g.trans ((g2.wk.trans g3).fresh fun z hz=>by rw [List.mem_singleton.mp hz]; exact hp),?_⟩⟩
  rw [List.replicate_succ',List.map_append]; rfl
 ·rintro ys H1 ⟨g,rfl⟩ l hl1
  refine ⟨l,_,rfl,SqL.of zc,?_⟩
  have e:∀ n:Nat,(List.replicate n true).all id = true:=fun n=>by rw [List.all_eq_true]; intro b hb; exact List.eq_of_mem_replicate hb
  rw [e]
  exact q _
end
theorem z5:∀ {us:List Value},us.length = 1 -> ∃ x0,us = [x0]
 | [x0],_=>⟨x0,rfl⟩
theorem zQ:∀ {us:List Value},us.length = 2 -> ∃ x0,∃ x1,us = [x0,x1]
 | [x0,x1],_=>⟨x0,x1,rfl⟩
theorem wT:∀ {us:List Value},us.length = 3 -> ∃ x0,∃ x1,∃ x2,us = [x0,x1,x2]
 | [x0,x1,x2],_=>⟨x0,x1,x2,rfl⟩
theorem Xi:∀ {us:List Value},us.length = 4 -> ∃ x0,∃ x1,∃ x2,∃ x3,us = [x0,x1,x2,x3]
 | [x0,x1,x2,x3],_=>⟨x0,x1,x2,x3,rfl⟩
def FA (K:FG7) (x:Str) (t:Stmt) (f:Addr) (d:FuncData):Prop:=PySem.W.nsIn K mainGlobals x = some (some (.ref f)) /\ Fun K x x t f d
theorem FA.cl {P:Program} {w:World} {K:FG7} {h base:Heap} {mg:Str -> Option Value} {x:Str} {t:Stmt} {f:Addr} {d:FuncData} {k:Nat} {ps:List Str} {sp:Sp} (a:FA K x t f d) (X:K.In h) (G:h.Ns mainGlobals mg) (F:FnOk P w K mg base CX0 k f d ps sp) (b:xV K d ps []):zj P w K mg base k x ps sp:=⟨_,_,F,b,a.2.kp,PySem.W.mg_of X G a.1⟩
theorem all_mk {l:PySem.W.OpenLaw} {w:World} {K:FG7} {h:Heap} {mg:Str -> Option Value} {fa f1 f2 f3 f4 f5 f6 f7 f8 f9 f10 f11 f12 f13 f14 f15 f16 f17 f18 f19 f20 f21 f22 f23 f24 f25 f26 f27 f28 f29 f30 f31 f32 f33 f34 f35 f36 f37 f38 f39 f40 f41 f42 f43 f44 f45 f46 f47 f48 f49:Addr} (X:K.In h) (G:h.Ns mainGlobals mg) (hfa:mg "law" = some (.ref fa))
    {d1 d2 d3 d4 d5 d6 d7 d8 d9 d10 d11 d12 d13 d14 d15 d16 d17 d18 d19 d20 d21 d22 d23 d24 d25 d26 d27 d28 d29 d30 d31 d32 d33 d34 d35 d36 d37 d38 d39 d40 d41 d42 d43 d44 d45 d46 d47 d48 d49:FuncData}
    {A_AskError:Addr} (ax_AskError:PySem.W.nsIn K mainGlobals "AskError" = some (some (.ref A_AskError)))
    {A_NoAsk:Addr} (ax_NoAsk:PySem.W.nsIn K mainGlobals "NoAsk" = some (some (.ref A_NoAsk)))
    {A_NoBoard:Addr} (ax_NoBoard:PySem.W.nsIn K mainGlobals "NoBoard" = some (some (.ref A_NoBoard)))
    {A_NoCalls:Addr} (ax_NoCalls:PySem.W.nsIn K mainGlobals "NoCalls" = some (some (.ref A_NoCalls)))
    {A_NoDeed:Addr} (ax_NoDeed:PySem.W.nsIn K mainGlobals "NoDeed" = some (some (.ref A_NoDeed)))
    {A_NoHand:Addr} (ax_NoHand:PySem.W.nsIn K mainGlobals "NoHand" = some (some (.ref A_NoHand)))
    {A_NoNet:Addr} (ax_NoNet:PySem.W.nsIn K mainGlobals "NoNet" = some (some (.ref A_NoNet)))
    {A_NoNumber:Addr} (ax_NoNumber:PySem.W.nsIn K mainGlobals "NoNumber" = some (some (.ref A_NoNumber)))
    {A_NoOrder:Addr} (ax_NoOrder:PySem.W.nsIn K mainGlobals "NoOrder" = some (some (.ref A_NoOrder)))
    {A_NoRow:Addr} (ax_NoRow:PySem.W.nsIn K mainGlobals "NoRow" = some (some (.ref A_NoRow)))
    {A_NoSettings:Addr} (ax_NoSettings:PySem.W.nsIn K mainGlobals "NoSettings" = some (some (.ref A_NoSettings)))
    {A_NoSide:Addr} (ax_NoSide:PySem.W.nsIn K mainGlobals "NoSide" = some (some (.ref A_NoSide)))
    {A_NoTable:Addr} (ax_NoTable:PySem.W.nsIn K mainGlobals "NoTable" = some (some (.ref A_NoTable)))
    {A_NoText:Addr} (ax_NoText:PySem.W.nsIn K mainGlobals "NoText" = some (some (.ref A_NoText)))
    {A_NoToken:Addr} (ax_NoToken:PySem.W.nsIn K mainGlobals "NoToken" = some (some (.ref A_NoToken)))
    {A_NoTree:Addr} (ax_NoTree:PySem.W.nsIn K mainGlobals "NoTree" = some (some (.ref A_NoTree)))
    {A_TooMany:Addr} (ax_TooMany:PySem.W.nsIn K mainGlobals "TooMany" = some (some (.ref A_TooMany)))
    {A_ahead_of:Addr} (ax_ahead_of:PySem.W.nsIn K mainGlobals "ahead_of" = some (some (.ref A_ahead_of)))
    {A_all_of:Addr} (ax_all_of:PySem.W.nsIn K mainGlobals "all_of" = some (some (.ref A_all_of)))
    {A_chained:Addr} (ax_chained:PySem.W.nsIn K mainGlobals "chained" = some (some (.ref A_chained)))
    {A_halved:Addr} (ax_halved:PySem.W.nsIn K mainGlobals "halved" = some (some (.ref A_halved)))
    {A_played:Addr} (ax_played:PySem.W.nsIn K mainGlobals "played" = some (some (.ref A_played)))
    (ex_AskError:PySem.W.excIn K A_AskError veM "ValueError.__new__" = true)
    (ex_NoAsk:PySem.W.excIn K A_NoAsk veM "ValueError.__new__" = true)
    (ex_NoBoard:PySem.W.excIn K A_NoBoard veM "ValueError.__new__" = true)
    (ex_NoDeed:PySem.W.excIn K A_NoDeed veM "ValueError.__new__" = true)
    (ex_NoNumber:PySem.W.excIn K A_NoNumber veM "ValueError.__new__" = true)
    (ex_NoTree:PySem.W.excIn K A_NoTree veM "ValueError.__new__" = true)
    (u_NoAsk_AskError:PySem.W.mroIn K A_NoAsk (.ref A_AskError) = some true)
    (u_NoBoard_AskError:PySem.W.mroIn K A_NoBoard (.ref A_AskError) = some true)
    (u_NoDeed_AskError:PySem.W.mroIn K A_NoDeed (.ref A_AskError) = some true)
    (u_NoNumber_AskError:PySem.W.mroIn K A_NoNumber (.ref A_AskError) = some true)
    (u_NoTree_AskError:PySem.W.mroIn K A_NoTree (.ref A_AskError) = some true)
    (kk_NoAsk:ExcK K A_NoAsk)
    (kk_NoBoard:ExcK K A_NoBoard)
    (kk_NoDeed:ExcK K A_NoDeed)
    (kk_NoNumber:ExcK K A_NoNumber)
    (kk_NoTree:ExcK K A_NoTree)
    (q_NoAsk_NoAsk:PySem.W.kitOne K (.ref A_NoAsk) (.ref A_NoAsk) = some true)
    (q_NoAsk_NoBoard:PySem.W.kitOne K (.ref A_NoAsk) (.ref A_NoBoard) = some false)
    (q_NoAsk_NoCalls:PySem.W.kitOne K (.ref A_NoAsk) (.ref A_NoCalls) = some false)
    (q_NoAsk_NoDeed:PySem.W.kitOne K (.ref A_NoAsk) (.ref A_NoDeed) = some false)
    (q_NoAsk_NoHand:PySem.W.kitOne K (.ref A_NoAsk) (.ref A_NoHand) = some false)
    (q_NoAsk_NoNet:PySem.W.kitOne K (.ref A_NoAsk) (.ref A_NoNet) = some false)
    (q_NoAsk_NoNumber:PySem.W.kitOne K (.ref A_NoAsk) (.ref A_NoNumber) = some false)
    (q_NoAsk_NoOrder:PySem.W.kitOne K (.ref A_NoAsk) (.ref A_NoOrder) = some false)
    (q_NoAsk_NoRow:PySem.W.kitOne K (.ref A_NoAsk) (.ref A_NoRow) = some false)
    (q_NoAsk_NoSettings:PySem.W.kitOne K (.ref A_NoAsk) (.ref A_NoSettings) = some false)
    (q_NoAsk_NoSide:PySem.W.kitOne K (.ref A_NoAsk) (.ref A_NoSide) = some false)
    (q_NoAsk_NoTable:PySem.W.kitOne K (.ref A_NoAsk) (.ref A_NoTable) = some false)
    (q_NoAsk_NoText:PySem.W.kitOne K (.ref A_NoAsk) (.ref A_NoText) = some false)
    (q_NoAsk_NoToken:PySem.W.kitOne K (.ref A_NoAsk) (.ref A_NoToken) = some false)
    (q_NoAsk_NoTree:PySem.W.kitOne K (.ref A_NoAsk) (.ref A_NoTree) = some false)
    (q_NoAsk_TooMany:PySem.W.kitOne K (.ref A_NoAsk) (.ref A_TooMany) = some false)
    (q_NoAsk_ValueError:PySem.W.kitOne K (.ref A_NoAsk) (.type "ValueError") = some true)
    (q_NoBoard_NoAsk:PySem.W.kitOne K (.ref A_NoBoard) (.ref A_NoAsk) = some false)
    (q_NoBoard_NoBoard:PySem.W.kitOne K (.ref A_NoBoard) (.ref A_NoBoard) = some true)
    (q_NoBoard_NoCalls:PySem.W.kitOne K (.ref A_NoBoard) (.ref A_NoCalls) = some false)
    (q_NoBoard_NoDeed:PySem.W.kitOne K (.ref A_NoBoard) (.ref A_NoDeed) = some false)
    (q_NoBoard_NoHand:PySem.W.kitOne K (.ref A_NoBoard) (.ref A_NoHand) = some false)
    (q_NoBoard_NoNet:PySem.W.kitOne K (.ref A_NoBoard) (.ref A_NoNet) = some false)
    (q_NoBoard_NoNumber:PySem.W.kitOne K (.ref A_NoBoard) (.ref A_NoNumber) = some false)
    (q_NoBoard_NoOrder:PySem.W.kitOne K (.ref A_NoBoard) (.ref A_NoOrder) = some false)
    (q_NoBoard_NoRow:PySem.W.kitOne K (.ref A_NoBoard) (.ref A_NoRow) = some false)
    (q_NoBoard_NoSettings:PySem.W.kitOne K (.ref A_NoBoard) (.ref A_NoSettings) = some false)
    (q_NoBoard_NoSide:PySem.W.kitOne K (.ref A_NoBoard) (.ref A_NoSide) = some false)
    (q_NoBoard_NoTable:PySem.W.kitOne K (.ref A_NoBoard) (.ref A_NoTable) = some false)
    (q_NoBoard_NoText:PySem.W.kitOne K (.ref A_NoBoard) (.ref A_NoText) = some false)
    (q_NoBoard_NoToken:PySem.W.kitOne K (.ref A_NoBoard) (.ref A_NoToken) = some false)
    (q_NoBoard_NoTree:PySem.W.kitOne K (.ref A_NoBoard) (.ref A_NoTree) = some false)
    (q_NoBoard_TooMany:PySem.W.kitOne K (.ref A_NoBoard) (.ref A_TooMany) = some false)
    (q_NoBoard_ValueError:PySem.W.kitOne K (.ref A_NoBoard) (.type "ValueError") = some true)
    (q_NoDeed_NoAsk:PySem.W.kitOne K (.ref A_NoDeed) (.ref A_NoAsk) = some false)
    (q_NoDeed_NoBoard:PySem.W.kitOne K (.ref A_NoDeed) (.ref A_NoBoard) = some false)
    (q_NoDeed_NoCalls:PySem.W.kitOne K (.ref A_NoDeed) (.ref A_NoCalls) = some false)
    (q_NoDeed_NoDeed:PySem.W.kitOne K (.ref A_NoDeed) (.ref A_NoDeed) = some true)
    (q_NoDeed_NoHand:PySem.W.kitOne K (.ref A_NoDeed) (.ref A_NoHand) = some false)
    (q_NoDeed_NoNet:PySem.W.kitOne K (.ref A_NoDeed) (.ref A_NoNet) = some false)
    (q_NoDeed_NoNumber:PySem.W.kitOne K (.ref A_NoDeed) (.ref A_NoNumber) = some false)
    (q_NoDeed_NoOrder:PySem.W.kitOne K (.ref A_NoDeed) (.ref A_NoOrder) = some false)
    (q_NoDeed_NoRow:PySem.W.kitOne K (.ref A_NoDeed) (.ref A_NoRow) = some false)
    (q_NoDeed_NoSettings:PySem.W.kitOne K (.ref A_NoDeed) (.ref A_NoSettings) = some false)
    (q_NoDeed_NoSide:PySem.W.kitOne K (.ref A_NoDeed) (.ref A_NoSide) = some false)
    (q_NoDeed_NoTable:PySem.W.kitOne K (.ref A_NoDeed) (.ref A_NoTable) = some false)
    (q_NoDeed_NoText:PySem.W.kitOne K (.ref A_NoDeed) (.ref A_NoText) = some false)
    (q_NoDeed_NoToken:PySem.W.kitOne K (.ref A_NoDeed) (.ref A_NoToken) = some false)
    (q_NoDeed_NoTree:PySem.W.kitOne K (.ref A_NoDeed) (.ref A_NoTree) = some false)
    (q_NoDeed_TooMany:PySem.W.kitOne K (.ref A_NoDeed) (.ref A_TooMany) = some false)
    (q_NoDeed_ValueError:PySem.W.kitOne K (.ref A_NoDeed) (.type "ValueError") = some true)
    (q_NoNumber_NoAsk:PySem.W.kitOne K (.ref A_NoNumber) (.ref A_NoAsk) = some false)
    (q_NoNumber_NoBoard:PySem.W.kitOne K (.ref A_NoNumber) (.ref A_NoBoard) = some false)
    (q_NoNumber_NoCalls:PySem.W.kitOne K (.ref A_NoNumber) (.ref A_NoCalls) = some false)
    (q_NoNumber_NoDeed:PySem.W.kitOne K (.ref A_NoNumber) (.ref A_NoDeed) = some false)
    (q_NoNumber_NoHand:PySem.W.kitOne K (.ref A_NoNumber) (.ref A_NoHand) = some false)
    (q_NoNumber_NoNet:PySem.W.kitOne K (.ref A_NoNumber) (.ref A_NoNet) = some false)
    (q_NoNumber_NoNumber:PySem.W.kitOne K (.ref A_NoNumber) (.ref A_NoNumber) = some true)
    (q_NoNumber_NoOrder:PySem.W.kitOne K (.ref A_NoNumber) (.ref A_NoOrder) = some false)
    (q_NoNumber_NoRow:PySem.W.kitOne K (.ref A_NoNumber) (.ref A_NoRow) = some false)
    (q_NoNumber_NoSettings:PySem.W.kitOne K (.ref A_NoNumber) (.ref A_NoSettings) = some false)
    (q_NoNumber_NoSide:PySem.W.kitOne K (.ref A_NoNumber) (.ref A_NoSide) = some false)
    (q_NoNumber_NoTable:PySem.W.kitOne K (.ref A_NoNumber) (.ref A_NoTable) = some false)
    (q_NoNumber_NoText:PySem.W.kitOne K (.ref A_NoNumber) (.ref A_NoText) = some false)
    (q_NoNumber_NoToken:PySem.W.kitOne K (.ref A_NoNumber) (.ref A_NoToken) = some false)
    (q_NoNumber_NoTree:PySem.W.kitOne K (.ref A_NoNumber) (.ref A_NoTree) = some false)
    (q_NoNumber_TooMany:PySem.W.kitOne K (.ref A_NoNumber) (.ref A_TooMany) = some false)
    (q_NoNumber_ValueError:PySem.W.kitOne K (.ref A_NoNumber) (.type "ValueError") = some true)
    (q_NoTree_NoAsk:PySem.W.kitOne K (.ref A_NoTree) (.ref A_NoAsk) = some false)
    (q_NoTree_NoBoard:PySem.W.kitOne K (.ref A_NoTree) (.ref A_NoBoard) = some false)
    (q_NoTree_NoCalls:PySem.W.kitOne K (.ref A_NoTree) (.ref A_NoCalls) = some false)
    (q_NoTree_NoDeed:PySem.W.kitOne K (.ref A_NoTree) (.ref A_NoDeed) = some false)
    (q_NoTree_NoHand:PySem.W.kitOne K (.ref A_NoTree) (.ref A_NoHand) = some false)
    (q_NoTree_NoNet:PySem.W.kitOne K (.ref A_NoTree) (.ref A_NoNet) = some false)
    (q_NoTree_NoNumber:PySem.W.kitOne K (.ref A_NoTree) (.ref A_NoNumber) = some false)
    (q_NoTree_NoOrder:PySem.W.kitOne K (.ref A_NoTree) (.ref A_NoOrder) = some false)
    (q_NoTree_NoRow:PySem.W.kitOne K (.ref A_NoTree) (.ref A_NoRow) = some false)
    (q_NoTree_NoSettings:PySem.W.kitOne K (.ref A_NoTree) (.ref A_NoSettings) = some false)
    (q_NoTree_NoSide:PySem.W.kitOne K (.ref A_NoTree) (.ref A_NoSide) = some false)
    (q_NoTree_NoTable:PySem.W.kitOne K (.ref A_NoTree) (.ref A_NoTable) = some false)
    (q_NoTree_NoText:PySem.W.kitOne K (.ref A_NoTree) (.ref A_NoText) = some false)
    (q_NoTree_NoToken:PySem.W.kitOne K (.ref A_NoTree) (.ref A_NoToken) = some false)
    (q_NoTree_NoTree:PySem.W.kitOne K (.ref A_NoTree) (.ref A_NoTree) = some true)
    (q_NoTree_TooMany:PySem.W.kitOne K (.ref A_NoTree) (.ref A_TooMany) = some false)
    (q_NoTree_ValueError:PySem.W.kitOne K (.ref A_NoTree) (.type "ValueError") = some true)
 (h1:FA K "_law_draw" ((top 56)) f1 d1)
 (h2:FA K "made" ((top 26)) f2 d2)
 (h3:FA K "is_whole" ((top 19)) f3 d3)
 (h4:FA K "is_end" ((top 23)) f4 d4)
 (h5:FA K "is_deed" ((top 24)) f5 d5)
 (h6:FA K "is_within" ((top 20)) f6 d6)
 (h7:FA K "is_ask" ((top 47)) f7 d7)
 (h8:FA K "is_board" ((top 45)) f8 d8)
 (h9:FA K "need_board" ((top 46)) f9 d9)
 (h10:FA K "are_asks" ((top 48)) f10 d10)
 (h11:FA K "need_asks" ((top 49)) f11 d11)
 (h12:FA K "played" ((top 50)) f12 d12)
 (h13:FA K "tidy" ((top 27)) f13 d13)
 (h14:FA K "joined" ((top 28)) f14 d14)
 (h15:FA K "gathered" ((top 51)) f15 d15)
 (h16:FA K "all_of" ((top 52)) f16 d16)
 (h17:FA K "ahead_of" ((top 53)) f17 d17)
 (h18:FA K "deed_of" ((top 35)) f18 d18)
 (h19:FA K "need_many" ((top 31)) f19 d19)
 (h20:FA K "is_tree" ((top 32)) f20 d20)
 (h21:FA K "need_tree" ((top 34)) f21 d21)
 (h22:FA K "need_deeds" ((top 33)) f22 d22)
 (h23:FA K "folded" ((top 36)) f23 d23)
 (h24:FA K "share" ((top 37)) f24 d24)
 (h25:FA K "need_value" ((top 25)) f25 d25)
 (h26:FA K "shared_out" ((top 38)) f26 d26)
 (h27:FA K "halved_from" ((top 39)) f27 d27)
 (h28:FA K "halved" ((top 40)) f28 d28)
 (h29:FA K "chained" ((top 41)) f29 d29)
 (h30:FA K "_law_word" ((top 72)) f30 d30)
 (h31:FA K "_law_is_whole" ((top 61)) f31 d31)
 (h32:FA K "_law_leaves" ((top 69)) f32 d32)
 (h33:FA K "_law_is_tree" ((top 70)) f33 d33)
 (h34:FA K "_law_is_deed" ((top 62)) f34 d34)
 (h35:FA K "_law_are_deeds" ((top 71)) f35 d35)
 (h36:FA K "_law_is_ask" ((top 64)) f36 d36)
 (h37:FA K "_law_are_asks" ((top 65)) f37 d37)
 (h38:FA K "_law_is_board" ((top 63)) f38 d38)
 (h39:FA K "_law_due" ((top 73)) f39 d39)
 (h40:FA K "_law_other" ((top 66)) f40 d40)
 (h41:FA K "_law_bent" ((top 67)) f41 d41)
 (h42:FA K "_law_number" ((top 57)) f42 d42)
 (h43:FA K "_law_tree" ((top 68)) f43 d43)
 (h44:FA K "_law_deed" ((top 58)) f44 d44)
 (h45:FA K "_law_asks" ((top 60)) f45 d45)
 (h46:FA K "_law_board" ((top 59)) f46 d46)
 (h47:FA K "_law_right" ((top 74)) f47 d47)
 (h48:FA K "_law_pot" ((top 55)) f48 d48)
 (h49:FA K "law" ((top 75)) f49 d49)
    {t_LAST_HAND:Tok} (ga_LAST_HAND:PySem.W.nsIn K mainGlobals "LAST_HAND" = some (some (.int 15 t_LAST_HAND)))
    {t_LOOK:Tok}
    {a_LOOK:Addr} {v_LOOK:Array (Option Value)} {n_LOOK:Nat} {o_LOOK:Option Addr} (ga_LOOK:PySem.W.nsIn K mainGlobals "LOOK" = some (some (.ref a_LOOK))) (gl_LOOK:K.lookup a_LOOK = some ⟨.type "tuple",o_LOOK,.seq #[.int 0 t_LOOK,.none,.none] n_LOOK,v_LOOK⟩)
    {t_MOST_BOXES:Tok} (ga_MOST_BOXES:PySem.W.nsIn K mainGlobals "MOST_BOXES" = some (some (.int 16 t_MOST_BOXES)))
    {t_MOST_DEEDS:Tok} (ga_MOST_DEEDS:PySem.W.nsIn K mainGlobals "MOST_DEEDS" = some (some (.int 40 t_MOST_DEEDS)))
    (ga_ValueError:PySem.W.nsIn K mainGlobals "ValueError" = some none)
    (ga_enumerate:PySem.W.nsIn K mainGlobals "enumerate" = some none)
    (z_abs:PySem.W.nsIn K mainGlobals "abs" = some none)
    (z_len:PySem.W.nsIn K mainGlobals "len" = some none)
    (z_max:PySem.W.nsIn K mainGlobals "max" = some none)
    (z_min:PySem.W.nsIn K mainGlobals "min" = some none)
    (z_divmod:PySem.W.nsIn K mainGlobals "divmod" = some none)
    (z_repr:PySem.W.nsIn K mainGlobals "repr" = some none)
    (z_isinstance:PySem.W.nsIn K mainGlobals "isinstance" = some none)
    (z_all:PySem.W.nsIn K mainGlobals "all" = some none)
    (z_range:PySem.W.nsIn K mainGlobals "range" = some none)
    (z_int:PySem.W.nsIn K mainGlobals "int" = some none)
    (z_bool:PySem.W.nsIn K mainGlobals "bool" = some none)
    (z_str:PySem.W.nsIn K mainGlobals "str" = some none)
    (z_tuple:PySem.W.nsIn K mainGlobals "tuple" = some none)
    (z_list:PySem.W.nsIn K mainGlobals "list" = some none)
    (z_dict:PySem.W.nsIn K mainGlobals "dict" = some none)
    :
    ∃ fd:FuncData,(∀ (s:Shared) (v:Value),BindsTo s fd ⟨[v],[]⟩ [("_law_script",v)]) /\ ∀ base:Heap,K.In base -> base.Ns mainGlobals mg -> FnOk l.prog w K mg base CX0 66 fa fd ["_law_script"] (rN K):=by
  have e:=hfa.symm.trans (PySem.W.mg_of X G h49.1)
  cases e
  have b9:=h9.2.binds (ps:=["thing"]) fun _ _ _ _ _ _ us hl=>by obtain ⟨_,rfl⟩:=z5 hl; rfl
  have b10:=h10.2.binds (ps:=["board","thing"]) fun _ _ _ _ _ _ us hl=>by obtain ⟨_,_,rfl⟩:=zQ hl; rfl
  have b11:=h11.2.binds (ps:=["board","thing"]) fun _ _ _ _ _ _ us hl=>by obtain ⟨_,_,rfl⟩:=zQ hl; rfl
  have b12:=h12.2.binds (ps:=["board","asks"]) fun _ _ _ _ _ _ us hl=>by obtain ⟨_,_,rfl⟩:=zQ hl; rfl
  have b16:=h16.2.binds (ps:=["board","asks"]) fun _ _ _ _ _ _ us hl=>by obtain ⟨_,_,rfl⟩:=zQ hl; rfl
  have b17:=h17.2.binds (ps:=["board","asks"]) fun _ _ _ _ _ _ us hl=>by obtain ⟨_,_,rfl⟩:=zQ hl; rfl
  have b18:=h18.2.binds (ps:=["deeds","tree"]) fun _ _ _ _ _ _ us hl=>by obtain ⟨_,_,rfl⟩:=zQ hl; rfl
  have b19:=h19.2.binds (ps:=["thing"]) fun _ _ _ _ _ _ us hl=>by obtain ⟨_,rfl⟩:=z5 hl; rfl
  have b20:=h20.2.binds (ps:=["thing","many"]) fun _ _ _ _ _ _ us hl=>by obtain ⟨_,_,rfl⟩:=zQ hl; rfl
  have b21:=h21.2.binds (ps:=["thing","many"]) fun _ _ _ _ _ _ us hl=>by obtain ⟨_,_,rfl⟩:=zQ hl; rfl
  have b22:=h22.2.binds (ps:=["thing"]) fun _ _ _ _ _ _ us hl=>by obtain ⟨_,rfl⟩:=z5 hl; rfl
  have b23:=h23.2.binds (ps:=["deeds","tree"]) fun _ _ _ _ _ _ us hl=>by obtain ⟨_,_,rfl⟩:=zQ hl; rfl
  have b24:=h24.2.binds (ps:=["deeds","tree","value","values"]) fun _ _ _ _ _ _ us hl=>by obtain ⟨_,_,_,_,rfl⟩:=Xi hl; rfl
  have b25:=h25.2.binds (ps:=["thing"]) fun _ _ _ _ _ _ us hl=>by obtain ⟨_,rfl⟩:=z5 hl; rfl
  have b26:=h26.2.binds (ps:=["deeds","tree","value"]) fun _ _ _ _ _ _ us hl=>by obtain ⟨_,_,_,rfl⟩:=wT hl; rfl
  have b27:=h27.2.binds (ps:=["first","many"]) fun _ _ _ _ _ _ us hl=>by obtain ⟨_,_,rfl⟩:=zQ hl; rfl
  have b28:=h28.2.binds (ps:=["many"]) fun _ _ _ _ _ _ us hl=>by obtain ⟨_,rfl⟩:=z5 hl; rfl
  have b29:=h29.2.binds (ps:=["many"]) fun _ _ _ _ _ _ us hl=>by obtain ⟨_,rfl⟩:=z5 hl; rfl
  have b32:=h32.2.binds (ps:=["_law_thing","_law_deep"]) fun _ _ _ _ _ _ us hl=>by obtain ⟨_,_,rfl⟩:=zQ hl; rfl
  have b41:=h41.2.binds (ps:=["_law_pot_here","_law_thing","_law_deep"]) fun _ _ _ _ _ _ us hl=>by obtain ⟨_,_,_,rfl⟩:=wT hl; rfl
  have b43:=h43.2.binds (ps:=["_law_pot_here","_law_first","_law_many"]) fun _ _ _ _ _ _ us hl=>by obtain ⟨_,_,_,rfl⟩:=wT hl; rfl
  have x_AskError:ExcC K mg "AskError" A_AskError:=excC_of (PySem.W.mg_of X G ax_AskError) ex_AskError
  have x_NoAsk:ExcC K mg "NoAsk" A_NoAsk:=excC_of (PySem.W.mg_of X G ax_NoAsk) ex_NoAsk
  have x_NoBoard:ExcC K mg "NoBoard" A_NoBoard:=excC_of (PySem.W.mg_of X G ax_NoBoard) ex_NoBoard
  have x_NoDeed:ExcC K mg "NoDeed" A_NoDeed:=excC_of (PySem.W.mg_of X G ax_NoDeed) ex_NoDeed
  have x_NoNumber:ExcC K mg "NoNumber" A_NoNumber:=excC_of (PySem.W.mg_of X G ax_NoNumber) ex_NoNumber
  have x_NoTree:ExcC K mg "NoTree" A_NoTree:=excC_of (PySem.W.mg_of X G ax_NoTree) ex_NoTree
  have v_AskError:mg "AskError" = some (.ref A_AskError):=PySem.W.mg_of X G ax_AskError
  have v_NoAsk:mg "NoAsk" = some (.ref A_NoAsk):=PySem.W.mg_of X G ax_NoAsk
  have v_NoBoard:mg "NoBoard" = some (.ref A_NoBoard):=PySem.W.mg_of X G ax_NoBoard
  have v_NoCalls:mg "NoCalls" = some (.ref A_NoCalls):=PySem.W.mg_of X G ax_NoCalls
  have v_NoDeed:mg "NoDeed" = some (.ref A_NoDeed):=PySem.W.mg_of X G ax_NoDeed
  have v_NoHand:mg "NoHand" = some (.ref A_NoHand):=PySem.W.mg_of X G ax_NoHand
  have v_NoNet:mg "NoNet" = some (.ref A_NoNet):=PySem.W.mg_of X G ax_NoNet
  have v_NoNumber:mg "NoNumber" = some (.ref A_NoNumber):=PySem.W.mg_of X G ax_NoNumber
  have v_NoOrder:mg "NoOrder" = some (.ref A_NoOrder):=PySem.W.mg_of X G ax_NoOrder
  have v_NoRow:mg "NoRow" = some (.ref A_NoRow):=PySem.W.mg_of X G ax_NoRow
  have v_NoSettings:mg "NoSettings" = some (.ref A_NoSettings):=PySem.W.mg_of X G ax_NoSettings
  have v_NoSide:mg "NoSide" = some (.ref A_NoSide):=PySem.W.mg_of X G ax_NoSide
  have v_NoTable:mg "NoTable" = some (.ref A_NoTable):=PySem.W.mg_of X G ax_NoTable
  have v_NoText:mg "NoText" = some (.ref A_NoText):=PySem.W.mg_of X G ax_NoText
  have v_NoToken:mg "NoToken" = some (.ref A_NoToken):=PySem.W.mg_of X G ax_NoToken
  have v_NoTree:mg "NoTree" = some (.ref A_NoTree):=PySem.W.mg_of X G ax_NoTree
  have v_TooMany:mg "TooMany" = some (.ref A_TooMany):=PySem.W.mg_of X G ax_TooMany
  have v_ahead_of:mg "ahead_of" = some (.ref A_ahead_of):=PySem.W.mg_of X G ax_ahead_of
  have v_all_of:mg "all_of" = some (.ref A_all_of):=PySem.W.mg_of X G ax_all_of
  have v_chained:mg "chained" = some (.ref A_chained):=PySem.W.mg_of X G ax_chained
  have v_halved:mg "halved" = some (.ref A_halved):=PySem.W.mg_of X G ax_halved
  have v_played:mg "played" = some (.ref A_played):=PySem.W.mg_of X G ax_played
  have k_NoAsk:=kk_NoAsk
  have k_NoBoard:=kk_NoBoard
  have k_NoDeed:=kk_NoDeed
  have k_NoNumber:=kk_NoNumber
  have k_NoTree:=kk_NoTree
  have B:Blt mg:=⟨PySem.W.mg_none_of X G z_abs,PySem.W.mg_none_of X G z_len,PySem.W.mg_none_of X G z_max,PySem.W.mg_none_of X G z_min,PySem.W.mg_none_of X G z_divmod,PySem.W.mg_none_of X G z_repr,PySem.W.mg_none_of X G z_isinstance,PySem.W.mg_none_of X G z_all,PySem.W.mg_none_of X G z_range,PySem.W.mg_none_of X G z_int,PySem.W.mg_none_of X G z_bool,PySem.W.mg_none_of X G z_str,PySem.W.mg_none_of X G z_tuple,PySem.W.mg_none_of X G z_list,PySem.W.mg_none_of X G z_dict⟩
  obtain ⟨oc,od,kV,dc,pm,an,cd,ct,sl,rfl,lk,hc⟩:=h49.2.ex
  refine ⟨PySem.W.fnOf "law" "law" (vI (top 75)) (x8 (top 75)) (zh (top 75)) .none kV dc pm an cd ct,fun s v=>.of_eq rfl,fun base _ _=>?_⟩
  have C1:zj l.prog w K mg base 1 _ _ _:=h1.cl X G (su h1.2 B      ) (h1.2.binds fun _ _ _ _ _ _ us hl=>by obtain ⟨_,_,rfl⟩:=zQ hl; rfl)
  have C2:zj l.prog w K mg base 1 _ _ _:=h2.cl X G (Xg h2.2 B      ) (h2.2.binds fun _ _ _ _ _ _ us hl=>by obtain ⟨_,_,rfl⟩:=zQ hl; rfl)
  have C3:zj l.prog w K mg base 1 _ _ _:=h3.cl X G (rn h3.2 B      ) (h3.2.binds fun _ _ _ _ _ _ us hl=>by obtain ⟨_,rfl⟩:=z5 hl; rfl)
  have C4:zj l.prog w K mg base 2 _ _ _:=h4.cl X G (Zy h4.2 B   (C3.mono (by decide))   ) (h4.2.binds fun _ _ _ _ _ _ us hl=>by obtain ⟨_,rfl⟩:=z5 hl; rfl)
  have C5:zj l.prog w K mg base 3 _ _ _:=h5.cl X G (ja h5.2 B   (C4.mono (by decide)) (C3.mono (by decide))   ) (h5.2.binds fun _ _ _ _ _ _ us hl=>by obtain ⟨_,rfl⟩:=z5 hl; rfl)
  have C6:zj l.prog w K mg base 2 _ _ _:=h6.cl X G (sx h6.2 B   (C3.mono (by decide))   ) (h6.2.binds fun _ _ _ _ _ _ us hl=>by obtain ⟨_,_,_,rfl⟩:=wT hl; rfl)
  have C7:zj l.prog w K mg base 4 _ _ _:=h7.cl X G (Zz h7.2 B   (C5.mono (by decide)) (C6.mono (by decide))  (PySem.W.mg_of X G ga_LAST_HAND) ) (h7.2.binds fun _ _ _ _ _ _ us hl=>by obtain ⟨_,_,rfl⟩:=zQ hl; rfl)
  have C8:zj l.prog w K mg base 2 _ _ _:=h8.cl X G (rq h8.2 B   (C3.mono (by decide))  (PySem.W.mg_of X G ga_MOST_BOXES) ) (h8.2.binds fun _ _ _ _ _ _ us hl=>by obtain ⟨_,rfl⟩:=z5 hl; rfl)
  have C9:zu l.prog w K mg base 3 "need_board" ["thing"] (yU A_NoBoard K):=⟨_,_,tf (P:=l.prog) (w:=w) (base:=base) (n:=2) h9.2 B x_NoBoard  (C8.mono (by decide))   ,b9,h9.2.kp,PySem.W.mg_of X G h9.1⟩
  have C10:zu l.prog w K mg base 5 "are_asks" ["board","thing"] (xo A_NoBoard K):=⟨_,_,rA (P:=l.prog) (w:=w) (base:=base) (n:=4) h10.2 B x_NoBoard  (C7.mono (by decide)) (C9.mono (by decide))   ,b10,h10.2.kp,PySem.W.mg_of X G h10.1⟩
  have C11:zu l.prog w K mg base 6 "need_asks" ["board","thing"] (vY (clsB A_NoNumber A_NoDeed A_NoBoard A_NoAsk A_NoTree) K):=⟨_,_,sB (P:=l.prog) (w:=w) (base:=base) (n:=5) h11.2 B x_NoBoard x_NoAsk  (C10.mono (by decide))   ,b11,h11.2.kp,PySem.W.mg_of X G h11.1⟩
  have C12:zu l.prog w K mg base 7 "played" ["board","asks"] (wB (clsB A_NoNumber A_NoDeed A_NoBoard A_NoAsk A_NoTree) K):=⟨_,_,ZA (P:=l.prog) (w:=w) (base:=base) (n:=6) h12.2 B x_NoNumber x_NoDeed x_NoBoard x_NoAsk x_NoTree  (C2.mono (by decide)) (C11.mono (by decide))   ,b12,h12.2.kp,PySem.W.mg_of X G h12.1⟩
  have C13:zj l.prog w K mg base 1 _ _ _:=h13.cl X G (jK h13.2 B      ) (h13.2.binds fun _ _ _ _ _ _ us hl=>by obtain ⟨_,_,_,rfl⟩:=wT hl; rfl)
  have C14:zj l.prog w K mg base 2 _ _ _:=h14.cl X G (ZB h14.2 B   (C13.mono (by decide)) (C2.mono (by decide))   ) (h14.2.binds fun _ _ _ _ _ _ us hl=>by obtain ⟨_,_,rfl⟩:=zQ hl; rfl)
  have C15:zj l.prog w K mg base 3 _ _ _:=h15.cl X G (rB h15.2 B   (C14.mono (by decide))   (PySem.W.mg_of X G ga_LOOK) (fun H=>.inr ⟨_,_,_,gl_LOOK,rfl,rfl,szl rfl,.cons ⟨_,rfl⟩ (.cons rfl (.cons rfl .nil))⟩)) (h15.2.binds fun _ _ _ _ _ _ us hl=>by obtain ⟨_,_,rfl⟩:=zQ hl; rfl)
  have C16:zu l.prog w K mg base 7 "all_of" ["board","asks"] (wB (clsB A_NoNumber A_NoDeed A_NoBoard A_NoAsk A_NoTree) K):=⟨_,_,ZD (P:=l.prog) (w:=w) (base:=base) (n:=6) h16.2 B x_NoNumber x_NoDeed x_NoBoard x_NoAsk x_NoTree  (C15.mono (by decide)) (C11.mono (by decide))   ,b16,h16.2.kp,PySem.W.mg_of X G h16.1⟩
  have C17:zu l.prog w K mg base 7 "ahead_of" ["board","asks"] (wB (clsB A_NoNumber A_NoDeed A_NoBoard A_NoAsk A_NoTree) K):=⟨_,_,rD (P:=l.prog) (w:=w) (base:=base) (n:=6) h17.2 B x_NoNumber x_NoDeed x_NoBoard x_NoAsk x_NoTree  (C15.mono (by decide)) (C11.mono (by decide))   ,b17,h17.2.kp,PySem.W.mg_of X G h17.1⟩
  have R18:∀ N:Nat,FnOk l.prog w K mg base CX0 (2 + N) f18 d18 ["deeds","tree"] (yM N K):=by
    intro N
    induction N with
    | zero=>exact xL sR
    | succ N ih=>exact jc (P:=l.prog) (w:=w) (base:=base) (n:=2 + N) h18.2 B (C14.mono (Nat.le_trans (show 2 <= 2 by decide) (Nat.le_add_right 2 N))) ⟨_,_,ih,b18,h18.2.kp,PySem.W.mg_of X G h18.1⟩ (C3.mono (Nat.le_trans (show 1 <= 2 by decide) (Nat.le_add_right 2 N)))
  have C18:zj l.prog w K mg base 43 "deed_of" ["deeds","tree"] (yM 41 K):=⟨_,_,R18 41,b18,h18.2.kp,PySem.W.mg_of X G h18.1⟩
  have C19:zu l.prog w K mg base 3 "need_many" ["thing"] (wA A_NoNumber K):=⟨_,_,sD (P:=l.prog) (w:=w) (base:=base) (n:=2) h19.2 B x_NoNumber  (C6.mono (by decide))  (PySem.W.mg_of X G ga_MOST_DEEDS) ,b19,h19.2.kp,PySem.W.mg_of X G h19.1⟩
  have C20:zu l.prog w K mg base 4 "is_tree" ["thing","many"] (vp A_NoNumber K):=⟨_,_,jd (P:=l.prog) (w:=w) (base:=base) (n:=3) h20.2 B x_NoNumber  (C3.mono (by decide)) (C19.mono (by decide))   ,b20,h20.2.kp,PySem.W.mg_of X G h20.1⟩
  have C21:zu l.prog w K mg base 5 "need_tree" ["thing","many"] (qk A_NoTree K):=⟨_,_,sF (P:=l.prog) (w:=w) (base:=base) (n:=4) h21.2 B x_NoNumber x_NoTree  (C20.mono (by decide))   ,b21,h21.2.kp,PySem.W.mg_of X G h21.1⟩
  have C22:zu l.prog w K mg base 4 "need_deeds" ["thing"] (qj A_NoDeed K):=⟨_,_,tj (P:=l.prog) (w:=w) (base:=base) (n:=3) h22.2 B x_NoDeed  (C5.mono (by decide))  (PySem.W.mg_of X G ga_MOST_DEEDS) ,b22,h22.2.kp,PySem.W.mg_of X G h22.1⟩
  have C23:zu l.prog w K mg base 44 "folded" ["deeds","tree"] (Zr (clsB A_NoNumber A_NoDeed A_NoBoard A_NoAsk A_NoTree) K):=⟨_,_,ZF (P:=l.prog) (w:=w) (base:=base) (n:=43) h23.2 B x_NoTree x_NoNumber x_NoDeed  (C18.mono (by decide)) (C21.mono (by decide)) (C22.mono (by decide))   ,b23,h23.2.kp,PySem.W.mg_of X G h23.1⟩
  have R24:∀ N:Nat,FnOk l.prog w K mg base CX0 (2 + N) f24 d24 ["deeds","tree","value","values"] (xM N K):=by
    intro N
    induction N with
    | zero=>exact xL jS
    | succ N ih=>exact Yg (P:=l.prog) (w:=w) (base:=base) (n:=2 + N) h24.2 B (C14.mono (Nat.le_trans (show 2 <= 2 by decide) (Nat.le_add_right 2 N))) ⟨_,_,ih,b24,h24.2.kp,PySem.W.mg_of X G h24.1⟩ (C2.mono (Nat.le_trans (show 1 <= 2 by decide) (Nat.le_add_right 2 N))) (C3.mono (Nat.le_trans (show 1 <= 2 by decide) (Nat.le_add_right 2 N)))
  have C24:zj l.prog w K mg base 43 "share" ["deeds","tree","value","values"] (xM 41 K):=⟨_,_,R24 41,b24,h24.2.kp,PySem.W.mg_of X G h24.1⟩
  have C25:zu l.prog w K mg base 2 "need_value" ["thing"] (rg A_NoNumber K):=⟨_,_,tu (P:=l.prog) (w:=w) (base:=base) (n:=1) h25.2 B x_NoNumber  (C3.mono (by decide))   ,b25,h25.2.kp,PySem.W.mg_of X G h25.1⟩
  have C26:zu l.prog w K mg base 44 "shared_out" ["deeds","tree","value"] (Zs (clsB A_NoNumber A_NoDeed A_NoBoard A_NoAsk A_NoTree) K):=⟨_,_,tv (P:=l.prog) (w:=w) (base:=base) (n:=43) h26.2 B x_NoTree x_NoNumber x_NoDeed  (C24.mono (by decide)) (C21.mono (by decide)) (C22.mono (by decide)) (C25.mono (by decide))   ,b26,h26.2.kp,PySem.W.mg_of X G h26.1⟩
  have R27:∀ N:Nat,FnOk l.prog w K mg base CX0 (0 + N) f27 d27 ["first","many"] (z4 N K):=by
    intro N
    induction N with
    | zero=>exact xL vN
    | succ N ih=>exact uh (P:=l.prog) (w:=w) (base:=base) (n:=0 + N) h27.2 B ⟨_,_,ih,b27,h27.2.kp,PySem.W.mg_of X G h27.1⟩
  have C27:zj l.prog w K mg base 40 "halved_from" ["first","many"] (z4 40 K):=⟨_,_,R27 40,b27,h27.2.kp,PySem.W.mg_of X G h27.1⟩
  have C28:zu l.prog w K mg base 41 "halved" ["many"] (qZ A_NoNumber K):=⟨_,_,ZH (P:=l.prog) (w:=w) (base:=base) (n:=40) h28.2 B x_NoNumber  (C27.mono (by decide)) (C19.mono (by decide))   ,b28,h28.2.kp,PySem.W.mg_of X G h28.1⟩
  have C29:zu l.prog w K mg base 4 "chained" ["many"] (qZ A_NoNumber K):=⟨_,_,je (P:=l.prog) (w:=w) (base:=base) (n:=3) h29.2 B x_NoNumber  (C19.mono (by decide))   ,b29,h29.2.kp,PySem.W.mg_of X G h29.1⟩
  have C30:zj l.prog w K mg base 45 _ _ _:=h30.cl X G (sG h30.2 B x_AskError x_NoNumber x_NoDeed x_NoBoard x_NoAsk x_NoTree v_played v_all_of v_ahead_of v_halved v_chained v_TooMany v_NoToken v_NoText v_NoTable v_NoSide v_NoSettings v_NoRow v_NoOrder v_NoNet v_NoHand v_NoCalls v_NoTree v_NoAsk v_NoBoard v_NoDeed v_NoNumber u_NoNumber_AskError k_NoNumber q_NoNumber_NoNumber q_NoNumber_NoDeed q_NoNumber_NoBoard q_NoNumber_NoAsk q_NoNumber_NoTree q_NoNumber_NoCalls q_NoNumber_NoHand q_NoNumber_NoNet q_NoNumber_NoOrder q_NoNumber_NoRow q_NoNumber_NoSettings q_NoNumber_NoSide q_NoNumber_NoTable q_NoNumber_NoText q_NoNumber_NoToken q_NoNumber_TooMany q_NoNumber_ValueError u_NoDeed_AskError k_NoDeed q_NoDeed_NoNumber q_NoDeed_NoDeed q_NoDeed_NoBoard q_NoDeed_NoAsk q_NoDeed_NoTree q_NoDeed_NoCalls q_NoDeed_NoHand q_NoDeed_NoNet q_NoDeed_NoOrder q_NoDeed_NoRow q_NoDeed_NoSettings q_NoDeed_NoSide q_NoDeed_NoTable q_NoDeed_NoText q_NoDeed_NoToken q_NoDeed_TooMany q_NoDeed_ValueError u_NoBoard_AskError k_NoBoard q_NoBoard_NoNumber q_NoBoard_NoDeed q_NoBoard_NoBoard q_NoBoard_NoAsk q_NoBoard_NoTree q_NoBoard_NoCalls q_NoBoard_NoHand q_NoBoard_NoNet q_NoBoard_NoOrder q_NoBoard_NoRow q_NoBoard_NoSettings q_NoBoard_NoSide q_NoBoard_NoTable q_NoBoard_NoText q_NoBoard_NoToken q_NoBoard_TooMany q_NoBoard_ValueError u_NoAsk_AskError k_NoAsk q_NoAsk_NoNumber q_NoAsk_NoDeed q_NoAsk_NoBoard q_NoAsk_NoAsk q_NoAsk_NoTree q_NoAsk_NoCalls q_NoAsk_NoHand q_NoAsk_NoNet q_NoAsk_NoOrder q_NoAsk_NoRow q_NoAsk_NoSettings q_NoAsk_NoSide q_NoAsk_NoTable q_NoAsk_NoText q_NoAsk_NoToken q_NoAsk_TooMany q_NoAsk_ValueError u_NoTree_AskError k_NoTree q_NoTree_NoNumber q_NoTree_NoDeed q_NoTree_NoBoard q_NoTree_NoAsk q_NoTree_NoTree q_NoTree_NoCalls q_NoTree_NoHand q_NoTree_NoNet q_NoTree_NoOrder q_NoTree_NoRow q_NoTree_NoSettings q_NoTree_NoSide q_NoTree_NoTable q_NoTree_NoText q_NoTree_NoToken q_NoTree_TooMany q_NoTree_ValueError (C12.mono (by decide)) (C16.mono (by decide)) (C17.mono (by decide)) (C23.mono (by decide)) (C26.mono (by decide)) (C28.mono (by decide)) (C29.mono (by decide)) (C20.mono (by decide)) (PySem.W.mg_none_of X G ga_ValueError)  ) (h30.2.binds fun _ _ _ _ _ _ us hl=>by obtain ⟨_,_,rfl⟩:=zQ hl; rfl)
  have C31:zj l.prog w K mg base 1 _ _ _:=h31.cl X G (vd h31.2 B      ) (h31.2.binds fun _ _ _ _ _ _ us hl=>by obtain ⟨_,rfl⟩:=z5 hl; rfl)
  have R32:∀ N:Nat,FnOk l.prog w K mg base CX0 (0 + N) f32 d32 ["_law_thing","_law_deep"] (yD N K):=by
    intro N
    induction N with
    | zero=>exact xL sk
    | succ N ih=>exact uj (P:=l.prog) (w:=w) (base:=base) (n:=0 + N) h32.2 B ⟨_,_,ih,b32,h32.2.kp,PySem.W.mg_of X G h32.1⟩
  have C32:zj l.prog w K mg base 62 "_law_leaves" ["_law_thing","_law_deep"] (yD 62 K):=⟨_,_,R32 62,b32,h32.2.kp,PySem.W.mg_of X G h32.1⟩
  have C33:zj l.prog w K mg base 63 _ _ _:=h33.cl X G (v4 h33.2 B   (C31.mono (by decide)) (C32.mono (by decide))   ) (h33.2.binds fun _ _ _ _ _ _ us hl=>by obtain ⟨_,_,rfl⟩:=zQ hl; rfl)
  have C34:zj l.prog w K mg base 2 _ _ _:=h34.cl X G (v7 h34.2 B   (C31.mono (by decide))   ) (h34.2.binds fun _ _ _ _ _ _ us hl=>by obtain ⟨_,rfl⟩:=z5 hl; rfl)
  have C35:zj l.prog w K mg base 3 _ _ _:=h35.cl X G (wS h35.2 B   (C34.mono (by decide))   ) (h35.2.binds fun _ _ _ _ _ _ us hl=>by obtain ⟨_,rfl⟩:=z5 hl; rfl)
  have C36:zj l.prog w K mg base 3 _ _ _:=h36.cl X G (ul h36.2 B   (C34.mono (by decide)) (C31.mono (by decide))   ) (h36.2.binds fun _ _ _ _ _ _ us hl=>by obtain ⟨_,_,rfl⟩:=zQ hl; rfl)
  have C37:zj l.prog w K mg base 4 _ _ _:=h37.cl X G (vf h37.2 B   (C36.mono (by decide))   ) (h37.2.binds fun _ _ _ _ _ _ us hl=>by obtain ⟨_,_,rfl⟩:=zQ hl; rfl)
  have C38:zj l.prog w K mg base 2 _ _ _:=h38.cl X G (vh h38.2 B   (C31.mono (by decide))   ) (h38.2.binds fun _ _ _ _ _ _ us hl=>by obtain ⟨_,rfl⟩:=z5 hl; rfl)
  have C39:zj l.prog w K mg base 64 _ _ _:=h39.cl X G (rE h39.2 B   (C33.mono (by decide)) (C35.mono (by decide)) (C31.mono (by decide)) (C37.mono (by decide)) (C38.mono (by decide))   ) (h39.2.binds fun _ _ _ _ _ _ us hl=>by obtain ⟨_,_,rfl⟩:=zQ hl; rfl)
  have C40:zj l.prog w K mg base 2 _ _ _:=h40.cl X G (tw h40.2 B   (C1.mono (by decide)) (C31.mono (by decide))   ) (h40.2.binds fun _ _ _ _ _ _ us hl=>by obtain ⟨_,_,rfl⟩:=zQ hl; rfl)
  have R41:∀ N:Nat,FnOk l.prog w K mg base CX0 (2 + N) f41 d41 ["_law_pot_here","_law_thing","_law_deep"] (y9 N K):=by
    intro N
    induction N with
    | zero=>exact xL q9
    | succ N ih=>exact sH (P:=l.prog) (w:=w) (base:=base) (n:=2 + N) h41.2 B ⟨_,_,ih,b41,h41.2.kp,PySem.W.mg_of X G h41.1⟩ (C40.mono (Nat.le_trans (show 2 <= 2 by decide) (Nat.le_add_right 2 N))) (C1.mono (Nat.le_trans (show 1 <= 2 by decide) (Nat.le_add_right 2 N)))
  have C41:zj l.prog w K mg base 44 "_law_bent" ["_law_pot_here","_law_thing","_law_deep"] (y9 42 K):=⟨_,_,R41 42,b41,h41.2.kp,PySem.W.mg_of X G h41.1⟩
  have C42:zj l.prog w K mg base 2 _ _ _:=h42.cl X G (um h42.2 B   (C1.mono (by decide))   ) (h42.2.binds fun _ _ _ _ _ _ us hl=>by obtain ⟨_,rfl⟩:=z5 hl; rfl)
  have R43:∀ N:Nat,FnOk l.prog w K mg base CX0 (1 + N) f43 d43 ["_law_pot_here","_law_first","_law_many"] (ye N K):=by
    intro N
    induction N with
    | zero=>exact xL ug
    | succ N ih=>exact sI (P:=l.prog) (w:=w) (base:=base) (n:=1 + N) h43.2 B ⟨_,_,ih,b43,h43.2.kp,PySem.W.mg_of X G h43.1⟩ (C1.mono (Nat.le_trans (show 1 <= 1 by decide) (Nat.le_add_right 1 N)))
  have C43:zj l.prog w K mg base 41 "_law_tree" ["_law_pot_here","_law_first","_law_many"] (ye 40 K):=⟨_,_,R43 40,b43,h43.2.kp,PySem.W.mg_of X G h43.1⟩
  have C44:zj l.prog w K mg base 3 _ _ _:=h44.cl X G (sJ h44.2 B   (C42.mono (by decide)) (C1.mono (by decide))   ) (h44.2.binds fun _ _ _ _ _ _ us hl=>by obtain ⟨_,rfl⟩:=z5 hl; rfl)
  have C45:zj l.prog w K mg base 4 _ _ _:=h45.cl X G (sK h45.2 B   (C44.mono (by decide)) (C1.mono (by decide))   ) (h45.2.binds fun _ _ _ _ _ _ us hl=>by obtain ⟨_,_,_,rfl⟩:=wT hl; rfl)
  have C46:zj l.prog w K mg base 3 _ _ _:=h46.cl X G (tD h46.2 B   (C1.mono (by decide)) (C42.mono (by decide))   ) (h46.2.binds fun _ _ _ _ _ _ us hl=>by obtain ⟨_,rfl⟩:=z5 hl; rfl)
  have C47:zj l.prog w K mg base 65 _ _ _:=h47.cl X G (tE h47.2 B   (C1.mono (by decide)) (C30.mono (by decide)) (C39.mono (by decide)) (C41.mono (by decide)) (C42.mono (by decide)) (C43.mono (by decide)) (C44.mono (by decide)) (C45.mono (by decide)) (C46.mono (by decide)) (PySem.W.mg_none_of X G ga_enumerate)  ) (h47.2.binds fun _ _ _ _ _ _ us hl=>by obtain ⟨_,rfl⟩:=z5 hl; rfl)
  have C48:zj l.prog w K mg base 1 _ _ _:=h48.cl X G (rF h48.2 B      ) (h48.2.binds fun _ _ _ _ _ _ us hl=>by obtain ⟨_,_,rfl⟩:=zQ hl; rfl)
  exact Wa (P:=l.prog) (w:=w) (base:=base) (n:=65) h49.2 B   (C47.mono (by decide)) (C48.mono (by decide))
theorem walk {l:PySem.W.OpenLaw} {q:Program} {loose:List Str} {XP:(Str -> Option Value) -> Heap -> Prop} {YP:World -> Heap -> Prop} {d:DefRec} {K:Params -> FG7} (hn:l.most = some 63) (hdf:d.params.defaults = [])
  (hY:∀ (w:World) (h:Heap),YP w h -> (K w.params).In h)
  (F:∀ (w:World) (mg:Str -> Option Value) (fa:Addr) (h:Heap),(K w.params).In h -> h.Ns mainGlobals mg -> mg d.name = some (.ref fa) →
   ∃ fd:FuncData,(∀ (s:Shared) (u:Value),BindsTo s fd ⟨[u],[]⟩ [("_law_script",u)]) /\ ∀ base:Heap,(K w.params).In base -> base.Ns mainGlobals mg -> FnOk l.prog w (K w.params) mg base CX0 66 fa fd ["_law_script"] (rN (K w.params))) :
  PySem.W.WalkO q loose XP YP l.row.toRowW d [] (fun f vs=>PySem.call f vs) :=
 L2.walk_of (n:=63) (k:=66) (x:="_law_script") (CX:=fun _=>CX0) (sp:=fun w=>rN (K w.params)) hn (by decide) hdf ⟨rfl,by decide,by decide,rfl⟩ hY F (fun _ _ a ns hl hO hS=>⟨_,rfl,a,ns,rfl,Scr.of hO hS,hl,fun _=>rfl⟩) fun _ _ _ _ _ z=>z
theorem walkX {q:Program} {loose:List Str} {XP:(Str -> Option Value) -> Heap -> Prop} {K:Params -> FG7} {as:List Addr} {n t:Nat} {r:PySem.W.RowW} {d:DefRec} {kwd:List (Str × Expr)} {run:Value -> List Value -> Sem Value}
  (e:∀ P,as = (K P).map (·.1)) (W:PySem.W.WalkO q loose XP (PySem.W.InK K) r d kwd run):PySem.W.WalkX q loose XP (PySem.W.X.obsZ as) (PySem.W.X.valZ K n t) r d kwd run :=
 fun w s₀ s₁ mg mb G Y a o pm cd doc dV kV h2 h3 h4 h5 h6 h7 args vals as' L hpre hlay hrd hwl hlo =>
  W w s₀ s₁ mg mb G (PySem.W.InK.keeps w s₀.heap s₁.heap (PySem.W.X.z_facts e Y).2.1 L.keeps) a o pm cd doc dV kV h2 h3 h4 h5 h6 h7 args vals as' hpre hlay hrd hwl hlo
end My
open PySem PySem.W PyProof.Rows
def PySem.W.Fast.tw4046160518063756591:Unit:=()
def PySem.W.Fast.tw18174328175887543609:Unit:=()
def PySem.W.Fast.tw10092831445890257034:Unit:=()
def PySem.W.Fast.tw15379692197830413075:Unit:=()
def PySem.W.Fast.tw13644056004932893621:Unit:=()
def PySem.W.Fast.tw9500927991539738846:Unit:=()
def PySem.W.Fast.tw16834037550856193:Unit:=()
def PySem.W.Fast.tw14888558606052361059:Unit:=()
def PySem.W.Fast.tw2040529859759662316:Unit:=()
def PySem.W.Fast.tw4244509215282161944:Unit:=()
def PySem.W.Fast.tw916856703964131797:Unit:=()
def PySem.W.Fast.tw11949142624672842645:Unit:=()
def PySem.W.Fast.tw4277053907395275537:Unit:=()
def PySem.W.Fast.tw4559340860914588757:Unit:=()
def PySem.W.Fast.tw653684564675471353:Unit:=()
def PySem.W.Fast.tw1615137220118737309:Unit:=()
def PySem.W.Fast.tw9976920234424514227:Unit:=()
def PySem.W.Fast.tw1541221403507917266:Unit:=()
def PySem.W.Fast.tw7538717809770096803:Unit:=()
def PySem.W.Fast.tw2146794411300076351:Unit:=()
def PySem.W.Fast.tw15008366627929276857:Unit:=()
def PySem.W.Fast.tw6004838141158086068:Unit:=()
def PySem.W.Fast.tw15177271739037905861:Unit:=()
def PySem.W.Fast.tw12637039723137407013:Unit:=()
def PySem.W.Fast.tw2062381620366827121:Unit:=()
def PySem.W.Fast.tw15131587984820441978:Unit:=()
def PySem.W.Fast.tw12656698828046966382:Unit:=()
def PySem.W.Fast.tw14198526726230148459:Unit:=()
def PySem.W.Fast.tw8699387199406995831:Unit:=()
def PySem.W.Fast.tw6321928469119668474:Unit:=()
def PySem.W.Fast.tw18418175797642802642:Unit:=()
def PySem.W.Fast.tw986587331123576851:Unit:=()
def PySem.W.Fast.tw8808925120850889416:Unit:=()
def PySem.W.Fast.tw13946737510777019785:Unit:=()
def PySem.W.Fast.tw1349673013144721034:Unit:=()
def PySem.W.Fast.tw17112266247230854093:Unit:=()
def PySem.W.Fast.tw5969691387149119723:Unit:=()
def PySem.W.Fast.tw10746116513080751495:Unit:=()
def PySem.W.Fast.tw4093340796265418341:Unit:=()
def PySem.W.Fast.tw2851673788850855616:Unit:=()
def PySem.W.Fast.tw14525182467444173510:Unit:=()
def PySem.W.Fast.tw1830851430442990480:Unit:=()
def PySem.W.Fast.tw12642779194018994552:Unit:=()
def PySem.W.Fast.tw11078632862185816322:Unit:=()
def PySem.W.Fast.tw16236415178744292841:Unit:=()
def PySem.W.Fast.tw916161277919704552:Unit:=()
def PySem.W.Fast.tw11404976498929443891:Unit:=()
def PySem.W.Fast.tw1452367801161264415:Unit:=()
def PySem.W.Fast.tw869838853547998953:Unit:=()
def PySem.W.Fast.tw15630951416019081116:Unit:=()
def PySem.W.Fast.tw11126125635239786439:Unit:=()
def PySem.W.Fast.tw5693688708207226284:Unit:=()
def PySem.W.Fast.tw14826751900506823668:Unit:=()
def PySem.W.Fast.tw8498338998060112699:Unit:=()
def PySem.W.Fast.tw15133472871070621388:Unit:=()
def PySem.W.Fast.tw15144738067273553555:Unit:=()
def PySem.W.Fast.tw12437497541035673509:Unit:=()
def PySem.W.Fast.tw15031851473577009612:Unit:=()
def PySem.W.Fast.tw6253232418455648593:Unit:=()
def PySem.W.Fast.tw18286762953042390012:Unit:=()
def PySem.W.Fast.tw11893683395139695177:Unit:=()
def PySem.W.Fast.tw10778262318525317725:Unit:=()
def PySem.W.Fast.tw12084870566442740736:Unit:=()
def PySem.W.Fast.tw3861218890151980825:Unit:=()
def PySem.W.Fast.tw3884726458320861198:Unit:=()
def PySem.W.Fast.tw9220354965265054054:Unit:=()
def PySem.W.Fast.tw17236744398455514025:Unit:=()
def PySem.W.Fast.tw13005291961833817152:Unit:=()
def PySem.W.Fast.tw7396199941003210838:Unit:=()
def PySem.W.Fast.tw4397230240814184313:Unit:=()
def PySem.W.Fast.tw14922116626152900785:Unit:=()
def PySem.W.Fast.tw9667040484751865577:Unit:=()
def PySem.W.Fast.tw10258761412661009351:Unit:=()
def PySem.W.Fast.tw4601788060389769012:Unit:=()
def PySem.W.Fast.tw13929150390479221222:Unit:=()
def PySem.W.Fast.tw3568428861933681981:Unit:=()
def PySem.W.Fast.tw10627377204418635793:Unit:=()
def PySem.W.Fast.tw16786596721745403948:Unit:=()
def PySem.W.Fast.tw10232452014351979451:Unit:=()
def PySem.W.Fast.tw5647163404903590016:Unit:=()
def PySem.W.Fast.tw15688371739414632537:Unit:=()
def PySem.W.Fast.tw9148011873004331768:Unit:=()
def PySem.W.Fast.tw17857917887737268625:Unit:=()
def PySem.W.Fast.tw3783152433826652817:Unit:=()
def PySem.W.Fast.tw5255175596338595881:Unit:=()
def PySem.W.Fast.tw1044525473910021991:Unit:=()
def PySem.W.Fast.tw8604434916693064094:Unit:=()
def PySem.W.Fast.tw8326167139386124255:Unit:=()
def PySem.W.Fast.tw3482615467068770942:Unit:=()
def PySem.W.Fast.tw16116184987633349432:Unit:=()
def PySem.W.Fast.tw2318813266041080836:Unit:=()
def PySem.W.Fast.tw8838544525691866756:Unit:=()
def PySem.W.Fast.tw9573873711411087373:Unit:=()
def PySem.W.Fast.tw14232568947071222823:Unit:=()
def PySem.W.Fast.tw14566789962290968240:Unit:=()
def PySem.W.Fast.tw1748178818172075940:Unit:=()
def PySem.W.Fast.tw15243927669673817076:Unit:=()
def PySem.W.Fast.tw15762225530167228181:Unit:=()
def PySem.W.Fast.tw12282966590351236346:Unit:=()
def PySem.W.Fast.tw11681529989555732309:Unit:=()
def PySem.W.Fast.tw2843152738171471713:Unit:=()
def PySem.W.Fast.tw8242268823574559506:Unit:=()
def PySem.W.Fast.tw1255179684342717445:Unit:=()
def PySem.W.Fast.tw1892771447596538629:Unit:=()
def PySem.W.Fast.tw15977414482645436542:Unit:=()
def PySem.W.Fast.tw1096334223333553899:Unit:=()
def PySem.W.Fast.tw17080566474504014134:Unit:=()
def PySem.W.Fast.tw5863370391715545240:Unit:=()
def PySem.W.Fast.tw1010444963891458103:Unit:=()
def PySem.W.Fast.tw16697313279977582717:Unit:=()
def PySem.W.Fast.tw5381457635119496100:Unit:=()
def PySem.W.Fast.tw971049119918281437:Unit:=()
def PySem.W.Fast.tw3973959403928403417:Unit:=()
def PySem.W.Fast.tw17101380540646947762:Unit:=()
def PySem.W.Fast.tw12155545159337162151:Unit:=()
def PySem.W.Fast.tw17340299207577422804:Unit:=()
def PySem.W.Fast.tw13927345377007280048:Unit:=()
def PySem.W.Fast.tw13600098907491605577:Unit:=()
def PySem.W.Fast.tw4378375383778465731:Unit:=()
def PySem.W.Fast.tw11644432786800348814:Unit:=()
def PySem.W.Fast.tw8956730379620666457:Unit:=()
def PySem.W.Fast.tw15430247850910642442:Unit:=()
def PySem.W.Fast.tw6663942554627478929:Unit:=()
def PySem.W.Fast.tw12520659538544394147:Unit:=()
def PySem.W.Fast.tw12784603691474029404:Unit:=()
def PySem.W.Fast.tw6753783525520236257:Unit:=()
def PySem.W.Fast.tw4184274827012976346:Unit:=()
def PySem.W.Fast.tw13631981626188561217:Unit:=()
def PySem.W.Fast.tw5578596044459882757:Unit:=()
def PySem.W.Fast.tw9421493149688914572:Unit:=()
def PySem.W.Fast.tw1298037444524411113:Unit:=()
def PySem.W.Fast.tw4635315708162570361:Unit:=()
def PySem.W.Fast.tw14137972717225445233:Unit:=()
def PySem.W.Fast.tw8424478842784812567:Unit:=()
def PySem.W.Fast.tw6492462054521118739:Unit:=()
def PySem.W.Fast.tw14518917871602019790:Unit:=()
def PySem.W.Fast.tw9580707571356984821:Unit:=()
def PySem.W.Fast.tw17589784188057675045:Unit:=()
def PySem.W.Fast.tw5529475083869232427:Unit:=()
def PySem.W.Fast.tw15157621639529229369:Unit:=()
def PySem.W.Fast.tw14752182595874101552:Unit:=()
def PySem.W.Fast.tw17737848897428337786:Unit:=()
def PySem.W.Fast.tw9073987204760041138:Unit:=()
def PySem.W.Fast.tw17460346474131865955:Unit:=()
def PySem.W.Fast.tw16065829865301825900:Unit:=()
def PySem.W.Fast.tw1749855944468796746:Unit:=()
def PySem.W.Fast.tw9749877834992207952:Unit:=()
def PySem.W.Fast.tw17971849790961318498:Unit:=()
def PySem.W.Fast.tw8278322268122241309:Unit:=()
def PySem.W.Fast.tw7017688945277596229:Unit:=()
def PySem.W.Fast.tw9234156430164257539:Unit:=()
def PySem.W.Fast.tw7539731401851641230:Unit:=()
def PySem.W.Fast.tw7340354442252524070:Unit:=()
def PySem.W.Fast.tw16207394864314693024:Unit:=()
def PySem.W.Fast.tw18032924142355377247:Unit:=()
def PySem.W.Fast.tw5910436073795829216:Unit:=()
def PySem.W.Fast.tw7068327304503985174:Unit:=()
def PySem.W.Fast.tw16001837088276392813:Unit:=()
def PySem.W.Fast.tw14165092852224426173:Unit:=()
def PySem.W.Fast.tw8597696065902477110:Unit:=()
def PySem.W.Fast.tw991842032228830285:Unit:=()
def PySem.W.Fast.tw353949730321567364:Unit:=()
def PySem.W.Fast.tw8634377502576170282:Unit:=()
def PySem.W.Fast.tw9919474998123460299:Unit:=()
def PySem.W.Fast.tw11563423415555943267:Unit:=()
def PySem.W.Fast.tw777695384079093157:Unit:=()
def PySem.W.Fast.tw4543750474520828004:Unit:=()
def PySem.W.Fast.tw11899674676431578478:Unit:=()
def PySem.W.Fast.tw11133417677407856243:Unit:=()
def PySem.W.Fast.tw1418067533171118620:Unit:=()
def PySem.W.Fast.tw3620152122792013996:Unit:=()
def PySem.W.Fast.tw6906906132972105051:Unit:=()
def PySem.W.Fast.tw15210514415239347298:Unit:=()
def PySem.W.Fast.tw4519800649917147468:Unit:=()
def PySem.W.Fast.tw11071110248248692249:Unit:=()
def PySem.W.Fast.tw7735471473577912663:Unit:=()
def PySem.W.Fast.tw14522213950704041957:Unit:=()
def PySem.W.Fast.tw18141727856895745169:Unit:=()
def PySem.W.Fast.tw2605315272377149843:Unit:=()
def PySem.W.Fast.tw5247136236648499134:Unit:=()
def PySem.W.Fast.tw13037101591626884619:Unit:=()
def PySem.W.Fast.tw18146620262854700181:Unit:=()
def PySem.W.Fast.tw17786370300491049330:Unit:=()
def PySem.W.Fast.tw11446474848281158440:Unit:=()
def PySem.W.Fast.tw16602539913448037226:Unit:=()
def PySem.W.Fast.tw11601679707420078952:Unit:=()
def PySem.W.Fast.tw13905485095042334467:Unit:=()
def PySem.W.Fast.tw3261715554364437647:Unit:=()
def PySem.W.Fast.tw6150158497772699366:Unit:=()
def PySem.W.Fast.tw2372796042912807036:Unit:=()
def PySem.W.Fast.tw7388406750466610844:Unit:=()
def PySem.W.Fast.tw1306021196214273260:Unit:=()
def PySem.W.Fast.tw12420075909851298952:Unit:=()
def PySem.W.Fast.tw13872475105297047699:Unit:=()
def PySem.W.Fast.tw16506615158233061110:Unit:=()
def PySem.W.Fast.tw6908041299288769585:Unit:=()
def PySem.W.Fast.tw580783081948662450:Unit:=()
def PySem.W.Fast.tw1277436805746329065:Unit:=()
def PySem.W.Fast.tw16680900730943751395:Unit:=()
def PySem.W.Fast.tw780940791401736075:Unit:=()
def PySem.W.Fast.tw5800588918730361258:Unit:=()
def PySem.W.Fast.tw996673322770004798:Unit:=()
def PySem.W.Fast.tw16497700390924260812:Unit:=()
def PySem.W.Fast.tw4899085080196387071:Unit:=()
def PySem.W.Fast.tw10562224395391299908:Unit:=()
def PySem.W.Fast.tw10077334343820257558:Unit:=()
def PySem.W.Fast.tw5408443980569211221:Unit:=()
def PySem.W.Fast.tw12175995457351397827:Unit:=()
def PySem.W.Fast.tw2100605753048926435:Unit:=()
def PySem.W.Fast.tw17679549663269370298:Unit:=()
def PySem.W.Fast.tw6583899137591480170:Unit:=()
def PySem.W.Fast.tw11510785979913815404:Unit:=()
def PySem.W.Fast.tw507713745568023954:Unit:=()
def PySem.W.Fast.tw13385392378302050841:Unit:=()
def PySem.W.Fast.tw1283981634687962247:Unit:=()
def PySem.W.Fast.tw6641372916670402819:Unit:=()
def PySem.W.Fast.tw15071986746831865318:Unit:=()
def PySem.W.Fast.tw12368619299941069559:Unit:=()
def PySem.W.Fast.tw466618632816584531:Unit:=()
def PySem.W.Fast.tw4044440556757379782:Unit:=()
def PySem.W.Fast.tw751481320667814428:Unit:=()
def PySem.W.Fast.tw919286781466958805:Unit:=()
def PySem.W.Fast.tw16941417295691935661:Unit:=()
def PySem.W.Fast.tw7867170902852529614:Unit:=()
def PySem.W.Fast.tw16070315417012852852:Unit:=()
def PySem.W.Fast.tw12703953018743709397:Unit:=()
def PySem.W.Fast.tw6007182425436511081:Unit:=()
def PySem.W.Fast.tw1949491973964012697:Unit:=()
def PySem.W.Fast.tw3994494472691087683:Unit:=()
def PySem.W.Fast.tw12394891086867047305:Unit:=()
def PySem.W.Fast.tw9074311474813737337:Unit:=()
def PySem.W.Fast.tw9653351864805608373:Unit:=()
def PySem.W.Fast.tw3129065244360519802:Unit:=()
def PySem.W.Fast.tw2064412753741170231:Unit:=()
def PySem.W.Fast.tw13928436247689053844:Unit:=()
def PySem.W.Fast.tw15506098317968304759:Unit:=()
def PySem.W.Fast.tw13746206303454393509:Unit:=()
def PySem.W.Fast.tw1988914347242714628:Unit:=()
def PySem.W.Fast.tw7544686533118364904:Unit:=()
def PySem.W.Fast.tw10784245583459053533:Unit:=()
def PySem.W.Fast.tw6947056938481033709:Unit:=()
def PySem.W.Fast.tw3919792425563665963:Unit:=()
def PySem.W.Fast.tw18011399374755480913:Unit:=()
def PySem.W.Fast.tw4048075080271731341:Unit:=()
def PySem.W.Fast.tw1851609216404747011:Unit:=()
def PySem.W.Fast.tw5157648865593463318:Unit:=()
def PySem.W.Fast.tw10085949484371028858:Unit:=()
def PySem.W.Fast.tw9598300844930075413:Unit:=()
def PySem.W.Fast.tw18444437565382451133:Unit:=()
def PySem.W.Fast.tw11746968170965146739:Unit:=()
def PySem.W.Fast.tw10455573452007836505:Unit:=()
def PySem.W.Fast.tw5541334420615928276:Unit:=()
def PySem.W.Fast.tw6543383457921141190:Unit:=()
def PySem.W.Fast.tw6073951097678504660:Unit:=()
def PySem.W.Fast.tw13131191200329381514:Unit:=()
def PySem.W.Fast.tw3583921610094594623:Unit:=()
def PySem.W.Fast.tw1896194477412536859:Unit:=()
def PySem.W.Fast.tw13127696737438322967:Unit:=()
def PySem.W.Fast.tw982673723925508437:Unit:=()
def PySem.W.Fast.tw13667092309349703957:Unit:=()
def PySem.W.Fast.tw2398190188143410679:Unit:=()
def PySem.W.Fast.tw14008778227582529424:Unit:=()
def PySem.W.Fast.tw3213634464887160372:Unit:=()
def PySem.W.Fast.tw18111596019641323882:Unit:=()
set_option maxRecDepth 100000 in
theorem PySem.Challenge.cw_joinedasks_k24_asks_and_trees_refused_holds : PySem.Challenge.rw_joinedasks_k24_asks_and_trees_refused.Holds := by
 w_on; o_law; z_head; (case hw=>w_witness2)
 refine My.walkX (fun _=>by kernel_rfl) (My.walk (l:=PySem.Challenge.rw_joinedasks_k24_asks_and_trees_refused) rfl rfl (fun w h Y=>Y) ?F)
 case F =>
  intro w mg fa h KX G hmg
  refine' My.all_mk KX G hmg  ?ax_AskError ?ax_NoAsk ?ax_NoBoard ?ax_NoCalls ?ax_NoDeed ?ax_NoHand ?ax_NoNet ?ax_NoNumber ?ax_NoOrder ?ax_NoRow ?ax_NoSettings ?ax_NoSide ?ax_NoTable ?ax_NoText ?ax_NoToken ?ax_NoTree ?ax_TooMany ?ax_ahead_of ?ax_all_of ?ax_chained ?ax_halved ?ax_played ?ex_AskError ?ex_NoAsk ?ex_NoBoard ?ex_NoDeed ?ex_NoNumber ?ex_NoTree ?u_NoAsk_AskError ?u_NoBoard_AskError ?u_NoDeed_AskError ?u_NoNumber_AskError ?u_NoTree_AskError ?kk_NoAsk ?kk_NoBoard ?kk_NoDeed ?kk_NoNumber ?kk_NoTree ?q_NoAsk_NoAsk ?q_NoAsk_NoBoard ?q_NoAsk_NoCalls ?q_NoAsk_NoDeed ?q_NoAsk_NoHand ?q_NoAsk_NoNet ?q_NoAsk_NoNumber ?q_NoAsk_NoOrder ?q_NoAsk_NoRow ?q_NoAsk_NoSettings ?q_NoAsk_NoSide ?q_NoAsk_NoTable ?q_NoAsk_NoText ?q_NoAsk_NoToken ?q_NoAsk_NoTree ?q_NoAsk_TooMany ?q_NoAsk_ValueError ?q_NoBoard_NoAsk ?q_NoBoard_NoBoard ?q_NoBoard_NoCalls ?q_NoBoard_NoDeed ?q_NoBoard_NoHand ?q_NoBoard_NoNet ?q_NoBoard_NoNumber ?q_NoBoard_NoOrder ?q_NoBoard_NoRow ?q_NoBoard_NoSettings ?q_NoBoard_NoSide ?q_NoBoard_NoTable ?q_NoBoard_NoText ?q_NoBoard_NoToken ?q_NoBoard_NoTree ?q_NoBoard_TooMany ?q_NoBoard_ValueError ?q_NoDeed_NoAsk ?q_NoDeed_NoBoard ?q_NoDeed_NoCalls ?q_NoDeed_NoDeed ?q_NoDeed_NoHand ?q_NoDeed_NoNet ?q_NoDeed_NoNumber ?q_NoDeed_NoOrder ?q_NoDeed_NoRow ?q_NoDeed_NoSettings ?q_NoDeed_NoSide ?q_NoDeed_NoTable ?q_NoDeed_NoText ?q_NoDeed_NoToken ?q_NoDeed_NoTree ?q_NoDeed_TooMany ?q_NoDeed_ValueError ?q_NoNumber_NoAsk ?q_NoNumber_NoBoard ?q_NoNumber_NoCalls ?q_NoNumber_NoDeed ?q_NoNumber_NoHand ?q_NoNumber_NoNet ?q_NoNumber_NoNumber ?q_NoNumber_NoOrder ?q_NoNumber_NoRow ?q_NoNumber_NoSettings ?q_NoNumber_NoSide ?q_NoNumber_NoTable ?q_NoNumber_NoText ?q_NoNumber_NoToken ?q_NoNumber_NoTree ?q_NoNumber_TooMany ?q_NoNumber_ValueError ?q_NoTree_NoAsk ?q_NoTree_NoBoard ?q_NoTree_NoCalls ?q_NoTree_NoDeed ?q_NoTree_NoHand ?q_NoTree_NoNet ?q_NoTree_NoNumber ?q_NoTree_NoOrder ?q_NoTree_NoRow ?q_NoTree_NoSettings ?q_NoTree_NoSide ?q_NoTree_NoTable ?q_NoTree_NoText ?q_NoTree_NoToken ?q_NoTree_NoTree ?q_NoTree_TooMany ?q_NoTree_ValueError ?h1 ?h2 ?h3 ?h4 ?h5 ?h6 ?h7 ?h8 ?h9 ?h10 ?h11 ?h12 ?h13 ?h14 ?h15 ?h16 ?h17 ?h18 ?h19 ?h20 ?h21 ?h22 ?h23 ?h24 ?h25 ?h26 ?h27 ?h28 ?h29 ?h30 ?h31 ?h32 ?h33 ?h34 ?h35 ?h36 ?h37 ?h38 ?h39 ?h40 ?h41 ?h42 ?h43 ?h44 ?h45 ?h46 ?h47 ?h48 ?h49 ?ga_LAST_HAND ?ga_LOOK ?gl_LOOK ?ga_MOST_BOXES ?ga_MOST_DEEDS ?ga_ValueError ?ga_enumerate ?z_abs ?z_len ?z_max ?z_min ?z_divmod ?z_repr ?z_isinstance ?z_all ?z_range ?z_int ?z_bool ?z_str ?z_tuple ?z_list ?z_dict
  (case ax_AskError=>k_is)
  (case ax_NoAsk=>k_is)
  (case ax_NoBoard=>k_is)
  (case ax_NoCalls=>k_is)
  (case ax_NoDeed=>k_is)
  (case ax_NoHand=>k_is)
  (case ax_NoNet=>k_is)
  (case ax_NoNumber=>k_is)
  (case ax_NoOrder=>k_is)
  (case ax_NoRow=>k_is)
  (case ax_NoSettings=>k_is)
  (case ax_NoSide=>k_is)
  (case ax_NoTable=>k_is)
  (case ax_NoText=>k_is)
  (case ax_NoToken=>k_is)
  (case ax_NoTree=>k_is)
  (case ax_TooMany=>k_is)
  (case ax_ahead_of=>k_is)
  (case ax_all_of=>k_is)
  (case ax_chained=>k_is)
  (case ax_halved=>k_is)
  (case ax_played=>k_is)
  (case ex_AskError=>kernel_rfl)
  (case ex_NoAsk=>kernel_rfl)
  (case ex_NoBoard=>kernel_rfl)
  (case ex_NoDeed=>kernel_rfl)
  (case ex_NoNumber=>kernel_rfl)
  (case ex_NoTree=>kernel_rfl)
  (case u_NoAsk_AskError=>kernel_rfl)
  (case u_NoBoard_AskError=>kernel_rfl)
  (case u_NoDeed_AskError=>kernel_rfl)
  (case u_NoNumber_AskError=>kernel_rfl)
  (case u_NoTree_AskError=>kernel_rfl)
  (case kk_NoAsk=>exact ⟨by kernel_rfl,by kernel_rfl,by kernel_rfl,by kernel_rfl,by kernel_rfl⟩)
  (case kk_NoBoard=>exact ⟨by kernel_rfl,by kernel_rfl,by kernel_rfl,by kernel_rfl,by kernel_rfl⟩)
  (case kk_NoDeed=>exact ⟨by kernel_rfl,by kernel_rfl,by kernel_rfl,by kernel_rfl,by kernel_rfl⟩)
  (case kk_NoNumber=>exact ⟨by kernel_rfl,by kernel_rfl,by kernel_rfl,by kernel_rfl,by kernel_rfl⟩)
  (case kk_NoTree=>exact ⟨by kernel_rfl,by kernel_rfl,by kernel_rfl,by kernel_rfl,by kernel_rfl⟩)
  (case q_NoAsk_NoAsk=>kernel_rfl)
  (case q_NoAsk_NoBoard=>kernel_rfl)
  (case q_NoAsk_NoCalls=>kernel_rfl)
  (case q_NoAsk_NoDeed=>kernel_rfl)
  (case q_NoAsk_NoHand=>kernel_rfl)
  (case q_NoAsk_NoNet=>kernel_rfl)
  (case q_NoAsk_NoNumber=>kernel_rfl)
  (case q_NoAsk_NoOrder=>kernel_rfl)
  (case q_NoAsk_NoRow=>kernel_rfl)
  (case q_NoAsk_NoSettings=>kernel_rfl)
  (case q_NoAsk_NoSide=>kernel_rfl)
  (case q_NoAsk_NoTable=>kernel_rfl)
  (case q_NoAsk_NoText=>kernel_rfl)
  (case q_NoAsk_NoToken=>kernel_rfl)
  (case q_NoAsk_NoTree=>kernel_rfl)
  (case q_NoAsk_TooMany=>kernel_rfl)
  (case q_NoAsk_ValueError=>kernel_rfl)
  (case q_NoBoard_NoAsk=>kernel_rfl)
  (case q_NoBoard_NoBoard=>kernel_rfl)
  (case q_NoBoard_NoCalls=>kernel_rfl)
  (case q_NoBoard_NoDeed=>kernel_rfl)
  (case q_NoBoard_NoHand=>kernel_rfl)
  (case q_NoBoard_NoNet=>kernel_rfl)
  (case q_NoBoard_NoNumber=>kernel_rfl)
  (case q_NoBoard_NoOrder=>kernel_rfl)
  (case q_NoBoard_NoRow=>kernel_rfl)
  (case q_NoBoard_NoSettings=>kernel_rfl)
  (case q_NoBoard_NoSide=>kernel_rfl)
  (case q_NoBoard_NoTable=>kernel_rfl)
  (case q_NoBoard_NoText=>kernel_rfl)
  (case q_NoBoard_NoToken=>kernel_rfl)
  (case q_NoBoard_NoTree=>kernel_rfl)
  (case q_NoBoard_TooMany=>kernel_rfl)
  (case q_NoBoard_ValueError=>kernel_rfl)
  (case q_NoDeed_NoAsk=>kernel_rfl)
  (case q_NoDeed_NoBoard=>kernel_rfl)
  (case q_NoDeed_NoCalls=>kernel_rfl)
  (case q_NoDeed_NoDeed=>kernel_rfl)
  (case q_NoDeed_NoHand=>kernel_rfl)
  (case q_NoDeed_NoNet=>kernel_rfl)
  (case q_NoDeed_NoNumber=>kernel_rfl)
  (case q_NoDeed_NoOrder=>kernel_rfl)
  (case q_NoDeed_NoRow=>kernel_rfl)
  (case q_NoDeed_NoSettings=>kernel_rfl)
  (case q_NoDeed_NoSide=>kernel_rfl)
  (case q_NoDeed_NoTable=>kernel_rfl)
  (case q_NoDeed_NoText=>kernel_rfl)
  (case q_NoDeed_NoToken=>kernel_rfl)
  (case q_NoDeed_NoTree=>kernel_rfl)
  (case q_NoDeed_TooMany=>kernel_rfl)
  (case q_NoDeed_ValueError=>kernel_rfl)
  (case q_NoNumber_NoAsk=>kernel_rfl)
  (case q_NoNumber_NoBoard=>kernel_rfl)
  (case q_NoNumber_NoCalls=>kernel_rfl)
  (case q_NoNumber_NoDeed=>kernel_rfl)
  (case q_NoNumber_NoHand=>kernel_rfl)
  (case q_NoNumber_NoNet=>kernel_rfl)
  (case q_NoNumber_NoNumber=>kernel_rfl)
  (case q_NoNumber_NoOrder=>kernel_rfl)
  (case q_NoNumber_NoRow=>kernel_rfl)
  (case q_NoNumber_NoSettings=>kernel_rfl)
  (case q_NoNumber_NoSide=>kernel_rfl)
  (case q_NoNumber_NoTable=>kernel_rfl)
  (case q_NoNumber_NoText=>kernel_rfl)
  (case q_NoNumber_NoToken=>kernel_rfl)
  (case q_NoNumber_NoTree=>kernel_rfl)
  (case q_NoNumber_TooMany=>kernel_rfl)
  (case q_NoNumber_ValueError=>kernel_rfl)
  (case q_NoTree_NoAsk=>kernel_rfl)
  (case q_NoTree_NoBoard=>kernel_rfl)
  (case q_NoTree_NoCalls=>kernel_rfl)
  (case q_NoTree_NoDeed=>kernel_rfl)
  (case q_NoTree_NoHand=>kernel_rfl)
  (case q_NoTree_NoNet=>kernel_rfl)
  (case q_NoTree_NoNumber=>kernel_rfl)
  (case q_NoTree_NoOrder=>kernel_rfl)
  (case q_NoTree_NoRow=>kernel_rfl)
  (case q_NoTree_NoSettings=>kernel_rfl)
  (case q_NoTree_NoSide=>kernel_rfl)
  (case q_NoTree_NoTable=>kernel_rfl)
  (case q_NoTree_NoText=>kernel_rfl)
  (case q_NoTree_NoToken=>kernel_rfl)
  (case q_NoTree_NoTree=>kernel_rfl)
  (case q_NoTree_TooMany=>kernel_rfl)
  (case q_NoTree_ValueError=>kernel_rfl)
  (case h1=>exact ⟨by k_is,L2.fun_mk (by k_is) (by k_is) (by k_is)⟩)
  (case h2=>exact ⟨by k_is,L2.fun_mk (by k_is) (by k_is) (by k_is)⟩)
  (case h3=>exact ⟨by k_is,L2.fun_mk (by k_is) (by k_is) (by k_is)⟩)
  (case h4=>exact ⟨by k_is,L2.fun_mk (by k_is) (by k_is) (by k_is)⟩)
  (case h5=>exact ⟨by k_is,L2.fun_mk (by k_is) (by k_is) (by k_is)⟩)
  (case h6=>exact ⟨by k_is,L2.fun_mk (by k_is) (by k_is) (by k_is)⟩)
  (case h7=>exact ⟨by k_is,L2.fun_mk (by k_is) (by k_is) (by k_is)⟩)
  (case h8=>exact ⟨by k_is,L2.fun_mk (by k_is) (by k_is) (by k_is)⟩)
  (case h9=>exact ⟨by k_is,L2.fun_mk (by k_is) (by k_is) (by k_is)⟩)
  (case h10=>exact ⟨by k_is,L2.fun_mk (by k_is) (by k_is) (by k_is)⟩)
  (case h11=>exact ⟨by k_is,L2.fun_mk (by k_is) (by k_is) (by k_is)⟩)
  (case h12=>exact ⟨by k_is,L2.fun_mk (by k_is) (by k_is) (by k_is)⟩)
  (case h13=>exact ⟨by k_is,L2.fun_mk (by k_is) (by k_is) (by k_is)⟩)
  (case h14=>exact ⟨by k_is,L2.fun_mk (by k_is) (by k_is) (by k_is)⟩)
  (case h15=>exact ⟨by k_is,L2.fun_mk (by k_is) (by k_is) (by k_is)⟩)
  (case h16=>exact ⟨by k_is,L2.fun_mk (by k_is) (by k_is) (by k_is)⟩)
  (case h17=>exact ⟨by k_is,L2.fun_mk (by k_is) (by k_is) (by k_is)⟩)
  (case h18=>exact ⟨by k_is,L2.fun_mk (by k_is) (by k_is) (by k_is)⟩)
  (case h19=>exact ⟨by k_is,L2.fun_mk (by k_is) (by k_is) (by k_is)⟩)
  (case h20=>exact ⟨by k_is,L2.fun_mk (by k_is) (by k_is) (by k_is)⟩)
  (case h21=>exact ⟨by k_is,L2.fun_mk (by k_is) (by k_is) (by k_is)⟩)
  (case h22=>exact ⟨by k_is,L2.fun_mk (by k_is) (by k_is) (by k_is)⟩)
  (case h23=>exact ⟨by k_is,L2.fun_mk (by k_is) (by k_is) (by k_is)⟩)
  (case h24=>exact ⟨by k_is,L2.fun_mk (by k_is) (by k_is) (by k_is)⟩)
  (case h25=>exact ⟨by k_is,L2.fun_mk (by k_is) (by k_is) (by k_is)⟩)
  (case h26=>exact ⟨by k_is,L2.fun_mk (by k_is) (by k_is) (by k_is)⟩)
  (case h27=>exact ⟨by k_is,L2.fun_mk (by k_is) (by k_is) (by k_is)⟩)
  (case h28=>exact ⟨by k_is,L2.fun_mk (by k_is) (by k_is) (by k_is)⟩)
  (case h29=>exact ⟨by k_is,L2.fun_mk (by k_is) (by k_is) (by k_is)⟩)
  (case h30=>exact ⟨by k_is,L2.fun_mk (by k_is) (by k_is) (by k_is)⟩)
  (case h31=>exact ⟨by k_is,L2.fun_mk (by k_is) (by k_is) (by k_is)⟩)
  (case h32=>exact ⟨by k_is,L2.fun_mk (by k_is) (by k_is) (by k_is)⟩)
  (case h33=>exact ⟨by k_is,L2.fun_mk (by k_is) (by k_is) (by k_is)⟩)
  (case h34=>exact ⟨by k_is,L2.fun_mk (by k_is) (by k_is) (by k_is)⟩)
  (case h35=>exact ⟨by k_is,L2.fun_mk (by k_is) (by k_is) (by k_is)⟩)
  (case h36=>exact ⟨by k_is,L2.fun_mk (by k_is) (by k_is) (by k_is)⟩)
  (case h37=>exact ⟨by k_is,L2.fun_mk (by k_is) (by k_is) (by k_is)⟩)
  (case h38=>exact ⟨by k_is,L2.fun_mk (by k_is) (by k_is) (by k_is)⟩)
  (case h39=>exact ⟨by k_is,L2.fun_mk (by k_is) (by k_is) (by k_is)⟩)
  (case h40=>exact ⟨by k_is,L2.fun_mk (by k_is) (by k_is) (by k_is)⟩)
  (case h41=>exact ⟨by k_is,L2.fun_mk (by k_is) (by k_is) (by k_is)⟩)
  (case h42=>exact ⟨by k_is,L2.fun_mk (by k_is) (by k_is) (by k_is)⟩)
  (case h43=>exact ⟨by k_is,L2.fun_mk (by k_is) (by k_is) (by k_is)⟩)
  (case h44=>exact ⟨by k_is,L2.fun_mk (by k_is) (by k_is) (by k_is)⟩)
  (case h45=>exact ⟨by k_is,L2.fun_mk (by k_is) (by k_is) (by k_is)⟩)
  (case h46=>exact ⟨by k_is,L2.fun_mk (by k_is) (by k_is) (by k_is)⟩)
  (case h47=>exact ⟨by k_is,L2.fun_mk (by k_is) (by k_is) (by k_is)⟩)
  (case h48=>exact ⟨by k_is,L2.fun_mk (by k_is) (by k_is) (by k_is)⟩)
  (case h49=>exact ⟨by k_is,L2.fun_mk (by k_is) (by k_is) (by k_is)⟩)
  (case ga_LAST_HAND=>k_is)
  (case ga_LOOK=>k_is); (case gl_LOOK=>k_is)
  (case ga_MOST_BOXES=>k_is)
  (case ga_MOST_DEEDS=>k_is)
  (case ga_ValueError=>k_is)
  (case ga_enumerate=>k_is)
  (case z_abs=>k_is); (case z_len=>k_is); (case z_max=>k_is); (case z_min=>k_is); (case z_divmod=>k_is); (case z_repr=>k_is); (case z_isinstance=>k_is); (case z_all=>k_is); (case z_range=>k_is); (case z_int=>k_is); (case z_bool=>k_is); (case z_str=>k_is); (case z_tuple=>k_is); (case z_list=>k_is); (case z_dict=>k_is)
