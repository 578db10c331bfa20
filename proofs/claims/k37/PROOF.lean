import PyProof.Rows.All
import Wide.All
import OpenK.AllK
import Wide.FinOn
import Lean
import PyProof.EqAt
import PyProof.EqKinds
import PyProof.TupleCall
import PyProof.NeKinds
import PyProof.ReprRoads
import PyProof.ReprLen
import PyProof.Rows.RegStrFacts
import PyProof.Draws
import PyProof.EnumStmt
import PyProof.ZipIter
import PyProof.ListNew
import PyProof.TupleOfGen
import PyProof.ListRange
import PyProof.Rows.Range3
import PyProof.SumWalkG
import PyProof.Rows.RuleB_lshift
import PyProof.AutoSeq1
import PyProof.Cells
import PyProof.AutoListH
import PyProof.DictTable
import PyProof.RulesAs
import PyProof.NsDelKeeps
import KE.KDictList
import PyProof.ExcBaseAll.ValueError
import PyProof.ExcAttrAll.ValueError
import PyProof.IsiH_list
import PyProof.AttrMiss
import KE.KDictOf
import PyProof.StrBlock2
import PySem.Challenge.RW_joinedasks_k37_refused_in_order
set_option Elab.async false
set_option linter.all false
set_option maxRecDepth 100000
set_option maxHeartbeats 0
abbrev FG7:=PySem.W.Frag
abbrev VS7:=PySem.Value -> PySem.Shared -> Prop
namespace L2
open PySem PySem.Spec PyProof.Rows
abbrev Key:=Sum Int Str
def uY:Key -> Value -> Bool
 | .inl k,v=>Value.isInt k v
 | .inr x,v=>Value.isStrOf x v
def keyH (w:World):Key -> Int
 | .inl k=>hashInt k
 | .inr x=>hashStr w x
theorem zG:∀ {k:Key} {v:Value},uY k v = true -> (∃ i t,k = Sum.inl i /\ v = Value.int i t) \/ (∃ x t,k = Sum.inr x /\ v = Value.str x t)
 | .inl i,v,h=>by
  obtain ⟨t,e⟩:=Value.isInt_shape (k:=i) (v:=v) h
  exact .inl ⟨i,t,rfl,e⟩
 | .inr x,v,h=>by
  obtain ⟨t,e⟩:=Value.isStrOf_shape (x:=x) (v:=v) h
  exact .inr ⟨x,t,rfl,e⟩
theorem tS (i:Int) (t:Tok):uY (.inl i) (.int i t) = true:=by simp [uY,Value.isInt]
theorem jp (x:Str) (t:Tok):uY (.inr x) (.str x t) = true:=by simp [uY,Value.isStrOf]
theorem Xk (a b:Int):decide ((Sum.inl a:Key) = Sum.inl b) = (a == b):=by
 by_cases e:a = b
 ·subst e; simp
 ·have h:¬ (Sum.inl a:Key) = Sum.inl b:=fun q=>e (Sum.inl.inj q)
  rw [decide_eq_false h]
  exact (beq_eq_false_iff_ne.mpr e).symm
theorem Xl (a b:Str):decide ((Sum.inr a:Key) = Sum.inr b) = decide (a = b):=by
 by_cases e:a = b
 ·subst e; simp
 ·have h:¬ (Sum.inr a:Key) = Sum.inr b:=fun q=>e (Sum.inr.inj q)
  rw [decide_eq_false h,decide_eq_false e]
theorem Xm (a:Int) (b:Str):decide ((Sum.inl a:Key) = Sum.inr b) = false:=decide_eq_false (fun q=>nomatch q)
theorem Xn (a:Str) (b:Int):decide ((Sum.inr a:Key) = Sum.inl b) = false:=decide_eq_false (fun q=>nomatch q)
def wp (prog:Program) (w:World):PySem.KeyKind prog w Key where
 is:=uY
 hash:=keyH w
 inj:=fun v a b ha hb=>by
  rcases zG ha with ⟨i,t,rfl,rfl⟩ | ⟨x,t,rfl,rfl⟩
  ·rcases zG hb with ⟨j,u,rfl,e⟩ | ⟨y,u,rfl,e⟩
   ·injection e with e1 _; rw [e1]
   ·exact nomatch e
  ·rcases zG hb with ⟨j,u,rfl,e⟩ | ⟨y,u,rfl,e⟩
   ·exact nomatch e
   ·injection e with e1 _; rw [e1]
 byValue:=fun k v h=>by
  rcases zG h with ⟨i,t,rfl,rfl⟩ | ⟨x,t,rfl,rfl⟩ <;> rfl
 pyHash:=fun hv h=>by
  rcases zG hv with ⟨i,t,rfl,rfl⟩ | ⟨x,t,rfl,rfl⟩
  ·exact wpAny_pyHash_int h
  ·exact wpAny_pyHash_str h
 eqBool:=fun hu hv h=>by
  rcases zG hu with ⟨i,t,rfl,rfl⟩ | ⟨x,t,rfl,rfl⟩
  ·rcases zG hv with ⟨j,u,rfl,rfl⟩ | ⟨y,u,rfl,rfl⟩
   ·rw [Xk] at h; exact wpAny_eqBool_int h
   ·rw [Xm] at h; exact SeqAt.EqAt.int_str i t y u _ _ _ _ h
  ·rcases zG hv with ⟨j,u,rfl,rfl⟩ | ⟨y,u,rfl,rfl⟩
   ·rw [Xn] at h; exact SeqAt.EqAt.str_int x t j u _ _ _ _ h
   ·rw [Xl] at h; exact wpAny_eqBool_str h
 «strs»:=fun k x t v h=>by
  rcases zG h with ⟨i,u,rfl,e⟩ | ⟨y,u,rfl,e⟩
  ·exact nomatch e
  ·injection e with e1 _
   subst e1
   cases v <;> rfl
end L2
namespace L2
open PySem PySem.Spec PyProof.Rows
inductive V where
 | non | bl (b:Bool) | int (i:Int) | str (x:Str) | byt (b:Array UInt8) | flt (b:UInt64) | ref (a:Addr) | ty (n:String)
 deriving DecidableEq
def RelV:V -> Value -> Prop
 | .non,u=>u = Value.none
 | .bl b,u=>u = Value.bool b
 | .int i,u=>∃ t,u = Value.int i t
 | .str x,u=>∃ t,u = Value.str x t
 | .byt b,u=>∃ t,u = Value.bytes b t
 | .flt b,u=>∃ t,u = Value.float b t
 | .ref a,u=>u = Value.ref a
 | .ty n,u=>u = Value.type n
abbrev Vals:List V -> List Value -> Prop:=Paired RelV
theorem Vals.length {xs:List V} {us:List Value} (r:Vals xs us):xs.length = us.length:=Paired.length r
theorem Vals.get:∀ {xs:List V} {us:List Value} {i:Nat} {x:V},Vals xs us -> xs[i]? = some x -> ∃ u,us[i]? = some u /\ RelV x u
 | _,_,_,_,.nil,e=>by simp at e
 | _,_,0,_,.cons r _,e=>by simp at e; subst e; exact ⟨_,rfl,r⟩
 | _,_,i + 1,x,.cons _ t,e=>by
  obtain ⟨u,h1,h2⟩:=Vals.get (i:=i) (x:=x) t (by simpa using e)
  exact ⟨u,by simpa using h1,h2⟩
theorem Vals.set {x:V} {u:Value} (r:RelV x u):∀ {xs:List V} {us:List Value} (i:Nat),Vals xs us -> Vals (xs.set i x) (us.set i u)
 | _,_,_,.nil=>.nil
 | _,_,0,.cons _ t=>.cons r t
 | _,_,i + 1,.cons q t=>.cons q (Vals.set r i t)
theorem Vals.append:∀ {xs ys:List V} {us ws:List Value},Vals xs us -> Vals ys ws -> Vals (xs ++ ys) (us ++ ws)
 | _,_,_,_,.nil,s=>s
 | _,_,_,_,.cons r t,s=>.cons r (Vals.append t s)
theorem Vals.take:∀ {xs:List V} {us:List Value} (n:Nat),Vals xs us -> Vals (xs.take n) (us.take n)
 | _,_,0,_=>.nil
 | _,_,_ + 1,.nil=>.nil
 | _,_,n + 1,.cons r t=>.cons r (Vals.take n t)
theorem Vals.drop:∀ {xs:List V} {us:List Value} (n:Nat),Vals xs us -> Vals (xs.drop n) (us.drop n)
 | _,_,0,r=>r
 | _,_,_ + 1,.nil=>.nil
 | _,_,n + 1,.cons _ t=>Vals.drop n t
def RelO:Option V -> Option Value -> Prop
 | some v,some u=>RelV v u
 | none,none=>True
 | _,_=>False
def KV {κ:Type}:List (κ × V) -> List (κ × Value) -> Prop:=Paired fun (p:κ × V) (q:κ × Value)=>p.1 = q.1 /\ RelV p.2 q.2
def kV:Key -> V
 | .inl i=>.int i
 | .inr x=>.str x
inductive HO where
 /-- a list -/
 | lst (xs:List V)
 /-- a tuple (never changes) -/
 | tup (xs:List V)
 /-- a dict whose keys are ints and texts; one whose keys are tuples of ints and texts (the empty one is both) -/
 | dK (kvs:List (Key × V)) | dT (kvs:List (List Key × V))
 /-- a set of ints: its members,its size -/
 | set (S:Int -> Bool) (n:Nat)
 /-- an instance of the class at C,its dict at dx,its attributes -/
 | ins (C dx:Addr) (fs:List (Str × V))
 /-- the dict of the instance at x -/
 | own (x:Addr)
 /-- the dict of an exception -/
 | xd (fs:List (Str × V))
 /-- a bound method,f of x -/
 | met (f x:Addr)
 /-- a range object lo,lo + 1,.. below hi -/
 | rng (lo hi:Int)
 /-- a thing that is known to the object (the script; a dict while a loop walks it): read,never written while it is so -/
 | frz (o:Obj) (u:HO)
 /-- a code object's table -/
 | tbl (ps:Array Value)
 /-- any other thing,by what is true of its one object (a def of one's own: SetO a S n:=HO.ext fun h=>..) -/
 | ext (φ:Heap -> Prop)
abbrev Hp:=Addr -> Option HO
def upd (H:Hp) (a:Addr) (o:HO):Hp:=fun b=>if b = a then some o else H b
theorem zb {H:Hp} {a:Addr} {o:HO}:upd H a o a = some o:=by unfold upd; rw [if_pos rfl]
theorem zu {H:Hp} {a b:Addr} {o:HO} (h:b ≠ a):upd H a o b = H b:=by unfold upd; rw [if_neg h]
theorem zr {H:Hp} {a b:Addr} {o:HO} (h:H a = some o) (h':H b = none):a ≠ b:=by
 intro e; subst e; rw [h] at h'; cases h'
section
variable (P:Program) (w:World)
def ye (H:Hp) (h:Heap) (a:Addr):HO -> Prop
 | .lst xs=>xs.length <= sizeLine /\ ∃ (its:List Value) (n:Nat),Vals xs its /\ h.get? a = some { cls:=.type "list",data:=.seq its.toArray n }
 | .tup xs=>xs.length <= sizeLine /\ ∃ its:List Value,Vals xs its /\ IsTup h a its.toArray
 | .dK kvs=>kvs.length <= sizeLine /\ (a == sysModules) = false /\ ∃ vs,KV kvs vs /\ h.DictOf (wp P w) a vs
 | .dT kvs=>kvs.length <= sizeLine /\ (a == sysModules) = false /\ ∃ xs:List (List Key × Addr × Value),
   Paired (fun (p:List Key × V) (q:List Key × Addr × Value)=>p.1 = q.1 /\ H q.2.1 = some (.tup (p.1.map kV)) /\ RelV p.2 q.2.2) kvs xs ∧
   ∃ o es ep,h.get? a = some o /\ o.ExactDict /\ o.data = .dict es ep /\ es.toList = xs.map (entryOfKey (tupleKind (wp P w))) /\ (xs.map (·.1)).Nodup
 | .set S n=>h.SetOf (intKind P w) a S n
 | .ins C dx fs=>H dx = some (.own a) /\ fs.length <= 1000 /\ dx ≠ a /\ h.get? a = some (PySem.W.instObj C dx) ∧
   ∃ mA,h.Ns1 dx mA /\ (∀ f,RelO (fs.lookup f) (mA f)) /\ PySem.Within mA (fs.map (·.1))
 | .own _=>∃ o,h.get? a = some o
 | .xd fs=>∃ mA,h.Ns1 a mA /\ ∀ f,RelO (fs.lookup f) (mA f)
 | .rng lo hi=>∃ t u v,h.get? a = some { cls:=.type "range",data:=.fields #[.int lo t,.int hi u,.int 1 v] }
 | .frz o u=>h.get? a = some o /\ ye H h a u
 | .tbl ps=>h.get? a = some { cls:=.none,data:=.fields ps }
 | .met f x=>h.get? a = some (PySem.W.methodObj (.ref f) (.ref x))
 | .ext φ=>φ h /\ (∃ o,h.get? a = some o) /\ ∀ h1 h2:Heap,φ h1 -> (∀ o,h1.get? a = some o -> h2.get? a = some o) -> φ h2
def HOk (H:Hp) (h:Heap):Prop:=∀ a o,H a = some o -> ye P w H h a o
end
section
variable {P:Program} {w:World} {H H':Hp} {h h':Heap} {a:Addr} {o:HO}
theorem ye.lt (x:ye P w H h a o):a < h.objs.size:=by
 cases o with
 | lst xs=>obtain ⟨_,_,_,_,e⟩:=x; exact Heap.lt_size e
 | tup xs=>obtain ⟨_,_,_,p⟩:=x; exact p.lt
 | dK kvs=>obtain ⟨_,_,_,_,o,_,_,e,_⟩:=x; exact Heap.lt_size e
 | dT kvs=>obtain ⟨_,_,_,_,o,_,_,e,_⟩:=x; exact Heap.lt_size e
 | set S n=>obtain ⟨o,_,_,_,e,_⟩:=x; exact Heap.lt_size e
 | ins C dx fs=>obtain ⟨_,_,_,e,_⟩:=x; exact Heap.lt_size e
 | own y=>obtain ⟨_,e⟩:=x; exact Heap.lt_size e
 | xd fs=>obtain ⟨_,⟨_,_,_,e,_⟩,_⟩:=x; exact Heap.lt_size e
 | rng lo hi=>obtain ⟨_,_,_,e⟩:=x; exact Heap.lt_size e
 | frz ob u=>obtain ⟨e,_⟩:=x; exact Heap.lt_size e
 | tbl ps=>exact Heap.lt_size (show h.get? a = some _ from x)
 | met f y=>exact Heap.lt_size (show h.get? a = some _ from x)
 | ext φ=>obtain ⟨_,⟨_,e⟩,_⟩:=x; exact Heap.lt_size e
theorem Paired.mapP {α β:Type} {F G:α -> β -> Prop}:∀ {l₁:List α} {l₂:List β},Paired F l₁ l₂ -> (∀ a b,F a b -> G a b) -> Paired G l₁ l₂
 | _,_,.nil,_=>.nil
 | _,_,.cons r t,f=>.cons (f _ _ r) (Paired.mapP t f)
theorem ye.stay (x:ye P w H h a o) (k:∀ b u,(b = a \/ H b = some (.own a)) -> h.get? b = some u -> h'.get? b = some u)
  (ho:∀ b,H b = some (.own a) -> H' b = some (.own a)) (ht:∀ b xs,H b = some (.tup xs) -> H' b = some (.tup xs)):ye P w H' h' a o:=by
 induction o with
 | lst xs=>obtain ⟨z,its,n,r,e⟩:=x; exact ⟨z,its,n,r,k _ _ (.inl rfl) e⟩
 | tup xs=>obtain ⟨z,its,r,ob,e,c⟩:=x; exact ⟨z,its,r,ob,k _ _ (.inl rfl) e,c⟩
 | dK kvs=>obtain ⟨z,y,vs,r,ob,es,ep,e,c⟩:=x; exact ⟨z,y,vs,r,ob,es,ep,k _ _ (.inl rfl) e,c⟩
 | dT kvs =>
  obtain ⟨z,y,xs,r,ob,es,ep,e,c⟩:=x
  exact ⟨z,y,xs,Paired.mapP r fun p q z=>⟨z.1,ht _ _ z.2.1,z.2.2⟩,ob,es,ep,k _ _ (.inl rfl) e,c⟩
 | set S n=>obtain ⟨ob,es,ep,t,e,c⟩:=x; exact ⟨ob,es,ep,t,k _ _ (.inl rfl) e,c⟩
 | ins C dx fs =>
  obtain ⟨d,z,ne,e,mA,⟨od,es,ep,e2,c⟩,r⟩:=x
  exact ⟨ho _ d,z,ne,k _ _ (.inl rfl) e,mA,⟨od,es,ep,k _ _ (.inr d) e2,c⟩,r⟩
 | own y=>obtain ⟨ob,e⟩:=x; exact ⟨ob,k _ _ (.inl rfl) e⟩
 | xd fs=>obtain ⟨mA,⟨od,es,ep,e,c⟩,r⟩:=x; exact ⟨mA,⟨od,es,ep,k _ _ (.inl rfl) e,c⟩,r⟩
 | rng lo hi=>obtain ⟨t,u,v,e⟩:=x; exact ⟨t,u,v,k _ _ (.inl rfl) e⟩
 | frz ob u ih=>obtain ⟨e,q⟩:=x; exact ⟨k _ _ (.inl rfl) e,ih q⟩
 | tbl ps =>
  have e:h.get? a = some { cls:=.none,data:=.fields ps }:=x
  show h'.get? a = some { cls:=.none,data:=.fields ps }
  exact k a _ (.inl rfl) e
 | met f y =>
  have e:h.get? a = some (PySem.W.methodObj (.ref f) (.ref y)):=x
  show h'.get? a = some (PySem.W.methodObj (.ref f) (.ref y))
  exact k a _ (.inl rfl) e
 | ext φ=>obtain ⟨p,⟨o,e⟩,st⟩:=x; exact ⟨st _ _ p fun o q=>k _ _ (.inl rfl) q,⟨o,k _ _ (.inl rfl) e⟩,st⟩
theorem HOk.lt (x:HOk P w H h) (e:H a = some o):a < h.objs.size:=(x a o e).lt
theorem HOk.fresh (x:HOk P w H h) (e:h.objs.size <= a):H a = none:=by
 cases q:H a with
 | none=>rfl
 | some u=>exact absurd (Nat.lt_of_lt_of_le (x.lt q) e) (Nat.lt_irrefl _)
theorem HOk.kept (x:HOk P w H h) (k:∀ b u,h.get? b = some u -> h'.get? b = some u):HOk P w H h':=fun a o e =>
 (x a o e).stay (fun b u _ q=>k b u q) (fun _ q=>q) fun _ _ q=>q
theorem HOk.laid (x:HOk P w H h) (k:∀ b u,h.get? b = some u -> h'.get? b = some u) (hp:h.objs.size <= a) (new:ye P w (upd H a o) h' a o):HOk P w (upd H a o) h':=fun b u e=>by
 have hn:=x.fresh hp
 by_cases hb:b = a
 ·subst hb; rw [zb] at e; cases e; exact new
 ·rw [zu hb] at e
  exact (x b u e).stay (fun c v _ q=>k c v q) (fun c q=>by rw [zu (zr q hn)]; exact q) fun c xs q=>by rw [zu (zr q hn)]; exact q
end
def Rd (H:Hp) (a:Addr) (u:HO):Prop:=H a = some u \/ ∃ o,H a = some (.frz o u)
theorem Rd.of {H:Hp} {a:Addr} {u:HO} (h:H a = some u):Rd H a u:=.inl h
theorem Rd.ok {P:Program} {w:World} {H:Hp} {h:Heap} {a:Addr} {u:HO} (r:Rd H a u) (x:HOk P w H h):ye P w H h a u:=by
 rcases r with r | ⟨o,r⟩
 ·exact x a u r
 ·obtain ⟨_,q⟩:=x a _ r
  exact q
def Mut:Option HO -> Prop
 | some (.lst _)=>True
 | some (.dK _)=>True
 | some (.dT _)=>True
 | some (.set _ _)=>True
 | some (.ins _ _ _)=>True
 | some (.ext _)=>True
 | _=>False
section
variable {P:Program} {w:World} {H:Hp} {h h':Heap} {x e:Addr} {o':HO}
theorem HOk.write (ok:HOk P w H h) (mu:Mut (H x)) (he:e = x \/ H e = some (.own x)) (k:∀ b u,b ≠ e -> h.get? b = some u -> h'.get? b = some u) (heo:∃ u,h'.get? e = some u)
  (new:ye P w (upd H x o') h' x o'):HOk P w (upd H x o') h':=fun b u q=>by
 have nown:∀ c y,H c = some (.own y) -> c ≠ x:=fun c y r z=>by subst z; rw [r] at mu; exact mu
 have ntup:∀ c xs,H c = some (.tup xs) -> c ≠ x:=fun c xs r z=>by subst z; rw [r] at mu; exact mu
 by_cases hb:b = x
 ·subst hb; rw [zb] at q; cases q; exact new
 ·rw [zu hb] at q
  by_cases hbe:b = e
  ·have q':H b = some (.own x):=by
    rcases he with z | z
    ·exact absurd (hbe.trans z) hb
    ·rw [hbe]; exact z
   rw [q] at q'; cases q'
   obtain ⟨v,hv⟩:=heo
   exact ⟨v,by rw [hbe]; exact hv⟩
  ·refine (ok b u q).stay (fun c v hc r=>k c v ?_ r) (fun c r=>by rw [zu (nown c b r)]; exact r) fun c xs r=>by rw [zu (ntup c xs r)]; exact r
   rcases hc with rfl | hc
   ·exact hbe
   ·rintro rfl
    rcases he with z | z
    ·exact nown c b hc z
    ·rw [hc] at z; cases z; exact hb rfl
end
structure Un (fs ex:List Addr) (H H':Hp) (h h':Heap):Prop where
 keep:∀ b o,h.get? b = some o -> H b = none -> b ∉ fs -> b ∉ ex -> h'.get? b = some o
 slot:∀ b o,h.get? b = some o -> H b = none -> b ∈ fs -> b ∉ ex -> ∃ sl,h'.get? b = some { o with slots:=sl }
 free:∀ b o,h.get? b = some o -> H b = none -> b ∉ ex -> H' b = none
 there:∀ b o,h.get? b = some o -> b ∉ ex -> ∃ o',h'.get? b = some o'
 tups:∀ b xs,H b = some (.tup xs) -> H' b = some (.tup xs)
 frzs:∀ b o u,H b = some (.frz o u) -> H' b = some (.frz o u)
 tbls:∀ b ps,H b = some (.tbl ps) -> ∃ more,H' b = some (.tbl (ps ++ more))
section
variable {fs fs' ex ex':List Addr} {H H1 H2:Hp} {h h1 h2 h':Heap} {a x e:Addr} {o:HO}
theorem Un.any (u:Un fs ex H H1 h h1) {b:Addr} {ob:Obj} (q:h.get? b = some ob) (n:H b = none) (hx:b ∉ ex):∃ sl,h1.get? b = some { ob with slots:=sl }:=by
 by_cases hb:b ∈ fs
 ·exact u.slot b ob q n hb hx
 ·exact ⟨ob.slots,u.keep b ob q n hb hx⟩
theorem Un.trans (a:Un fs ex H H1 h h1) (b:Un fs ex H1 H2 h1 h2):Un fs ex H H2 h h2 where
 keep:=fun c ob q n hc hx=>b.keep c ob (a.keep c ob q n hc hx) (a.free c ob q n hx) hc hx
 slot:=fun c ob q n hc hx=>by
  obtain ⟨sl,e1⟩:=a.slot c ob q n hc hx
  obtain ⟨sl',e2⟩:=b.slot c _ e1 (a.free c ob q n hx) hc hx
  exact ⟨sl',e2⟩
 free:=fun c ob q n hx=>by
  obtain ⟨o',e1⟩:=a.there c ob q hx
  exact b.free c o' e1 (a.free c ob q n hx) hx
 there:=fun c ob q hx=>by
  obtain ⟨o',e1⟩:=a.there c ob q hx
  exact b.there c o' e1 hx
 tups:=fun c xs q=>b.tups c xs (a.tups c xs q)
 frzs:=fun c ob xs q=>b.frzs c ob xs (a.frzs c ob xs q)
 tbls:=fun c ps q=>by
  obtain ⟨m1,e1⟩:=a.tbls c ps q
  obtain ⟨m2,e2⟩:=b.tbls c _ e1
  exact ⟨m1 ++ m2,by rw [e2,Array.append_assoc]⟩
theorem Un.kept (k:∀ b u,h.get? b = some u -> h'.get? b = some u):Un fs ex H H h h' :=
 ⟨fun b ob q _ _ _=>k b ob q,fun b ob q _ _ _=>⟨ob.slots,k b ob q⟩,fun _ _ _ n _=>n,fun b ob q _=>⟨ob,k b ob q⟩,fun _ _ q=>q,fun _ _ _ q=>q,fun _ ps q=>⟨#[],by rw [q]; simp⟩⟩
theorem Un.refl:Un fs ex H H h h:=Un.kept fun _ _ q=>q
theorem Un.laid (k:∀ b u,h.get? b = some u -> h'.get? b = some u) (hp:h.objs.size <= a) (hn:H a = none):Un fs ex H (upd H a o) h h' where
 keep:=fun b u q _ _ _=>k b u q
 slot:=fun b u q _ _ _=>⟨u.slots,k b u q⟩
 free:=fun b u q n _=>by rw [zu (Nat.ne_of_lt (Nat.lt_of_lt_of_le (Heap.lt_size q) hp))]; exact n
 there:=fun b u q _=>⟨u,k b u q⟩
 tups:=fun b xs q=>by rw [zu (zr q hn)]; exact q
 frzs:=fun b u xs q=>by rw [zu (zr q hn)]; exact q
 tbls:=fun b ps q=>⟨#[],by rw [zu (zr q hn),q]; simp⟩
theorem Un.write (mu:Mut (H x)) (he:e = x \/ H e = some (.own x)) (k:∀ b u,b ≠ e -> h.get? b = some u -> h'.get? b = some u) (heo:∃ u,h'.get? e = some u):Un fs ex H (upd H x o) h h':=by
 have hx:∀ b,H b = none -> b ≠ x:=fun b n z=>by subst z; rw [n] at mu; exact mu
 have hb:∀ b,H b = none -> b ≠ e:=fun b n z=>by
  subst z
  rcases he with r | r
  ·exact hx b n r
  ·rw [n] at r; cases r
 have hm:∀ b u,H b = some u -> ¬ Mut (some u) -> b ≠ x:=fun b u q nm z=>by subst z; rw [q] at mu; exact nm mu
 refine ⟨fun b u q n _ _=>k b u (hb b n) q,fun b u q n _ _=>⟨u.slots,k b u (hb b n) q⟩,fun b u q n _=>by rw [zu (hx b n)]; exact n,fun b u q _=>?_,
  fun b xs q=>by rw [zu (hm b _ q fun z=>z)]; exact q,fun b u xs q=>by rw [zu (hm b _ q fun z=>z)]; exact q,fun b ps q=>⟨#[],by rw [zu (hm b _ q fun z=>z),q]; simp⟩⟩
 by_cases hbe:b = e
 ·subst hbe; exact heo
 ·exact ⟨u,k b u hbe q⟩
theorem Un.mono (u:Un fs ex H H1 h h1) (hs:∀ b ∈ fs,b ∈ fs') (hx:∀ b ∈ ex,b ∈ ex'):Un fs' ex' H H1 h h1 :=
 ⟨fun b ob q n hb he=>u.keep b ob q n (fun z=>hb (hs b z)) fun z=>he (hx b z),fun _ _ q n _ he=>u.any q n fun z=>he (hx _ z),fun b ob q n he=>u.free b ob q n fun z=>he (hx b z),fun b ob q he=>u.there b ob q fun z=>he (hx b z),u.tups,u.frzs,u.tbls⟩
end
def trk (h:Heap) (H:Hp):List Addr:=(List.range h.objs.size).filter fun a=>(H a).isSome
def hidT (h:Heap) (H:Hp):Heap:=PySem.W.hideAll h (trk h H)
theorem jq (h:Heap) (H:Hp):(hidT h H).objs.size = h.objs.size:=PySem.W.hideAll_size _ _
theorem ZJ {h:Heap} {H:Hp} {b:Addr} {o:Obj} (e:h.get? b = some o) (n:H b = none):(hidT h H).get? b = some o :=
 PySem.W.hideAll_get _ e fun hm=>by
  have q:(H b).isSome = true:=(List.mem_filter.mp hm).2
  rw [n] at q; simp at q
theorem YG {h:Heap} {H:Hp} {b:Addr} {o:Obj} (e:(hidT h H).get? b = some o):h.get? b = some o /\ H b = none:=by
 have e':h.get? b = some o:=PySem.W.of_hideAll (trk h H) e
 refine ⟨e',?_⟩
 cases q:H b with
 | none=>rfl
 | some x =>
  have hm:b ∈ trk h H:=List.mem_filter.mpr ⟨List.mem_range.mpr (Heap.lt_size e'),by simp [q]⟩
  have z:(hidT h H).get? b = none:=PySem.W.hideAll_none (trk h H) hm
  rw [z] at e; cases e
def YH (g h:Heap) (L:Addr):List (Addr × Obj):=(List.range h.objs.size).filterMap fun a=>if a = L \/ (g.get? a).isSome = true then none else (h.get? a).map fun o=>(a,o)
def rest (g h:Heap) (L d:Addr):List (Addr × Obj):=(YH g h L).filter fun p=>decide (p.1 ≠ d)
end L2
namespace L2
open PySem PySem.Spec PyProof.Rows
structure Mod (K:FG7) (mg:Str -> Option Value) (base:Heap):Prop where
 kin:K.In base
 glob:base.Ns mainGlobals mg
 blt:∃ mb,base.Ns builtinsNs mb /\ ∀ x:Str,x ≠ "__name__" -> mb x = bootBuiltins x
 nolimit:base.NoLimit
structure Cx where
 prog:Program
 w:World
 K:FG7
 mg:Str -> Option Value
 base:Heap
 A:Around
 N:List Str
 s₀:Shared
 H₀:Hp
 env:Env
 outer:List Env
 stack:List Env
 ex:List Addr
 fn:Str -> Bool
 calm:Bool
 pn:List (Addr × Obj)
 xe:VS7
def frs (l:List Env):List Addr:=l.filterMap (·.frame)
abbrev Cx.fs (X:Cx):List Addr:=frs X.outer
def Vis (sc:Scope) (x:Str):Prop:=sc.names.lookup x = some .local \/ sc.names.lookup x = some .cell \/ sc.names.lookup x = some .free
def Loc (sc:Scope) (x:Str):Prop:=sc.names.lookup x = some .local \/ sc.names.lookup x = some .cell
def Look (env:Env) (h:Heap) (m:Str -> Option Value) (x:Str) (u:Value):Prop :=
 (env.kindOf x = some .local /\ m x = some u) \/ ((env.kindOf x = some .cell \/ env.kindOf x = some .free) /\ ∃ c,env.cells.lookup x = some c /\ h.IsCell c (some u))
structure Cx.Ok (X:Cx):Prop where
 mod:Mod X.K X.mg X.base
 kind:X.env.scope.kind = .function
 glob:X.env.globals = mainGlobals
 blt:X.env.builtins = builtinsNs
 above:X.s₀.heap.objs.size <= X.env.locals
 inj:∀ x y c,X.env.cells.lookup x = some c -> X.env.cells.lookup y = some c -> x = y
 has:∀ x,(X.env.kindOf x = some .cell \/ X.env.kindOf x = some .free) -> ∃ c,X.env.cells.lookup x = some c
 cab:∀ x c,X.fn x = true -> X.env.cells.lookup x = some c -> X.s₀.heap.objs.size <= c
 hd:X.calm = true -> X.A.handled = none
 frames:X.A.frames = some X.stack
 stk:X.stack = X.outer \/ (X.stack = X.env :: X.outer /\ X.env.frame = some X.env.locals)
 exf:∀ b ∈ X.ex,b ≠ X.env.locals /\ ∀ x c,X.env.cells.lookup x = some c -> c ≠ b
 bs:∀ b o,X.base.get? b = some o -> X.s₀.heap.get? b = some o /\ X.H₀ b = none
 bsz:X.base.objs.size <= X.s₀.heap.objs.size
 noex:∀ b o,X.base.get? b = some o -> b ∉ X.ex
 exfs:∀ b ∈ X.ex,b ∉ X.fs
 funs:X.s₀.heap.FunFrames X.base X.outer
 frf:∀ b ∈ X.fs,X.H₀ b = none
structure Inv (X:Cx) (pins:List (Addr × Obj)) (σ:List (Option V)) (H:Hp) (s:Shared):Prop where
 ok:X.Ok
 os:s.os = X.s₀.os
 bare:AllBare s.gens
 base:Un X.fs X.ex X.H₀ H X.s₀.heap s.heap
 loc:∃ m,s.heap.Ns X.env.locals m /\ ∀ (i:Nat) (x:Str) (v:V),X.N[i]? = some x -> σ[i]? = some (some v) -> Vis X.env.scope x -> ∃ u,RelV v u /\ Look X.env s.heap m x u
 cell:∀ x c,X.env.cells.lookup x = some c -> ∃ v,s.heap.IsCell c v
 free:H X.env.locals = none
 freeC:∀ x c,X.env.cells.lookup x = some c -> H c = none
 pin:∀ p ∈ X.pn ++ pins,s.heap.get? p.1 = some p.2 /\ H p.1 = none /\ p.1 ≠ X.env.locals /\ p.1 ∉ X.fs /\ ∀ v,p.2.data ≠ .cell v
 hok:HOk X.prog X.w H s.heap
 len:σ.length = X.N.length
section
variable {X:Cx} {pins:List (Addr × Obj)} {σ:List (Option V)} {H H':Hp} {s:Shared} {h':Heap}
theorem Cx.Ok.nofr (ok:X.Ok) {b:Addr} {o:Obj} (e:X.base.get? b = some o):b ∉ X.fs:=fun hb=>by
 have:=(ok.funs.mem hb).1
 rw [e] at this; cases this
theorem Inv.bs (I:Inv X pins σ H s):∀ b o,X.base.get? b = some o -> s.heap.get? b = some o /\ H b = none:=fun b o e =>
 ⟨I.base.keep b o (I.ok.bs b o e).1 (I.ok.bs b o e).2 (I.ok.nofr e) (I.ok.noex b o e),I.base.free b o (I.ok.bs b o e).1 (I.ok.bs b o e).2 (I.ok.noex b o e)⟩
theorem Inv.bk (I:Inv X pins σ H s):∀ b o,X.base.get? b = some o -> s.heap.get? b = some o:=fun b o e=>(I.bs b o e).1
theorem Inv.mod (I:Inv X pins σ H s):Mod X.K X.mg X.base:=I.ok.mod
theorem Inv.kIn (I:Inv X pins σ H s):X.K.In s.heap:=I.ok.mod.kin.keeps I.bk
theorem Inv.nolimit (I:Inv X pins σ H s):s.heap.NoLimit:=I.ok.mod.nolimit.keeps I.bk
theorem Inv.fr (I:Inv X pins σ H s):∃ m,Fr X.base X.env.locals s.heap m :=
 let ⟨m,hn,_⟩:=I.loc
 ⟨m,hn,I.bk,Nat.le_trans I.ok.bsz I.ok.above⟩
theorem Inv.lt (I:Inv X pins σ H s):X.env.locals < s.heap.objs.size:=let ⟨_,hn,_⟩:=I.loc; hn.lt
theorem Inv.sz (I:Inv X pins σ H s):X.s₀.heap.objs.size <= s.heap.objs.size:=Nat.le_trans I.ok.above (Nat.le_of_lt I.lt)
theorem Inv.nofs (I:Inv X pins σ H s) {a:Addr} (h:s.heap.objs.size <= a):a ∉ X.fs:=fun hb=>by
 obtain ⟨_,o,ho,_⟩:=I.ok.funs.mem hb
 exact absurd (Nat.lt_of_lt_of_le (Heap.lt_size ho) (Nat.le_trans I.sz h)) (Nat.lt_irrefl _)
theorem Inv.cne (I:Inv X pins σ H s):∀ x c,X.env.cells.lookup x = some c -> c ≠ X.env.locals:=fun x c e z=>by
 obtain ⟨v,o,ho,hd⟩:=I.cell x c e
 obtain ⟨m,⟨o',es,ep,ho',hd',_⟩,_⟩:=I.loc
 rw [z,ho'] at ho; cases ho; rw [hd'] at hd; cases hd
theorem Inv.funs (I:Inv X pins σ H s):s.heap.FunFrames X.base X.outer:=by
 have all:∀ (l:List Env),(∀ b ∈ frs l,b ∈ X.fs) -> X.s₀.heap.FunFrames X.base l -> s.heap.FunFrames X.base l:=by
  intro l
  induction l with
  | nil=>intro _ _; trivial
  | cons env r ih =>
   intro hs hl
   obtain ⟨hk,⟨L,o,hf,hn,ho,hd⟩,hr⟩:=hl
   have hL:L ∈ X.fs:=hs L (by unfold frs; rw [List.filterMap_cons,hf]; exact List.mem_cons_self)
   obtain ⟨sl,e⟩:=I.base.slot L o ho (I.ok.frf L hL) hL fun z=>I.ok.exfs L z hL
   exact ⟨hk,⟨L,_,hf,hn,e,hd⟩,ih (fun b hb=>hs b (by unfold frs; rw [List.filterMap_cons,hf]; exact List.mem_cons_of_mem _ hb)) hr⟩
 exact all X.outer (fun _ hb=>hb) I.ok.funs
theorem Inv.stack (I:Inv X pins σ H s):s.heap.FunFrames X.base X.stack:=by
 rcases I.ok.stk with e | ⟨e,hf⟩
 ·rw [e]; exact I.funs
 ·rw [e]
  obtain ⟨m,hn,_⟩:=I.loc
  refine .cons (by rw [I.ok.kind]; decide) hf hn ?_ I.funs
  exact Heap.get?_none_of_le (Nat.le_trans I.ok.bsz I.ok.above)
theorem Inv.stkSub (I:Inv X pins σ H s):∀ b ∈ frs X.stack,b ∈ X.env.locals :: X.fs:=fun b hb=>by
 rcases I.ok.stk with e | ⟨e,hf⟩
 ·rw [e] at hb; exact List.mem_cons_of_mem _ hb
 ·rw [e] at hb
  unfold frs at hb
  rw [List.filterMap_cons,hf] at hb
  exact hb
theorem Inv.stkFree (I:Inv X pins σ H s):∀ b ∈ frs X.stack,H b = none:=fun b hb=>by
 rcases List.mem_cons.mp (I.stkSub b hb) with e | hb
 ·rw [e]; exact I.free
 ·obtain ⟨_,o,ho,_⟩:=I.ok.funs.mem hb
  exact I.base.free b o ho (I.ok.frf b hb) fun z=>I.ok.exfs b z hb
theorem Inv.step {g':Array GenState} {t':Nat} {d':Drawn} {ch:List Addr} (I:Inv X pins σ H s)
  (hch:∀ b ∈ ch,(b ∈ X.ex \/ X.s₀.heap.objs.size <= b) /\ b ≠ X.env.locals /\ (∀ x c,X.env.cells.lookup x = some c -> c ≠ b) /\ ∀ p ∈ X.pn ++ pins,p.1 ≠ b)
  (keep:∀ b o,b ≠ X.env.locals -> b ∉ X.fs -> b ∉ ch -> s.heap.get? b = some o -> H b = none -> h'.get? b = some o)
  (slot:∀ b o,b ≠ X.env.locals -> b ∈ X.fs -> b ∉ ch -> s.heap.get? b = some o -> H b = none -> ∃ sl,h'.get? b = some { o with slots:=sl }) (free:∀ b o,b ∉ ch -> s.heap.get? b = some o -> H b = none -> H' b = none)
  (there:∀ b o,b ∉ ch -> s.heap.get? b = some o -> ∃ o',h'.get? b = some o')
  (tups:∀ b xs,H b = some (.tup xs) -> H' b = some (.tup xs)) (frzs:∀ b o u,H b = some (.frz o u) -> H' b = some (.frz o u)) (tbls:∀ b ps,H b = some (.tbl ps) -> ∃ more,H' b = some (.tbl (ps ++ more)))
  (ns:∀ m,s.heap.Ns X.env.locals m -> h'.Ns X.env.locals m) (hok:HOk X.prog X.w H' h') (hg:AllBare g') :
  Inv X pins σ H' { s with heap:=h',gens:=g',drawn:=d',toks:=t' }:=by
 have neL:∀ b o,X.s₀.heap.get? b = some o -> b ≠ X.env.locals:=fun b o e=>Nat.ne_of_lt (Nat.lt_of_lt_of_le (Heap.lt_size e) I.ok.above)
 have neC:∀ b o,X.s₀.heap.get? b = some o -> b ∉ X.ex -> b ∉ ch:=fun b o e hx hb=>by
  rcases (hch b hb).1 with z | z
  ·exact hx z
  ·exact absurd (Nat.lt_of_lt_of_le (Heap.lt_size e) z) (Nat.lt_irrefl _)
 have cellK:∀ x c,X.env.cells.lookup x = some c -> ∀ v,s.heap.IsCell c v -> h'.IsCell c v:=fun x c e v ⟨o,ho,hd⟩=>by
  have nch:c ∉ ch:=fun z=>(hch c z).2.2.1 x c e rfl
  by_cases hc:c ∈ X.fs
  ·obtain ⟨sl,q⟩:=slot c o (I.cne x c e) hc nch ho (I.freeC x c e)
   exact ⟨_,q,hd⟩
  ·exact ⟨o,keep c o (I.cne x c e) hc nch ho (I.freeC x c e),hd⟩
 refine ⟨I.ok,I.os,hg,⟨fun b o e n hb hx=>?_,fun b o e n hb hx=>?_,fun b o e n hx=>?_,fun b o e hx=>?_,fun b xs e=>tups b xs (I.base.tups b xs e),fun b o xs e=>frzs b o xs (I.base.frzs b o xs e),fun b ps e=>?_⟩,?_,fun x c e=>?_,?_,fun x c e=>?_,fun p hp=>?_,hok,I.len⟩
 ·exact keep b o (neL b o e) hb (neC b o e hx) (I.base.keep b o e n hb hx) (I.base.free b o e n hx)
 ·obtain ⟨sl,e1⟩:=I.base.slot b o e n hb hx
  obtain ⟨sl',e2⟩:=slot b _ (neL b o e) hb (neC b o e hx) e1 (I.base.free b o e n hx)
  exact ⟨sl',e2⟩
 ·obtain ⟨o',e1⟩:=I.base.there b o e hx
  exact free b o' (neC b o e hx) e1 (I.base.free b o e n hx)
 ·obtain ⟨o',e1⟩:=I.base.there b o e hx
  exact there b o' (neC b o e hx) e1
 ·obtain ⟨m1,e1⟩:=I.base.tbls b ps e
  obtain ⟨m2,e2⟩:=tbls b _ e1
  exact ⟨m1 ++ m2,by rw [e2,Array.append_assoc]⟩
 ·obtain ⟨m,hn,hl⟩:=I.loc
  refine ⟨m,ns m hn,fun i x v e1 e2 e3=>?_⟩
  obtain ⟨u,r,l⟩:=hl i x v e1 e2 e3
  refine ⟨u,r,?_⟩
  rcases l with l | ⟨k,c,e,z⟩
  ·exact .inl l
  ·exact .inr ⟨k,c,e,cellK x c e _ z⟩
 ·obtain ⟨v,z⟩:=I.cell x c e
  exact ⟨v,cellK x c e v z⟩
 ·obtain ⟨m,⟨o,_,_,ho,_⟩,_⟩:=I.loc
  exact free _ o (fun z=>(hch _ z).2.1 rfl) ho I.free
 ·obtain ⟨v,o,ho,hd⟩:=I.cell x c e
  exact free c o (fun z=>(hch c z).2.2.1 x c e rfl) ho (I.freeC x c e)
 ·obtain ⟨e,n,ne,nf,d⟩:=I.pin p hp
  have nch:p.1 ∉ ch:=fun z=>(hch p.1 z).2.2.2 p hp rfl
  exact ⟨keep p.1 p.2 ne nf nch e n,free p.1 p.2 nch e n,ne,nf,d⟩
theorem Inv.un {t':Nat} (I:Inv X pins σ H s) (u:Un X.fs [] H H' s.heap h') (hok:HOk X.prog X.w H' h'):Inv X pins σ H' { s with heap:=h',toks:=t' }:=by
 obtain ⟨m,⟨o,es,ep,ho,r⟩,_⟩:=id I.loc
 obtain ⟨sl,hL⟩:=u.any ho I.free (by simp)
 exact I.step (g':=s.gens) (d':=s.drawn) (ch:=[]) (fun _ z=>nomatch z) (fun b o _ hb _ e n=>u.keep b o e n hb (by simp)) (fun b o _ hb _ e n=>u.slot b o e n hb (by simp)) (fun b o _ e n=>u.free b o e n (by simp)) (fun b o _ e=>u.there b o e (by simp)) u.tups u.frzs u.tbls (fun m' hm=>by
  obtain ⟨o',es',ep',ho',r'⟩:=hm
  rw [ho] at ho'; cases ho'
  exact ⟨_,es',ep',hL,r'⟩) hok I.bare
theorem Inv.call {g':Array GenState} {t':Nat} {d':Drawn} {ch:List Addr} (I:Inv X pins σ H s) (u:Un (frs X.stack) ch H H' s.heap h') (hok:HOk X.prog X.w H' h') (hg:AllBare g')
  (hch:∀ b ∈ ch,(b ∈ X.ex \/ X.s₀.heap.objs.size <= b) /\ b ≠ X.env.locals /\ (∀ x c,X.env.cells.lookup x = some c -> c ≠ b) /\ ∀ p ∈ X.pn ++ pins,p.1 ≠ b) :
  Inv X pins σ H' { s with heap:=h',gens:=g',drawn:=d',toks:=t' }:=by
 obtain ⟨m,⟨o,es,ep,ho,r⟩,_⟩:=id I.loc
 obtain ⟨sl,hL⟩:=u.any ho I.free fun z=>(hch _ z).2.1 rfl
 exact I.step (ch:=ch) hch (fun b o hL hb hc e n=>u.keep b o e n (fun z=>(List.mem_cons.mp (I.stkSub b z)).elim hL hb) hc) (fun b o _ _ hc e n=>u.any e n hc) (fun b o hc e n=>u.free b o e n hc) (fun b o hc e=>u.there b o e hc) u.tups u.frzs u.tbls (fun m' hm=>by
  obtain ⟨o',es',ep',ho',r'⟩:=hm
  rw [ho] at ho'; cases ho'
  exact ⟨_,es',ep',hL,r'⟩) hok hg
theorem Inv.turned {t':Nat} {it:Addr} (I:Inv X pins σ H s) (k:∀ b o,b ≠ it -> s.heap.get? b = some o -> h'.get? b = some o) (hn:H it = none) (hL:it ≠ X.env.locals)
  (h1:it ∈ X.ex \/ X.s₀.heap.objs.size <= it) (h2:∀ x c,X.env.cells.lookup x = some c -> c ≠ it) (h3:∀ p ∈ X.pn ++ pins,p.1 ≠ it):Inv X pins σ H { s with heap:=h',toks:=t' }:=by
 have nit:∀ b u,H b = some u -> b ≠ it:=fun b u e z=>by rw [z,hn] at e; cases e
 refine I.step (g':=s.gens) (d':=s.drawn) (ch:=[it]) (fun b hb=>?_) (fun b o _ _ hc e _=>k b o (fun z=>hc (by simp [z])) e) (fun b o _ _ hc e _=>⟨o.slots,k b o (fun z=>hc (by simp [z])) e⟩) (fun _ _ _ _ n=>n)
  (fun b o hc e=>⟨o,k b o (fun z=>hc (by simp [z])) e⟩) (fun _ _ e=>e) (fun _ _ _ e=>e) (fun b ps e=>⟨#[],by rw [e]; simp⟩) (fun m hm=>?_) (fun b u e=>?_) I.bare
 ·have e:b = it:=by simpa using hb
  subst e
  exact ⟨h1,hL,h2,h3⟩
 ·obtain ⟨o,es,ep,ho,r⟩:=hm
  exact ⟨o,es,ep,k _ o (Ne.symm hL) ho,r⟩
 ·refine (I.hok b u e).stay (fun c v hc q=>k c v ?_ q) (fun _ q=>q) fun _ _ q=>q
  rcases hc with z | z
  ·rw [z]; exact nit b u e
  ·exact nit c _ z
theorem Inv.tok (I:Inv X pins σ H s) (t:Nat):Inv X pins σ H { s with toks:=t }:=I.un (h':=s.heap) (t':=t) Un.refl I.hok
theorem Inv.kept {t':Nat} (I:Inv X pins σ H s) (k:∀ b u,s.heap.get? b = some u -> h'.get? b = some u):Inv X pins σ H { s with heap:=h',toks:=t' }:=I.un (Un.kept k) (I.hok.kept k)
theorem Inv.laid {a:Addr} {o:HO} {t':Nat} (I:Inv X pins σ H s) (k:∀ b u,s.heap.get? b = some u -> h'.get? b = some u) (hp:s.heap.objs.size <= a) (new:ye X.prog X.w (upd H a o) h' a o) :
  Inv X pins σ (upd H a o) { s with heap:=h',toks:=t' }:=I.un (Un.laid k hp (I.hok.fresh hp)) (I.hok.laid k hp new)
theorem Inv.write {x e:Addr} {o:HO} {t':Nat} (I:Inv X pins σ H s) (mu:Mut (H x)) (he:e = x \/ H e = some (.own x)) (k:∀ b u,b ≠ e -> s.heap.get? b = some u -> h'.get? b = some u) (heo:∃ u,h'.get? e = some u)
  (new:ye X.prog X.w (upd H x o) h' x o):Inv X pins σ (upd H x o) { s with heap:=h',toks:=t' }:=I.un (Un.write mu he k heo) (I.hok.write mu he k heo new)
theorem Inv.pins_of {pins':List (Addr × Obj)} (I:Inv X pins σ H s) (h:∀ p ∈ pins',s.heap.get? p.1 = some p.2 /\ H p.1 = none /\ p.1 ≠ X.env.locals /\ p.1 ∉ X.fs /\ ∀ v,p.2.data ≠ .cell v):Inv X pins' σ H s :=
 ⟨I.ok,I.os,I.bare,I.base,I.loc,I.cell,I.free,I.freeC,fun p hp=>(List.mem_append.mp hp).elim (fun z=>I.pin p (List.mem_append_left _ z)) (h p),I.hok,I.len⟩
theorem uZ {N:List Str} (hN:N.Nodup) {i j:Nat} {x:Str} (a:N[i]? = some x) (b:N[j]? = some x):i = j:=by
 obtain ⟨h1,e1⟩:=List.getElem?_eq_some_iff.mp a
 obtain ⟨h2,e2⟩:=List.getElem?_eq_some_iff.mp b
 exact (List.getElem_inj hN).mp (e1.trans e2.symm)
theorem jr {M:Model} {A:Around} {E:VS7} {i:Nat} {x:Str} {v:V} {u:Value} {Q:Unit -> Shared -> Prop} (I:Inv X pins σ H s) (hN:X.N.Nodup) (hi:X.N[i]? = some x) (hx:Loc X.env.scope x) (r:RelV v u)
  (h:∀ s',Inv X pins (σ.set i (some v)) H s' -> (∃ a,Heap.SameBut a s.heap s'.heap /\ (a = X.env.locals \/ X.env.cells.lookup x = some a)) -> Q () s') (hf:X.fn x = true \/ X.env.scope.names.lookup x = some .local :=by first | exact .inl rfl | exact .inr rfl | assumption):wpAny M A (storeName X.env x u) Q E s:=by
 obtain ⟨m,hn,hl⟩:=id I.loc
 have hcls:(X.env.scope.kind == .class || (X.env.scope.kind == .module && X.env.locals != X.env.globals)) = false:=by rw [I.ok.kind]; rfl
 have hiσ:i < σ.length:=by rw [I.len]; exact (List.getElem?_eq_some_iff.mp hi).1
 have cne:=I.cne
 have tracked:∀ {a:Addr} {h':Heap},(∃ o,s.heap.get? a = some o /\ H a = none) -> Heap.SameBut a s.heap h' -> HOk X.prog X.w H h':=fun {a h'} ha hs b ob e=>by
  obtain ⟨_,_,hfree⟩:=ha
  refine (I.hok b ob e).stay (fun c w' hc q=>(hs.2 c ?_).trans q) (fun _ q=>q) fun _ _ q=>q
  rintro rfl
  rcases hc with rfl | hc
  ·rw [hfree] at e; cases e
  ·rw [hfree] at hc; cases hc
 rcases hx with hk | hk
 ·refine wpAny_storeName_local hk hn (fun h' hn' hs=>?_) hcls
  obtain ⟨oL,_,_,hoL,_⟩:=id hn
  refine h _ ⟨I.ok,I.os,I.bare,⟨fun b o e n hb hx=>?_,fun b o e n hb hx=>?_,I.base.free,fun b o e hx=>?_,I.base.tups,I.base.frzs,I.base.tbls⟩,⟨_,hn',fun j y v' e1 e2 e3=>?_⟩,fun y c e=>?_,I.free,I.freeC,fun p hp=>?_,tracked ⟨oL,hoL,I.free⟩ hs,by simpa using I.len⟩ ⟨_,hs,.inl rfl⟩
  ·exact (hs.2 b (Nat.ne_of_lt (Nat.lt_of_lt_of_le (Heap.lt_size e) I.ok.above))).trans (I.base.keep b o e n hb hx)
  ·obtain ⟨sl,e1⟩:=I.base.slot b o e n hb hx
   exact ⟨sl,(hs.2 b (Nat.ne_of_lt (Nat.lt_of_lt_of_le (Heap.lt_size e) I.ok.above))).trans e1⟩
  ·obtain ⟨o',e1⟩:=I.base.there b o e hx
   exact ⟨o',(hs.2 b (Nat.ne_of_lt (Nat.lt_of_lt_of_le (Heap.lt_size e) I.ok.above))).trans e1⟩
  ·by_cases hj:j = i
   ·subst hj
    rw [hi] at e1; cases e1
    rw [List.getElem?_set_self hiσ] at e2
    cases e2
    exact ⟨u,r,.inl ⟨hk,by simp⟩⟩
   ·rw [List.getElem?_set_ne (Ne.symm hj)] at e2
    obtain ⟨u',r',q⟩:=hl j y v' e1 e2 e3
    refine ⟨u',r',?_⟩
    rcases q with ⟨k,e⟩ | ⟨k,c,e,z⟩
    ·refine .inl ⟨k,?_⟩
     have:y ≠ x:=fun e=>hj (uZ hN e1 (e ▸ hi))
     simp [this,e]
    ·exact .inr ⟨k,c,e,z.sameBut hs (cne y c e)⟩
  ·obtain ⟨w',z⟩:=I.cell y c e
   exact ⟨w',z.sameBut hs (cne y c e)⟩
  ·obtain ⟨e,n,ne,nf,d⟩:=I.pin p hp
   exact ⟨(hs.2 p.1 ne).trans e,n,ne,nf,d⟩
 ·have hfn:X.fn x = true:=by
   rcases hf with z | z
   ·exact z
   ·rw [z] at hk; cases hk
  obtain ⟨c,hc⟩:=I.ok.has x (.inl hk)
  obtain ⟨w',z⟩:=I.cell x c hc
  refine wpAny_storeName_cell I.ok.kind hk hc z (fun h' hc' hs=>?_)
  obtain ⟨oc,hoc,hocd⟩:=id z
  refine h { s with heap:=h' } ⟨I.ok,I.os,I.bare,⟨fun b o e n hb hx=>?_,fun b o e n hb hx=>?_,I.base.free,fun b o e hx=>?_,I.base.tups,I.base.frzs,I.base.tbls⟩,⟨m,hn.sameBut hs (Ne.symm (cne x c hc)),fun j y v' e1 e2 e3=>?_⟩,fun y c' e=>?_,I.free,I.freeC,fun p hp=>?_,tracked ⟨oc,hoc,I.freeC x c hc⟩ hs,by simpa using I.len⟩ ⟨c,hs,.inr hc⟩
  ·exact (hs.2 b (Nat.ne_of_lt (Nat.lt_of_lt_of_le (Heap.lt_size e) (I.ok.cab x c hfn hc)))).trans (I.base.keep b o e n hb hx)
  ·obtain ⟨sl,e1⟩:=I.base.slot b o e n hb hx
   exact ⟨sl,(hs.2 b (Nat.ne_of_lt (Nat.lt_of_lt_of_le (Heap.lt_size e) (I.ok.cab x c hfn hc)))).trans e1⟩
  ·obtain ⟨o',e1⟩:=I.base.there b o e hx
   exact ⟨o',(hs.2 b (Nat.ne_of_lt (Nat.lt_of_lt_of_le (Heap.lt_size e) (I.ok.cab x c hfn hc)))).trans e1⟩
  ·by_cases hj:j = i
   ·subst hj
    rw [hi] at e1; cases e1
    rw [List.getElem?_set_self hiσ] at e2
    cases e2
    exact ⟨u,r,.inr ⟨.inl hk,c,hc,hc'⟩⟩
   ·rw [List.getElem?_set_ne (Ne.symm hj)] at e2
    obtain ⟨u',r',q⟩:=hl j y v' e1 e2 e3
    refine ⟨u',r',?_⟩
    rcases q with q | ⟨k,c',e,z'⟩
    ·exact .inl q
    ·refine .inr ⟨k,c',e,z'.sameBut hs ?_⟩
     rintro rfl
     exact hj (uZ hN e1 (I.ok.inj _ _ _ e hc ▸ hi))
  ·by_cases hcc:c' = c
   ·subst hcc; exact ⟨_,hc'⟩
   ·obtain ⟨w2,z2⟩:=I.cell y c' e
    exact ⟨w2,z2.sameBut hs hcc⟩
  ·obtain ⟨e,n,ne,nf,d⟩:=I.pin p hp
   refine ⟨(hs.2 p.1 ?_).trans e,n,ne,nf,d⟩
   intro q
   rw [q,hoc] at e
   have q':oc = p.2:=Option.some.inj e
   exact d w' (by rw [← q']; exact hocd)
theorem xW {M:Model} {A:Around} {E:VS7} {i:Nat} {x:Str} {v:V} {u:Value} {Q:Unit -> Shared -> Prop} (I:Inv X pins σ H s) (hN:X.N.Nodup) (hi:X.N[i]? = some x) (hx:Loc X.env.scope x) (r:RelV v u)
  (h:∀ s',Inv X pins (σ.set i (some v)) H s' -> Q () s') (hf:X.fn x = true \/ X.env.scope.names.lookup x = some .local :=by first | exact .inl rfl | exact .inr rfl | assumption):wpAny M A (storeName X.env x u) Q E s :=
 jr I hN hi hx r (fun s' I' _=>h s' I') hf
theorem Inv.call' {s':Shared} {ch:List Addr} (I:Inv X pins σ H s) (ho:s'.os = s.os) (u:Un (frs X.stack) ch H H' s.heap s'.heap) (hok:HOk X.prog X.w H' s'.heap) (hg:AllBare s'.gens)
  (hch:∀ b ∈ ch,(b ∈ X.ex \/ X.s₀.heap.objs.size <= b) /\ b ≠ X.env.locals /\ (∀ x c,X.env.cells.lookup x = some c -> c ≠ b) /\ ∀ p ∈ X.pn ++ pins,p.1 ≠ b):Inv X pins σ H' s':=by
 obtain ⟨h',g',d',t',o'⟩:=s'
 have e:o' = s.os:=ho
 subst e
 exact I.call (g':=g') (t':=t') (d':=d') u hok hg hch
end
abbrev XK:=Value -> Option Addr -> Hp -> Prop
abbrev St:=List (Option V)
abbrev VK:=V -> Hp -> Prop
abbrev TE:=St -> Hp -> VK -> Prop
abbrev TT:=St -> Hp -> (Bool -> Hp -> Prop) -> Prop
abbrev TA:=St -> Hp -> (List V -> Hp -> Prop) -> Prop
structure Ends where
 nx:St -> Hp -> Prop
 rt:VK
 bk:St -> Hp -> Prop:=fun _ _=>False
 ct:St -> Hp -> Prop:=fun _ _=>False
abbrev TS:=Ends -> St -> Hp -> Prop
def EP (X:Cx) (pins:List (Addr × Obj)) (σ:St) (Q:VK) (u:Value) (s':Shared):Prop:=∃ v H',Inv X pins σ H' s' /\ RelV v u /\ Q v H'
def TP (X:Cx) (pins:List (Addr × Obj)) (σ:St) (Q:Bool -> Hp -> Prop) (b:Bool) (s':Shared):Prop:=∃ H',Inv X pins σ H' s' /\ Q b H'
def AP (X:Cx) (pins:List (Addr × Obj)) (σ:St) (Q:List V -> Hp -> Prop) (us:List Value) (s':Shared):Prop:=∃ vs H',Inv X pins σ H' s' /\ Vals vs us /\ Q vs H'
def SP (X:Cx) (pins:List (Addr × Obj)) (D:Ends) (f:Flow) (s':Shared):Prop :=
 match f with
 | .next=>∃ σ' H',Inv X pins σ' H' s' /\ D.nx σ' H'
 | .brk=>∃ σ' H',Inv X pins σ' H' s' /\ D.bk σ' H'
 | .cont=>∃ σ' H',Inv X pins σ' H' s' /\ D.ct σ' H'
 | .ret u=>∃ v σ' H',Inv X pins σ' H' s' /\ RelV v u /\ D.rt v H'
def PE (X:Cx) (e:Expr) (t:TE):Prop :=
 ∀ (pins:List (Addr × Obj)) (s:Shared) (σ:St) (H:Hp) (Q:VK),Inv X pins σ H s -> t σ H Q -> wpAny (model X.prog X.w) X.A (eval e X.env) (EP X pins σ Q) X.xe s
def PT (X:Cx) (e:Expr) (t:TT):Prop :=
 ∀ (pins:List (Addr × Obj)) (s:Shared) (σ:St) (H:Hp) (Q:Bool -> Hp -> Prop),Inv X pins σ H s -> t σ H Q -> wpAny (model X.prog X.w) X.A (isTrue e X.env (eval e X.env)) (TP X pins σ Q) X.xe s
def PW (X:Cx) (e:Expr) (t:TT):Prop :=
 ∀ (whole:Sem Value) (pins:List (Addr × Obj)) (s:Shared) (σ:St) (H:Hp) (Q:Bool -> Hp -> Prop),Inv X pins σ H s -> t σ H Q -> wpAny (model X.prog X.w) X.A (isTrue e X.env whole) (TP X pins σ Q) X.xe s
theorem PW.pt {X:Cx} {e:Expr} {t:TT} (h:PW X e t):PT X e t:=h _
def PA (X:Cx) (es:List Expr) (t:TA):Prop :=
 ∀ (pos:Pos) (pins:List (Addr × Obj)) (s:Shared) (σ:St) (H:Hp) (Q:List V -> Hp -> Prop),Inv X pins σ H s -> t σ H Q -> wpAny (model X.prog X.w) X.A (spliced (backTo pos (starEach es X.env))) (AP X pins σ Q) X.xe s
def PS (X:Cx) (st:Stmt) (t:TS):Prop :=
 ∀ (pins:List (Addr × Obj)) (s:Shared) (σ:St) (H:Hp) (D:Ends),Inv X pins σ H s -> t D σ H -> wpAny (model X.prog X.w) X.A (exec st X.env) (SP X pins D) X.xe s
def PSs (X:Cx) (st:List Stmt) (t:TS):Prop :=
 ∀ (pins:List (Addr × Obj)) (s:Shared) (σ:St) (H:Hp) (D:Ends),Inv X pins σ H s -> t D σ H -> wpAny (model X.prog X.w) X.A (execs st X.env) (SP X pins D) X.xe s
theorem thn {α:Type} {t:Sem α} {Q Q':α -> Shared -> Prop} {M:Model} {A:Around} {E:VS7} {s:Shared} (h:wpAny M A t Q E s) (hQ:∀ a s,Q a s -> Q' a s):wpAny M A t Q' E s:=wpAny_mono h hQ fun _ _ x=>x
end L2
namespace L2
open PySem PySem.Spec PyProof.Rows
section
variable {X:Cx}
def tVar (i:Nat):TE:=fun σ H Q=>∃ v,σ[i]? = some (some v) /\ Q v H
def tC (v:V):TE:=fun _ H Q=>Q v H
theorem Xo {i:Nat} {x:Str} {pos:Pos} (hN:X.N[i]? = some x) (hv:Vis X.env.scope x) (hd:(x == ("__debug__":Str)) = false:=by decide) (hcd:(x == ("__classdict__":Str)) = false:=by decide):PE X (.Name x pos) (tVar i):=by
 intro pins s σ H Q I h
 obtain ⟨v,e,h⟩:=h
 obtain ⟨m,hn,hl⟩:=I.loc
 obtain ⟨u,r,l⟩:=hl i x v hN e hv
 have fin:EP X pins σ Q u s:=⟨v,H,I,r,h⟩
 rcases l with ⟨hk,hm⟩ | ⟨hk,c,hc,hcell⟩
 ·exact wpAny_Name (wpAny_loadName_local I.ok.kind hk hn hm fin) hd
 ·rcases hk with hk | hk
  ·exact wpAny_Name (wpAny_loadName_cell I.ok.kind hk hc hcell fin) hd
  ·exact wpAny_Name (wpAny_loadName_free I.ok.kind hk hc hcell fin hcd) hd
theorem ze {i j pos}:PE X (.Constant (.int i) j pos) (tC (.int i)):=fun _ _ _ H _ I h=>wpAny_Constant_int ⟨.int i,H,I.tok _,⟨_,rfl⟩,h⟩
theorem wO {b j pos}:PE X (.Constant (.bool b) j pos) (tC (.bl b)):=fun _ _ _ H _ I h=>Constant_bool ⟨.bl b,H,I,rfl,h⟩
theorem xG {j pos}:PE X (.Constant .none j pos) (tC .non):=fun _ _ _ H _ I h=>Constant_none ⟨.non,H,I,rfl,h⟩
theorem zX {x j pos}:PE X (.Constant (.str x) j pos) (tC (.str x)):=fun _ _ _ H _ I h=>Calls.Constant_str ⟨.str x,H,I.tok _,⟨_,rfl⟩,h⟩
def Gl (X:Cx) (x:Str):Prop:=X.env.kindOf x = some .globalImplicit
theorem u4 {E:VS7} {pins:List (Addr × Obj)} {s:Shared} {σ:St} {H:Hp} {x:Str} {u:Value} {pos:Pos} {Q:VS7} (I:Inv X pins σ H s) (hg:Gl X x) (hm:X.mg x = some u) (h:Q u s)
  (hd:(x == ("__debug__":Str)) = false:=by decide):wpAny (model X.prog X.w) X.A (eval (.Name x pos) X.env) Q E s :=
 Calls.Name_function_global I.ok.kind hg (Calls.loadGlobal_global (by rw [I.ok.glob]; exact I.mod.glob.keeps I.bk) hm h) hd
theorem xH {E:VS7} {pins:List (Addr × Obj)} {s:Shared} {σ:St} {H:Hp} {x:Str} {u:Value} {pos:Pos} {Q:VS7} (I:Inv X pins σ H s) (hg:Gl X x) (hm:X.mg x = none) (hv:bootBuiltins x = some u) (h:Q u s)
  (hn:x ≠ "__name__":=by decide) (hd:(x == ("__debug__":Str)) = false:=by decide):wpAny (model X.prog X.w) X.A (eval (.Name x pos) X.env) Q E s:=by
 obtain ⟨mb,h1,h2⟩:=I.mod.blt
 exact Calls.Name_function_global I.ok.kind hg (Calls.loadGlobal_builtin (by rw [I.ok.glob]; exact I.mod.glob.keeps I.bk) hm (by rw [I.ok.blt]; exact h1.keeps I.bk) ((h2 x hn).trans hv) h) hd
theorem xc {x:Str} {v:V} {u:Value} {pos:Pos} (hg:Gl X x) (hm:X.mg x = some u) (r:RelV v u) (hd:(x == ("__debug__":Str)) = false:=by decide):PE X (.Name x pos) (tC v) :=
 fun _ _ _ H _ I h=>u4 I hg hm ⟨v,H,I,r,h⟩ hd
theorem YI {x:Str} {v:V} {u:Value} {pos:Pos} (hg:Gl X x) (hm:X.mg x = none) (hv:bootBuiltins x = some u) (r:RelV v u) (hn:x ≠ "__name__":=by decide) (hd:(x == ("__debug__":Str)) = false:=by decide):PE X (.Name x pos) (tC v) :=
 fun _ _ _ H _ I h=>xH I hg hm hv ⟨v,H,I,r,h⟩ hn hd
variable {a b:Expr} {ta tb:TE} {pos:Pos}
def PC (X:Cx) (op:CmpOp) (a b:Expr) (t:TE):Prop :=
 ∀ (pins:List (Addr × Obj)) (s:Shared) (σ:St) (H:Hp) (Q:VK),Inv X pins σ H s -> t σ H Q →
  wpAny (model X.prog X.w) X.A (eval a X.env) (fun v s₁=>wpAny (model X.prog X.w) X.A (eval b X.env) (fun u s₂=>wpAny (model X.prog X.w) X.A (compareOp op v u) (EP X pins σ Q) X.xe s₂) X.xe s₁) X.xe s
theorem ZK (b:Expr) {op:CmpOp} (h:op ≠ .In) (h2:op ≠ .NotIn):behindInMarks op b = false:=by
 have e1:(op == CmpOp.In) = false:=by cases op <;> first | rfl | exact absurd rfl h
 have e2:(op == CmpOp.NotIn) = false:=by cases op <;> first | rfl | exact absurd rfl h2
 cases b <;> simp [behindInMarks,e1,e2]
def Wa (ta:TE):TE:=fun σ H Q=>ta σ H fun x H1=>Q (.bl (!decide (x = .non))) H1
theorem RelV.none_iff {x:V} {v:Value} (r:RelV x v):(v == Value.none) = decide (x = .non):=by
 cases x with
 | non=>cases r; rfl
 | bl _=>cases r; rfl
 | int _=>obtain ⟨t,rfl⟩:=r; rfl
 | str _=>obtain ⟨t,rfl⟩:=r; rfl
 | byt _=>obtain ⟨t,rfl⟩:=r; rfl
 | flt _=>obtain ⟨t,rfl⟩:=r; rfl
 | ref _=>cases r; rfl
 | ty _=>cases r; rfl
theorem YJ {j pos'} (ha:PE X a ta):PC X .IsNot a (.Constant .none j pos') (Wa ta):=by
 intro pins s σ H Q I h
 refine thn (ha pins s σ H _ I h) fun v s1 ⟨x,H1,I1,r1,q1⟩=>?_
 exact Constant_none (isnot_none_gen ⟨.bl _,H1,I1,by rw [r1.none_iff]; rfl,q1⟩)
def tB (t:TE):TT:=fun σ H Q=>t σ H fun x H1=>∃ c,x = .bl c /\ Q c H1
theorem Xp {op:CmpOp} {t:TE} (h:PC X op a b t) (h1:behindInMarks op b = false:=by first | exact ZK _ (by decide) (by decide) | rfl):PT X (.Compare a [op] [b] pos) (tB t):=by
 intro pins s σ H Q I hw
 refine wpAny_isTrue_Compare1 (thn (h pins s σ H _ I hw) fun v s1 h1=>thn h1 fun u s2 h2=>thn h2 fun c s3 ⟨x,H1,I1,r1,q1⟩=>?_) h1
 obtain ⟨d,rfl,q⟩:=q1
 cases r1
 exact wpAny_truthy_bool ⟨H1,I1,q⟩
theorem yr {e:Expr} {t:TE} (h:PE X e t) (he:∀ whole,isTrue e X.env whole = (do let v ← whole; standAt e.pos; holding [v] (truthy v)):=by intro _; rfl):PT X e (tB t):=by
 intro pins s σ H Q I hw
 refine isTrue_plain (thn (h pins s σ H _ I hw) fun v s1 ⟨x,H1,I1,r1,q1⟩=>?_) (he _)
 obtain ⟨d,rfl,q⟩:=q1
 cases r1
 exact wpAny_truthy_bool ⟨H1,I1,q⟩
variable {tA tB':TT} {rest:List Expr}
def tAnd (t u:TT):TT:=fun σ H Q=>t σ H fun c H1=>if c = true then u σ H1 Q else Q false H1
def tOr (t u:TT):TT:=fun σ H Q=>t σ H fun c H1=>if c = true then Q true H1 else u σ H1 Q
def tNot (t:TT):TT:=fun σ H Q=>t σ H fun c H1=>Q (!c) H1
theorem YK (ha:PT X a tA):PW X (.BoolOp .And [a] pos) tA:=by
 intro wh pins s σ H Q I h
 refine isTrue_and (thn (ha pins s σ H Q I h) fun c s1 e=>?_)
 cases c with
 | true=>exact isTrue_and_nil e
 | false=>exact e
theorem xI (ha:PT X a tA):PW X (.BoolOp .Or [a] pos) tA:=by
 intro wh pins s σ H Q I h
 refine isTrue_or (thn (ha pins s σ H Q I h) fun c s1 e=>?_)
 cases c with
 | false=>exact isTrue_or_nil e
 | true=>exact e
theorem Xq (ha:PT X a tA) (hb:PW X (.BoolOp .And (b :: rest) pos) tB'):PW X (.BoolOp .And (a :: b :: rest) pos) (tAnd tA tB'):=by
 intro wh pins s σ H Q I h
 refine isTrue_and (thn (ha pins s σ H _ I h) fun c s1 ⟨H1,I1,q1⟩=>?_)
 cases c with
 | true=>exact hb wh pins s1 σ H1 Q I1 q1
 | false=>exact ⟨H1,I1,q1⟩
theorem vk (ha:PT X a tA) (hb:PW X (.BoolOp .Or (b :: rest) pos) tB'):PW X (.BoolOp .Or (a :: b :: rest) pos) (tOr tA tB'):=by
 intro wh pins s σ H Q I h
 refine isTrue_or (thn (ha pins s σ H _ I h) fun c s1 ⟨H1,I1,q1⟩=>?_)
 cases c with
 | true=>exact ⟨H1,I1,q1⟩
 | false=>exact hb wh pins s1 σ H1 Q I1 q1
theorem yt (ha:PT X a tA):PT X (.UnaryOp .Not a pos) (tNot tA):=by
 intro pins s σ H Q I h
 exact isTrue_not (ha pins s σ H (fun c H1=>Q (!c) H1) I h)
def Wb (ta tb:TE):TE:=fun σ H Q=>ta σ H fun x H1=>∃ c,x = .bl c /\ if c = true then tb σ H1 Q else Q (.bl false) H1
def tOrV (ta tb:TE):TE:=fun σ H Q=>ta σ H fun x H1=>∃ c,x = .bl c /\ if c = true then Q (.bl true) H1 else tb σ H1 Q
def Wc (ta:TE):TE:=fun σ H Q=>ta σ H fun x H1=>∃ c,x = .bl c /\ Q (.bl (!c)) H1
theorem xz {op} {t:TE} (h:PE X a t):PE X (.BoolOp op [a] pos) t:=fun pins s σ H Q I hw=>BoolOp_one (h pins s σ H Q I hw)
theorem xJ (ha:PE X a ta) (hb:PE X (.BoolOp .And (b :: rest) pos) tb):PE X (.BoolOp .And (a :: b :: rest) pos) (Wb ta tb):=by
 intro pins s σ H Q I h
 refine BoolOp_and (thn (ha pins s σ H _ I h) fun v s1 ⟨x,H1,I1,r1,q1⟩=>?_)
 obtain ⟨c,rfl,q1⟩:=q1
 cases r1
 refine wpAny_truthy_bool ?_
 cases c with
 | true=>exact hb pins s1 σ H1 Q I1 q1
 | false=>exact ⟨.bl false,H1,I1,rfl,q1⟩
theorem Xr (ha:PE X a ta) (hb:PE X (.BoolOp .Or (b :: rest) pos) tb):PE X (.BoolOp .Or (a :: b :: rest) pos) (tOrV ta tb):=by
 intro pins s σ H Q I h
 refine BoolOp_or (thn (ha pins s σ H _ I h) fun v s1 ⟨x,H1,I1,r1,q1⟩=>?_)
 obtain ⟨c,rfl,q1⟩:=q1
 cases r1
 refine wpAny_truthy_bool ?_
 cases c with
 | false=>exact hb pins s1 σ H1 Q I1 q1
 | true=>exact ⟨.bl true,H1,I1,rfl,q1⟩
theorem vf (ha:PE X a ta):PE X (.UnaryOp .Not a pos) (Wc ta):=by
 intro pins s σ H Q I h
 refine UnaryOp_ (thn (ha pins s σ H _ I h) fun v s1 ⟨x,H1,I1,r1,q1⟩=>?_)
 obtain ⟨c,rfl,q1⟩:=q1
 cases r1
 exact not_of (wpAny_truthy_bool ⟨.bl (!c),H1,I1,rfl,q1⟩)
def tIf (t:TT) (ta tb:TE):TE:=fun σ H Q=>t σ H fun c H1=>if c = true then ta σ H1 Q else tb σ H1 Q
theorem r6 {c:Expr} (hc:PT X c tA) (ha:PE X a ta) (hb:PE X b tb):PE X (.IfExp c a b pos) (tIf tA ta tb):=by
 intro pins s σ H Q I h
 refine wpAny_IfExp (thn (hc pins s σ H _ I h) fun d s1 ⟨H1,I1,q1⟩=>?_)
 cases d with
 | true=>exact ha pins s1 σ H1 Q I1 q1
 | false=>exact hb pins s1 σ H1 Q I1 q1
end
end L2
namespace L2
open PySem PySem.Spec PyProof.Rows
def SqL (K:FG7) (H:Hp) (a:Addr) (xs:List V):Prop :=
 Rd H a (.lst xs) ∨
  ∃ (o:Obj) (its:Array Value) (n:Nat),K.lookup a = some o /\ o.cls = .type "list" /\ o.dict = none /\ o.data = .seq its n /\ its.size <= sizeLine /\ Vals xs its.toList
def SqT (K:FG7) (H:Hp) (a:Addr) (xs:List V):Prop :=
 Rd H a (.tup xs) ∨
  ∃ (o:Obj) (its:Array Value) (n:Nat),K.lookup a = some o /\ o.cls = .type "tuple" /\ o.data = .seq its n /\ its.size <= sizeLine /\ Vals xs its.toList
def absV:Value -> Option V
 | .none=>some .non
 | .bool b=>some (.bl b)
 | .int i _=>some (.int i)
 | .str x _=>some (.str x)
 | .bytes b _=>some (.byt b)
 | .float b _=>some (.flt b)
 | .ref a=>some (.ref a)
 | .type n=>some (.ty n)
 | _=>none
theorem RelV.abs {x:V} {u:Value} (r:RelV x u):absV u = some x:=by
 cases x with
 | non=>cases r; rfl
 | bl _=>cases r; rfl
 | int _=>obtain ⟨t,rfl⟩:=r; rfl
 | str _=>obtain ⟨t,rfl⟩:=r; rfl
 | byt _=>obtain ⟨t,rfl⟩:=r; rfl
 | flt _=>obtain ⟨t,rfl⟩:=r; rfl
 | ref _=>cases r; rfl
 | ty _=>cases r; rfl
theorem RelV.inj {x y:V} {u:Value} (r:RelV x u) (q:RelV y u):x = y:=Option.some.inj (r.abs.symm.trans q.abs)
theorem Vals.inj:∀ {xs ys:List V} {us:List Value},Vals xs us -> Vals ys us -> xs = ys
 | _,_,_,.nil,.nil=>rfl
 | _,_,_,.cons r t,.cons r' t'=>by rw [r.inj r',Vals.inj t t']
section
variable {X:Cx} {pins:List (Addr × Obj)} {σ:St} {H:Hp} {s:Shared} {a:Addr} {xs ys:List V}
theorem SqL.of {K:FG7} (h:H a = some (.lst xs)):SqL K H a xs:=.inl (.inl h)
theorem SqT.of {K:FG7} (h:H a = some (.tup xs)):SqT K H a xs:=.inl (.inl h)
theorem Inv.list (I:Inv X pins σ H s) (h:SqL X.K H a xs):∃ its:List Value,Vals xs its /\ PlainL s.heap a its.toArray /\ xs.length <= sizeLine:=by
 rcases h with h | ⟨o,its,n,hk,hc,hd,hs,hz,r⟩
 ·obtain ⟨z,its,n,r,e⟩:=h.ok I.hok
  exact ⟨its,r,⟨_,n,e,rfl,rfl,rfl⟩,z⟩
 ·refine ⟨its.toList,r,⟨o,n,I.kIn a o hk,hc,hd,by simpa using hs⟩,?_⟩
  have e:=r.length
  simp only [Array.length_toList] at e
  omega
theorem Inv.tuple (I:Inv X pins σ H s) (h:SqT X.K H a xs):∃ its:List Value,Vals xs its /\ IsTup s.heap a its.toArray /\ xs.length <= sizeLine:=by
 rcases h with h | ⟨o,its,n,hk,hc,hs,hz,r⟩
 ·obtain ⟨z,its,r,p⟩:=h.ok I.hok
  exact ⟨its,r,p,z⟩
 ·refine ⟨its.toList,r,⟨o,I.kIn a o hk,hc,n,by simpa using hs⟩,?_⟩
  have e:=r.length
  simp only [Array.length_toList] at e
  omega
theorem Inv.list_inj (I:Inv X pins σ H s) (h:SqL X.K H a xs) (h':SqL X.K H a ys):xs = ys:=by
 obtain ⟨its,r,⟨o,n,e,_,_,d⟩,_⟩:=I.list h
 obtain ⟨its',r',⟨o',n',e',_,_,d'⟩,_⟩:=I.list h'
 rw [e] at e'; cases e'
 rw [d] at d'
 injection d' with d1 _
 have:its = its':=by simpa using congrArg Array.toList d1
 subst this
 exact r.inj r'
theorem Inv.tuple_inj (I:Inv X pins σ H s) (h:SqT X.K H a xs) (h':SqT X.K H a ys):xs = ys:=by
 obtain ⟨its,r,⟨o,e,_,n,d⟩,_⟩:=I.tuple h
 obtain ⟨its',r',⟨o',e',_,n',d'⟩,_⟩:=I.tuple h'
 rw [e] at e'; cases e'
 rw [d] at d'
 injection d' with d1 _
 have:its = its':=by simpa using congrArg Array.toList d1
 subst this
 exact r.inj r'
end
abbrev Cx.wish (X:Cx) (E:VS7):Cx:={ X with xe:=E }
abbrev Cx.nox (X:Cx):Cx:=X.wish fun _ _=>False
theorem Cx.Ok.wish {X:Cx} (ok:X.Ok) (E:VS7):(X.wish E).Ok :=
 ⟨ok.mod,ok.kind,ok.glob,ok.blt,ok.above,ok.inj,ok.has,ok.cab,ok.hd,ok.frames,ok.stk,ok.exf,ok.bs,ok.bsz,ok.noex,ok.exfs,ok.funs,ok.frf⟩
theorem Cx.Ok.unwish {X:Cx} {E:VS7} (ok:(X.wish E).Ok):X.Ok :=
 ⟨ok.mod,ok.kind,ok.glob,ok.blt,ok.above,ok.inj,ok.has,ok.cab,ok.hd,ok.frames,ok.stk,ok.exf,ok.bs,ok.bsz,ok.noex,ok.exfs,ok.funs,ok.frf⟩
section
variable {X:Cx} {pins:List (Addr × Obj)} {σ:St} {H:Hp} {s:Shared} {E:VS7}
theorem Inv.wish (I:Inv X pins σ H s) (E:VS7):Inv (X.wish E) pins σ H s:=⟨I.ok.wish E,I.os,I.bare,I.base,I.loc,I.cell,I.free,I.freeC,I.pin,I.hok,I.len⟩
theorem Inv.unwish (I:Inv (X.wish E) pins σ H s):Inv X pins σ H s:=⟨I.ok.unwish,I.os,I.bare,I.base,I.loc,I.cell,I.free,I.freeC,I.pin,I.hok,I.len⟩
theorem SP.unwish {D:Ends} {f:Flow} {s':Shared} (h:SP (X.wish E) pins D f s'):SP X pins D f s':=by
 cases f with
 | next=>obtain ⟨σ',H',I,q⟩:=h; exact ⟨σ',H',I.unwish,q⟩
 | brk=>obtain ⟨σ',H',I,q⟩:=h; exact ⟨σ',H',I.unwish,q⟩
 | cont=>obtain ⟨σ',H',I,q⟩:=h; exact ⟨σ',H',I.unwish,q⟩
 | ret u=>obtain ⟨v,σ',H',I,r,q⟩:=h; exact ⟨v,σ',H',I.unwish,r,q⟩
theorem PE.nox {e:Expr} {t:TE} (h:PE X.nox e t):PE X e t:=fun pins s σ H Q I hw =>
 wpAny_mono (h pins s σ H Q (I.wish _) hw) (fun _ _ ⟨v,H',I',r,q⟩=>⟨v,H',I'.unwish,r,q⟩) fun _ _ z=>False.elim z
theorem PT.nox {e:Expr} {t:TT} (h:PT X.nox e t):PT X e t:=fun pins s σ H Q I hw =>
 wpAny_mono (h pins s σ H Q (I.wish _) hw) (fun _ _ ⟨H',I',q⟩=>⟨H',I'.unwish,q⟩) fun _ _ z=>False.elim z
theorem PSs.nox {st:List Stmt} {t:TS} (h:PSs X.nox st t):PSs X st t:=fun pins s σ H D I hw =>
 wpAny_mono (h pins s σ H D (I.wish _) hw) (fun _ _ q=>q.unwish) fun _ _ z=>False.elim z
end
section
variable {X:Cx} {st:Stmt} {rest:List Stmt} {t u:TS} {e:Expr} {te:TE} {pos:Pos}
def Wd:TS:=fun D σ H=>D.nx σ H
def tSeq (t u:TS):TS:=fun D σ H=>t { D with nx:=u D } σ H
theorem zx:PSs X [] Wd:=fun _ _ σ H _ I h=>wpAny_execs_nil ⟨σ,H,I,h⟩
theorem zd (h1:PS X st t) (h2:PSs X rest u):PSs X (st :: rest) (tSeq t u):=by
 intro pins s σ H D I h
 refine wpAny_execs_cons (thn (h1 pins s σ H { D with nx:=u D } I h) fun f s1 q=>?_)
 cases f with
 | next =>
  obtain ⟨σ',H',I',q⟩:=q
  exact h2 pins s1 σ' H' D I' q
 | ret v=>exact q
 | brk=>exact q
 | cont=>exact q
theorem zg (h1:PS X st t):PSs X [st] t:=by
 intro pins s σ H D I h
 refine wpAny_execs_cons (thn (h1 pins s σ H D I h) fun f s1 q=>?_)
 cases f with
 | next=>exact wpAny_execs_nil q
 | ret v=>exact q
 | brk=>exact q
 | cont=>exact q
theorem Inv.quiet {pins:List (Addr × Obj)} {σ:St} {H:Hp} {s:Shared} (I:Inv X pins σ H s):interactive X.env = false:=by simp [interactive,I.ok.kind]
def We (te:TE):TS:=fun D σ H=>te σ H fun _ H1=>D.nx σ H1
theorem zV (he:PE X e te) (hs:swapsWith e none pos.line X.env = pure false:=by rfl):PS X (.Expr e pos) (We te):=by
 intro pins s σ H D I h
 exact wpAny_Expr_any (thn (he pins s σ H _ I h) fun v s1 ⟨x,H1,I1,r1,q1⟩=>⟨σ,H1,I1,q1⟩) I.quiet hs
def tRet (te:TE):TS:=fun D σ H=>te σ H D.rt
theorem zo (he:PE X e te):PS X (.Return (some e) pos) (tRet te):=by
 intro pins s σ H D I h
 exact wpAny_Return_some (thn (he pins s σ H _ I h) fun v s1 ⟨x,H1,I1,r1,q1⟩=>⟨x,σ,H1,I1,r1,q1⟩)
def tIfS (c:TT) (t u:TS):TS:=fun D σ H=>c σ H fun b H1=>if b = true then t D σ H1 else u D σ H1
theorem zY {c:Expr} {a b:List Stmt} {tc:TT} (hc:PT X c tc) (ha:PSs X a t) (hb:PSs X b u):PS X (.If c a b pos) (tIfS tc t u):=by
 intro pins s σ H D I h
 refine wpAny_If (thn (hc pins s σ H _ I h) fun d s1 ⟨H1,I1,q1⟩=>?_)
 cases d with
 | true=>exact ha pins s1 σ H1 D I1 q1
 | false=>exact hb pins s1 σ H1 D I1 q1
end
abbrev TG:=V -> St -> Hp -> (St -> Hp -> Prop) -> Prop
abbrev TGs:=List V -> St -> Hp -> (St -> Hp -> Prop) -> Prop
def PG (X:Cx) (target:Expr) (t:TG):Prop :=
 ∀ (pins:List (Addr × Obj)) (s:Shared) (σ:St) (H:Hp) (v:V) (u:Value) (Q:St -> Hp -> Prop),Inv X pins σ H s -> RelV v u -> t v σ H Q →
  wpAny (model X.prog X.w) X.A (assign target X.env u) (fun _ s'=>∃ σ' H',Inv X pins σ' H' s' /\ Q σ' H') X.xe s
def PGs (X:Cx) (ts:List Expr) (t:TGs):Prop :=
 ∀ (pins:List (Addr × Obj)) (s:Shared) (σ:St) (H:Hp) (vs:List V) (us:List Value) (Q:St -> Hp -> Prop),Inv X pins σ H s -> Vals vs us -> t vs σ H Q →
  wpAny (model X.prog X.w) X.A (assignInOrder ((assignEach ts X.env).map (·.2)) us) (fun _ s'=>∃ σ' H',Inv X pins σ' H' s' /\ Q σ' H') X.xe s
abbrev TSet:=V -> V -> V -> Hp -> (Hp -> Prop) -> Prop
def PSet (X:Cx) (t:TSet):Prop :=
 ∀ (pins:List (Addr × Obj)) (s:Shared) (σ:St) (H:Hp) (o i v:V) (ov iv u:Value) (Q:Hp -> Prop),Inv X pins σ H s -> RelV o ov -> RelV i iv -> RelV v u -> t o i v H Q →
  wpAny (model X.prog X.w) X.A (setItem ov iv u) (fun _ s'=>∃ H',Inv X pins σ H' s' /\ Q H') X.xe s
section
variable {X:Cx} {pos:Pos}
def wP (i:Nat):TG:=fun v σ H Q=>Q (σ.set i (some v)) H
theorem zn {i:Nat} {x:Str} (hN:X.N.Nodup) (hi:X.N[i]? = some x) (hx:Loc X.env.scope x) (hf:X.fn x = true \/ X.env.scope.names.lookup x = some .local :=by first | exact .inl rfl | exact .inr rfl | assumption):PG X (.Name x pos) (wP i):=by
 intro pins s σ H v u Q I r h
 exact wpAny_assign_Name (xW I hN hi hx r (fun s' I'=>⟨_,H,I',h⟩) hf)
def gNil:TGs:=fun vs σ H Q=>vs = [] /\ Q σ H
def Wg (t:TG) (u:TGs):TGs:=fun vs σ H Q=>∃ v r,vs = v :: r /\ t v σ H fun σ' H'=>u r σ' H' Q
theorem yx:PGs X [] gNil:=by
 intro pins s σ H vs us Q I r h
 obtain ⟨e,h⟩:=h
 subst e
 cases r
 exact assignInOrder_nil ⟨σ,H,I,h⟩
theorem zt {e:Expr} {es:List Expr} {t:TG} {u:TGs} (h1:PG X e t) (h2:PGs X es u)
  (hs:(assignEach (e :: es) X.env).map (·.2) = assign e X.env :: (assignEach es X.env).map (·.2):=by rfl):PGs X (e :: es) (Wg t u):=by
 intro pins s σ H vs us Q I r h
 obtain ⟨v,vr,e1,h⟩:=h
 subst e1
 cases r with
 | cons r rr =>
  rw [hs]
  refine assignInOrder_cons (thn (h1 pins s σ H _ _ _ I r h) fun _ s1 ⟨σ1,H1,I1,q1⟩=>?_)
  exact h2 pins s1 σ1 H1 _ _ Q I1 rr q1
def gTup (K:FG7) (n:Nat) (t:TGs):TG:=fun v σ H Q=>∃ a xs,v = .ref a /\ SqT K H a xs /\ xs.length = n /\ t xs σ H Q
theorem uD {es:List Expr} {k:Nat} {t:TGs} {n:Nat} (hc:X.calm = true) (h:PGs X es t)
  (hn:(assignEach es X.env).length = n:=by rfl) (hst:(assignEach es X.env).findIdx? (·.1) = none:=by rfl):PG X (.Tuple es k pos) (gTup X.K n t):=by
 intro pins s σ H v u Q I r hw
 obtain ⟨a,xs,e1,hq,hl,hw⟩:=hw
 subst e1
 cases r
 obtain ⟨its,rv,ht,hz⟩:=I.tuple hq
 refine assign_Tuple_tuple (I.ok.hd hc) ht (by simp [hn,← hl,rv.length]) hst fun h' hx=>?_
 have I1:Inv X pins σ H { s with heap:=h' }:=I.kept (t':=s.toks) fun b o e=>hx b o (Nat.ne_of_lt (Heap.lt_size e)) e
 exact h pins _ σ H xs _ Q I1 (by simpa using rv) hw
def gSub (to ti:TE) (t:TSet):TG:=fun v σ H Q=>to σ H fun o H1=>ti σ H1 fun i H2=>t o i v H2 fun H3=>Q σ H3
theorem uE {o i:Expr} {to ti:TE} {t:TSet} (ho:PE X o to) (hi:PE X i ti) (hs:PSet X t)
  (ha:∀ v,assign (.Subscript o i pos) X.env v = (do
   let ov ← holding [v] (eval o X.env)
   let iv ← holding [v,ov] (eval i X.env)
   standAt pos
   holding [v,ov,iv] (setItem ov iv v)
   release [v,ov,iv] []):=by intro _; rfl):PG X (.Subscript o i pos) (gSub to ti t):=by
 intro pins s σ H v u Q I r h
 rw [ha]
 refine wpAny_bind (wpAny_holding (thn (ho pins s σ H _ I h) fun ov s1 ⟨x,H1,I1,r1,q1⟩=>?_))
 refine wpAny_bind (wpAny_holding (thn (hi pins s1 σ H1 _ I1 q1) fun iv s2 ⟨y,H2,I2,r2,q2⟩=>?_))
 refine wpAny_bind (wpAny_standAt (wpAny_bind (wpAny_holding (thn (hs pins s2 σ H2 x y v ov iv u _ I2 r1 r2 r q2) fun _ s3 ⟨H3,I3,q3⟩=>?_))))
 exact wpAny_release ⟨σ,H3,I3,q3⟩
def tAsg (te:TE) (g:TG):TS:=fun D σ H=>te σ H fun x H1=>g x σ H1 D.nx
theorem wC {tg e:Expr} {te:TE} {g:TG} (he:PE X e te) (hg:PG X tg g) (hs:swapsWithSole [tg] e pos.line X.env = pure false:=by rfl) (hw:swappedStores [tg] e X.env = pure none:=by rfl)
  (h1:(assignEach [tg] X.env).map (·.2) = [assign tg X.env]:=by rfl):PS X (.Assign [tg] e pos) (tAsg te g):=by
 intro pins s σ H D I h
 refine wpAny_Assign_stores (thn (he pins s σ H _ I h) fun v s1 ⟨x,H1,I1,r1,q1⟩=>?_) hs hw
 rw [h1]
 exact thn (hg pins s1 σ H1 x v _ I1 r1 q1) fun _ s2 q=>q
theorem zD {i:Nat} {x:Str} {e:Expr} {te:TE} {pos':Pos} (hN:X.N.Nodup) (hi:X.N[i]? = some x) (hx:Loc X.env.scope x) (he:PE X e te) (hs:swapsWith e (some (.Name x pos')) pos.line X.env = pure false:=by rfl) (hf:X.fn x = true \/ X.env.scope.names.lookup x = some .local :=by first | exact .inl rfl | exact .inr rfl | assumption) :
  PS X (.Assign [.Name x pos'] e pos) (tAsg te (wP i)):=by
 intro pins s σ H D I h
 refine wpAny_Assign_Name (thn (he pins s σ H _ I h) fun v s1 ⟨y,H1,I1,r1,q1⟩=>?_) hs
 exact xW I1 hN hi hx r1 (fun s2 I2=>⟨_,H1,I2,q1⟩) hf
def tPar (i j:Nat) (ta:TA):TS:=fun D σ H=>ta σ H fun vs H1=>∃ v w,vs = [v,w] /\ D.nx ((σ.set i (some v)).set j (some w)) H1
theorem Yl {i j:Nat} {x y:Str} {a b:Expr} {ta:TA} {px py pt:Pos} {kt k2 pt2} (hc:X.calm = true) (hN:X.N.Nodup) (hi:X.N[i]? = some x) (hj:X.N[j]? = some y) (hij:i ≠ j)
  (hx:X.env.scope.names.lookup x = some .local) (hy:X.env.scope.names.lookup y = some .local) (ha:PA X [a,b] ta)
  (hw:swappedStores [.Tuple [.Name x px,.Name y py] kt pt] (.Tuple [a,b] k2 pt2) X.env = pure (some [x,y]))
  (hs:swapsWithSole [.Tuple [.Name x px,.Name y py] kt pt] (.Tuple [a,b] k2 pt2) pos.line X.env = pure false:=by rfl) :
  PS X (.Assign [.Tuple [.Name x px,.Name y py] kt pt] (.Tuple [a,b] k2 pt2) pos) (tPar i j ta):=by
 intro pins s σ H D I h
 rw [exec_Assign_arm]
 refine wpAny_bind (wpAny_standAt ?_)
 rw [hs]
 refine wpAny_bind (wpAny_pure ?_)
 rw [if_neg (by decide)]
 refine wpAny_bind (Tuple_ (thn (ha _ pins s σ H _ I h) fun us s1 ⟨vs,H1,I1,r1,q1⟩=>?_))
 obtain ⟨v,w,e1,q1⟩:=q1
 subst e1
 obtain ⟨u1,u2,rfl,rv,rw'⟩:∃ u1 u2,us = [u1,u2] /\ RelV v u1 /\ RelV w u2:=by
  cases r1 with
  | cons p q =>
   cases q with
   | cons p' q' =>
    cases q'
    exact ⟨_,_,rfl,p,p'⟩
 refine wpAny_newObj_type ?_ (by show 2 <= sizeLine; decide)
 have I2:Inv X pins σ H1 { s1 with heap:=s1.heap.push { cls:=.type "tuple",data:=.seq [u1,u2].toArray } }:=I1.kept (t':=s1.toks) fun b o e=>Heap.get?_push_of_some _ e
 rw [hw]
 refine wpAny_bind (wpAny_pure ?_)
 show wpAny (model X.prog X.w) X.A (do rule "assign.swapped-stores"; let items ← unpackItems (.ref s1.heap.objs.size) 2 none; assignInOrder [fun v=>bindName X.env y v,fun v=>bindName X.env x v] items.reverse; pure Flow.next) _ _ _
 refine wpAny_bind (wpAny_rule (wpAny_bind (unpackItems_tuple (items:=#[u1,u2]) (I.ok.hd hc) (IsTup.new s1.heap _) fun h' hx'=>?_)))
 have I3:=I2.kept (h':=h') (t':=s1.toks) fun b o e=>hx' b o (Nat.ne_of_lt (Heap.lt_size e)) e
 show wpAny _ _ (assignInOrder [fun v=>bindName X.env y v,fun v=>bindName X.env x v] [u2,u1] >>= fun _=>pure Flow.next) _ _ _
 refine wpAny_bind (assignInOrder_cons (wpAny_bindName (xW I3 hN hj (.inl hy) rw' (fun s2 I4=>?_) (.inr hy))))
 refine assignInOrder_cons (wpAny_bindName (xW I4 hN hi (.inl hx) rv (fun s3 I5=>assignInOrder_nil (wpAny_pure ?_)) (.inr hx)))
 rw [List.set_comm _ _ (Ne.symm hij)] at I5
 exact ⟨_,H1,I5,q1⟩
end
structure It where
 go:Nat -> Hp -> Prop
 yld:Nat -> Hp -> V -> Hp -> Prop
 stop:Nat -> Hp -> Prop
def FpOk (X:Cx) (pins:List (Addr × Obj)) (H:Hp) (b:Addr):Prop :=
 H b = none /\ b ≠ X.env.locals /\ b ∉ X.fs /\ (b ∈ X.ex \/ X.s₀.heap.objs.size <= b) /\ (∀ x c,X.env.cells.lookup x = some c -> c ≠ b) /\ ∀ p ∈ X.pn ++ pins,p.1 ≠ b
theorem Inv.fpOk {X:Cx} {pins:List (Addr × Obj)} {σ:St} {H H':Hp} {s:Shared} {b:Addr} (I:Inv X pins σ H s) (hb:s.heap.objs.size <= b) (hn:H' b = none):FpOk X pins H' b:=by
 refine ⟨hn,Nat.ne_of_gt (Nat.lt_of_lt_of_le I.lt hb),I.nofs hb,.inr (Nat.le_trans I.sz hb),fun x c e z=>?_,fun p hp z=>?_⟩
 ·obtain ⟨v,q⟩:=I.cell x c e
  exact absurd (Nat.lt_of_lt_of_le q.lt (by rw [z]; exact hb)) (Nat.lt_irrefl _)
 ·exact absurd (Nat.lt_of_lt_of_le (Heap.lt_size (I.pin p hp).1) (by rw [z]; exact hb)) (Nat.lt_irrefl _)
structure Turn (P:Program) (w:World) (K:FG7) (tg:Expr) (J:It) (fp:List Addr) (it:Addr) (tn:Nat -> Heap -> Prop):Prop where
 mem:it ∈ fp
 obj:∀ i h,tn i h -> ∀ b ∈ fp,∃ o,h.get? b = some o /\ ∀ v,o.data ≠ .cell v
 keep:∀ i h h',tn i h -> (∀ b ∈ fp,∀ o,h.get? b = some o -> h'.get? b = some o) -> tn i h'
 item:∀ (X:Cx),X.prog = P -> X.w = w -> X.K = K -> X.calm = true -> ∀ (i:Nat) (pins:List (Addr × Obj)) (s:Shared) (σ:St) (H:Hp) (E:VS7),Inv X pins σ H s -> (∀ b ∈ fp,FpOk X pins H b) -> tn i s.heap -> J.go i H →
  wpAny (model P w) X.A (pyNext (.ref it)) (fun r s1=>∃ u,r = some u ∧
   wpAny (model P w) X.A (letOwnedTupleGo tg (.ref it) u) (fun _ s2=>∃ x H',Inv X pins σ H' s2 /\ RelV x u /\ J.yld i H x H' /\ tn (i + 1) s2.heap /\ ∀ b ∈ fp,H' b = none) E s1) E s
 done:∀ (X:Cx),X.prog = P -> X.w = w -> X.K = K -> X.calm = true -> ∀ (i:Nat) (pins:List (Addr × Obj)) (s:Shared) (σ:St) (H:Hp) (E:VS7),Inv X pins σ H s -> (∀ b ∈ fp,FpOk X pins H b) -> tn i s.heap -> J.stop i H →
  wpAny (model P w) X.A (pyNext (.ref it)) (fun r s1=>r = none /\ Inv X pins σ H s1) E s
 self:∀ (A:Around) (i:Nat) (s:Shared) (Q:VS7) (E:VS7),tn i s.heap -> Q (.ref it) s -> wpAny (model P w) A (pyIter (.ref it)) Q E s
abbrev TI:=St -> Hp -> (It -> Hp -> Prop) -> Prop
def PIE (X:Cx) (pins:List (Addr × Obj)) (σ:St) (tg:Expr) (R:It -> Hp -> Prop) (itv:Value) (s2:Shared):Prop :=
 ∃ (it:Addr) (fp:List Addr) (tn:Nat -> Heap -> Prop) (J:It) (H':Hp),itv = .ref it /\ Inv X pins σ H' s2 /\ Turn X.prog X.w X.K tg J fp it tn /\ tn 0 s2.heap /\ (∀ b ∈ fp,FpOk X pins H' b) /\ R J H'
def PI (X:Cx) (tg iter:Expr) (wi:TI):Prop :=
 ∀ (pins:List (Addr × Obj)) (s:Shared) (σ:St) (H:Hp) (R:It -> Hp -> Prop),Inv X pins σ H s -> wi σ H R →
  wpAny (model X.prog X.w) X.A (eval iter X.env) (fun v s1=>wpAny (model X.prog X.w) X.A (pyIter v) (PIE X pins σ tg R) X.xe s1) X.xe s
theorem YL {M:Model} {A:Around} {E:VS7} {s:Shared} {tg:Expr} {it:Addr} {u:Value} {o:Obj} {n:String} {vs:Array Value} {Q:Unit -> Shared -> Prop} (ho:s.heap.get? it = some o) (hc:o.cls = .type n) (hd:o.data = .fields vs)
    (hn:["enumerate","zip","dict_itemiterator","dict_reverseitemiterator","odict_iterator","itertools.zip_longest","itertools.pairwise"].contains n = false) (hQ:Q () s):wpAny M A (letOwnedTupleGo tg (.ref it) u) Q E s:=by
  unfold letOwnedTupleGo
  cases tg <;> first
    | exact wpAny_pure hQ
    | (cases u <;> first
        | exact wpAny_pure hQ
        | (refine wpAny_bind (wpAny_load ho ?_)
           rw [hc,hd]
           show wpAny M A (if (["enumerate","zip","dict_itemiterator","dict_reverseitemiterator","odict_iterator","itertools.zip_longest","itertools.pairwise"].contains n && vs[0]? == some (rawInt _)) = true then _ else _) Q E s
           rw [if_neg (by intro h; rw [hn,Bool.false_and] at h; cases h)]
           exact wpAny_pure hQ))
def Itl (K:FG7) (a:Addr):It :=
 ⟨fun i H=>∃ xs x,SqL K H a xs /\ xs[i]? = some x,fun i H x H'=>H' = H /\ ∀ xs,SqL K H a xs -> xs[i]? = some x,fun i H=>∃ xs,SqL K H a xs /\ xs.length <= i⟩
def Itt (K:FG7) (a:Addr):It :=
 ⟨fun i H=>∃ xs x,SqT K H a xs /\ xs[i]? = some x,fun i H x H'=>H' = H /\ ∀ xs,SqT K H a xs -> xs[i]? = some x,fun i H=>∃ xs,SqT K H a xs /\ xs.length <= i⟩
def Itr (lo:Int) (n:Nat):It:=⟨fun i _=>i < n,fun i H x H'=>H' = H /\ x = .int (lo + i),fun i _=>n <= i⟩
theorem ju {P:Program} {w:World} {K:FG7} {tg:Expr} (a it:Addr):Turn P w K tg (Itl K a) [it] it (fun i h=>h.IsListIter it a i) where
 mem:=by simp
 obj:=fun i h st b hb=>by
  have e:b = it:=by simpa using hb
  subst e
  obtain ⟨o,e,c,d⟩:=st
  exact ⟨o,e,fun v z=>by rw [d] at z; cases z⟩
 keep:=fun i h h' st k=>st.at fun o e=>k it (by simp) o e
 item:=by
  intro X hP hw hK hc i pins s σ H E I hf st hg
  subst hP hw hK
  obtain ⟨xs,x,hq,hx⟩:=hg
  obtain ⟨its,rv,p,hz⟩:=I.list hq
  obtain ⟨u,hu,ru⟩:=rv.get hx
  obtain ⟨f0,f1,f2,f3,f4,f5⟩:=hf it (by simp)
  refine wpAny_pyNext_list_item st p.isList (x:=u) (by simpa using hu) fun h' st' sb=>?_
  have I1:Inv X pins σ H { s with heap:=h' }:=I.turned (t':=s.toks) (fun b o hb e=>(sb.2 b hb).trans e) f0 f1 f3 f4 f5
  obtain ⟨o,e,c,d⟩:=id st'
  exact ⟨u,rfl,YL (s:={ s with heap:=h' }) e c d (by decide) ⟨x,H,I1,ru,⟨rfl,fun ys hy=>by rw [I.list_inj hy hq]; exact hx⟩,st',fun b hb=>(hf b hb).1⟩⟩
 done:=by
  intro X hP hw hK hc i pins s σ H E I hf st hg
  subst hP hw hK
  obtain ⟨xs,hq,hx⟩:=hg
  obtain ⟨its,rv,p,hz⟩:=I.list hq
  obtain ⟨f0,f1,f2,f3,f4,f5⟩:=hf it (by simp)
  have hl:=rv.length
  exact wpAny_pyNext_list_end (I.ok.hd hc) st p.isList (by simp; omega) fun h' eb=>⟨rfl,I.turned (t':=s.toks) (fun b o hb e=>eb b o hb e) f0 f1 f3 f4 f5⟩
 self:=fun _ _ _ _ _ st h=>wpAny_pyIter_listiter st h
theorem qM {P:Program} {w:World} {K:FG7} {tg:Expr} (a it:Addr):Turn P w K tg (Itt K a) [it] it (fun i h=>h.IsTupleIter it a i) where
 mem:=by simp
 obj:=fun i h st b hb=>by
  have e:b = it:=by simpa using hb
  subst e
  obtain ⟨o,e,c,d⟩:=st
  exact ⟨o,e,fun v z=>by rw [d] at z; cases z⟩
 keep:=fun i h h' st k=>st.at fun o e=>k it (by simp) o e
 item:=by
  intro X hP hw hK hc i pins s σ H E I hf st hg
  subst hP hw hK
  obtain ⟨xs,x,hq,hx⟩:=hg
  obtain ⟨its,rv,p,hz⟩:=I.tuple hq
  obtain ⟨u,hu,ru⟩:=rv.get hx
  obtain ⟨f0,f1,f2,f3,f4,f5⟩:=hf it (by simp)
  refine wpAny_pyNext_tuple_item st (show s.heap.IsTuple a its.toArray from p) (x:=u) (by simpa using hu) fun h' st' sb=>?_
  have I1:Inv X pins σ H { s with heap:=h' }:=I.turned (t':=s.toks) (fun b o hb e=>(sb.2 b hb).trans e) f0 f1 f3 f4 f5
  obtain ⟨o,e,c,d⟩:=id st'
  exact ⟨u,rfl,YL (s:={ s with heap:=h' }) e c d (by decide) ⟨x,H,I1,ru,⟨rfl,fun ys hy=>by rw [I.tuple_inj hy hq]; exact hx⟩,st',fun b hb=>(hf b hb).1⟩⟩
 done:=by
  intro X hP hw hK hc i pins s σ H E I hf st hg
  subst hP hw hK
  obtain ⟨xs,hq,hx⟩:=hg
  obtain ⟨its,rv,p,hz⟩:=I.tuple hq
  obtain ⟨f0,f1,f2,f3,f4,f5⟩:=hf it (by simp)
  have hl:=rv.length
  exact wpAny_pyNext_tuple_end (I.ok.hd hc) st (show s.heap.IsTuple a its.toArray from p) (by simp; omega) fun h' eb=>⟨rfl,I.turned (t':=s.toks) (fun b o hb e=>eb b o hb e) f0 f1 f3 f4 f5⟩
 self:=fun _ _ _ _ _ st h=>wpAny_pyIter_tupleiter st h
theorem qN {P:Program} {w:World} {K:FG7} {tg:Expr} (it:Addr) (lo:Int) (n:Nat):Turn P w K tg (Itr lo n) [it] it (fun i h=>IsRangeIter h it (lo + (i:Nat) * 1) ((n:Int) - (i:Nat)) 1) where
 mem:=by simp
 obj:=fun i h st b hb=>by
  have e:b = it:=by simpa using hb
  subst e
  exact ⟨_,st,fun v z=>by
   have z':Data.fields _ = Data.cell v:=z
   cases z'⟩
 keep:=fun i h h' st k=>k it (by simp) _ st
 item:=by
  intro X hP hw hK hc i pins s σ H E I hf st hg
  subst hP hw hK
  obtain ⟨f0,f1,f2,f3,f4,f5⟩:=hf it (by simp)
  have W:=Walks.range (prog:=X.prog) (w:=X.w) (I.ok.hd hc) it lo 1 n
  refine W.item i s _ _ hg st fun v h' tk hv st' kk=>?_
  obtain ⟨t,rfl⟩:=hv
  have I1:Inv X pins σ H { s with heap:=h',toks:=tk }:=I.turned (fun b o hb e=>kk b o (by simpa using hb) e) f0 f1 f3 f4 f5
  refine ⟨_,rfl,YL (s:={ s with heap:=h',toks:=tk }) (n:="range_iterator") st' rfl rfl (by decide) ⟨.int (lo + i),H,I1,⟨t,?_⟩,⟨rfl,rfl⟩,st',fun b hb=>(hf b hb).1⟩⟩
  rw [Int.mul_one]
 done:=by
  intro X hP hw hK hc i pins s σ H E I hf st hg
  subst hP hw hK
  obtain ⟨f0,f1,f2,f3,f4,f5⟩:=hf it (by simp)
  exact wpAny_pyNext_range_end (I.ok.hd hc) st (by have:n <= i:=hg; omega) fun h' eb=>⟨rfl,I.turned (t':=s.toks) (fun b o hb e=>eb b o hb e) f0 f1 f3 f4 f5⟩
 self:=fun _ _ _ _ _ st h=>wpAny_pyIter_rangeiter st h
end L2
namespace L2
open PySem PySem.Spec PyProof.Rows
section
variable {X:Cx} {tg:Expr}
def Wh (K:FG7) (tl:TE):TI:=fun σ H R=>tl σ H fun x H1=>∃ a,x = .ref a /\ (∃ xs,SqL K H1 a xs) /\ R (Itl K a) H1
def iTup (K:FG7) (tl:TE):TI:=fun σ H R=>tl σ H fun x H1=>∃ a,x = .ref a /\ (∃ xs,SqT K H1 a xs) /\ R (Itt K a) H1
theorem sY {l:Expr} {tl:TE} (hl:PE X l tl):PI X tg l (Wh X.K tl):=by
 intro pins s σ H R I h
 refine thn (hl pins s σ H _ I h) fun v s1 ⟨x,H1,I1,r1,q1⟩=>?_
 obtain ⟨a,e,⟨xs,hq⟩,q⟩:=q1
 subst e
 cases r1
 obtain ⟨its,rv,p,hz⟩:=I1.list hq
 refine wpAny_pyIter_list p.isList ?_
 refine ⟨s1.heap.objs.size,[s1.heap.objs.size],_,_,H1,rfl,I1.kept (t':=s1.toks) fun b o e=>Heap.get?_push_of_some _ e,ju a _,⟨_,Heap.get?_push_size _ rfl,rfl,rfl⟩,fun b hb=>?_,q⟩
 have e:b = s1.heap.objs.size:=by simpa using hb
 subst e
 exact I1.fpOk (Nat.le_refl _) (I1.hok.fresh (Nat.le_refl _))
theorem xk {l:Expr} {tl:TE} (hl:PE X l tl):PI X tg l (iTup X.K tl):=by
 intro pins s σ H R I h
 refine thn (hl pins s σ H _ I h) fun v s1 ⟨x,H1,I1,r1,q1⟩=>?_
 obtain ⟨a,e,⟨xs,hq⟩,q⟩:=q1
 subst e
 cases r1
 obtain ⟨its,rv,p,hz⟩:=I1.tuple hq
 refine wpAny_pyIter_tuple (show s1.heap.IsTuple a its.toArray from p) ?_
 refine ⟨s1.heap.objs.size,[s1.heap.objs.size],_,_,H1,rfl,I1.kept (t':=s1.toks) fun b o e=>Heap.get?_push_of_some _ e,qM a _,⟨_,Heap.get?_push_size _ rfl,rfl,rfl⟩,fun b hb=>?_,q⟩
 have e:b = s1.heap.objs.size:=by simpa using hb
 subst e
 exact I1.fpOk (Nat.le_refl _) (I1.hok.fresh (Nat.le_refl _))
theorem r9 {pins:List (Addr × Obj)} {σ:St} {H:Hp} {s:Shared} {R:It -> Hp -> Prop} {E:VS7} {lo hi:Int} {t u v:Tok} {tk:Nat} (I:Inv X pins σ H s) (h1:-(2 ^ 62) <= lo) (h2:lo < 2 ^ 62) (h3:-(2 ^ 62) <= hi) (h4:hi < 2 ^ 62)
  (q:R (Itr lo (hi - lo).toNat) H):wpAny (model X.prog X.w) X.A (pyIter (.ref s.heap.objs.size)) (PIE X pins σ tg R) E { s with heap:=s.heap.push { cls:=.type "range",data:=.fields #[.int lo t,.int hi u,.int 1 v] },toks:=tk }:=by
 refine wpAny_pyIter_range (IsRange.new ..) (small_one h1 h2 h3 h4) ?_
 have I1:Inv X pins σ H { s with heap:=s.heap.push { cls:=.type "range",data:=.fields #[.int lo t,.int hi u,.int 1 v] },toks:=tk }:=I.kept fun b o e=>Heap.get?_push_of_some _ e
 refine ⟨(s.heap.push { cls:=.type "range",data:=.fields #[.int lo t,.int hi u,.int 1 v] }).objs.size,[(s.heap.push { cls:=.type "range",data:=.fields #[.int lo t,.int hi u,.int 1 v] }).objs.size],_,_,H,rfl,
  I1.kept (t':=tk) fun b o e=>Heap.get?_push_of_some _ e,qN _ lo (hi - lo).toNat,?_,fun b hb=>?_,q⟩
 ·have e1:lo + ((0:Nat):Int) * 1 = lo:=by simp
  have e2:(((hi - lo).toNat:Nat):Int) - ((0:Nat):Int) = Builtin.Range.rangeSize lo hi 1:=by rw [rangeSize_one]; split <;> omega
  show IsRangeIter _ _ (lo + ((0:Nat):Int) * 1) ((((hi - lo).toNat:Nat):Int) - ((0:Nat):Int)) 1
  rw [e1,e2]
  exact Heap.get?_push_size _ rfl
 ·have e:b = (s.heap.push { cls:=.type "range",data:=.fields #[.int lo t,.int hi u,.int 1 v] }).objs.size:=by simpa using hb
  subst e
  exact I1.fpOk (Nat.le_refl _) (I1.hok.fresh (Nat.le_refl _))
def Wi (ta:TA):TI:=fun σ H R=>ta σ H fun vs H1=>∃ j:Int,vs = [.int j] /\ -(2 ^ 62) <= j /\ j < 2 ^ 62 /\ R (Itr 0 j.toNat) H1
def Wj (ta:TA):TI:=fun σ H R=>ta σ H fun vs H1=>∃ i j:Int,vs = [.int i,.int j] /\ (-(2 ^ 62) <= i /\ i < 2 ^ 62 /\ -(2 ^ 62) <= j /\ j < 2 ^ 62) /\ R (Itr i (j - i).toNat) H1
theorem yh {a:Expr} {ta:TA} {p pos:Pos} (hg:Gl X "range") (hm:X.mg "range" = none) (ha:PA X [a] ta) (hs:starEach [a] X.env = [(false,eval a X.env)]:=by rfl):PI X tg (.Call (.Name "range" p) [a] [] pos) (Wi ta):=by
 intro pins s σ H R I h
 refine Call_ (xH I hg hm boot_range (PyProof.Rows.callWith_type1 (thn (ha pos pins s σ H _ I h) fun us s1 ⟨vs,H1,I1,r1,q1⟩=>?_) hs rfl))
 obtain ⟨j,e,q1,q2,q⟩:=q1
 subst e
 cases r1 with
 | cons r rr =>
  cases rr
  obtain ⟨t,rfl⟩:=r
  exact call_range_1 (r9 I1 (by omega) (by omega) q1 q2 (by simpa using q))
theorem xK {a b:Expr} {ta:TA} {p pos:Pos} (hg:Gl X "range") (hm:X.mg "range" = none) (ha:PA X [a,b] ta) (hs:starEach [a,b] X.env = [(false,eval a X.env),(false,eval b X.env)]:=by rfl) (hs2:starEach [b] X.env = [(false,eval b X.env)]:=by rfl) :
  PI X tg (.Call (.Name "range" p) [a,b] [] pos) (Wj ta):=by
 intro pins s σ H R I h
 refine Call_ (xH I hg hm boot_range (PyProof.Rows.callWith_type1 (thn (ha pos pins s σ H _ I h) fun us s1 ⟨vs,H1,I1,r1,q1⟩=>?_) (by rw [hs,hs2]) (by rw [hs2]; rfl)))
 obtain ⟨i,j,e,⟨q1,q2,q3,q4⟩,q⟩:=q1
 subst e
 cases r1 with
 | cons r rr =>
  cases rr with
  | cons r' rr =>
   cases rr
   obtain ⟨t,rfl⟩:=r
   obtain ⟨t',rfl⟩:=r'
   exact call_range_2 (r9 I1 q1 q2 q3 q4 q)
def tFor (wi:TI) (g:TG) (tb:TS):TS:=fun D σ H=>wi σ H fun J H1=>∃ W:Nat -> Nat -> St -> Hp -> Prop,(∃ m,W 0 m σ H1) /\ ∀ i m σ H,W i m σ H →
 (J.stop i H /\ D.nx σ H) \/ (J.go i H /\ ∃ N:St -> Hp -> Prop,(∀ σ' H',N σ' H' -> ∃ m',m' < m /\ W (i + 1) m' σ' H') /\ ∀ x H',J.yld i H x H' -> g x σ H' fun σ2 H2=>tb { D with nx:=N,ct:=N,bk:=D.nx } σ2 H2)
def uF (fp:List Addr) (h:Heap):List (Addr × Obj):=fp.filterMap fun b=>(h.get? b).map fun o=>(b,o)
theorem yS {fp:List Addr} {h:Heap} {b:Addr} {o:Obj} (hb:b ∈ fp) (e:h.get? b = some o):(b,o) ∈ uF fp h:=List.mem_filterMap.mpr ⟨b,hb,by rw [e]; rfl⟩
theorem jv {fp:List Addr} {h:Heap} {p:Addr × Obj} (hp:p ∈ uF fp h):p.1 ∈ fp /\ h.get? p.1 = some p.2:=by
 obtain ⟨b,hb,e⟩:=List.mem_filterMap.mp hp
 cases q:h.get? b with
 | none=>rw [q] at e; cases e
 | some o =>
  rw [q] at e
  have e':(b,o) = p:=Option.some.inj e
  subst e'
  exact ⟨hb,q⟩
theorem Inv.pinned {pins:List (Addr × Obj)} {σ:St} {H:Hp} {s:Shared} {fp:List Addr} (I:Inv X pins σ H s) (hf:∀ b ∈ fp,FpOk X pins H b) (ho:∀ b ∈ fp,∃ o,s.heap.get? b = some o /\ ∀ v,o.data ≠ .cell v):Inv X (pins ++ uF fp s.heap) σ H s :=
 I.pins_of fun p hp=>(List.mem_append.mp hp).elim (fun z=>I.pin p (List.mem_append_right _ z)) fun z=>by
  obtain ⟨hb,e⟩:=jv z
  obtain ⟨f0,f1,f2,_⟩:=hf p.1 hb
  obtain ⟨o,e',d⟩:=ho p.1 hb
  rw [e] at e'; cases e'
  exact ⟨e,f0,f1,f2,d⟩
theorem Inv.unpinned {pins pl:List (Addr × Obj)} {σ:St} {H:Hp} {s:Shared} (I:Inv X (pins ++ pl) σ H s):Inv X pins σ H s:=I.pins_of fun p hp=>I.pin p (List.mem_append_right _ (List.mem_append_left _ hp))
theorem yZ {iter:Expr} {body:List Stmt} {wi:TI} {g:TG} {tb:TS} {pos:Pos} (hp:PassesOwn (model X.prog X.w) X.A X.env X.xe) (hc:X.calm = true) (hi:PI X tg iter wi) (hg:PG X tg g) (hb:PSs X body tb)
  (hs:∀ x,foldedSetIterable iter X.env x = pure x:=by intro _; rfl):PS X (.For tg iter body [] pos) (tFor wi g tb):=by
 intro pins s σ H D I h
 refine wpAny_For (thn (hi pins s σ H _ I h) fun v s1 h1=>thn h1 fun itv s2 h2=>?_) hs
 obtain ⟨it,fp,tn,J,H2,e,I2,T,st2,f2,W,⟨m0,w0⟩,turn⟩:=h2
 subst e
 -- what stays true of the iterator's objects through the loop
 have stat:∀ {H':Hp},(∀ b ∈ fp,H' b = none) -> ∀ b ∈ fp,FpOk X pins H' b:=fun hn b hb=>⟨hn b hb,(f2 b hb).2⟩
 refine codeAny_forLoop_any (fun n s'=>∃ i σ' H',Inv X pins σ' H' s' /\ tn i s'.heap /\ (∀ b ∈ fp,H' b = none) /\ W i n σ' H') ?_ m0 ⟨0,σ,H2,I2,st2,fun b hb=>(f2 b hb).1,w0⟩
 rintro n s3 ⟨i,σ3,H3,I3,st3,fr3,w3⟩
 rcases turn i n σ3 H3 w3 with ⟨stop,qn⟩ | ⟨go,N,hN,step⟩
 ·refine wpAny_passesOwn hp (thn (T.done X rfl rfl rfl hc i pins s3 σ3 H3 X.xe I3 (stat fr3) st3 stop) fun r s4 ⟨hr,I4⟩=>?_)
  subst hr
  exact wpAny_execs_nil ⟨σ3,H3,I4,qn⟩
 ·refine wpAny_passesOwn hp (thn (T.item X rfl rfl rfl hc i pins s3 σ3 H3 X.xe I3 (stat fr3) st3 go) fun r s4 ⟨u,hr,h4⟩=>?_)
  subst hr
  refine wpAny_passesOwn hp (thn h4 fun _ s5 ⟨x,H5,I5,r5,y5,st5,fr5⟩=>?_)
  have I5':=I5.pinned (stat fr5) (T.obj _ _ st5)
  refine wpAny_passesOwn hp (thn (hg _ s5 σ3 H5 x u _ I5' r5 (step x H5 y5)) fun _ s6 ⟨σ6,H6,I6,q6⟩=>?_)
  refine wpAny_passesOwn hp (thn (hb _ s6 σ6 H6 _ I6 q6) fun f s7 q7=>?_)
  have again:∀ {σ7:St} {H7:Hp},Inv X (pins ++ uF fp s5.heap) σ7 H7 s7 -> N σ7 H7 -> ∃ m,m < n /\ ∃ i σ' H',Inv X pins σ' H' s7 /\ tn i s7.heap /\ (∀ b ∈ fp,H' b = none) /\ W i m σ' H':=fun {σ7 H7} I7 n7=>by
   obtain ⟨m',hm,w7⟩:=hN σ7 H7 n7
   refine ⟨m',hm,i + 1,σ7,H7,I7.unpinned,T.keep _ _ _ st5 fun b hb o e=>(I7.pin (b,o) (List.mem_append_right _ (List.mem_append_right _ (yS hb e)))).1,fun b hb=>?_,w7⟩
   obtain ⟨o,e,d⟩:=T.obj _ _ st5 b hb
   exact (I7.pin (b,o) (List.mem_append_right _ (List.mem_append_right _ (yS hb e)))).2.1
  cases f with
  | next=>obtain ⟨σ7,H7,I7,n7⟩:=q7; exact again I7 n7
  | cont=>obtain ⟨σ7,H7,I7,n7⟩:=q7; exact again I7 n7
  | brk=>obtain ⟨σ7,H7,I7,q7⟩:=q7; exact ⟨σ7,H7,I7.unpinned,q7⟩
  | ret v=>obtain ⟨x7,σ7,H7,I7,r7,q7⟩:=q7; exact ⟨x7,σ7,H7,I7.unpinned,r7,q7⟩
end
theorem ZL {K:FG7} {a:Addr} {xs:List V} {g:TG} {tb:TS} {D:Ends} {σ:St} {H:Hp} (Pv:Nat -> St -> Hp -> Prop) (h0:Pv 0 σ H) (hl:∀ i σ H,i <= xs.length -> Pv i σ H -> SqL K H a xs)
  (hs:∀ i x σ H,xs[i]? = some x -> Pv i σ H -> g x σ H fun σ2 H2=>tb { D with nx:=Pv (i + 1),ct:=Pv (i + 1),bk:=D.nx } σ2 H2) (hd:∀ σ H,Pv xs.length σ H -> D.nx σ H) :
  ∃ W:Nat -> Nat -> St -> Hp -> Prop,(∃ m,W 0 m σ H) /\ ∀ i m σ H,W i m σ H →
   ((Itl K a).stop i H /\ D.nx σ H) \/ ((Itl K a).go i H /\ ∃ N:St -> Hp -> Prop,(∀ σ' H',N σ' H' -> ∃ m',m' < m /\ W (i + 1) m' σ' H') /\ ∀ x H',(Itl K a).yld i H x H' -> g x σ H' fun σ2 H2=>tb { D with nx:=N,ct:=N,bk:=D.nx } σ2 H2):=by
 refine ⟨fun i m σ H=>m = xs.length - i /\ i <= xs.length /\ Pv i σ H,⟨xs.length,by simp,Nat.zero_le _,h0⟩,?_⟩
 rintro i m σ H ⟨rfl,hi,p⟩
 have q:=hl i σ H hi p
 by_cases hlt:i < xs.length
 ·refine .inr ⟨⟨xs,xs[i],q,by simp [hlt]⟩,Pv (i + 1),fun σ' H' p'=>⟨xs.length - (i + 1),by omega,rfl,hlt,p'⟩,fun x H' y=>?_⟩
  obtain ⟨e,y⟩:=y
  subst e
  exact hs i x σ _ (y xs q) p
 ·have e:i = xs.length:=by omega
  subst e
  exact .inl ⟨⟨xs,q,Nat.le_refl _⟩,hd σ H p⟩
theorem sZ {K:FG7} {a:Addr} {xs:List V} {g:TG} {tb:TS} {D:Ends} {σ:St} {H:Hp} (Pv:Nat -> St -> Hp -> Prop) (h0:Pv 0 σ H) (hl:∀ i σ H,i <= xs.length -> Pv i σ H -> SqT K H a xs)
  (hs:∀ i x σ H,xs[i]? = some x -> Pv i σ H -> g x σ H fun σ2 H2=>tb { D with nx:=Pv (i + 1),ct:=Pv (i + 1),bk:=D.nx } σ2 H2) (hd:∀ σ H,Pv xs.length σ H -> D.nx σ H) :
  ∃ W:Nat -> Nat -> St -> Hp -> Prop,(∃ m,W 0 m σ H) /\ ∀ i m σ H,W i m σ H →
   ((Itt K a).stop i H /\ D.nx σ H) \/ ((Itt K a).go i H /\ ∃ N:St -> Hp -> Prop,(∀ σ' H',N σ' H' -> ∃ m',m' < m /\ W (i + 1) m' σ' H') /\ ∀ x H',(Itt K a).yld i H x H' -> g x σ H' fun σ2 H2=>tb { D with nx:=N,ct:=N,bk:=D.nx } σ2 H2):=by
 refine ⟨fun i m σ H=>m = xs.length - i /\ i <= xs.length /\ Pv i σ H,⟨xs.length,by simp,Nat.zero_le _,h0⟩,?_⟩
 rintro i m σ H ⟨rfl,hi,p⟩
 have q:=hl i σ H hi p
 by_cases hlt:i < xs.length
 ·refine .inr ⟨⟨xs,xs[i],q,by simp [hlt]⟩,Pv (i + 1),fun σ' H' p'=>⟨xs.length - (i + 1),by omega,rfl,hlt,p'⟩,fun x H' y=>?_⟩
  obtain ⟨e,y⟩:=y
  subst e
  exact hs i x σ _ (y xs q) p
 ·have e:i = xs.length:=by omega
  subst e
  exact .inl ⟨⟨xs,q,Nat.le_refl _⟩,hd σ H p⟩
theorem yG {lo:Int} {n:Nat} {g:TG} {tb:TS} {D:Ends} {σ:St} {H:Hp} (Pv:Nat -> St -> Hp -> Prop) (h0:Pv 0 σ H)
  (hs:∀ i σ H,i < n -> Pv i σ H -> g (.int (lo + i)) σ H fun σ2 H2=>tb { D with nx:=Pv (i + 1),ct:=Pv (i + 1),bk:=D.nx } σ2 H2) (hd:∀ σ H,Pv n σ H -> D.nx σ H) :
  ∃ W:Nat -> Nat -> St -> Hp -> Prop,(∃ m,W 0 m σ H) /\ ∀ i m σ H,W i m σ H →
   ((Itr lo n).stop i H /\ D.nx σ H) \/ ((Itr lo n).go i H /\ ∃ N:St -> Hp -> Prop,(∀ σ' H',N σ' H' -> ∃ m',m' < m /\ W (i + 1) m' σ' H') /\ ∀ x H',(Itr lo n).yld i H x H' -> g x σ H' fun σ2 H2=>tb { D with nx:=N,ct:=N,bk:=D.nx } σ2 H2):=by
 refine ⟨fun i m σ H=>m = n - i /\ i <= n /\ Pv i σ H,⟨n,by simp,Nat.zero_le _,h0⟩,?_⟩
 rintro i m σ H ⟨rfl,hi,p⟩
 by_cases hlt:i < n
 ·refine .inr ⟨hlt,Pv (i + 1),fun σ' H' p'=>⟨n - (i + 1),by omega,rfl,hlt,p'⟩,fun x H' y=>?_⟩
  obtain ⟨e,y⟩:=y
  subst e y
  exact hs i σ _ hlt p
 ·have e:i = n:=by omega
  subst e
  exact .inl ⟨Nat.le_refl _,hd σ H p⟩
end L2
namespace L2
open PySem PySem.Spec PyProof.Rows
abbrev R2:=V -> V -> Hp -> VK -> Prop
def OpR (X:Cx) (f:Value -> Value -> Sem Value) (r:R2):Prop :=
 ∀ (pins:List (Addr × Obj)) (s:Shared) (σ:St) (H:Hp) (x y:V) (v u:Value) (Q:VK),Inv X pins σ H s -> RelV x v -> RelV y u -> r x y H Q →
  wpAny (model X.prog X.w) X.A (f v u) (EP X pins σ Q) X.xe s
def UnR (X:Cx) (f:Value -> Sem Value) (r:V -> Hp -> VK -> Prop):Prop :=
 ∀ (pins:List (Addr × Obj)) (s:Shared) (σ:St) (H:Hp) (x:V) (v:Value) (Q:VK),Inv X pins σ H s -> RelV x v -> r x H Q →
  wpAny (model X.prog X.w) X.A (f v) (EP X pins σ Q) X.xe s
def xD (X:Cx) (f:Value) (r:List V -> Hp -> VK -> Prop):Prop :=
 ∀ (pins:List (Addr × Obj)) (s:Shared) (σ:St) (H:Hp) (xs:List V) (us:List Value) (Q:VK),Inv X pins σ H s -> Vals xs us -> r xs H Q →
  wpAny (model X.prog X.w) X.A (call f us) (EP X pins σ Q) X.xe s
def tOp (r:R2) (ta tb:TE):TE:=fun σ H Q=>ta σ H fun x H1=>tb σ H1 fun y H2=>r x y H2 Q
def tUn (r:V -> Hp -> VK -> Prop) (ta:TE):TE:=fun σ H Q=>ta σ H fun x H1=>r x H1 Q
def rI (C:Int -> Int -> Prop) (g:Int -> Int -> V):R2:=fun x y H Q=>∃ i j,x = .int i /\ y = .int j /\ C i j /\ Q (g i j) H
def rI0 (g:Int -> Int -> V):R2:=fun x y H Q=>∃ i j,x = .int i /\ y = .int j /\ Q (g i j) H
def rU (g:Int -> V):V -> Hp -> VK -> Prop:=fun x H Q=>∃ i,x = .int i /\ Q (g i) H
section
variable {X:Cx} {a b c:Expr} {ta tb tc:TE} {pos:Pos}
theorem binT (ha:PE X a ta) (hb:PE X b tb) {pins:List (Addr × Obj)} {s:Shared} {σ:St} {H:Hp} {R:V -> V -> Hp -> Prop} (I:Inv X pins σ H s)
  (h:ta σ H fun x H1=>tb σ H1 fun y H2=>R x y H2) {Q:VS7} {f:Value -> Value -> Sem Value}
  (hf:∀ v u s2 x y H2,Inv X pins σ H2 s2 -> RelV x v -> RelV y u -> R x y H2 -> wpAny (model X.prog X.w) X.A (f v u) Q X.xe s2) :
  wpAny (model X.prog X.w) X.A (eval a X.env) (fun v s₁=>wpAny (model X.prog X.w) X.A (eval b X.env) (fun u s₂=>wpAny (model X.prog X.w) X.A (f v u) Q X.xe s₂) X.xe s₁) X.xe s:=by
 refine thn (ha pins s σ H _ I h) fun v s1 ⟨x,H1,I1,r1,q1⟩=>?_
 refine thn (hb pins s1 σ H1 _ I1 q1) fun u s2 ⟨y,H2,I2,r2,q2⟩=>?_
 exact hf v u s2 x y H2 I2 r1 r2 q2
theorem zv {op:Operator} {r:R2} (ho:OpR X (binaryOp op) r) (ha:PE X a ta) (hb:PE X b tb):PE X (.BinOp a op b pos) (tOp r ta tb):=by
 intro pins s σ H Q I h
 exact wpAny_BinOp (binT ha hb I h fun v u s2 x y H2 I2 rx ry q=>ho pins s2 σ H2 x y v u Q I2 rx ry q)
theorem YM {op:UnaryOp} {r:V -> Hp -> VK -> Prop} (ho:UnR X (unaryOp op) r) (ha:PE X a ta):PE X (.UnaryOp op a pos) (tUn r ta):=by
 intro pins s σ H Q I h
 exact UnaryOp_ (thn (ha pins s σ H _ I h) fun v s1 ⟨x,H1,I1,r1,q1⟩=>ho pins s1 σ H1 x v Q I1 r1 q1)
theorem opI {f:Value -> Value -> Sem Value} {C:Int -> Int -> Prop} {g:Int -> Int -> Int}
  (rule:∀ (i j:Int) (t u:Tok) (s:Shared) (Q:VS7) (E:VS7),C i j -> Q (.int (g i j) s.toks) { s with toks:=s.toks + 1 } -> wpAny (model X.prog X.w) X.A (f (.int i t) (.int j u)) Q E s) :
  OpR X f (rI C fun i j=>.int (g i j)):=by
 intro pins s σ H x y v u Q I rx ry h
 obtain ⟨i,j,rfl,rfl,hc,q⟩:=h
 obtain ⟨t,rfl⟩:=rx
 obtain ⟨t',rfl⟩:=ry
 exact rule i j t t' s _ _ hc ⟨.int (g i j),H,I.tok _,⟨_,rfl⟩,q⟩
theorem opI0 {f:Value -> Value -> Sem Value} {g:Int -> Int -> Int}
  (rule:∀ (i j:Int) (t u:Tok) (s:Shared) (Q:VS7) (E:VS7),Q (.int (g i j) s.toks) { s with toks:=s.toks + 1 } -> wpAny (model X.prog X.w) X.A (f (.int i t) (.int j u)) Q E s) :
  OpR X f (rI0 fun i j=>.int (g i j)):=by
 intro pins s σ H x y v u Q I rx ry h
 obtain ⟨i,j,rfl,rfl,q⟩:=h
 obtain ⟨t,rfl⟩:=rx
 obtain ⟨t',rfl⟩:=ry
 exact rule i j t t' s _ _ ⟨.int (g i j),H,I.tok _,⟨_,rfl⟩,q⟩
theorem opB0 {f:Value -> Value -> Sem Value} {g:Int -> Int -> Bool}
  (rule:∀ (i j:Int) (t u:Tok) (s:Shared) (Q:VS7) (E:VS7),Q (.bool (g i j)) s -> wpAny (model X.prog X.w) X.A (f (.int i t) (.int j u)) Q E s) :
  OpR X f (rI0 fun i j=>.bl (g i j)):=by
 intro pins s σ H x y v u Q I rx ry h
 obtain ⟨i,j,rfl,rfl,q⟩:=h
 obtain ⟨t,rfl⟩:=rx
 obtain ⟨t',rfl⟩:=ry
 exact rule i j t t' s _ _ ⟨.bl (g i j),H,I,rfl,q⟩
def CPow (i j:Int):Prop:=0 <= j /\ j <= 1000000 /\ i.natAbs < 2 ^ 64
def CMul (i j:Int):Prop:=(-(2 ^ 64) < i /\ i < 2 ^ 64) \/ (-(2 ^ 64) < j /\ j < 2 ^ 64)
theorem CMul.ok {i j:Int} (h:CMul i j):IntMulOk i j:=by
 rcases h with ⟨h1,h2⟩ | ⟨h1,h2⟩
 ·exact .of_left (intBits_le_64 h1 h2)
 ·exact .of_right (intBits_le_64 h1 h2)
theorem qO (k:Nat):(0:Int) <= 2 ^ k:=by
 rw [two_pow_cast]
 exact Int.natCast_nonneg _
theorem yH:OpR X (binaryOp .Add) (rI0 fun i j=>.int (i + j)):=opI0 fun _ _ _ _ _ _ _ q=>add_int q
theorem y0:OpR X (binaryOp .Sub) (rI0 fun i j=>.int (i - j)):=opI0 fun _ _ _ _ _ _ _ q=>sub_int q
theorem qa:OpR X (binaryOp .Mod) (rI (fun _ j=>0 < j) fun i j=>.int (i % j)):=opI fun i j _ _ _ _ _ hc q=>by
 have h1:(0:Int) < j:=hc
 exact mod_int' (by omega) (by rw [Int.fmod_eq_emod_of_nonneg i (by omega)]; exact q)
theorem qb:OpR X (binaryOp .Pow) (rI CPow fun i j=>.int (i ^ j.toNat)):=opI fun _ _ _ _ _ _ _ hc q=>pow_int_small hc.1 hc.2.1 hc.2.2 q
theorem y4:OpR X (binaryOp .LShift) (rI CPow fun i j=>.int (i * 2 ^ j.toNat)):=opI fun _ _ _ _ _ _ _ hc q=>lshift_int_small hc.1 hc.2.1 hc.2.2 q
theorem jw:OpR X (binaryOp .RShift) (rI (fun _ j=>0 <= j) fun i j=>.int (i / 2 ^ j.toNat)):=opI fun i j _ _ _ _ _ hc q =>
 rshift_int hc (by rw [Int.fdiv_eq_ediv_of_nonneg i (qO _)]; exact q)
theorem Ym:OpR X (binaryOp .BitAnd) (rI0 fun i j=>.int (Builtin.bitAnd i j)):=opI0 fun _ _ _ _ _ _ _ q=>and_int q
theorem Wl:OpR X (binaryOp .BitOr) (rI0 fun i j=>.int (Builtin.bitOr i j)):=opI0 fun _ _ _ _ _ _ _ q=>or_int q
theorem qc:OpR X (binaryOp .BitXor) (rI0 fun i j=>.int (Builtin.bitXor i j)):=opI0 fun _ _ _ _ _ _ _ q=>xor_int q
theorem unI {f:Value -> Sem Value} {g:Int -> Int}
  (rule:∀ (i:Int) (t:Tok) (s:Shared) (Q:VS7) (E:VS7),Q (.int (g i) s.toks) { s with toks:=s.toks + 1 } -> wpAny (model X.prog X.w) X.A (f (.int i t)) Q E s) :
  UnR X f (rU fun i=>.int (g i)):=by
 intro pins s σ H x v Q I rx h
 obtain ⟨i,rfl,q⟩:=h
 obtain ⟨t,rfl⟩:=rx
 exact rule i t s _ _ ⟨.int (g i),H,I.tok _,⟨_,rfl⟩,q⟩
theorem jx:UnR X (unaryOp .USub) (rU fun i=>.int (-i)):=unI fun _ _ _ _ _ q=>neg_int q
end
def scal:V -> V -> Bool
 | .non,.non=>true | .non,.int _=>true | .int _,.non=>true | .non,.bl _=>true | .bl _,.non=>true | .non,.str _=>true | .str _,.non=>true
 | .int _,.int _=>true | .bl _,.bl _=>true | .str _,.str _=>true | .byt _,.byt _=>true
 | .int _,.str _=>true | .str _,.int _=>true | .bl _,.str _=>true | .str _,.bl _=>true
 | _,_=>false
def rEq:R2:=fun x y H Q=>scal x y = true /\ Q (.bl (decide (x = y))) H
def rNe:R2:=fun x y H Q=>scal x y = true /\ Q (.bl (!decide (x = y))) H
theorem jy {i j:Int}:decide (V.int i = V.int j) = (i == j):=by
 rw [Bool.eq_iff_iff]
 simp
theorem Yn {i j:Bool}:decide (V.bl i = V.bl j) = (i == j):=by
 rw [Bool.eq_iff_iff]
 simp
theorem jz {i j:Str}:decide (V.str i = V.str j) = (i == j):=by
 rw [Bool.eq_iff_iff]
 simp
theorem jA {i j:Array UInt8}:decide (V.byt i = V.byt j) = (i.toList == j.toList):=by
 rw [Bool.eq_iff_iff]
 cases i
 cases j
 simp
section
variable {X:Cx} {a b c:Expr} {ta tb tc:TE} {pos:Pos}
theorem zQ {pins:List (Addr × Obj)} {σ:St} {H:Hp} {s:Shared} {Q:VK} {k k':Bool} (I:Inv X pins σ H s) (q:Q (.bl k) H) (e:k = k'):EP X pins σ Q (.bool k') s:=by
 subst e
 exact ⟨.bl k,H,I,rfl,q⟩
theorem yI:OpR X (compareOp .Eq) rEq:=by
 intro pins s σ H x y v u Q I rx ry h
 obtain ⟨hs,q⟩:=h
 cases x with
 | non =>
  cases rx
  cases y with
  | non=>cases ry; exact PySem.EqNone.eq_none_none (zQ I q (by simp))
  | bl j=>cases ry; exact PySem.EqNone.eq_none_bool (zQ I q (by simp))
  | int j=>obtain ⟨t',rfl⟩:=ry; exact PySem.EqNone.eq_none_int (zQ I q (by simp))
  | str j=>obtain ⟨t',rfl⟩:=ry; exact PySem.EqNone.eq_none_str (zQ I q (by simp))
  | _=>exact absurd (show false = true from hs) Bool.false_ne_true
 | bl i =>
  cases rx
  cases y with
  | non=>cases ry; exact PySem.EqNone.eq_bool_none (zQ I q (by simp))
  | bl j=>cases ry; exact eq_bool (zQ I q Yn)
  | str j=>obtain ⟨t',rfl⟩:=ry; exact PySem.EqMixed.eq_bool_str (zQ I q (by simp))
  | _=>exact absurd (show false = true from hs) Bool.false_ne_true
 | int i =>
  obtain ⟨t,rfl⟩:=rx
  cases y with
  | non=>cases ry; exact PySem.EqNone.eq_int_none (zQ I q (by simp))
  | int j=>obtain ⟨t',rfl⟩:=ry; exact eq_int (zQ I q jy)
  | str j=>obtain ⟨t',rfl⟩:=ry; exact PySem.EqMixed.eq_int_str (zQ I q (by simp))
  | _=>exact absurd (show false = true from hs) Bool.false_ne_true
 | str i =>
  obtain ⟨t,rfl⟩:=rx
  cases y with
  | non=>cases ry; exact PySem.EqNone.eq_str_none (zQ I q (by simp))
  | bl j=>cases ry; exact PySem.EqMixed.eq_str_bool (zQ I q (by simp))
  | int j=>obtain ⟨t',rfl⟩:=ry; exact PySem.EqMixed.eq_str_int (zQ I q (by simp))
  | str j=>obtain ⟨t',rfl⟩:=ry; exact eq_str (zQ I q jz)
  | _=>exact absurd (show false = true from hs) Bool.false_ne_true
 | byt i =>
  obtain ⟨t,rfl⟩:=rx
  cases y with
  | byt j=>obtain ⟨t',rfl⟩:=ry; exact PySem.W.eq_bytes (zQ I q jA)
  | _=>exact absurd (show false = true from hs) Bool.false_ne_true
 | _=>cases y <;> exact absurd (show false = true from hs) Bool.false_ne_true
theorem tT:OpR X (compareOp .NotEq) rNe:=by
 intro pins s σ H x y v u Q I rx ry h
 obtain ⟨hs,q⟩:=h
 cases x with
 | non =>
  cases rx
  cases y with
  | non=>cases ry; exact PySem.EqNone.ne_none_none (zQ I q (by simp))
  | bl j=>cases ry; exact PySem.EqNone.ne_none_bool (zQ I q (by simp))
  | int j=>obtain ⟨t',rfl⟩:=ry; exact PySem.EqNone.ne_none_int (zQ I q (by simp))
  | str j=>obtain ⟨t',rfl⟩:=ry; exact PySem.EqNone.ne_none_str (zQ I q (by simp))
  | _=>exact absurd (show false = true from hs) Bool.false_ne_true
 | bl i =>
  cases rx
  cases y with
  | non=>cases ry; exact PySem.EqNone.ne_bool_none (zQ I q (by simp))
  | bl j=>cases ry; exact ne_bool (zQ I q (congrArg not Yn))
  | str j=>obtain ⟨t',rfl⟩:=ry; exact PySem.EqMixed.ne_bool_str (zQ I q (by simp))
  | _=>exact absurd (show false = true from hs) Bool.false_ne_true
 | int i =>
  obtain ⟨t,rfl⟩:=rx
  cases y with
  | non=>cases ry; exact PySem.EqNone.ne_int_none (zQ I q (by simp))
  | int j=>obtain ⟨t',rfl⟩:=ry; exact ne_int (zQ I q (congrArg not jy))
  | str j=>obtain ⟨t',rfl⟩:=ry; exact PySem.EqMixed.ne_int_str (zQ I q (by simp))
  | _=>exact absurd (show false = true from hs) Bool.false_ne_true
 | str i =>
  obtain ⟨t,rfl⟩:=rx
  cases y with
  | non=>cases ry; exact PySem.EqNone.ne_str_none (zQ I q (by simp))
  | bl j=>cases ry; exact PySem.EqMixed.ne_str_bool (zQ I q (by simp))
  | int j=>obtain ⟨t',rfl⟩:=ry; exact PySem.EqMixed.ne_str_int (zQ I q (by simp))
  | str j=>obtain ⟨t',rfl⟩:=ry; exact ne_str (zQ I q (congrArg not jz))
  | _=>exact absurd (show false = true from hs) Bool.false_ne_true
 | byt i =>
  obtain ⟨t,rfl⟩:=rx
  cases y with
  | byt j=>obtain ⟨t',rfl⟩:=ry; exact PySem.W.ne_bytes (zQ I q (congrArg not jA))
  | _=>exact absurd (show false = true from hs) Bool.false_ne_true
 | _=>cases y <;> exact absurd (show false = true from hs) Bool.false_ne_true
theorem jB:OpR X (compareOp .Lt) (rI0 fun i j=>.bl (decide (i < j))):=opB0 fun _ _ _ _ _ _ _ q=>lt_int q
theorem ZM:OpR X (compareOp .LtE) (rI0 fun i j=>.bl (decide (i <= j))):=opB0 fun _ _ _ _ _ _ _ q=>le_int q
theorem YN:OpR X (compareOp .Gt) (rI0 fun i j=>.bl (decide (j < i))):=opB0 fun _ _ _ _ _ _ _ q=>gt_int q
theorem zA (b:Expr) {op:CmpOp} (h:op ≠ .In:=by decide) (h2:op ≠ .NotIn:=by decide):behindInMarks op b = false:=by
 have e1:(op == CmpOp.In) = false:=by cases op <;> first | rfl | exact absurd rfl h
 have e2:(op == CmpOp.NotIn) = false:=by cases op <;> first | rfl | exact absurd rfl h2
 cases b <;> simp [behindInMarks,e1,e2]
theorem xp {op:CmpOp} {r:R2} (ho:OpR X (compareOp op) r) (ha:PE X a ta) (hb:PE X b tb) (hm:behindInMarks op b = false):PE X (.Compare a [op] [b] pos) (tOp r ta tb):=by
 intro pins s σ H Q I h
 exact wpAny_Compare1 (binT ha hb I h fun v u s2 x y H2 I2 rx ry q=>ho pins s2 σ H2 x y v u Q I2 rx ry q) hm
def Wm (t:TE):TT:=fun σ H Q=>t σ H fun x H'=>∃ k,x = .bl k /\ Q k H'
theorem zz {op:CmpOp} {r:R2} (ho:OpR X (compareOp op) r) (ha:PE X a ta) (hb:PE X b tb) (hm:behindInMarks op b = false):PT X (.Compare a [op] [b] pos) (Wm (tOp r ta tb)):=by
 intro pins s σ H Q I h
 refine wpAny_isTrue_Compare1 (thn (ha pins s σ H _ I h) fun v s1 ⟨x,H1,I1,r1,q1⟩=>thn (hb pins s1 σ H1 _ I1 q1) fun u s2 ⟨y,H2,I2,r2,q2⟩ =>
  thn (ho pins s2 σ H2 x y v u _ I2 r1 r2 q2) fun c s3 ⟨z,H3,I3,r3,k,e,q3⟩=>?_) hm
 subst e
 cases r3
 exact wpAny_truthy_bool ⟨H3,I3,q3⟩
def Xs (r r':R2) (ta tb tc:TE):TE:=fun σ H Q=>ta σ H fun x H1=>tb σ H1 fun y H2=>r x y H2 fun z H3=>∃ k,z = .bl k ∧
 (if k = true then tc σ H3 fun w' H4=>r' y w' H4 Q else Q (.bl false) H3)
theorem qd {op op':CmpOp} {r r':R2} (ho:OpR X (compareOp op) r) (ho':OpR X (compareOp op') r') (ha:PE X a ta) (hb:PE X b tb) (hc:PE X c tc)
  (hm:lastMarks [op,op'] [b,c] = false:=by with_unfolding_all rfl):PE X (.Compare a [op,op'] [b,c] pos) (Xs r r' ta tb tc):=by
 intro pins s σ H Q I h
 refine Compare_chain (thn (ha pins s σ H _ I h) fun v s1 ⟨x,H1,I1,r1,q1⟩=>chain_link (thn (hb pins s1 σ H1 _ I1 q1) fun u s2 ⟨y,H2,I2,r2,q2⟩ =>
  thn (ho pins s2 σ H2 x y v u _ I2 r1 r2 q2) fun d s3 ⟨z,H3,I3,r3,k,e,q3⟩=>?_)) hm
 subst e
 cases r3
 refine wpAny_truthy_bool ?_
 cases k with
 | false=>exact ite_ff ⟨.bl false,H3,I3,rfl,q3⟩
 | true=>exact ite_tt (chain_last (thn (hc pins s3 σ H3 _ I3 q3) fun w' s4 ⟨z',H4,I4,r4,q4⟩=>ho' pins s4 σ H4 y z' u w' Q I4 r2 r4 q4))
theorem qf:(sizeLine:Nat) < 2 ^ 63:=by rw [sizeLine_eq]; decide
theorem we {x:V} {us:List Value} (r:Vals [x] us):∃ u,us = [u] /\ RelV x u:=by
 cases r with
 | cons r1 r2=>cases r2; exact ⟨_,rfl,r1⟩
theorem qP {x y:V} {us:List Value} (r:Vals [x,y] us):∃ u w',us = [u,w'] /\ RelV x u /\ RelV y w':=by
 cases r with
 | cons r1 r2 =>
  cases r2 with
  | cons r3 r4=>cases r4; exact ⟨_,_,rfl,r1,r3⟩
theorem ZN:xD X (.builtin "abs") (fun xs H Q=>∃ i,xs = [.int i] /\ Q (.int (if i < 0 then -i else i)) H):=by
 intro pins s σ H xs us Q I r h
 obtain ⟨i,rfl,q⟩:=h
 obtain ⟨u,rfl,t,rfl⟩:=we r
 exact call_abs_int fun u tk=>⟨.int (if i < 0 then -i else i),H,I.tok _,⟨_,rfl⟩,q⟩
theorem vG (hc:X.calm = true):xD X (.builtin "max") (fun xs H Q=>∃ i j,xs = [.int i,.int j] /\ Q (.int (if j > i then j else i)) H):=by
 intro pins s σ H xs us Q I r h
 obtain ⟨i,j,rfl,q⟩:=h
 obtain ⟨u,w',rfl,⟨t,rfl⟩,⟨t',rfl⟩⟩:=qP r
 refine max_two_ints (I.ok.hd hc) fun h' tk k=>⟨_,H,I.kept k,?_,q⟩
 by_cases hj:j > i
 ·rw [if_pos hj,if_pos hj]; exact ⟨_,rfl⟩
 ·rw [if_neg hj,if_neg hj]; exact ⟨_,rfl⟩
theorem jC (hc:X.calm = true):xD X (.builtin "min") (fun xs H Q=>∃ i j,xs = [.int i,.int j] /\ Q (.int (if j < i then j else i)) H):=by
 intro pins s σ H xs us Q I r h
 obtain ⟨i,j,rfl,q⟩:=h
 obtain ⟨u,w',rfl,⟨t,rfl⟩,⟨t',rfl⟩⟩:=qP r
 refine min_two_ints (I.ok.hd hc) fun h' tk k=>⟨_,H,I.kept k,?_,q⟩
 by_cases hj:j < i
 ·rw [if_pos hj,if_pos hj]; exact ⟨_,rfl⟩
 ·rw [if_neg hj,if_neg hj]; exact ⟨_,rfl⟩
theorem yU:xD X (.type "int") (fun xs H Q=>(∃ i,xs = [.int i] /\ Q (.int i) H) \/ ∃ k,xs = [.bl k] /\ Q (.int (if k then 1 else 0)) H):=by
 intro pins s σ H xs us Q I r h
 rcases h with ⟨i,rfl,q⟩ | ⟨k,rfl,q⟩
 ·obtain ⟨u,rfl,t,rfl⟩:=we r
  exact call_int_int ⟨.int i,H,I,⟨_,rfl⟩,q⟩
 ·obtain ⟨u,rfl,r1⟩:=we r
  cases r1
  exact call_int_bool ⟨.int (if k then 1 else 0),H,I.tok _,⟨_,rfl⟩,q⟩
end
end L2
namespace L2
open PySem PySem.Spec PyProof.Rows
structure ObjM (h:Heap) (x dx C:Addr) (mA:Str -> Option Value):Prop where
 obj:h.get? x = some (PySem.W.instObj C dx)
 ns:h.Ns1 dx mA
 ne:dx ≠ x
theorem jD {h:Heap} {dx:Addr} {mA:Str -> Option Value} (n:h.Ns1 dx mA):∃ od,h.get? dx = some od /\ ∀ name,PySem.W.lookIn name od = some (mA name):=by
 obtain ⟨o,es,ep,ho,hd,hk,_,hm⟩:=n
 refine ⟨o,ho,fun name=>?_⟩
 have e:=hm name
 unfold nsFind findBy at e
 rw [← Array.find?_toList] at e
 unfold PySem.W.lookIn
 rw [hd]
 dsimp only
 split
 ·rename_i y q
  rw [q] at e
  exact congrArg some e
 ·rename_i q
  rw [q] at e
  have a:es.toList.any (·.refKey) = false:=by
   rw [List.any_eq_false]
   intro y hy
   obtain ⟨z,t,hkey⟩:=hk y (Array.mem_toList_iff.mp hy)
   simp [DictEntry.refKey,hkey]
  have a':¬ es.toList.any (·.refKey) = true:=by rw [a]; exact Bool.false_ne_true
  rw [if_neg a']
  exact congrArg some e
theorem ObjM.look {h:Heap} {x dx C:Addr} {mA:Str -> Option Value} (I:ObjM h x dx C mA):∃ od,PySem.W.InstAt h x (PySem.W.instObj C dx) C (some od) /\ ∀ name,PySem.W.lookIn name od = some (mA name) :=
 let ⟨od,ho,hl⟩:=jD I.ns
 ⟨od,⟨I.obj,rfl,rfl,ho⟩,hl⟩
section
variable {P:Program} {w:World} {H H':Hp} {h h':Heap} {a C dx:Addr} {fs fs':List (Str × V)}
theorem YO (hok:HOk P w H h) (e:H a = some (.ins C dx fs)):∃ mA,ObjM h a dx C mA /\ (∀ f,RelO (fs.lookup f) (mA f)) /\ PySem.Within mA (fs.map (·.1)) /\ fs.length <= 1000 /\ H dx = some (.own a):=by
 obtain ⟨d,z,ne,ob,mA,n,r,q⟩:=(show ye P w H h a (.ins C dx fs) from hok a _ e)
 exact ⟨mA,⟨ob,n,ne⟩,r,q,z,d⟩
end
structure Cls (K:FG7) (C:Addr):Prop where
 pg:PySem.W.plainGet K C Str.empty = true
 hd:PySem.W.hasDictIn K C = true
 po:PySem.W.plainOver K C = true
 sa:PySem.W.findIn K (.ref C) "__setattr__" = some (some (.builtin "object.__setattr__"))
theorem Cls.get {K:FG7} {C:Addr} (c:Cls K C) (f:Str):PySem.W.plainGet K C f = true:=c.pg
def vH (K:FG7) (C:Addr) (f:Str):Prop:=PySem.W.findIn K (.ref C) f = some none
structure Con (K:FG7) (C:Addr) (f:Str) (v:V) (u:Value):Prop where
 at_:PySem.W.findIn K (.ref C) f = some (some u)
 rel:RelV v u
 get:PySem.W.specialIn K u "__get__" = some none
 cp:PySem.W.copiedNames.contains f = false
structure Meth (K:FG7) (C:Addr) (m:Str) (f:Addr):Prop where
 at_:PySem.W.findIn K (.ref C) m = some (some (.ref f))
 fn:PySem.W.isFn K (.ref f) = true
 kp:PySem.W.keepIn K (.ref f) = true
section
variable {X:Cx} {pins:List (Addr × Obj)} {σ:St} {H:Hp} {s:Shared} {a C dx:Addr} {fs:List (Str × V)} {f:Str} {v:V} {A:Around} {E:VS7}
theorem Inv.made (I:Inv X pins σ H s):Inv X pins σ (upd (upd H s.heap.objs.size (.own (s.heap.objs.size + 1))) (s.heap.objs.size + 1) (.ins C s.heap.objs.size []))
  { s with heap:=(s.heap.push PySem.W.emptyDict).push (PySem.W.instObj C s.heap.objs.size) }:=by
 have e1:(s.heap.push PySem.W.emptyDict).get? s.heap.objs.size = some PySem.W.emptyDict:=Heap.get?_push_size s.heap rfl
 have e2:((s.heap.push PySem.W.emptyDict).push (PySem.W.instObj C s.heap.objs.size)).get? (s.heap.objs.size + 1) = some (PySem.W.instObj C s.heap.objs.size):=by
  have:=Heap.get?_push_size (s.heap.push PySem.W.emptyDict) (o:=PySem.W.instObj C s.heap.objs.size) rfl
  rwa [Heap.size_push] at this
 have e3:(s.heap.push PySem.W.emptyDict).Ns s.heap.objs.size (fun _=>none):=⟨PySem.W.emptyDict,#[],_,e1,rfl,(fun e he=>absurd he (by simp)),fun _=>rfl⟩
 have I1:=I.laid (a:=s.heap.objs.size) (o:=.own (s.heap.objs.size + 1)) (h':=s.heap.push PySem.W.emptyDict) (t':=s.toks) (fun b u q=>Heap.get?_push_of_some _ q) (Nat.le_refl _) ⟨_,e1⟩
 refine I1.laid (a:=s.heap.objs.size + 1) (o:=.ins C s.heap.objs.size []) (t':=s.toks) (fun b u q=>Heap.get?_push_of_some _ q) (Nat.le_of_eq (Heap.size_push _ _)) ?_
 have ne:s.heap.objs.size ≠ s.heap.objs.size + 1:=Nat.ne_of_lt (Nat.lt_succ_self _)
 refine ⟨by rw [zu ne,zb],Nat.zero_le _,ne,e2,fun _=>none,(Heap.Ns1.of_empty e3).at fun o q=>Heap.get?_push_of_some _ q,fun _=>True.intro,fun y hy=>absurd rfl hy⟩
end
section
variable {X:Cx} {pins:List (Addr × Obj)} {σ:St} {H:Hp} {s:Shared} {A:Around} {E:VS7} {Q:VS7} {c:Value} {b:Bool}
inductive TyOf (K:FG7) (H:Hp):V -> Value -> Prop where
 | non:TyOf K H .non (.type "NoneType")
 | bl (x:Bool):TyOf K H (.bl x) (.type "bool")
 | int (i:Int):TyOf K H (.int i) (.type "int")
 | str (x:Str):TyOf K H (.str x) (.type "str")
 | flt (x:UInt64):TyOf K H (.flt x) (.type "float")
 | lst {a:Addr} {xs:List V} (e:H a = some (.lst xs)):TyOf K H (.ref a) (.type "list")
 | frz {a:Addr} {o:Obj} {xs:List V} (e:H a = some (.frz o (.lst xs))):TyOf K H (.ref a) (.type "list")
 | tup {a:Addr} {xs:List V} (e:H a = some (.tup xs)):TyOf K H (.ref a) (.type "tuple")
 | dK {a:Addr} {kvs:List (Key × V)} (e:H a = some (.dK kvs)):TyOf K H (.ref a) (.type "dict")
 | dT {a:Addr} {kvs:List (List Key × V)} (e:H a = some (.dT kvs)):TyOf K H (.ref a) (.type "dict")
 | ins {a C dx:Addr} {fs:List (Str × V)} (e:H a = some (.ins C dx fs)) (cl:Cls K C) (ha:PySem.W.findIn K (.ref C) "__class__" = some (some (.builtin "object.__class__")))
   (hn:PySem.W.specialIn K (.builtin "object.__class__") "__get__" = some (some (.builtin "getset_descriptor.__get__"))) (htk:PySem.W.takesIn K (.builtin "object.__class__") = some true)
   (hm:PySem.W.mroIn K C (.type "object") = some true):TyOf K H (.ref a) (.ref C)
theorem xL {x:V} {u t:Value} (I:Inv X pins σ H s) (rx:RelV x u) (ty:TyOf X.K H x t) (e:PySem.W.kitOne X.K t c = some b) (h:∀ tk,Q (.bool b) { s with toks:=tk }) :
  wpAny (model X.prog X.w) A (call (.builtin "isinstance") [u,c]) Q E s:=by
 cases ty with
 | non=>cases (show u = Value.none from rx); exact PySem.W.kia_one PySem.W.kitx_none I.kIn True.intro e (fun z=>nomatch z) h
 | bl y=>cases (show u = Value.bool y from rx); exact PySem.W.kia_one PySem.W.kitx_bool I.kIn True.intro e (fun z=>nomatch z) h
 | int i=>obtain ⟨t,q⟩:=(show ∃ t,u = Value.int i t from rx); cases q; exact PySem.W.kia_one PySem.W.kitx_int I.kIn True.intro e (fun z=>nomatch z) h
 | str y=>obtain ⟨t,q⟩:=(show ∃ t,u = Value.str y t from rx); cases q; exact PySem.W.kia_one PySem.W.kitx_str I.kIn True.intro e (fun z=>nomatch z) h
 | flt y=>obtain ⟨t,q⟩:=(show ∃ t,u = Value.float y t from rx); cases q; exact PySem.W.kia_one PySem.W.kitx_float I.kIn True.intro e (fun z=>nomatch z) h
 | @lst a xs ea =>
  cases (show u = Value.ref a from rx)
  obtain ⟨_,_,n,_,h1⟩:=(show ye X.prog X.w H s.heap a (.lst xs) from I.hok a _ ea)
  exact PySem.W.kia_one PySem.W.kitx_list I.kIn ⟨_,h1,rfl⟩ e (fun z=>nomatch z) h
 | @frz a ob xs ea =>
  cases (show u = Value.ref a from rx)
  obtain ⟨_,_,_,n,_,h1⟩:=(show ye X.prog X.w H s.heap a (.frz ob (.lst xs)) from I.hok a _ ea)
  exact PySem.W.kia_one PySem.W.kitx_list I.kIn ⟨_,h1,rfl⟩ e (fun z=>nomatch z) h
 | @tup a xs ea =>
  cases (show u = Value.ref a from rx)
  obtain ⟨_,_,_,p⟩:=(show ye X.prog X.w H s.heap a (.tup xs) from I.hok a _ ea)
  obtain ⟨o,h1,h2,_⟩:=p
  exact PySem.W.kia_one PySem.W.kitx_tuple I.kIn ⟨o,h1,h2⟩ e (fun z=>nomatch z) h
 | @dK a kvs ea =>
  cases (show u = Value.ref a from rx)
  obtain ⟨_,_,vs,_,p⟩:=(show ye X.prog X.w H s.heap a (.dK kvs) from I.hok a _ ea)
  obtain ⟨o,es,ep,h1,h2,_⟩:=p
  exact PySem.W.kia_one PySem.W.kitx_dict I.kIn ⟨o,h1,h2.1⟩ e (fun z=>nomatch z) h
 | @dT a kvs ea =>
  cases (show u = Value.ref a from rx)
  obtain ⟨_,_,xs,_,o,es,ep,h1,h2,_⟩:=(show ye X.prog X.w H s.heap a (.dT kvs) from I.hok a _ ea)
  exact PySem.W.kia_one PySem.W.kitx_dict I.kIn ⟨o,h1,h2.1⟩ e (fun z=>nomatch z) h
 | @ins a C dx fs ea cl ha hn htk hm =>
  cases (show u = Value.ref a from rx)
  obtain ⟨mA,O,_⟩:=YO I.hok ea
  obtain ⟨od,J,_⟩:=O.look
  exact PySem.W.kia_one (PySem.W.kitx_own (cl.get _) cl.hd ha hn htk hm) I.kIn J e (fun z=>nomatch z) h
end
end L2
namespace L2
open PySem PySem.Spec PyProof.Rows
structure Room (k:Nat) (A:Around):Prop where
 hd:A.handled = none
 dp:A.depth + 3 * k + 5 < recursionLimit
 un:A.units + 16 * k + 200 < cLine
 gd:A.guards = some []
theorem Room.mono {j k:Nat} {A:Around} (r:Room k A) (h:j <= k):Room j A:=⟨r.hd,by have:=r.dp; omega,by have:=r.un; omega,r.gd⟩
theorem Room.deeper {k:Nat} {A:Around} (r:Room (k + 1) A) (env:Env):Room k (A.deeper env) :=
 ⟨r.hd,by have:=r.dp; show A.depth + 1 + 3 * k + 5 < _; omega,by have:=r.un; show A.units + 3 + 16 * k + 200 < _; omega,r.gd⟩
theorem Room.in1 {k:Nat} {A:Around} (r:Room (k + 1) A):Room k A.in1 :=
 ⟨r.hd,by have:=r.dp; show A.depth + 3 * k + 5 < _; omega,by have:=r.un; show A.units + 1 + 16 * k + 200 < _; omega,r.gd⟩
theorem Room.depth {k:Nat} {A:Around} (r:Room k A):A.depth < recursionLimit:=by have:=r.dp; omega
theorem Room.units {k:Nat} {A:Around} (r:Room k A):A.units + 64 < cLine:=by have:=r.un; omega
theorem Room.units0 {k:Nat} {A:Around} (r:Room k A):A.units < cLine:=by have:=r.un; omega
def tNil:TA:=fun _ H Q=>Q [] H
def Wn (ta:TE) (tr:TA):TA:=fun σ H Q=>ta σ H fun x H1=>tr σ H1 fun xs H2=>Q (x :: xs) H2
section
variable {X:Cx} {e:Expr} {es:List Expr} {te:TE} {t:TA} {pos:Pos}
theorem zc:PA X [] tNil:=fun _ _ _ _ H Q I h=>Calls.spliced_nil ⟨[],H,I,.nil,h⟩
theorem za (ha:PE X e te) (hr:PA X es t) (hs:starEach (e :: es) X.env = (false,eval e X.env) :: starEach es X.env:=by rfl):PA X (e :: es) (Wn te t):=by
 intro pos pins s σ H Q I h
 rw [hs]
 show wpAny _ _ (spliced ((false,eval e X.env) :: backTo pos (starEach es X.env))) _ _ s
 refine Calls.spliced_cons (thn (ha pins s σ H _ I h) fun u s1 ⟨x,H1,I1,r1,q1⟩=>?_)
 exact thn (hr pos pins s1 σ H1 _ I1 q1) fun us s2 ⟨xs,H2,I2,r2,q2⟩=>⟨x :: xs,H2,I2,.cons r1 r2,q2⟩
def tTup (t:TA):TE:=fun σ H Q=>t σ H fun xs H1=>xs.length <= sizeLine /\ ∀ p,H1 p = none -> Q (.ref p) (upd H1 p (.tup xs))
def tLst (t:TA):TE:=fun σ H Q=>t σ H fun xs H1=>xs.length <= sizeLine /\ ∀ p,H1 p = none -> Q (.ref p) (upd H1 p (.lst xs))
theorem yg {x1} (h:PA X es t):PE X (.Tuple es x1 pos) (tTup t):=by
 intro pins s σ H Q I hq
 refine wpAny_Tuple_spliced (thn (h pos pins s σ H _ I hq) fun us s1 ⟨xs,H1,I1,r,z,q⟩=>⟨by rw [← r.length]; exact z,?_⟩)
 have hf:H1 s1.heap.objs.size = none:=I1.hok.fresh (Nat.le_refl _)
 refine ⟨.ref s1.heap.objs.size,upd H1 s1.heap.objs.size (.tup xs),I1.laid (t':=s1.toks) (fun b u e=>Heap.get?_push_of_some _ e) (Nat.le_refl _) ?_,rfl,q _ hf⟩
 exact ⟨z,us,r,⟨_,Heap.get?_push_size _ rfl,rfl,_,rfl⟩⟩
theorem zZ (h:PA X es t):PE X (.List es pos) (tLst t):=by
 intro pins s σ H Q I hq
 refine wpAny_List_spliced (thn (h pos pins s σ H _ I hq) fun us s1 ⟨xs,H1,I1,r,z,q⟩=>⟨by rw [← r.length]; exact z,?_⟩)
 have hf:H1 s1.heap.objs.size = none:=I1.hok.fresh (Nat.le_refl _)
 refine ⟨.ref s1.heap.objs.size,upd H1 s1.heap.objs.size (.lst xs),I1.laid (t':=s1.toks) (fun b u e=>Heap.get?_push_of_some _ e) (Nat.le_refl _) ?_,rfl,q _ hf⟩
 exact ⟨z,us,0,r,Heap.get?_push_size _ rfl⟩
end
abbrev Sp:=List V -> Hp -> VK -> XK -> Prop
abbrev CXT:=List Env -> Hp -> Shared -> XK -> Value -> Shared -> Prop
structure Env0 (P:Program) (w:World) (K:FG7) (mg:Str -> Option Value) (base:Heap) (A:Around) (outer:List Env) (s:Shared) (H:Hp):Prop where
 frames:A.frames = some outer
 mod:Mod K mg base
 bs:∀ b o,base.get? b = some o -> s.heap.get? b = some o /\ H b = none
 bsz:base.objs.size <= s.heap.objs.size
 funs:s.heap.FunFrames base outer
 frf:∀ b ∈ frs outer,H b = none
 hok:HOk P w H s.heap
 bare:AllBare s.gens
def CE (outer:List Env) (P:Program) (w:World) (H:Hp) (s:Shared) (Q:VK) (u:Value) (s':Shared):Prop :=
 ∃ v H',s'.os = s.os /\ AllBare s'.gens /\ Un (frs outer) [] H H' s.heap s'.heap /\ HOk P w H' s'.heap /\ RelV v u /\ Q v H'
def CR (CX:CXT) (outer:List Env) (P:Program) (w:World) (H:Hp) (s:Shared) (Q:VK) (E:XK) (r:Result) (s':Shared):Prop :=
 match r with
 | .ok (.ret u)=>CE outer P w H s Q u s'
 | .ok _=>False
 | .error e=>CX outer H s E e s'
structure FnOk (P:Program) (w:World) (K:FG7) (mg:Str -> Option Value) (base:Heap) (CX:CXT) (k:Nat) (f:Addr) (fd:FuncData) (ps:List Str) (sp:Sp):Prop where
 len:∀ vs H Q E,sp vs H Q E -> vs.length = ps.length
 run:∀ (A:Around) (outer:List Env) (s:Shared) (H:Hp) (args:Args) (us:List Value) (vs:List V) (Q:VK) (E:XK),Room k A -> Env0 P w K mg base A outer s H -> BindsTo s fd args (ps.zip us) -> Vals vs us -> sp vs H Q E →
  codeAny (model P w) A (.call (.ref f) args) (CR CX outer P w H s Q E) s
theorem FnOk.mono {P:Program} {w:World} {K:FG7} {mg:Str -> Option Value} {base:Heap} {CX:CXT} {j k:Nat} {f:Addr} {fd:FuncData} {ps:List Str} {sp:Sp} (F:FnOk P w K mg base CX j f fd ps sp) (h:j <= k) :
  FnOk P w K mg base CX k f fd ps sp:=⟨F.len,fun A outer s H args us vs Q E hr=>F.run A outer s H args us vs Q E (hr.mono h)⟩
theorem FnOk.imp {P:Program} {w:World} {K:FG7} {mg:Str -> Option Value} {base:Heap} {CX:CXT} {k:Nat} {f:Addr} {fd:FuncData} {ps:List Str} {sp sp':Sp} (F:FnOk P w K mg base CX k f fd ps sp)
  (h:∀ vs H Q E,sp' vs H Q E -> sp vs H Q E):FnOk P w K mg base CX k f fd ps sp' :=
 ⟨fun vs H Q E q=>F.len vs H Q E (h _ _ _ _ q),fun A outer s H args us vs Q E hr he hb hv hs=>F.run A outer s H args us vs Q E hr he hb hv (h _ _ _ _ hs)⟩
theorem Env0.in1 {P:Program} {w:World} {K:FG7} {mg:Str -> Option Value} {base:Heap} {A:Around} {outer:List Env} {s:Shared} {H:Hp} (e:Env0 P w K mg base A outer s H) :
  Env0 P w K mg base A.in1 outer s H:=⟨e.frames,e.mod,e.bs,e.bsz,e.funs,e.frf,e.hok,e.bare⟩
section
variable {X:Cx} {pins:List (Addr × Obj)} {σ:St} {H:Hp} {s s':Shared}
theorem Inv.env0 (I:Inv X pins σ H s):Env0 X.prog X.w X.K X.mg X.base X.A X.stack s H :=
 ⟨I.ok.frames,I.ok.mod,I.bs,Nat.le_trans I.ok.bsz I.sz,I.stack,I.stkFree,I.hok,I.bare⟩
theorem Inv.after {Q:VK} {u:Value} (I:Inv X pins σ H s) (h:CE X.stack X.prog X.w H s Q u s'):EP X pins σ Q u s':=by
 obtain ⟨v,H',os,bare,un,hok,r,q⟩:=h
 obtain ⟨hh,g,d,t,os'⟩:=s'
 obtain rfl:os' = s.os:=os
 exact ⟨v,H',I.call (h':=hh) (g':=g) (d':=d) (t':=t) (ch:=[]) un hok bare (fun b z=>absurd z (by simp)),r,q⟩
end
def YQ (sp:Sp) (dvs:List V) (E:XK) (t:TA):TE:=fun σ H Q=>t σ H fun vs H1=>sp (vs ++ dvs) H1 Q E
def vm (K:FG7) (fd:FuncData) (ps:List Str) (ds:List Value):Prop :=
 ∀ (s:Shared) (us:List Value),K.In s.heap -> (us ++ ds).length = ps.length -> BindsTo s fd ⟨us,[]⟩ (ps.zip (us ++ ds))
theorem vm.all {K:FG7} {fd:FuncData} {ps:List Str} (h:∀ us:List Value,us.length = ps.length -> bindArgs fd ⟨us,[]⟩ = pure (ps.zip us)):vm K fd ps []:=fun s us _ hl=>by
 rw [List.append_nil] at hl ⊢
 exact .of_eq (h us hl)
def vI (CX:CXT) (X:Cx) (E:XK):Prop:=∀ (pins:List (Addr × Obj)) (σ:St) (H:Hp) (s:Shared) (e:Value) (s':Shared),Inv X pins σ H s -> CX X.stack H s E e s' -> X.xe e s'
section
variable {X:Cx} {CX:CXT} {k:Nat} {f C:Addr} {fd:FuncData} {ps:List Str} {sp:Sp} {dvs:List V} {ds:List Value} {E:XK} {x m:Str} {p pos apos:Pos} {e o:Expr} {es:List Expr} {ta:TE} {t:TA}
theorem Xt {pins:List (Addr × Obj)} {σ:St} {H:Hp} {s:Shared} {Q:VK} {us:List Value} {vs:List V} (F:FnOk X.prog X.w X.K X.mg X.base CX k f fd ps sp) (hr:Room k X.A) (hb:vm X.K fd ps ds) (hd:Vals dvs ds) (hx:vI CX X E)
  (I:Inv X pins σ H s) (r:Vals vs us) (h:sp (vs ++ dvs) H Q E):wpAny (model X.prog X.w) X.A (call (.ref f) us) (EP X pins σ Q) X.xe s:=by
 have r2:Vals (vs ++ dvs) (us ++ ds):=r.append hd
 have hl:(us ++ ds).length = ps.length:=by rw [← r2.length]; exact F.len _ _ _ _ h
 refine wpAny_call (codeAny_mono (F.run X.A X.stack s H ⟨us,[]⟩ (us ++ ds) (vs ++ dvs) Q E hr I.env0 (hb s us I.kIn hl) r2 h) fun r s' hq=>?_)
 cases r with
 | error e=>exact hx pins σ H s e s' I hq
 | ok fl =>
  cases fl with
  | ret u=>exact I.after hq
  | next=>exact False.elim hq
  | brk=>exact False.elim hq
  | cont=>exact False.elim hq
theorem jE (F:FnOk X.prog X.w X.K X.mg X.base CX k f fd ps sp) (hr:Room k X.A) (hg:Gl X x) (hm:X.mg x = some (.ref f)) (hk:PySem.W.keepIn X.K (.ref f) = true) (hb:vm X.K fd ps ds) (hd:Vals dvs ds) (hx:vI CX X E)
  (ha:PA X (e :: es) t) (hdb:(x == ("__debug__":Str)) = false:=by decide) (he:starEach (e :: es) X.env = (false,eval e X.env) :: starEach es X.env:=by rfl) (hpl:(backTo pos (starEach es X.env)).any (·.1) = false:=by rfl) :
  PE X (.Call (.Name x p) (e :: es) [] pos) (YQ sp dvs E t):=by
 intro pins s σ H Q I h
 refine wpAny_Call_Name_kw (u4 I hg hm ?_ hdb)
 refine PySem.W.callWith_K (h₀:=X.base) I.ok.mod.kin hk (thn (ha pos pins s σ H _ I h) fun us s1 ⟨vs,H1,I1,r,q⟩=>⟨I1.kIn,?_⟩) he hpl
 exact Xt F hr hb hd hx I1 r q
structure Mk (K:FG7) (C f:Addr):Prop where
 makes:PySem.W.makesIn K C = true
 init:PySem.W.findIn K (.ref C) "__init__" = some (some (.ref f))
 fn:PySem.W.isFn K (.ref f) = true
 kp:PySem.W.keepIn K (.ref C) = true
end
section
variable {X:Cx} {CX:CXT} {k:Nat} {f C:Addr} {fd:FuncData} {ps ks:List Str} {sp:Sp} {E:XK} {x m:Str} {p pos apos kpos:Pos} {e o:Expr} {es:List Expr} {kws:List Keyword} {te ta:TE} {t tk:TA} {nm:Option Str}
structure KBinds (K:FG7) (fd:FuncData) (ps ks:List Str) (g:List Value -> List Value -> List Value) (gV:List V -> List V -> List V):Prop where
 to:∀ (s:Shared) (us ws:List Value),K.In s.heap -> (g us ws).length = ps.length -> BindsTo s fd ⟨us,ks.zip ws⟩ (ps.zip (g us ws))
 rel:∀ {vs:List V} {us:List Value} {zs:List V} {ws:List Value},Vals vs us -> Vals zs ws -> Vals (gV vs zs) (g us ws)
variable {g:List Value -> List Value -> List Value} {gV:List V -> List V -> List V}
end
structure FnScope (N P:List Str) (sc:Scope):Prop where
 kind:sc.kind = .function
 co:sc.isCoroutine = false
 gen:sc.isGenerator = false
 nd:N.Nodup
 pre:N.take P.length = P
 par:∀ x ∈ P,sc.names.lookup x = some .local \/ sc.names.lookup x = some .cell
 nofree:∀ y ∈ sc.names,y.2 ≠ .free
theorem tU {kindOf:Str -> Option NameKind} {x:Str}:∀ {binds:List (Str × Value)} {m:Str -> Option Value},(∀ v,(x,v) ∉ binds) -> bindL kindOf binds m x = m x
 | [],_,_=>rfl
 | (n,v) :: r,m,h=>by
  unfold bindL
  rw [tU fun w hw=>h w (List.mem_cons_of_mem _ hw)]
  split
  ·have:x ≠ n:=by rintro rfl; exact h v List.mem_cons_self
   simp [this]
  ·rfl
theorem tV {kindOf:Str -> Option NameKind} {x:Str}:∀ {binds:List (Str × Value)} {m:Str -> Option Value},(∀ v,(x,v) ∉ binds) -> bindC kindOf binds m x = m x
 | [],_,_=>rfl
 | (n,v) :: r,m,h=>by
  unfold bindC
  rw [tV fun w hw=>h w (List.mem_cons_of_mem _ hw)]
  split
  ·rfl
  ·have:x ≠ n:=by rintro rfl; exact h v List.mem_cons_self
   simp [this]
theorem tW {kindOf:Str -> Option NameKind} {x:Str} {v:Value}:∀ {P:List Str} {vs:List Value} {i:Nat} {m:Str -> Option Value},P.Nodup -> P[i]? = some x -> vs[i]? = some v -> kindOf x = some .local →
  bindL kindOf (P.zip vs) m x = some v
 | [],_,_,_,_,h,_,_=>by simp at h
 | _ :: _,[],_,_,_,_,h,_=>by simp at h
 | p :: P,w :: vs,0,m,nd,h1,h2,hk=>by
  simp at h1 h2; subst h1; subst h2
  show bindL kindOf ((p,w) :: P.zip vs) m p = _
  unfold bindL
  rw [tU fun v hv=>(List.nodup_cons.mp nd).1 (List.of_mem_zip hv).1,if_pos hk]
  simp
 | p :: P,w :: vs,i + 1,m,nd,h1,h2,hk=>by
  show bindL kindOf ((p,w) :: P.zip vs) m x = _
  unfold bindL
  exact tW (i:=i) (List.nodup_cons.mp nd).2 (by simpa using h1) (by simpa using h2) hk
theorem tX {kindOf:Str -> Option NameKind} {x:Str} {v:Value}:∀ {P:List Str} {vs:List Value} {i:Nat} {m:Str -> Option Value},P.Nodup -> P[i]? = some x -> vs[i]? = some v -> kindOf x ≠ some .local →
  bindC kindOf (P.zip vs) m x = some v
 | [],_,_,_,_,h,_,_=>by simp at h
 | _ :: _,[],_,_,_,_,h,_=>by simp at h
 | p :: P,w :: vs,0,m,nd,h1,h2,hk=>by
  simp at h1 h2; subst h1; subst h2
  show bindC kindOf ((p,w) :: P.zip vs) m p = _
  unfold bindC
  rw [tV fun v hv=>(List.nodup_cons.mp nd).1 (List.of_mem_zip hv).1,if_neg hk]
  simp
 | p :: P,w :: vs,i + 1,m,nd,h1,h2,hk=>by
  show bindC kindOf ((p,w) :: P.zip vs) m x = _
  unfold bindC
  exact tX (i:=i) (List.nodup_cons.mp nd).2 (by simpa using h1) (by simpa using h2) hk
def u5 (N:List Str) (vs:List V):St:=vs.map some ++ List.replicate (N.length - vs.length) none
def cxOf (CX:CXT) (P:Program) (w:World) (K:FG7) (mg:Str -> Option Value) (base:Heap) (N:List Str) (qual:Str) (scope:Scope) (f:Addr) (cd:Value) (A:Around) (outer:List Env) (s:Shared) (H:Hp) (E:XK):Cx where
 prog:=P
 w:=w
 K:=K
 mg:=mg
 base:=base
 A:=A.deeper (envOfC qual scope s.heap.objs.size f cd)
 N:=N
 s₀:=s
 H₀:=H
 env:=envOfC qual scope s.heap.objs.size f cd
 outer:=outer
 stack:=envOfC qual scope s.heap.objs.size f cd :: outer
 ex:=[]
 calm:=true
 fn:=fun _=>true
 pn:=[]
 xe:=fun e s'=>wpAny (model P w) (A.deeper (envOfC qual scope s.heap.objs.size f cd)) (leaving (envOfC qual scope s.heap.objs.size f cd) e) (fun _ s''=>CX outer H s E e s'') (fun e' s''=>CX outer H s E e' s'') s'
theorem qg {sc:Scope} {n:Nat} {x:Str} (h:sc.names.lookup x = some .cell):∃ c,(cellsFrom n sc.names []).lookup x = some c:=by
 have q:=PySem.W.cellsFrom_some sc.names n [] (.inl h)
 exact Option.isSome_iff_exists.mp q
theorem jF {CX:CXT} {P:Program} {w:World} {K:FG7} {mg:Str -> Option Value} {base:Heap} {N ps:List Str} {qual:Str} {scope:Scope} {f:Addr} {cd:Value} {A:Around} {outer:List Env} {s s1:Shared} {H:Hp} {E:XK} {us:List Value} {vs:List V}
  (S:FnScope N ps scope) (hd:A.handled = none) (e0:Env0 P w K mg base A outer s H) (hl:vs.length = ps.length) (r:Vals vs us)
  (x:InCallC s s.heap.objs.size (bindL (envOfC qual scope s.heap.objs.size f cd).kindOf (ps.zip us) fun _=>none) (cellsFrom (s.heap.objs.size + 1) scope.names []) (bindC (envOfC qual scope s.heap.objs.size f cd).kindOf (ps.zip us) fun _=>none) s1) :
  Inv (cxOf CX P w K mg base N qual scope f cd A outer s H E) [] (u5 N vs) H s1:=by
 have hpl:ps.length <= N.length:=by have:=congrArg List.length S.pre; rw [List.length_take] at this; omega
 obtain ⟨h1,tk,rfl,hk⟩:=x.done
 have noA:∀ b:Addr,b ∉ (cxOf CX P w K mg base N qual scope f cd A outer s H E).ex:=fun b z=>absurd (show b ∈ ([]:List Addr) from z) (by simp)
 refine ⟨⟨e0.mod,S.kind,rfl,rfl,Nat.le_refl _,fun y z c h1 h2=>?_,fun y hy=>?_,fun y c _ h=>?_,fun _=>hd,Around.frames_deeper e0.frames,.inr ⟨rfl,rfl⟩,fun b z=>absurd z (noA b),e0.bs,e0.bsz,fun b _ _=>noA b,fun b z=>absurd z (noA b),e0.funs,e0.frf⟩,
  rfl,e0.bare,Un.kept hk,⟨_,x.toInCall.ns,fun i y v h1 h2 h3=>?_⟩,fun y c h=>⟨_,x.cell y c h⟩,e0.hok.fresh (Nat.le_refl _),fun y c h=>?_,fun p hp=>absurd (show p ∈ ([]:List (Addr × Obj)) from hp) (by simp),e0.hok.kept hk,?_⟩
 ·exact name_of_addr x.apart (PySem.mem_of_lookup h1) (PySem.mem_of_lookup h2)
 ·have hy:scope.names.lookup y = some .cell \/ scope.names.lookup y = some .free:=hy
  rcases hy with hy | hy
  ·exact qg hy
  ·exact absurd rfl (S.nofree _ (PySem.mem_of_lookup hy))
 ·exact Nat.le_of_lt (x.above y c (PySem.mem_of_lookup h))
 ·have hi:i < vs.length:=by
   unfold u5 at h2
   by_cases hi:i < vs.length
   ·exact hi
   ·rw [List.getElem?_append_right (by simpa using hi)] at h2
    rw [List.getElem?_replicate] at h2
    split at h2 <;> cases h2
  have ha:vs[i]? = some v:=by
   unfold u5 at h2
   rw [List.getElem?_append_left (by simpa using hi),List.getElem?_map] at h2
   cases e:vs[i]? with
   | none=>rw [e] at h2; cases h2
   | some a=>rw [e] at h2; cases h2; rfl
  obtain ⟨u,hu,rv⟩:=r.get ha
  have hp:ps[i]? = some y:=by
   rw [← S.pre,List.getElem?_take_of_lt (by omega)]; exact h1
  have ndP:ps.Nodup:=by rw [← S.pre]; exact S.nd.sublist (List.take_sublist _ _)
  refine ⟨u,rv,?_⟩
  rcases S.par y (List.mem_of_getElem? hp) with k | k
  ·exact .inl ⟨k,tW ndP hp hu k⟩
  ·obtain ⟨c,e⟩:=qg (n:=s.heap.objs.size + 1) k
   refine .inr ⟨.inl k,c,e,?_⟩
   have q:=x.cell y c e
   rw [tX ndP hp hu (by show scope.names.lookup y ≠ _; rw [k]; decide)] at q
   exact q
 ·exact e0.hok.fresh (Nat.le_of_lt (x.above y c (PySem.mem_of_lookup h)))
 ·unfold u5
  show _ = N.length
  rw [List.length_append,List.length_map,List.length_replicate]
  omega
theorem Xu {CX:CXT} {P:Program} {w:World} {K:FG7} {mg:Str -> Option Value} {base:Heap} {k:Nat} {f:Addr} {name qual:Str} {params:Arguments} {body:List Stmt} {scope:Scope} {dV kV doc pm cdv ct oc:Value} {an od:Option Addr}
  {osl:Array (Option Value)} {N ps:List Str} {sp:Sp} (lk:K.lookup f = some ⟨oc,od,.func (PySem.W.fnOf name qual params body scope dV kV doc pm an cdv ct),osl⟩) (hcd:PySem.W.codeIn K cdv qual = true) (S:FnScope N ps scope)
  (len:∀ vs H Q E,sp vs H Q E -> vs.length = ps.length)
  (hbody:∀ (A:Around) (outer:List Env) (s:Shared) (H:Hp) (vs:List V) (Q:VK) (E:XK),Room k (A.deeper (envOfC qual scope s.heap.objs.size f cdv)) -> sp vs H Q E →
   ∃ t,PSs (cxOf CX P w K mg base N qual scope f cdv A outer s H E) body t /\ t { nx:=fun _ H'=>Q .non H',rt:=Q } (u5 N vs) H) :
  FnOk P w K mg base CX (k + 1) f (PySem.W.fnOf name qual params body scope dV kV doc pm an cdv ct) ps sp:=by
 refine ⟨len,fun A outer s H args us vs Q E hr e0 hb r hsp=>?_⟩
 have hl:=len _ _ _ _ hsp
 have KX:K.In s.heap:=e0.mod.kin.keeps fun b o e=>(e0.bs b o e).1
 have lim:s.heap.NoLimit:=e0.mod.nolimit.keeps fun b o e=>(e0.bs b o e).1
 have hkind:∀ y ∈ ps.zip us,scope.names.lookup y.1 = some .local \/ (scope.names.lookup y.1 = some .cell /\ ((cellsFrom (s.heap.objs.size + 1) scope.names []).lookup y.1).isSome = true):=fun ⟨n,v⟩ hy=>by
  rcases S.par n (List.of_mem_zip hy).1 with q | q
  ·exact .inl q
  ·exact .inr ⟨q,PySem.W.cellsFrom_some _ _ _ (.inl q)⟩
 refine codeAny_call_function hr.depth (KX _ _ lk) rfl S.co S.gen rfl (PySem.W.codeRec_of KX hcd) (hb _ _ _ _ ?_)
 refine wpAny_newFunctionEnv_cells S.kind hkind fun env he s1 x=>?_
 subst he
 refine ⟨lim.keeps x.toInCall.keep,codeAny_func ?_⟩
 obtain ⟨t,ht,hq⟩:=hbody A outer s H vs Q E (hr.deeper _) hsp
 have I:Inv (cxOf CX P w K mg base N qual scope f cdv A outer s H E) [] (u5 N vs) H s1:=jF S hr.hd e0 hl r x
 refine wpAny_mono (ht [] s1 (u5 N vs) H _ I hq) (fun fl s' hs=>?_) fun e s' hs=>hs
 have fin:∀ {σ':St} {H':Hp} {v:V} {u:Value},Inv (cxOf CX P w K mg base N qual scope f cdv A outer s H E) [] σ' H' s' -> RelV v u -> Q v H' -> CE outer P w H s Q u s' :=
  fun {σ' H' v u} J rv q=>⟨v,H',J.os,J.bare,J.base,J.hok,rv,q⟩
 cases fl with
 | ret u =>
  obtain ⟨v,σ',H',J,rv,q⟩:=hs
  exact fin J rv q
 | next =>
  obtain ⟨σ',H',J,q⟩:=hs
  exact fin (v:=V.non) (u:=Value.none) J rfl q
 | brk =>
  obtain ⟨_,_,_,q⟩:=hs
  exact False.elim q
 | cont =>
  obtain ⟨_,_,_,q⟩:=hs
  exact False.elim q
end L2
namespace L2
open PySem PySem.Spec PyProof.Rows
section
variable {X:Cx} {x:Str} {p pos:Pos} {e:Expr} {es:List Expr} {t:TA} {id T:String} {r:List V -> Hp -> VK -> Prop}
def tCB (r:List V -> Hp -> VK -> Prop) (t:TA):TE:=fun σ H Q=>t σ H fun vs H1=>r vs H1 Q
theorem zj (hc:xD X (.builtin id) r) (hg:Gl X x) (hm:X.mg x = none) (hv:bootBuiltins x = some (.builtin id)) (ha:PA X (e :: es) t) (hn:x ≠ "__name__":=by decide) (hdb:(x == ("__debug__":Str)) = false:=by decide)
  (he:starEach (e :: es) X.env = (false,eval e X.env) :: starEach es X.env:=by rfl) (hpl:(backTo pos (starEach es X.env)).any (·.1) = false:=by rfl):PE X (.Call (.Name x p) (e :: es) [] pos) (tCB r t):=by
 intro pins s σ H Q I h
 refine wpAny_Call_Name_kw (xH I hg hm hv ?_ hn hdb)
 exact PyProof.Rows.callWith_builtin1 (thn (ha pos pins s σ H _ I h) fun us s1 ⟨vs,H1,I1,r1,q1⟩=>hc pins s1 σ H1 vs us Q I1 r1 q1) he hpl
theorem zH (hc:xD X (.type T) r) (hg:Gl X x) (hm:X.mg x = none) (hv:bootBuiltins x = some (.type T)) (ha:PA X (e :: es) t) (hn:x ≠ "__name__":=by decide) (hdb:(x == ("__debug__":Str)) = false:=by decide)
  (he:starEach (e :: es) X.env = (false,eval e X.env) :: starEach es X.env:=by rfl) (hpl:(backTo pos (starEach es X.env)).any (·.1) = false:=by rfl):PE X (.Call (.Name x p) (e :: es) [] pos) (tCB r t):=by
 intro pins s σ H Q I h
 refine wpAny_Call_Name_kw (xH I hg hm hv ?_ hn hdb)
 exact PyProof.Rows.callWith_type1 (thn (ha pos pins s σ H _ I h) fun us s1 ⟨vs,H1,I1,r1,q1⟩=>hc pins s1 σ H1 vs us Q I1 r1 q1) he hpl
end
end L2
namespace HT
open PySem PyProof.Rows
section
variable {prog:Program} {w:World} {A:Around} {E:VS7} {s:Shared}
theorem cat_tup {t b:Addr} {vs ws:List Value} {Q:VS7} (ht:IsTup s.heap t vs.toArray) (hb:IsTup s.heap b ws.toArray) (hv:vs ≠ [])
  (h1:ws = [] -> Q (.ref t) s) (h2:ws ≠ [] -> Q (.ref s.heap.objs.size) { s with heap:=s.heap.push { cls:=.type "tuple",data:=.seq (vs ++ ws).toArray } })
  (hsz:vs.length + ws.length <= sizeLine):wpAny (model prog w) A (binaryOp .Add (.ref t) (.ref b)) Q E s:=by
 obtain ⟨⟨cls,dd,data,sl⟩,ho,hc,n,hd⟩:=id ht
 obtain ⟨⟨cls2,dd2,data2,sl2⟩,ho2,hc2,n2,hd2⟩:=id hb
 simp only at hc hd hc2 hd2
 subst hc hd hc2 hd2
 have e:vs.toArray ++ ws.toArray = (vs ++ ws).toArray:=by simp
 by_cases hw:ws = []
 ·exact concat_meets ⟨_,ho,rfl⟩ ⟨_,ho2,rfl⟩ noFill_tuple_add seq_tuple_add PySem.F.slot_tuple_add PySem.F.entry_tuple_add (PySem.F.args_tuple_add_2 _ _)
   (tuple_addW1 t b vs.toArray ws.toArray n n2 dd dd2 sl sl2 (by simpa using hv) (by simp [hw])) ⟨ho,ho2,h1 hw⟩
 ·refine concat_meets ⟨_,ho,rfl⟩ ⟨_,ho2,rfl⟩ noFill_tuple_add seq_tuple_add PySem.F.slot_tuple_add PySem.F.entry_tuple_add (PySem.F.args_tuple_add_2 _ _)
   (tuple_addW2 t b vs.toArray ws.toArray n n2 dd dd2 sl sl2 (by simpa using hv) (by simpa using hw) (by rw [List.size_toArray,List.size_toArray]; exact hsz)) ⟨ho,ho2,?_⟩
  rw [e]
  exact h2 hw
def sIx (n d:Nat):Option Int -> Nat
 | none=>d
 | some v=>if v < 0 then (v + (n:Int)).toNat else min v.toNat n
theorem sIx_none (n d:Nat):sIx n d none = d:=rfl
theorem sIx_nat (n d k:Nat):sIx n d (some (k:Int)) = min k n:=by
 show (if (k:Int) < 0 then ((k:Int) + (n:Int)).toNat else min (k:Int).toNat n) = min k n
 rw [if_neg (by omega),Int.toNat_natCast]
theorem Xv (n d:Nat) (hd:d <= n) (o:Option Int):sIx n d o <= n:=by
 cases o with
 | none=>exact hd
 | some v =>
  show (if v < 0 then (v + (n:Int)).toNat else min v.toNat n) <= n
  by_cases hv:v < 0
  ·rw [if_pos hv]; omega
  ·rw [if_neg hv]; exact Nat.min_le_right _ _
theorem jG (v:Int) (n d:Nat):(if v < 0 then max (v + (n:Int)) 0 else min v (n:Int)) = ((sIx n d (some v):Nat):Int):=by
 show (if v < 0 then max (v + (n:Int)) 0 else min v (n:Int)) = (((if v < 0 then (v + (n:Int)).toNat else min v.toNat n):Nat):Int)
 by_cases hv:v < 0
 ·simp only [if_pos hv]; omega
 ·simp only [if_neg hv]; omega
theorem qQ (lo hi:Option Int) (n:Nat):Builtin.Slice.sliceAdjust lo hi 1 (n:Int) = (((sIx n 0 lo:Nat):Int),((sIx n n hi:Nat):Int)):=by
 have h1:¬ ((1:Int) < 0):=by omega
 unfold Builtin.Slice.sliceAdjust
 simp only [h1,if_false]
 refine Prod.ext ?_ ?_
 ·cases lo with
  | none=>rfl
  | some v=>exact jG v n 0
 ·cases hi with
  | none=>rfl
  | some v=>exact jG v n n
theorem qR (i j:Nat):Builtin.Slice.slicePlaces (i:Int) (j:Int) 1 = j - i:=by
 unfold Builtin.Slice.slicePlaces
 have h1:(1:Int) > 0:=by omega
 simp only [h1,if_true,Int.ediv_one]
 split <;> omega
theorem uG {v:Value} {o:Option Int} {Q:Option Int -> Shared -> Prop} (p:IsPart v o) (h:Q o s):wpAny (model prog w) A (Builtin.Slice.slicePartIndex v) Q E s:=by
 cases p with
 | none=>exact slicePart_none h
 | int i t=>exact slicePart_int h
theorem xA {sl:Addr} {vl vu:Value} {lo hi:Option Int} {n:Nat} {Q:Int × Int × Nat -> Shared -> Prop} (hs:s.heap.IsSliceOf sl vl vu .none) (pl:IsPart vl lo) (pu:IsPart vu hi)
  (h:Q (((sIx n 0 lo:Nat):Int),1,sIx n n hi - sIx n 0 lo) s):wpAny (model prog w) A (Builtin.Slice.sliceApplied (.ref sl) (pure (n:Int))) Q E s:=by
 obtain ⟨os,hos,hcs,hds⟩:=id hs
 unfold Builtin.Slice.sliceApplied Builtin.Slice.sliceFields
 refine wpAny_bind (wpAny_bind (wpAny_field hos hds (x:=vl) rfl (wpAny_bind (wpAny_field hos hds (x:=vu) rfl (wpAny_bind (wpAny_field hos hds (x:=.none) rfl (wpAny_pure ?_)))))))
 refine wpAny_bind (slicePart_none ?_)
 show wpAny _ _ (if ((1:Int) == 0) = true then _ else _) _ _ s
 rw [if_neg (by decide)]
 refine wpAny_bind (uG pl (wpAny_bind (uG pu (wpAny_bind (wpAny_pure ?_)))))
 show wpAny _ _ (match Builtin.Slice.sliceAdjust lo hi 1 (n:Int) with | (lo,hi)=>pure (lo,(1:Int),Builtin.Slice.slicePlaces lo hi 1)) _ _ s
 rw [qQ lo hi n]
 show wpAny _ _ (pure (((sIx n 0 lo:Nat):Int),(1:Int),Builtin.Slice.slicePlaces ((sIx n 0 lo:Nat):Int) ((sIx n n hi:Nat):Int) 1)) _ _ s
 rw [qR]
 exact wpAny_pure h
theorem ZO (xs:Array Value) (i k:Nat):((List.range k).filterMap fun (m:Nat)=>xs[((i:Int) + (m:Int) * 1).toNat]?).toArray = ((xs.toList.drop i).take k).toArray:=by
 have e:(fun (m:Nat)=>xs[((i:Int) + (m:Int) * 1).toNat]?) = fun m=>xs[i + m]?:=by
  funext m
  have:((i:Int) + (m:Int) * 1).toNat = i + m:=by omega
  rw [this]
 rw [e]
 have:=pick_run xs i k
 rw [List.filterMap_map] at this
 have e2:((fun x=>xs[x]?) ∘ fun x=>i + x) = fun m=>xs[i + m]?:=rfl
 rw [e2] at this
 rw [this]
theorem getItem_tuple_cut {t sl:Addr} {items:Array Value} {vl vu:Value} {lo hi:Option Int} {Q:VS7} (ht:IsTup s.heap t items) (hs:s.heap.IsSliceOf sl vl vu .none) (pl:IsPart vl lo) (pu:IsPart vu hi)
  (hw:¬ (sIx items.size 0 lo = 0 /\ sIx items.size items.size hi = items.size))
  (h:Q (.ref s.heap.objs.size) { s with heap:=s.heap.push { cls:=.type "tuple",data:=.seq ((items.toList.drop (sIx items.size 0 lo)).take (sIx items.size items.size hi - sIx items.size 0 lo)).toArray } })
  (hsz:items.size <= sizeLine):wpAny (model prog w) A (getItem (.ref t) (.ref sl)) Q E s:=by
 have htake:sizeOk (.seq ((items.toList.drop (sIx items.size 0 lo)).take (sIx items.size items.size hi - sIx items.size 0 lo)).toArray):=by
  show ((items.toList.drop (sIx items.size 0 lo)).take (sIx items.size items.size hi - sIx items.size 0 lo)).toArray.size <= sizeLine
  rw [List.size_toArray,List.length_take,List.length_drop,Array.length_toList]
  omega
 have hj:sIx items.size items.size hi <= items.size:=Xv _ _ (Nat.le_refl _) hi
 obtain ⟨os,hos,hcs,hds⟩:=id hs
 have hTs:s.TypeIs (.ref sl) "slice":=⟨os,hos,hcs⟩
 unfold getItem
 try with_reducible refine wpAny_holding ?_
 first | refine wpAny_bind (wpAny_pure ?_) | skip
 refine wpAny_bind (wpAny_sequenceKey ht.typeIs (by decide) ?_)
 refine wpAny_bind (wpAny_callSpecial?_slot (name:=Str.ofString "__getitem__") ht.typeIs PyProof.Rows.slot_tuple_getitem
  (wpAny_call_entry PyProof.Rows.slot_tuple_getitem ht.typeIs entry_tuple_getitem ?_ (args_tuple_getitem _ _)))
 show wpAny _ _ (Builtin.Tuple.tupleItemsOf (.ref t) >>= _) _ _ s
 refine wpAny_bind (tupleItemsOf_ ht ?_)
 refine wpAny_bind (wpAny_typeOf hTs ?_)
 rw [if_pos (by decide)]
 refine wpAny_bind (xA hs pl pu ?_)
 have hno:¬ ((((sIx items.size 0 lo:Nat):Int) == 0 && (1:Int) == 1 && (sIx items.size items.size hi - sIx items.size 0 lo) == items.size) = true):=by
  intro q
  rw [Bool.and_eq_true,Bool.and_eq_true] at q
  have q1:((sIx items.size 0 lo:Nat):Int) = 0:=eq_of_beq q.1.1
  have q2:sIx items.size items.size hi - sIx items.size 0 lo = items.size:=eq_of_beq q.2
  exact hw ⟨by omega,by omega⟩
 show wpAny _ _ (if (((sIx items.size 0 lo:Nat):Int) == 0 && (1:Int) == 1 && (sIx items.size items.size hi - sIx items.size 0 lo) == items.size) = true then _ else _) _ _ s
 rw [if_neg hno,ZO]
 first
  | exact wpAny_bind (m:=Builtin.Tuple.tupleExact _) (wpAny_newObj_type (wpAny_pure ⟨_,rfl,wpAny_pure h⟩) htake)
  | exact wpAny_bind (m:=Builtin.Tuple.tupleExact _) (wpAny_newObj_type (wpAny_bind (wpAny_pure (wpAny_pure ⟨_,rfl,wpAny_pure h⟩))) htake)
  | exact wpAny_bind (wpAny_bind (m:=Builtin.Tuple.tupleExact _) (wpAny_newObj_type (wpAny_pure (wpAny_pure ⟨_,rfl,wpAny_pure h⟩)) htake))
  | exact wpAny_bind (wpAny_bind (m:=Builtin.Tuple.tupleExact _) (wpAny_newObj_type (wpAny_pure ⟨_,rfl,wpAny_pure h⟩) htake))
end
end HT
namespace L2
open PySem PySem.Spec PyProof.Rows
abbrev TO:=St -> Hp -> (Option Int -> Hp -> Prop) -> Prop
def PO (X:Cx) (e:Option Expr) (t:TO):Prop :=
 ∀ (pins:List (Addr × Obj)) (s:Shared) (σ:St) (H:Hp) (Q:Option Int -> Hp -> Prop),Inv X pins σ H s -> t σ H Q →
  wpAny (model X.prog X.w) X.A (evalPart e X.env) (fun u s'=>∃ o H',Inv X pins σ H' s' /\ IsPart u o /\ Q o H') X.xe s
def YR:TO:=fun _ H Q=>Q none H
def Wo (t:TE):TO:=fun σ H Q=>t σ H fun x H1=>∃ i,x = .int i /\ Q (some i) H1
theorem qS {ns:List Int}:∀ {us:List Value},Vals (ns.map V.int) us -> IntsAre us ns:=by
 induction ns with
 | nil=>intro us r; rw [List.map_nil] at r; cases r; exact .nil
 | cons n ns ih =>
  intro us r
  rw [List.map_cons] at r
  cases r with
  | cons r1 r2 =>
   obtain ⟨t,e⟩:=r1
   subst e
   exact .cons n t (ih r2)
section
variable {X:Cx} {e:Expr} {te:TE} {lo hi:Option Expr} {tl th:TO} {pos p2:Pos}
theorem xM:PO X none YR:=by
 intro pins s σ H Q I h
 rw [evalPart_none]
 exact wpAny_pure ⟨none,H,I,.none,h⟩
theorem xO (h:PE X e te):PO X (some e) (Wo te):=by
 intro pins s σ H Q I hw
 rw [evalPart_some]
 refine thn (h pins s σ H _ I hw) fun u s1 ⟨x,H1,I1,r1,q1⟩=>?_
 obtain ⟨i,rfl,q⟩:=q1
 obtain ⟨t,rfl⟩:=r1
 exact ⟨some i,H1,I1,.int i t,q⟩
def SlR (X:Cx) (r:V -> Option Int -> Option Int -> Hp -> VK -> Prop):Prop :=
 ∀ (pins:List (Addr × Obj)) (s:Shared) (σ:St) (H:Hp) (x:V) (v vl vu:Value) (lo hi:Option Int) (sl:Addr) (Q:VK),Inv X pins σ H s -> RelV x v -> s.heap.IsSliceOf sl vl vu .none -> IsPart vl lo -> IsPart vu hi -> r x lo hi H Q →
  ∃ T id,typeLookup (.type T) "__getitem__" = pure (some (.builtin id)) /\ s.TypeIs v T /\ wpAny (model X.prog X.w) X.A (getItem v (.ref sl)) (EP X pins σ Q) X.xe s
def tSl (r:V -> Option Int -> Option Int -> Hp -> VK -> Prop) (te:TE) (tl th:TO):TE:=fun σ H Q=>te σ H fun x H1=>tl σ H1 fun l H2=>th σ H2 fun u H3=>r x l u H3 Q
theorem y6 {r:V -> Option Int -> Option Int -> Hp -> VK -> Prop} (hr:SlR X r) (he:PE X e te) (hl:PO X lo tl) (hu:PO X hi th):PE X (.Subscript e (.Slice lo hi none p2) pos) (tSl r te tl th):=by
 intro pins s σ H Q I h
 refine Subscript_ (thn (he pins s σ H _ I h) fun v s1 ⟨x,H1,I1,r1,q1⟩=>?_)
 refine wpAny_Slice (thn (hl pins s1 σ H1 _ I1 q1) fun vl s2 ⟨l,H2,I2,pl,q2⟩=>thn (hu pins s2 σ H2 _ I2 q2) fun vu s3 ⟨u,H3,I3,pu,q3⟩=>?_)
 rw [evalPart_none]
 refine wpAny_pure ?_
 have I4:Inv X pins σ H3 { s3 with heap:=s3.heap.push { cls:=.type "slice",data:=.fields #[vl,vu,.none] } }:=I3.kept (t':=s3.toks) fun b ob q=>Heap.get?_push_of_some _ q
 obtain ⟨T,id,hT,ht,hg⟩:=hr pins { s3 with heap:=s3.heap.push { cls:=.type "slice",data:=.fields #[vl,vu,.none] } } σ H3 x v vl vu l u s3.heap.objs.size Q I4 r1 (Heap.IsSliceOf.new ..) pl pu q3
 show wpAny (model X.prog X.w) X.A (subscriptTail e (.Slice lo hi none p2) v (.ref s3.heap.objs.size)) (EP X pins σ Q) X.xe { s3 with heap:=s3.heap.push { cls:=.type "slice",data:=.fields #[vl,vu,.none] } }
 exact tail_any (ops:=[.ref s3.heap.objs.size,v]) ht hT hg (by with_unfolding_all rfl)
def cutV (xs:List V) (lo hi:Option Int):List V:=(xs.drop (HT.sIx xs.length 0 lo)).take (HT.sIx xs.length xs.length hi - HT.sIx xs.length 0 lo)
theorem vJ (xs:List V) (lo hi:Option Int):(cutV xs lo hi).length <= xs.length:=by
 unfold cutV
 rw [List.length_take,List.length_drop]
 omega
def rSlT (K:FG7):V -> Option Int -> Option Int -> Hp -> VK -> Prop:=fun x lo hi H Q=>∃ a xs,x = .ref a /\ SqT K H a xs ∧
 ¬ (HT.sIx xs.length 0 lo = 0 /\ HT.sIx xs.length xs.length hi = xs.length) /\ ∀ p,H p = none -> Q (.ref p) (upd H p (.tup (cutV xs lo hi)))
theorem Xw:SlR X (rSlT X.K):=by
 intro pins s σ H x v vl vu lo hi sl Q I rx hs pl pu h
 obtain ⟨a,xs,rfl,hx,hw,q⟩:=h
 cases rx
 obtain ⟨its,r,ht,hz⟩:=I.tuple hx
 have hlen:its.toArray.size = xs.length:=by rw [List.size_toArray]; exact r.length.symm
 refine ⟨"tuple",_,PyProof.Rows.slot_tuple_getitem.lookup,ht.typeIs,?_⟩
 refine HT.getItem_tuple_cut ht hs pl pu (by rw [hlen]; exact hw) ?_ (by rw [hlen]; exact hz)
 rw [hlen]
 refine ⟨.ref s.heap.objs.size,_,I.laid (t':=s.toks) (o:=.tup (cutV xs lo hi)) (fun b ob q=>Heap.get?_push_of_some _ q) (Nat.le_refl _) ?_,rfl,q _ (I.hok.fresh (Nat.le_refl _))⟩
 exact ⟨Nat.le_trans (vJ xs lo hi) hz,_,(r.drop (HT.sIx xs.length 0 lo)).take (HT.sIx xs.length xs.length hi - HT.sIx xs.length 0 lo),IsTup.new _ _⟩
def Wp (K:FG7):R2:=fun x y H Q=>∃ a b xs ys,x = .ref a /\ y = .ref b /\ SqT K H a xs /\ SqT K H b ys /\ xs ≠ [] /\ xs.length + ys.length <= sizeLine ∧
 (ys = [] -> Q (.ref a) H) /\ (ys ≠ [] -> ∀ p,H p = none -> Q (.ref p) (upd H p (.tup (xs ++ ys))))
theorem Vals.nil_iff {xs:List V} {us:List Value} (r:Vals xs us):us = [] ↔ xs = []:=by
 cases r with
 | nil=>simp
 | cons _ _=>simp
theorem YS:OpR X (binaryOp .Add) (Wp X.K):=by
 intro pins s σ H x y v u Q I rx ry h
 obtain ⟨a,b,xs,ys,rfl,rfl,ha,hb,hx,hz,q1,q2⟩:=h
 cases rx
 cases ry
 obtain ⟨its,r1,p1,_⟩:=I.tuple ha
 obtain ⟨its2,r2,p2,_⟩:=I.tuple hb
 refine HT.cat_tup p1 p2 (fun z=>hx (r1.nil_iff.mp z)) (fun z=>⟨.ref a,H,I,rfl,q1 (r2.nil_iff.mp z)⟩) (fun z=>?_) (by rw [← r1.length,← r2.length]; exact hz)
 refine ⟨.ref s.heap.objs.size,_,I.laid (t':=s.toks) (o:=.tup (xs ++ ys)) (fun b ob q=>Heap.get?_push_of_some _ q) (Nat.le_refl _) ?_,rfl,q2 (fun w=>z (r2.nil_iff.mpr w)) _ (I.hok.fresh (Nat.le_refl _))⟩
 exact ⟨by rw [List.length_append]; exact hz,_,r1.append r2,IsTup.new _ _⟩
end
end L2
namespace L2
open PySem PySem.Spec PyProof.Rows
def ixN (n:Nat) (i:Int):Option Nat:=if 0 <= i then (if i < n then some i.toNat else none) else if -(n:Int) <= i then some (i + n).toNat else none
def atI {α:Type} (xs:List α) (i:Int):Option α:=(ixN xs.length i).bind fun j=>xs[j]?
theorem jH {n:Nat} {i:Int} {j:Nat} (h:ixN n i = some j):seqIndex? i n = some j /\ j < n /\ -(n:Int) <= i /\ i < n:=by
 unfold ixN at h
 by_cases h0:0 <= i
 ·rw [if_pos h0] at h
  by_cases h1:i < n
  ·rw [if_pos h1] at h
   have e:i.toNat = j:=Option.some.inj h
   exact ⟨by rw [seqIndex_of h0 h1,e],by omega,by omega,h1⟩
  ·rw [if_neg h1] at h; cases h
 ·rw [if_neg h0] at h
  by_cases h1:-(n:Int) <= i
  ·rw [if_pos h1] at h
   have e:(i + n).toNat = j:=Option.some.inj h
   exact ⟨by rw [seqIndex_neg (by omega) h1,e],by omega,h1,by omega⟩
  ·rw [if_neg h1] at h; cases h
theorem jI {α:Type} {xs:List α} {i:Int} {v:α} (h:atI xs i = some v):∃ j,seqIndex? i xs.length = some j /\ xs[j]? = some v /\ j < xs.length /\ -(xs.length:Int) <= i /\ i < xs.length:=by
 unfold atI at h
 cases e:ixN xs.length i with
 | none=>rw [e] at h; cases h
 | some j =>
  rw [e] at h
  obtain ⟨h1,h2,h3,h4⟩:=jH e
  exact ⟨j,h1,h,h2,h3,h4⟩
theorem zR {α:Type} {xs:List α} {j:Nat} {v:α} (h:xs[j]? = some v):atI xs (j:Int) = some v:=by
 have hj:j < xs.length:=(List.getElem?_eq_some_iff.mp h).1
 have e:ixN xs.length (j:Int) = some j:=by
  unfold ixN
  rw [if_pos (by omega),if_pos (by omega)]; simp
 unfold atI; rw [e]; exact h
def YT (b:Expr):Prop:=∀ o i,subscripted b false o i = operate [o,i] (getItem o i)
def IxR (X:Cx) (r:R2):Prop :=
 ∀ (value slice:Expr) (pins:List (Addr × Obj)) (s:Shared) (σ:St) (H:Hp) (x y:V) (v u:Value) (Q:VK),Inv X pins σ H s -> RelV x v -> RelV y u -> r x y H Q →
  subscripted slice false v u = operate [v,u] (getItem v u) -> wpAny (model X.prog X.w) X.A (subscriptTail value slice v u) (EP X pins σ Q) X.xe s
def MtR (X:Cx) (id:String) (r:V -> List V -> Hp -> VK -> Prop):Prop :=
 ∀ (pins:List (Addr × Obj)) (s:Shared) (σ:St) (H:Hp) (x:V) (xs:List V) (v:Value) (us:List Value) (Q:VK),Inv X pins σ H s -> RelV x v -> Vals xs us -> r x xs H Q →
  wpAny (model X.prog X.w) X.A (call (.builtin id) (v :: us)) (EP X pins σ Q) X.xe s
section
variable {X:Cx} {a b:Expr} {ta tb:TE} {pos:Pos}
theorem yj {r:R2} (hr:IxR X r) (ha:PE X a ta) (hb:PE X b tb) (hs:YT b):PE X (.Subscript a b pos) (tOp r ta tb):=by
 intro pins s σ H Q I h
 exact Subscript_ (binT ha hb I h fun v u s2 x y H2 I2 rx ry q=>hr a b pins s2 σ H2 x y v u Q I2 rx ry q (hs _ _))
def rIxL (K:FG7):R2:=fun x y H Q=>∃ p xs i v,x = .ref p /\ y = .int i /\ SqL K H p xs /\ atI xs i = some v /\ Q v H
def rIxT (K:FG7):R2:=fun x y H Q=>∃ p xs i v,x = .ref p /\ y = .int i /\ SqT K H p xs /\ atI xs i = some v /\ Q v H
theorem zJ:IxR X (rIxL X.K):=by
 intro value slice pins s σ H x y v u Q I rx ry h hs
 obtain ⟨p,xs,i,z,rfl,rfl,hq,he,q⟩:=h
 cases rx
 obtain ⟨t,rfl⟩:=ry
 obtain ⟨its,r,pl,hz⟩:=I.list hq
 obtain ⟨j,h1,h2,h3,h4,h5⟩:=jI he
 obtain ⟨w,ew,rw'⟩:=r.get h2
 have hl:=r.length
 have hn:=qf
 have fin:EP X pins σ Q w s:=⟨z,H,I,rw',q⟩
 by_cases h0:0 <= i
 ·have hj:i.toNat = j:=by
   rw [seqIndex_of h0 h5] at h1
   exact Option.some.inj h1
  exact item_listR pl.isList h0 (by omega) (by rw [hj]; simpa using ew) fin hs
 ·have hj:(i + (its.toArray.size:Int)).toNat = j:=by
   rw [seqIndex_neg (by omega) h4] at h1
   rw [List.size_toArray,← hl]
   exact Option.some.inj h1
  exact subscriptTail_builtinR (x:=w) pl.isList.typeIs slot_list_getitem.lookup
   (wpAny_getItem_list_neg (Q:=fun r s'=>r = w /\ EP X pins σ Q r s') pl.isList (by omega) (by rw [List.size_toArray] <;> omega) (by omega) (by rw [hj]; simpa using ew) ⟨rfl,fin⟩) hs
theorem uH:IxR X (rIxT X.K):=by
 intro value slice pins s σ H x y v u Q I rx ry h hs
 obtain ⟨p,xs,i,z,rfl,rfl,hq,he,q⟩:=h
 cases rx
 obtain ⟨t,rfl⟩:=ry
 obtain ⟨its,r,pl,hz⟩:=I.tuple hq
 obtain ⟨j,h1,h2,h3,h4,h5⟩:=jI he
 obtain ⟨w,ew,rw'⟩:=r.get h2
 have hl:=r.length
 have hn:=qf
 have fin:EP X pins σ Q w s:=⟨z,H,I,rw',q⟩
 exact subscriptTail_builtinR (x:=w) pl.typeIs slot_tuple_getitem.lookup
  (getItem_tuple (j:=j) (Q:=fun r s'=>r = w /\ EP X pins σ Q r s') pl (by omega) (by omega) (by rw [List.size_toArray,← hl]; exact h1) (by simpa using ew) ⟨rfl,fin⟩) hs
theorem qT (its:List Value) (n j:Nat) (u:Value):Obj.mapSeq (·.setIfInBounds j u) { cls:=.type "list",data:=.seq its.toArray n } = { cls:=.type "list",data:=.seq (its.set j u).toArray n }:=by
 simp [Obj.mapSeq]
theorem Inv.lst {pins:List (Addr × Obj)} {σ:St} {H:Hp} {s:Shared} {p:Addr} {xs:List V} (I:Inv X pins σ H s) (h:H p = some (.lst xs)) :
  ∃ (its:List Value) (n:Nat),Vals xs its /\ s.heap.get? p = some { cls:=.type "list",data:=.seq its.toArray n } /\ xs.length <= sizeLine:=by
 obtain ⟨z,its,n,r,e⟩:=I.hok p _ h
 exact ⟨its,n,r,e,z⟩
theorem Inv.lstUpd {pins:List (Addr × Obj)} {σ:St} {H:Hp} {s:Shared} {p:Addr} {xs ys:List V} {its its':List Value} {n n':Nat} {f:Obj -> Obj} (I:Inv X pins σ H s) (h:H p = some (.lst xs))
  (ho:s.heap.get? p = some { cls:=.type "list",data:=.seq its.toArray n }) (hf:f { cls:=.type "list",data:=.seq its.toArray n } = { cls:=.type "list",data:=.seq its'.toArray n' }) (r:Vals ys its') (hz:ys.length <= sizeLine) (t:Nat) :
  Inv X pins σ (upd H p (.lst ys)) { s with heap:=s.heap.update p f,toks:=t }:=by
 have e:(s.heap.update p f).get? p = some { cls:=.type "list",data:=.seq its'.toArray n' }:=by
  rw [Heap.get?_update_self f ho (by rw [hf] <;> rfl),hf]
 refine I.write (x:=p) (e:=p) (by rw [h]; trivial) (.inl rfl) (fun b u hb q=>(Heap.get?_update_other _ _ (Ne.symm hb)).trans q) ⟨_,e⟩ ?_
 exact ⟨hz,its',n',r,e⟩
def Wq:V -> V -> V -> Hp -> (Hp -> Prop) -> Prop:=fun o i v H Q=>∃ p xs k j,o = .ref p /\ i = .int k /\ H p = some (.lst xs) /\ ixN xs.length k = some j /\ Q (upd H p (.lst (xs.set j v)))
theorem xX:PSet X Wq:=by
 intro pins s σ H o i v ov iv u Q I ro ri rv h
 obtain ⟨p,xs,k,j,rfl,rfl,hp,hj,q⟩:=h
 cases ro
 obtain ⟨t,rfl⟩:=ri
 obtain ⟨its,n,r,ho,hz⟩:=I.lst hp
 obtain ⟨h1,h2,h3,h4⟩:=jH hj
 have hl:=r.length
 have hn:=qf
 have I':Inv X pins σ (upd H p (.lst (xs.set j v))) { s with heap:=s.heap.update p (Obj.mapSeq (·.setIfInBounds j u)) } :=
  I.lstUpd hp ho (qT its n j u) (r.set rv j) (by rw [List.length_set]; exact hz) s.toks
 by_cases h0:0 <= k
 ·have hk:k.toNat = j:=by
   rw [seqIndex_of h0 h4] at h1
   exact Option.some.inj h1
  exact PySem.W.ki_setAt ho h0 (by omega) (by rw [List.size_toArray,← hl]; exact h4) (by rw [hk]; exact ⟨_,I',q⟩)
 ·have hk:(k + (its.toArray.size:Int)).toNat = j:=by
   rw [seqIndex_neg (by omega) h3] at h1
   rw [List.size_toArray,← hl]
   exact Option.some.inj h1
  exact PySem.W.ki_setBack ho (by omega) (by rw [List.size_toArray,← hl]; exact h3) (by omega) (by rw [hk]; exact ⟨_,I',q⟩)
theorem tY (lo hi:Option Int) (n:Nat):(sliceBounds lo hi none n).1 = ((HT.sIx n 0 lo:Nat):Int) /\ (sliceBounds lo hi none n).2.1 = ((HT.sIx n n hi:Nat):Int) /\ (sliceBounds lo hi none n).2.2 = 1:=by
 refine ⟨?_,?_,rfl⟩
 ·cases lo with
  | none=>simp [sliceBounds,HT.sIx]
  | some i =>
   simp only [sliceBounds,HT.sIx,Option.getD_none,show (1:Int) > 0 by decide,if_true]
   by_cases h:i < 0
   ·simp only [h,if_true] <;> omega
   ·simp only [h,if_false] <;> omega
 ·cases hi with
  | none=>simp [sliceBounds,HT.sIx]
  | some i =>
   simp only [sliceBounds,HT.sIx,Option.getD_none,show (1:Int) > 0 by decide,if_true]
   by_cases h:i < 0
   ·simp only [h,if_true] <;> omega
   ·simp only [h,if_false] <;> omega
theorem u6 (its:List Value) (lo hi:Option Int):slicePick its.toArray lo hi none = ((its.drop (HT.sIx its.length 0 lo)).take (HT.sIx its.length its.length hi - HT.sIx its.length 0 lo)).toArray:=by
 obtain ⟨h1,h2,h3⟩:=tY lo hi its.toArray.size
 unfold slicePick
 rw [h1,h2,h3]
 simp only [sliceRange_one,pick_run,List.size_toArray] <;> rfl
def rSlL (K:FG7):V -> Option Int -> Option Int -> Hp -> VK -> Prop:=fun x lo hi H Q=>∃ a xs,x = .ref a /\ SqL K H a xs /\ ∀ p,H p = none -> Q (.ref p) (upd H p (.lst (cutV xs lo hi)))
theorem vK:SlR X (rSlL X.K):=by
 intro pins s σ H x v vl vu lo hi sl Q I rx hs pl pu h
 obtain ⟨a,xs,rfl,hx,q⟩:=h
 cases rx
 obtain ⟨its,r,ht,hz⟩:=I.list hx
 have hlen:=r.length
 refine ⟨"list",_,slot_list_getitem.lookup,ht.isList.typeIs,?_⟩
 refine wpAny_getItem_list_slice ht.isList hs pl pu .none (by simp) ?_ (by rw [List.size_toArray] <;> omega)
 rw [u6,← hlen]
 refine ⟨.ref s.heap.objs.size,_,I.laid (t':=s.toks) (o:=.lst (cutV xs lo hi)) (fun b ob q=>Heap.get?_push_of_some _ q) (Nat.le_refl _) ?_,rfl,q _ (I.hok.fresh (Nat.le_refl _))⟩
 exact ⟨Nat.le_trans (vJ xs lo hi) hz,_,0,(r.drop (HT.sIx xs.length 0 lo)).take (HT.sIx xs.length xs.length hi - HT.sIx xs.length 0 lo),Heap.get?_push_size _ rfl⟩
def tZ:V -> Bool
 | .non=>true
 | .bl _=>true
 | .int _=>true
 | .str _=>true
 | _=>false
def eqV:V -> V -> Bool
 | .non,.non=>true
 | .bl a,.bl b=>a == b
 | .bl a,.int b=>(if a then 1 else 0) == b
 | .int a,.bl b=>a == (if b then 1 else 0)
 | .int a,.int b=>a == b
 | .str a,.str b=>a == b
 | _,_=>false
theorem Xx {A:Around} {s:Shared} {y x:V} {u v:Value} (ry:RelV y u) (rx:RelV x v) (fy:tZ y = true) (fx:tZ x = true):SeqAt.EqAt A s u v (eqV y x):=by
 cases y with
 | non =>
  cases ry
  cases x with
  | non=>cases rx; exact SeqAt.EqAt.same _
  | bl b=>cases rx; exact SeqAt.EqAt.none_bool b
  | int b=>obtain ⟨t,rfl⟩:=rx; exact SeqAt.EqAt.none_int b t
  | str b=>obtain ⟨t,rfl⟩:=rx; exact SeqAt.EqAt.none_str b t
  | _=>exact absurd (show false = true from fx) Bool.false_ne_true
 | bl a =>
  cases ry
  cases x with
  | non=>cases rx; exact SeqAt.EqAt.bool_none a
  | bl b=>cases rx; exact SeqAt.EqAt.bool_bool a b
  | int b=>obtain ⟨t,rfl⟩:=rx; exact SeqAt.EqAt.bool_int a b t
  | str b=>obtain ⟨t,rfl⟩:=rx; exact SeqAt.EqAt.bool_str a b t
  | _=>exact absurd (show false = true from fx) Bool.false_ne_true
 | int a =>
  obtain ⟨t',rfl⟩:=ry
  cases x with
  | non=>cases rx; exact SeqAt.EqAt.int_none a t'
  | bl b=>cases rx; exact SeqAt.EqAt.int_bool a t' b
  | int b=>obtain ⟨t,rfl⟩:=rx; exact SeqAt.EqAt.int_int a t' b t
  | str b=>obtain ⟨t,rfl⟩:=rx; exact SeqAt.EqAt.int_str a t' b t
  | _=>exact absurd (show false = true from fx) Bool.false_ne_true
 | str a =>
  obtain ⟨t',rfl⟩:=ry
  cases x with
  | non=>cases rx; exact SeqAt.EqAt.str_none a t'
  | bl b=>cases rx; exact SeqAt.EqAt.str_bool a t' b
  | int b=>obtain ⟨t,rfl⟩:=rx; exact SeqAt.EqAt.str_int a t' b t
  | str b=>obtain ⟨t,rfl⟩:=rx; exact SeqAt.EqAt.str_str a t' b t
  | _=>exact absurd (show false = true from fx) Bool.false_ne_true
 | _=>exact absurd (show false = true from fy) Bool.false_ne_true
theorem zC:xD X (.builtin "len") (fun xs H Q=>∃ p ys,xs = [.ref p] /\ (SqL X.K H p ys \/ SqT X.K H p ys) /\ Q (.int ys.length) H):=by
 intro pins s σ H xs us Q I r h
 obtain ⟨p,ys,rfl,hq,q⟩:=h
 obtain ⟨u,rfl,rx⟩:=we r
 cases rx
 have hn:=qf
 rcases hq with hq | hq
 ·obtain ⟨its,r',pl,hz⟩:=I.list hq
  have hlen:=r'.length
  exact Calls.call_len_list pl.isList (by simp only [List.size_toArray] <;> omega) ⟨.int ys.length,H,I.tok _,⟨s.toks + 1,by rw [List.size_toArray,hlen]⟩,q⟩
 ·obtain ⟨its,r',pl,hz⟩:=I.tuple hq
  have hlen:=r'.length
  exact len_tuple pl (by simp only [List.size_toArray] <;> omega) ⟨.int ys.length,H,I.tok _,⟨s.toks + 1,by rw [List.size_toArray,hlen]⟩,q⟩
theorem zT:xD X (.type "tuple") (fun xs H Q=>∃ p ys,xs = [.ref p] /\ ((SqL X.K H p ys /\ ∀ l,H l = none -> Q (.ref l) (upd H l (.tup ys))) \/ (SqT X.K H p ys /\ Q (.ref p) H))):=by
 intro pins s σ H xs us Q I r h
 obtain ⟨p,ys,rfl,h⟩:=h
 obtain ⟨u,rfl,rx⟩:=we r
 cases rx
 rcases h with ⟨hq,q⟩ | ⟨hq,q⟩
 ·obtain ⟨its,r',pl,hz⟩:=I.list hq
  have hlen:=r'.length
  refine call_tuple_list pl.isList (fun h' kp=>?_) (by simp only [List.size_toArray] <;> omega)
  have I1:Inv X pins σ H { s with heap:=h' }:=I.kept (t':=s.toks) kp
  have I2:Inv X pins σ (upd H h'.objs.size (.tup ys)) { s with heap:=h'.push { cls:=.type "tuple",data:=.seq its.toArray } } :=
   I1.laid (t':=s.toks) (fun b o e=>Heap.get?_push_of_some _ e) (Nat.le_refl _) (show ye X.prog X.w _ _ _ (.tup ys) from ⟨hz,its,r',IsTup.new _ _⟩)
  exact ⟨.ref h'.objs.size,_,I2,rfl,q _ (I1.hok.fresh (Nat.le_refl _))⟩
 ·obtain ⟨its,r',pl,hz⟩:=I.tuple hq
  exact call_tuple_same pl ⟨.ref p,H,I,rfl,q⟩
def tyV (K:FG7) (T:String) (x:V) (H:Hp):Prop:=match x with
 | .str _=>T = "str"
 | .int _=>T = "int"
 | .ref p=>(T = "list" /\ ∃ xs,SqL K H p xs) \/ (T = "tuple" /\ ∃ o,K.lookup p = some o /\ o.cls = .type "tuple" /\ o.dict = none) ∨
   (T = "dict" /\ ((∃ kvs,H p = some (.dK kvs)) \/ ∃ kvs,H p = some (.dT kvs))) \/ (T = "set" /\ ∃ S n,H p = some (.set S n))
 | _=>False
theorem Xy {pins:List (Addr × Obj)} {σ:St} {H:Hp} {s:Shared} {T:String} {x:V} {v:Value} (I:Inv X pins σ H s) (r:RelV x v) (ty:tyV X.K T x H) :
  s.TypeIs v T /\ ∀ a,v = .ref a -> ∃ ob,s.heap.get? a = some ob /\ ob.dict = none:=by
 cases x with
 | str z =>
  obtain ⟨t,rfl⟩:=r
  cases (show T = "str" from ty)
  exact ⟨typeIs_str s z t,fun _ e=>nomatch e⟩
 | int i =>
  obtain ⟨t,rfl⟩:=r
  cases (show T = "int" from ty)
  exact ⟨typeIs_int s i t,fun _ e=>nomatch e⟩
 | ref p =>
  cases r
  rcases ty with ⟨rfl,xs,hq⟩ | ⟨rfl,o,hk,hc,hd⟩ | ⟨rfl,hk⟩ | ⟨rfl,S,n,hk⟩
  ·obtain ⟨its,_,pl,_⟩:=I.list hq
   refine ⟨pl.isList.typeIs,fun a e=>?_⟩
   cases e
   obtain ⟨o,n,e,c,hd,_⟩:=pl
   exact ⟨o,e,hd⟩
  ·refine ⟨⟨o,I.kIn p o hk,hc⟩,fun a e=>?_⟩
   cases e
   exact ⟨o,I.kIn _ o hk,hd⟩
  ·have z:∃ o,s.heap.get? p = some o /\ o.ExactDict:=by
    rcases hk with ⟨kvs,hk⟩ | ⟨kvs,hk⟩
    ·obtain ⟨_,_,_,_,o,_,_,e,ex,_⟩:=I.hok p _ hk
     exact ⟨o,e,ex⟩
    ·obtain ⟨_,_,_,_,o,_,_,e,ex,_⟩:=I.hok p _ hk
     exact ⟨o,e,ex⟩
   obtain ⟨o,e,ex⟩:=z
   refine ⟨⟨o,e,ex.1⟩,fun a e2=>?_⟩
   cases e2
   exact ⟨o,e,ex.2.1⟩
  ·obtain ⟨o,_,_,_,e,ex,_⟩:=I.hok p _ hk
   refine ⟨⟨o,e,ex.1⟩,fun a e2=>?_⟩
   cases e2
   exact ⟨o,e,ex.2.1⟩
 | _=>exact False.elim ty
def tBM (K:FG7) (T:String) (r:V -> List V -> Hp -> VK -> Prop) (to:TE) (t:TA):TE:=fun σ H Q=>to σ H fun x H1=>tyV K T x H1 /\ t σ H1 fun xs H2=>r x xs H2 Q
variable {o e:Expr} {es:List Expr} {to:TE} {t:TA} {name:Str} {apos cpos:Pos} {T id:String} {r:V -> List V -> Hp -> VK -> Prop}
theorem ZP (pa:PlainAttrs T) (slot:Slot T name id) (hty:typeOf (.builtin id) = pure (.type "method_descriptor")) (hm:MtR X id r) (ho:PE X o to) (ha:PA X (e :: es) t)
  (hbase:attributeBase o name X.env (eval o X.env) = eval o X.env:=by rfl)
  (hfew:((backTo cpos (starEach (e :: es) X.env)).all (fun x=>!x.1) && (backToKw cpos (keywordEach [] X.env)).all (fun x=>x.1.isSome)
   && decide ((e :: es).length + ([]:List Keyword).length + (if ([]:List Keyword).isEmpty then 0 else 1) < 30)) = true:=by rfl)
  (hline:(apos.endLine == cpos.line) = true:=by rfl) (hs:starEach (e :: es) X.env = (false,eval e X.env) :: starEach es X.env:=by rfl) (hplain:(backTo cpos (starEach es X.env)).any (·.1) = false:=by rfl) :
  PE X (.Call (.Attribute o name apos) (e :: es) [] cpos) (tBM X.K T r to t):=by
 intro pins s σ H Q I h
 refine wpAny_Call_method_late hbase hfew hline rfl (thn (ho pins s σ H _ I h) fun v s1 ⟨x,H1,I1,r1,ty,q1⟩=>?_)
 obtain ⟨h1,h2⟩:=Xy I1 r1 ty
 refine ⟨T,id,pa,slot,hty,h1,h2,?_⟩
 have hA:=ha cpos pins s1 σ H1 _ I1 q1
 rw [hs] at hA ⊢
 refine Calls.callWith_builtin (by show (false || (backTo cpos (starEach es X.env)).any (·.1)) = false; rw [hplain] <;> rfl) (Calls.evalArgs_plain ?_)
 exact thn hA fun us s2 ⟨vs,H2,I2,r2,q2⟩=>hm pins s2 σ H2 x vs v us Q I2 r1 r2 q2
end
end L2
namespace L2
open PySem PySem.Spec PyProof.Rows
def MtM (X:Cx) (id:String) (r:V -> List V -> Hp -> VK -> Prop):Prop :=
 ∀ (pins:List (Addr × Obj)) (s:Shared) (σ:St) (H:Hp) (x:V) (xs:List V) (v:Value) (us:List Value) (Q:VK),Inv X pins σ H s -> RelV x v -> Vals xs us -> r x xs H Q →
  wpAny (model X.prog X.w) X.A (call (.builtin id) (v :: us)) (EP X pins σ Q) X.xe s
theorem Vals.one:∀ {x:V} {us:List Value},Vals [x] us -> ∃ u,us = [u] /\ RelV x u
 | _,_,.cons r .nil=>⟨_,rfl,r⟩
theorem Vals.zero:∀ {us:List Value},Vals [] us -> us = []
 | _,.nil=>rfl
theorem Vals.reverse {xs:List V} {us:List Value} (h:Vals xs us):Vals xs.reverse us.reverse:=by
 induction h with
 | nil=>exact .nil
 | cons r t ih=>rw [List.reverse_cons,List.reverse_cons]; exact Vals.append ih (.cons r .nil)
theorem Vals.rep {xs:List V} {us:List Value} (h:Vals xs us):∀ k:Nat,Vals (List.replicate k xs).flatten (List.replicate k us).flatten
 | 0=>.nil
 | k + 1=>by
  rw [List.replicate_succ,List.replicate_succ,List.flatten_cons,List.flatten_cons]
  exact Vals.append h (Vals.rep h k)
theorem vL (its:List Value):∀ (k:Nat) (acc:List Value),
  List.foldl (fun x1 x2=>x1 ++ x2) acc.toArray (List.replicate k its.toArray) = (acc ++ (List.replicate k its).flatten).toArray
 | 0,acc=>by simp
 | k + 1,acc=>by
  have e:acc.toArray ++ its.toArray = (acc ++ its).toArray:=by simp
  have e2:(acc ++ its) ++ (List.replicate k its).flatten = acc ++ (List.replicate (k + 1) its).flatten:=by
   rw [List.replicate_succ,List.flatten_cons,List.append_assoc]
  rw [← e2,← vL its k (acc ++ its),← e,List.replicate_succ,List.foldl_cons]
section
variable {X:Cx} {pins:List (Addr × Obj)} {σ:St} {H:Hp} {s:Shared} {l b:Addr} {xs ys zs:List V}
theorem Inv.lset {its its':List Value} {n:Nat} {f:Array Value -> Array Value} {t':Nat} (I:Inv X pins σ H s) (hH:H l = some (.lst xs))
  (e:s.heap.get? l = some { cls:=.type "list",data:=.seq its.toArray n }) (hf:f its.toArray = its'.toArray) (hv:Vals ys its') (hz:ys.length <= sizeLine) :
  Inv X pins σ (upd H l (.lst ys)) { s with heap:=s.heap.update l (Obj.mapSeq f),toks:=t' }:=by
 have q:=PySem.IsL.update e f
 rw [hf] at q
 refine I.write (x:=l) (e:=l) (by rw [hH]; exact trivial) (.inl rfl) (fun b' u hb hu=>(Heap.get?_update_other s.heap (Obj.mapSeq f) (Ne.symm hb)).trans hu) ⟨_,q⟩ ?_
 exact ⟨hz,its',_,hv,q⟩
theorem Inv.lnew {its:List Value} {t':Nat} (I:Inv X pins σ H s) (hv:Vals ys its) (hz:ys.length <= sizeLine) :
  Inv X pins σ (upd H s.heap.objs.size (.lst ys)) { s with heap:=s.heap.push { cls:=.type "list",data:=.seq its.toArray },toks:=t' } :=
 I.laid (fun _ _ q=>Heap.get?_push_of_some _ q) (Nat.le_refl _) ⟨hz,its,0,hv,Heap.get?_push_size _ rfl⟩
theorem Inv.fresh (I:Inv X pins σ H s):H s.heap.objs.size = none:=I.hok.fresh (Nat.le_refl _)
theorem Inv.lstM (I:Inv X pins σ H s) (hH:H l = some (.lst xs)):xs.length <= sizeLine /\ ∃ (its:List Value) (n:Nat),Vals xs its /\ xs.length = its.length /\ s.heap.get? l = some { cls:=.type "list",data:=.seq its.toArray n }:=by
 obtain ⟨z,its,n,r,e⟩:=I.hok l _ hH
 exact ⟨z,its,n,r,r.length,e⟩
theorem ZQ {n:Nat} (h:n <= sizeLine):Builtin.List.listTooLong n = false:=by
 unfold Builtin.List.listTooLong
 exact decide_eq_false (by omega)
end
section
variable {X:Cx}
def YU:V -> List V -> Hp -> VK -> Prop:=fun x vs H Q=>∃ l xs y,x = .ref l /\ vs = [y] /\ H l = some (.lst xs) /\ xs.length < sizeLine /\ Q .non (upd H l (.lst (xs ++ [y])))
theorem t5:MtM X "list.append" YU:=by
 intro pins s σ H x vs v us Q I rx rv h
 obtain ⟨l,xs,y,rfl,rfl,hH,hz,q⟩:=h
 cases rx
 obtain ⟨u,rfl,ru⟩:=rv.one
 obtain ⟨z,its,n,r,hl,e⟩:=I.lstM hH
 refine call_meets F.slot_list_append ⟨_,e,rfl⟩ F.entry_list_append (F.args_list_append_2 _ _) (PySem.list_append l its.toArray n u (by rw [List.size_toArray]; omega)) ⟨e,?_⟩
 refine ⟨.non,_,I.lset (its':=its ++ [u]) hH e (by simp) (r.append (.cons ru .nil)) ?_,rfl,q⟩
 rw [List.length_append,List.length_singleton]
 omega
def rCat:R2:=fun x y H Q=>∃ l b xs zs,x = .ref l /\ y = .ref b /\ H l = some (.lst xs) /\ H b = some (.lst zs) /\ xs.length + zs.length <= sizeLine /\ ∀ p,H p = none -> Q (.ref p) (upd H p (.lst (xs ++ zs)))
theorem t7:OpR X (binaryOp .Add) rCat:=by
 intro pins s σ H x y v u Q I rx ry h
 obtain ⟨l,b,xs,zs,rfl,rfl,hH,hB,hz,q⟩:=h
 cases rx
 cases ry
 obtain ⟨z,its,n,r,hl,e⟩:=I.lstM hH
 obtain ⟨z2,its2,n2,r2,hl2,e2⟩:=I.lstM hB
 refine PySem.P.add_list e e2 ?_ (by rw [List.size_toArray,List.size_toArray]; omega)
 have ea:its.toArray ++ its2.toArray = (its ++ its2).toArray:=by simp
 rw [ea]
 exact ⟨.ref _,_,I.lnew (t':=s.toks) (r.append r2) (by rw [List.length_append]; omega),rfl,q _ I.fresh⟩
def rRep:R2:=fun x y H Q=>∃ l k xs,x = .ref l /\ y = .int k /\ H l = some (.lst xs) /\ -(2 ^ 63) <= k /\ k < 2 ^ 63 /\ xs.length * k.toNat <= sizeLine ∧
 ∀ p,H p = none -> Q (.ref p) (upd H p (.lst (List.replicate k.toNat xs).flatten))
theorem s8 {α:Type} (xs:List α) (k:Nat):(List.replicate k xs).flatten.length = k * xs.length:=by
 induction k with
 | zero=>simp
 | succ k ih=>rw [List.replicate_succ,List.flatten_cons,List.length_append,ih,Nat.succ_mul,Nat.add_comm]
theorem Yo:OpR X (binaryOp .Mult) rRep:=by
 intro pins s σ H x y v u Q I rx ry h
 obtain ⟨l,k,xs,rfl,rfl,hH,h1,h2,hz,q⟩:=h
 cases rx
 obtain ⟨t,rfl⟩:=ry
 obtain ⟨z,its,n,r,hl,e⟩:=I.lstM hH
 have hlen:its.toArray.size * k.toNat <= sizeLine:=by rw [List.size_toArray,← hl]; exact hz
 have hcap:¬ its.toArray.size * k.toNat > (2 ^ 63 - 1) / 8:=by
  have:(sizeLine:Nat) <= (2 ^ 63 - 1) / 8:=by decide
  omega
 have hfit:¬ (!Builtin.List.listFitsIndex k) = true:=by
  rw [fitsIndex_both h1 h2]
  exact Bool.false_ne_true
 have hlong:¬ Builtin.List.listTooLong (its.toArray.size * k.toNat) = true:=by
  rw [ZQ hlen]
  exact Bool.false_ne_true
 have hnew:List.foldl (fun x1 x2=>x1 ++ x2) #[] (List.replicate (if its.toArray.isEmpty = true then 0 else k.toNat) its.toArray) = (List.replicate k.toNat its).flatten.toArray:=by
  have f0:∀ m:Nat,List.foldl (fun x1 x2=>x1 ++ x2) #[] (List.replicate m its.toArray) = (List.replicate m its).flatten.toArray:=fun m=>by
   have:=vL its m []
   rw [List.nil_append] at this
   exact this
  rw [f0]
  cases its with
  | nil=>simp
  | cons a r'=>rw [if_neg (by simp)]
 refine wpAny_binaryOp_repeat_ref (T:="list") (U:="int") (by decide) ⟨_,e,rfl⟩ (fun s'=>typeIs_int s' k t) noFill_list_mul F.fills_int_mul F.slot_int_rmul repeat_list F.slot_int_index.lookup
  (call_meets F.slot_int_rmul (typeIs_int s k t) F.entry_int_rmul (F.args_int_rmul_2 _ _) (int___rmul___int_list k t l its.toArray n)
   ⟨e,rfl,⟨_,e,rfl⟩,call_meets F.slot_list_mul ⟨_,e,rfl⟩ F.entry_list_mul (F.args_list_mul_2 _ _) (AutoListH.list___mul___list_int_3 l its.toArray n k t hfit hcap hlong) ⟨e,?_⟩⟩)
 rw [hnew]
 exact ⟨.ref _,_,I.lnew (t':=s.toks) (r.rep k.toNat) (by rw [s8,Nat.mul_comm]; exact hz),rfl,q _ I.fresh⟩
end
end L2
namespace Att
open PySem PySem.W PySem.Calls PyProof.Rows
theorem vM {P:Params} {h:Heap}:∀ (ns:List Int) (vs:List Value),WellAll P h vs (ns.map WData.int) -> IntsAre vs ns:=by
 intro ns
 induction ns with
 | nil =>
  intro vs w
  rw [List.map_nil] at w
  cases w
  exact .nil
 | cons n ns ih =>
  intro vs w
  rw [List.map_cons] at w
  cases w with
  | cons a b =>
   cases a
   exact .cons _ _ (ih _ b)
theorem jJ {l:OpenLaw} {n:Nat} (hn:l.most = some n) {P:Params} {h:Heap} {args:List WData} {vals:List Value}
  (hpre:l.row.toRowW.claim.pre args = true) (hwl:WellAll P h vals args) :
  ∃ a vs ns,vals = [Value.ref a] /\ args = [WData.list (ns.map WData.int)] /\ h.get? a = some { cls:=.type "list",data:=.seq vs.toArray } /\ IntsAre vs ns /\ ns.length <= n:=by
 have hsh:WShape.hasAll [] args [.list .int] = true:=(pre_splitW hpre).1
 have hc:l.pre.holds [] { args:=args } = true:=(pre_splitW hpre).2
 obtain ⟨d,r,rfl,h1,h2⟩:=hasAllW_cons hsh
 obtain rfl:=hasAllW_nil h2
 obtain ⟨xs,rfl,h3⟩:=hasW_list h1
 obtain ⟨ns,rfl⟩:=items_int h3
 have hlen:ns.length <= n:=by
  unfold OpenLaw.pre at hc
  have h4:(WTm.not (.lt (.lit (.int (n:Int))) (.len (.arg 0)))).holds [] { args:=[.list (ns.map .int)] } = true:=by
   have h4:=(holds_andW hc).1
   rw [hn] at h4
   exact h4
  have h5:=condW_of h4 (w_not (w_lt w_lit (w_len_list (w_arg rfl))))
  rw [List.length_map] at h5
  refine Nat.le_of_not_lt fun q=>?_
  have q':(n:Int) < ((ns.length:Nat):Int):=by omega
  first
   | (rw [decide_eq_true q'] at h5; exact absurd h5 (by decide))
   | (simp at h5; omega)
 cases hwl with
 | cons w1 w2 =>
  cases w2
  cases w1 with
  | list ho hall=>exact ⟨_,_,ns,rfl,rfl,ho,vM ns _ hall,hlen⟩
theorem jK (l:OpenLaw) (args:List WData):l.row.toRowW.claim.post args (.bool true) args = true :=
 postW_of (r:=l.row.toRowW) (X:=(true == true))
  (show WShape.has [] (.bool true) .bool = true by first | rfl | decide | simp [WShape.has,WShape.arms,WShape.armsAll])
  (show (WTm.eq .res (.lit (.bool true))).value [] { args:=args,res:=some (.bool true),after:=args } = some (.bool (true == true)) from w_eq_bool (w_res rfl) w_lit) rfl
theorem attach_call {l:OpenLaw} {n:Nat} {q:Program} {loose:List Str} {XP:(Str -> Option Value) -> Heap -> Prop} {YP:World -> Heap -> Prop} {d:DefRec}
  (hn:l.most = some n) (hdf:d.params.defaults = [])
  (call:∀ (w:World) (s₀ s₁:Shared) (mg mb:Str -> Option Value) (fa:Addr) (o:Obj) (pm cd doc:Value) (a:Addr) (vs:List Value) (ns:List Int),
   Ground q loose [] XP w s₀ mg mb s₁.heap -> YP w s₁.heap →
   s₁.heap.get? fa = some o -> o.data = .func (docDef d.name d.params d.body d.scope pm cd doc) -> s₁.heap.CodeRec cd d.name -> mg d.name = some (.ref fa) →
   s₁.heap.get? a = some { cls:=.type "list",data:=.seq vs.toArray } -> IntsAre vs ns -> ns.length <= n -> s₁.gens = #[] →
   codeAny (model l.prog w) callerA (.call (.ref fa) ⟨[.ref a],[]⟩) (fun r s'=>r = .ok (.ret (.bool true)) /\ OldK s₁.heap s'.heap /\ s'.os = s₁.os /\ AllBare s'.gens) s₁) :
  WalkO q loose XP YP l.row.toRowW d [] (fun f vs=>PySem.call f vs):=by
 intro w s₀ s₁ mg mb G Y fa o pm cd doc dV kV ho hd hcd hD hmg hg args vals as hpre hlay hrd hwl hlo
 obtain rfl:dV = .none:=Dflts.none hD hdf
 obtain rfl:kV = .none:=Dflts.noKw hD
 obtain ⟨a,vs,ns,rfl,rfl,hobj,hints,hlen⟩:=jJ hn hpre hwl
 refine enter_call (codeAny_mono (call w s₀ s₁ mg mb fa o pm cd doc a vs ns G Y ho (fd_plain hd) hcd hmg hobj hints hlen hg) fun r s' hq=>?_)
 obtain ⟨rfl,h2,h3,h4⟩:=hq
 exact ⟨.inl ⟨.bool true,.bool true,[],rfl,fun _=>rfl,.bool true,jK l _,fun _=>⟨List.Pairwise.nil,fun _ hm=>(nomatch hm)⟩⟩,h2,h3,h4⟩
end Att
namespace L2
open PySem PySem.Spec PyProof.Rows
theorem wD:∀ {vs:List Value} {ns:List Int},IntsAre vs ns -> Vals (ns.map V.int) vs
 | _,_,.nil=>.nil
 | _,_,.cons n t h=>.cons ⟨t,rfl⟩ (wD h)
def Only (H:Hp):Prop:=∀ b,H b = none \/ ∃ o xs,H b = some (.frz o (.lst xs))
theorem ZR {P:Program} {w:World} {K:FG7} {mg mb:Str -> Option Value} {CX:CXT} {k:Nat} {fa a:Addr} {fd:FuncData} {x:Str} {sp:Sp} {s₁:Shared} {vs:List Value} {ns:List Int}
  (KX:K.In s₁.heap) (hns:s₁.heap.Ns mainGlobals mg) (hb:s₁.heap.Ns builtinsNs mb) (hbb:∀ x:Str,x ≠ "__name__" -> mb x = bootBuiltins x) (hlim:s₁.heap.NoLimit) (hg:s₁.gens = #[])
  (ha:s₁.heap.get? a = some { cls:=.type "list",data:=.seq vs.toArray }) (hi:IntsAre vs ns) (hl:ns.length <= sizeLine) (hr:Room k callerA)
  (F:∀ base:Heap,K.In base -> base.Ns mainGlobals mg -> FnOk P w K mg base CX k fa fd [x] sp) (hbind:∀ (s:Shared) (u:Value),BindsTo s fd ⟨[u],[]⟩ [(x,u)])
  (hsp:∀ H:Hp,Only H -> SqL K H a (ns.map V.int) -> sp [.ref a] H (fun v _=>v = .bl true) fun _ _ _=>False)
  (hCX:∀ H e s',CX [] H s₁ (fun _ _ _=>False) e s' -> False) :
  codeAny (model P w) callerA (.call (.ref fa) ⟨[.ref a],[]⟩) (fun r s'=>r = .ok (.ret (.bool true)) /\ OldK s₁.heap s'.heap /\ s'.os = s₁.os /\ AllBare s'.gens) s₁:=by
 have rv:=wD hi
 have lenV:=hi.length
 -- from an abstract heap in which nothing but the script may be tracked
 have core:∀ H:Hp,Only H -> SqL K H a (ns.map V.int) -> HOk P w H s₁.heap -> (∀ b,H b ≠ none -> b = a) -> (H a ≠ none -> K.lookup a = none) →
   codeAny (model P w) callerA (.call (.ref fa) ⟨[.ref a],[]⟩) (fun r s'=>r = .ok (.ret (.bool true)) /\ OldK s₁.heap s'.heap /\ s'.os = s₁.os /\ AllBare s'.gens) s₁:=by
  intro H hO hS hok hA hK
  have base_of:∀ {b:Addr} {o:Obj},s₁.heap.get? b = some o -> H b = none -> (hidT s₁.heap H).get? b = some o:=fun e n=>ZJ e n
  have noA:∀ {b:Addr} {o:Obj} {es:Array DictEntry} {ep:Nat},s₁.heap.get? b = some o -> o.data = .dict es ep -> H b = none:=fun {b o es ep} e d=>by
   cases q:H b with
   | none=>rfl
   | some u =>
    have e':b = a:=hA b (by rw [q]; simp)
    subst e'
    rw [ha] at e; cases e
    have d':Data.seq vs.toArray _ = Data.dict es ep:=d
    cases d'
  have nsK:∀ {b:Addr} {m:Str -> Option Value},s₁.heap.Ns b m -> (hidT s₁.heap H).Ns b m:=fun {b m} ⟨o,es,ep,e,d,r⟩=>⟨o,es,ep,base_of e (noA e d),d,r⟩
  have hKb:K.In (hidT s₁.heap H):=fun b o e=>base_of (KX b o e) (by
   cases q:H b with
   | none=>rfl
   | some u =>
    have e':b = a:=hA b (by rw [q]; simp)
    subst e'
    rw [hK (by rw [q]; simp)] at e; cases e)
  have hM:Mod K mg (hidT s₁.heap H):=⟨hKb,nsK hns,⟨mb,nsK hb,hbb⟩,let ⟨mc,h1,h2⟩:=hlim; ⟨mc,nsK h1,h2⟩⟩
  have e0:Env0 P w K mg (hidT s₁.heap H) callerA [] s₁ H:=⟨rfl,hM,fun b o e=>YG e,Nat.le_of_eq (jq _ _),trivial,fun b hb=>absurd (show b ∈ ([]:List Addr) from hb) (by simp),hok,.of_eq hg⟩
  refine codeAny_mono ((F _ hKb (nsK hns)).run callerA [] s₁ H ⟨[.ref a],[]⟩ [.ref a] [.ref a] _ _ hr e0 (hbind s₁ (.ref a)) (.cons rfl .nil) (hsp H hO hS)) fun r s' h=>?_
  cases r with
  | error e=>exact (hCX H e s' h).elim
  | ok fl =>
   cases fl with
   | next=>exact False.elim h
   | brk=>exact False.elim h
   | cont=>exact False.elim h
   | ret u =>
    obtain ⟨v,H',os,bare,un,hok',r',q⟩:=h
    have q':v = .bl true:=q
    subst q'
    obtain rfl:u = Value.bool true:=r'
    refine ⟨rfl,OldK.of_keep fun b o e=>?_,os,bare⟩
    cases q:H b with
    | none=>exact un.keep b o e q (by intro z; exact absurd (show b ∈ ([]:List Addr) from z) (by simp)) (by simp)
    | some u =>
     rcases hO b with z | ⟨ob,xs,z⟩
     ·rw [q] at z; cases z
     ·have z2:=un.frzs b ob _ z
      obtain ⟨e1,_⟩:=hok b _ z
      obtain ⟨e2,_⟩:=hok' b _ z2
      rw [e] at e1; cases e1
      exact e2
 cases hk:K.lookup a with
 | some o =>
  -- the script is one of the module's own objects
  have e:=KX a o hk
  rw [ha] at e
  cases e
  refine core (fun _=>none) (fun _=>.inl rfl) (.inr ⟨_,vs.toArray,_,hk,rfl,rfl,rfl,by rw [List.size_toArray,lenV]; exact hl,by simpa using rv⟩) (fun b u z=>by have z':(none:Option HO) = some u:=z; cases z') (fun b z=>absurd rfl z) fun z=>absurd rfl z
 | none =>
  refine core (fun b=>if b = a then some (.frz { cls:=.type "list",data:=.seq vs.toArray } (.lst (ns.map V.int))) else none) (fun b=>?_) (.inl (.inr ⟨{ cls:=.type "list",data:=.seq vs.toArray },if_pos rfl⟩)) (fun b u z=>?_) (fun b z=>?_) fun _=>hk
  ·by_cases hb:b = a
   ·exact .inr ⟨_,_,if_pos hb⟩
   ·exact .inl (if_neg hb)
  ·by_cases hb:b = a
   ·have z':=(if_pos hb).symm.trans z
    cases z'
    subst hb
    exact ⟨ha,by rw [List.length_map]; exact hl,vs,_,rv,ha⟩
   ·have z':=(if_neg hb).symm.trans z
    cases z'
  ·by_cases hb:b = a
   ·exact hb
   ·exact absurd (if_neg hb) z
end L2
namespace L2
open PySem PySem.Spec PyProof.Rows
theorem walk_of {l:PySem.W.OpenLaw} {n k:Nat} {q:Program} {loose:List Str} {XP:(Str -> Option Value) -> Heap -> Prop} {YP:World -> Heap -> Prop} {d:DefRec} {K:Params -> FG7} {CX:World -> CXT} {sp:World -> Sp} {x:Str}
  (hn:l.most = some n) (hn2:n <= sizeLine) (hdf:d.params.defaults = []) (hr:Room k callerA)
  (hY:∀ (w:World) (h:Heap),YP w h -> (K w.params).In h)
  (F:∀ (w:World) (mg:Str -> Option Value) (fa:Addr) (h:Heap),(K w.params).In h -> h.Ns mainGlobals mg -> mg d.name = some (.ref fa) →
   ∃ fd:FuncData,(∀ (s:Shared) (u:Value),BindsTo s fd ⟨[u],[]⟩ [(x,u)]) ∧
    ∀ base:Heap,(K w.params).In base -> base.Ns mainGlobals mg -> FnOk l.prog w (K w.params) mg base (CX w) k fa fd [x] (sp w))
  (hsp:∀ (w:World) (H:Hp) (a:Addr) (ns:List Int),ns.length <= n -> Only H -> SqL (K w.params) H a (ns.map V.int) -> sp w [.ref a] H (fun v _=>v = .bl true) fun _ _ _=>False)
  (hCX:∀ (w:World) (H:Hp) (s:Shared) (e:Value) (s':Shared),CX w [] H s (fun _ _ _=>False) e s' -> False) :
  PySem.W.WalkO q loose XP YP l.row.toRowW d [] (fun f vs=>PySem.call f vs):=by
 refine Att.attach_call hn hdf fun w s₀ s₁ mg mb fa o pm cd doc a vs ns G Y ho hd hcd hmg hobj hints hlen hg=>?_
 have KX:=hY w _ Y
 obtain ⟨fd,hb,hF⟩:=F w mg fa _ KX G.T.g hmg
 exact ZR KX G.T.g G.T.b G.T.builtins G.T.nolimit hg hobj hints (Nat.le_trans hlen hn2) hr hF hb (fun H hO hS=>hsp w H a ns hlen hO hS) fun H e s'=>hCX w H s₁ e s'
end L2
namespace L2
open PySem PySem.Spec PyProof.Rows
def vN (s:Stmt):Arguments:=match s with
 | .FunctionDef _ a _ _ _ _ _ _ _ _=>a
 | _=>{ posonlyargs:=[],args:=[],vararg:=none,kwonlyargs:=[],kw_defaults:=[],kwarg:=none,defaults:=[] }
def wq (s:Stmt):List Stmt:=match s with
 | .FunctionDef _ _ b _ _ _ _ _ _ _=>b
 | _=>[]
def zh (s:Stmt):Scope:=match s with
 | .FunctionDef _ _ _ _ _ _ sc _ _ _=>sc
 | _=>{ kind:=.function,names:=[],isGenerator:=false,isCoroutine:=false }
abbrev CX0:CXT:=fun _ _ _ _ _ _=>False
abbrev E0:XK:=fun _ _ _=>False
theorem Wr {X:Cx}:vI CX0 X E0:=fun _ _ _ _ _ _ _ h=>h.elim
structure Fun (K:FG7) (x qual:Str) (st:Stmt) (f:Addr) (fd:FuncData):Prop where
 ex:∃ (oc:Value) (od:Option Addr) (kV doc pm:Value) (an:Option Addr) (cdv ct:Value) (osl:Array (Option Value)),
  fd = PySem.W.fnOf x qual (vN st) (wq st) (zh st) .none kV doc pm an cdv ct /\ K.lookup f = some ⟨oc,od,.func fd,osl⟩ /\ PySem.W.codeIn K cdv qual = true
 kp:PySem.W.keepIn K (.ref f) = true
section
variable {P:Program} {w:World} {K:FG7} {mg:Str -> Option Value} {base:Heap}
theorem Fun.ok {x qual:Str} {st:Stmt} {f:Addr} {fd:FuncData} {N ps:List Str} {k:Nat} {sp:Sp} (F:Fun K x qual st f fd) (S:FnScope N ps (zh st)) (len:∀ vs H Q E,sp vs H Q E -> vs.length = ps.length)
  (hbody:∀ (cdv:Value) (A:Around) (outer:List Env) (s:Shared) (H:Hp) (vs:List V) (Q:VK) (E:XK),Room k (A.deeper (envOfC qual (zh st) s.heap.objs.size f cdv)) -> sp vs H Q E →
   ∃ t,PSs (cxOf CX0 P w K mg base N qual (zh st) f cdv A outer s H E).nox (wq st) t /\ t { nx:=fun _ H'=>Q .non H',rt:=Q } (u5 N vs) H):FnOk P w K mg base CX0 (k + 1) f fd ps sp:=by
 obtain ⟨oc,od,kV,doc,pm,an,cdv,ct,osl,rfl,lk,hcd⟩:=F.ex
 refine Xu lk hcd S len fun A outer s H vs Q E hr hsp=>?_
 obtain ⟨t,h,q⟩:=hbody cdv A outer s H vs Q E hr hsp
 exact ⟨t,h.nox,q⟩
theorem Fun.binds {x qual:Str} {st:Stmt} {f:Addr} {fd:FuncData} {ps:List Str} (F:Fun K x qual st f fd)
  (h:∀ (kV doc pm:Value) (an:Option Addr) (cdv ct:Value) (us:List Value),us.length = ps.length -> bindArgs (PySem.W.fnOf x qual (vN st) (wq st) (zh st) .none kV doc pm an cdv ct) ⟨us,[]⟩ = pure (ps.zip us)):vm K fd ps []:=by
 obtain ⟨oc,od,kV,doc,pm,an,cdv,ct,osl,rfl,lk,hcd⟩:=F.ex
 exact .all (h kV doc pm an cdv ct)
theorem fun_mk {x qual:Str} {st:Stmt} {f:Addr} {oc:Value} {od an:Option Addr} {osl:Array (Option Value)} {kV doc pm cdv ct:Value} (l:K.lookup f = some ⟨oc,od,.func (PySem.W.fnOf x qual (vN st) (wq st) (zh st) .none kV doc pm an cdv ct),osl⟩)
  (c:PySem.W.codeIn K cdv qual = true) (k:PySem.W.keepIn K (.ref f) = true):Fun K x qual st f (PySem.W.fnOf x qual (vN st) (wq st) (zh st) .none kV doc pm an cdv ct):=⟨⟨oc,od,kV,doc,pm,an,cdv,ct,osl,rfl,l,c⟩,k⟩
end
theorem zm {n:Nat} (h:n <= 1000):n < sizeLine:=Nat.lt_of_le_of_lt h (by decide)
section
variable {X:Cx}
theorem pv (i:Nat) {x:Str} {pos:Pos} (hN:X.N[i]? = some x:=by rfl) (hv:Vis X.env.scope x:=by first | exact Or.inl rfl | exact Or.inr (Or.inl rfl) | exact Or.inr (Or.inr rfl)) (hd:(x == ("__debug__":Str)) = false:=by decide)
  (hcd:(x == ("__classdict__":Str)) = false:=by decide):PE X (.Name x pos) (tVar i):=Xo hN hv hd hcd
end
theorem iteF {A B:Prop} (h:B):if false = true then A else B:=by
 rw [if_neg Bool.false_ne_true]
 exact h
theorem iteT {A B:Prop} (h:A):if true = true then A else B:=by
 rw [if_pos rfl]
 exact h
theorem ite2 {c A B:Prop} [Decidable c] (h1:c -> A) (h2:¬ c -> B):if c then A else B:=by
 by_cases h:c
 ·rw [if_pos h]
  exact h1 h
 ·rw [if_neg h]
  exact h2 h
def Same (H H':Hp):Prop:=∀ b o,H b = some o -> H' b = some o
theorem Same.refl (H:Hp):Same H H:=fun _ _ h=>h
theorem Same.trans {H H1 H2:Hp} (a:Same H H1) (b:Same H1 H2):Same H H2:=fun c o h=>b c o (a c o h)
theorem Same.free {H H':Hp} (e:Same H H') {l:Addr} (h:H' l = Option.none):H l = Option.none:=by
 cases q:H l with
 | none=>rfl
 | some o =>
  rw [e l o q] at h
  cases h
theorem Same.seq {K:FG7} {H H':Hp} {a:Addr} {xs:List V} (e:Same H H') (h:SqL K H a xs):SqL K H' a xs:=by
 rcases h with (h | ⟨o,h⟩) | h
 ·exact .inl (.inl (e _ _ h))
 ·exact .inl (.inr ⟨o,e _ _ h⟩)
 ·exact .inr h
end L2
namespace L3
open PySem PySem.Spec PyProof.Rows L2
theorem Ws:bootBuiltins "abs" = some (.builtin "abs"):=by decide +kernel
theorem wu:bootBuiltins "len" = some (.builtin "len"):=by decide +kernel
theorem ZS:bootBuiltins "max" = some (.builtin "max"):=by decide +kernel
theorem Xz:bootBuiltins "min" = some (.builtin "min"):=by decide +kernel
theorem zp:bootBuiltins "isinstance" = some (.builtin "isinstance"):=by decide +kernel
theorem uj:bootBuiltins "all" = some (.builtin "all"):=by decide +kernel
theorem ZT:bootBuiltins "sorted" = some (.builtin "sorted"):=by decide +kernel
theorem u7:bootBuiltins "int" = some (.type "int"):=by decide +kernel
theorem Yp:bootBuiltins "bool" = some (.type "bool"):=by decide +kernel
theorem z9:bootBuiltins "tuple" = some (.type "tuple"):=by decide +kernel
theorem Yq:bootBuiltins "list" = some (.type "list"):=by decide +kernel
theorem XA:bootBuiltins "dict" = some (.type "dict"):=by decide +kernel
def TyV (K:FG7) (H:Hp) (x:V) (T:String):Prop:=match x with
 | .non=>T = "NoneType"
 | .bl _=>T = "bool"
 | .int _=>T = "int"
 | .str _=>T = "str"
 | .ref a=>(T = "tuple" /\ ∃ xs,SqT K H a xs) \/ (T = "list" /\ ∃ xs,SqL K H a xs) \/ (T = "dict" /\ ∃ kvs,H a = some (.dK kvs))
 | _=>False
section
variable {X:Cx} {a b c:Expr} {ta tb tc:TE} {pos:Pos}
def rIsi (K:FG7):List V -> Hp -> VK -> Prop:=fun xs H Q=>∃ x T t k,xs = [x,.ty T] /\ TyV K H x t /\ PySem.W.kitOne K (.type t) (.type T) = some k /\ Q (.bl k) H
theorem xY:xD X (.builtin "isinstance") (rIsi X.K):=by
 intro pins s σ H xs us Q I r h
 obtain ⟨x,T,t,k,rfl,ty,e,q⟩:=h
 obtain ⟨u,w',rfl,rx,rt⟩:=qP r
 cases (show w' = Value.type T from rt)
 have fin:∀ tk,EP X pins σ Q (.bool k) { s with toks:=tk }:=fun tk=>⟨.bl k,H,I.tok _,rfl,q⟩
 cases x with
 | non=>cases (show t = "NoneType" from ty); exact xL I rx .non e fin
 | bl y=>cases (show t = "bool" from ty); exact xL I rx (.bl y) e fin
 | int i=>cases (show t = "int" from ty); exact xL I rx (.int i) e fin
 | str y=>cases (show t = "str" from ty); exact xL I rx (.str y) e fin
 | byt y=>exact ty.elim
 | flt y=>exact ty.elim
 | ty y=>exact ty.elim
 | ref a =>
  cases (show u = Value.ref a from rx)
  rcases ty with ⟨rfl,xs,hq⟩ | ⟨rfl,xs,hq⟩ | ⟨rfl,kvs,hq⟩
  ·obtain ⟨its,_,⟨o,h1,h2,_⟩,_⟩:=I.tuple hq
   exact PySem.W.kia_one PySem.W.kitx_tuple I.kIn ⟨o,h1,h2⟩ e (fun z=>nomatch z) fin
  ·obtain ⟨its,_,pl,_⟩:=I.list hq
   obtain ⟨o,h1,h2,_⟩:=pl.isList
   exact PySem.W.kia_one PySem.W.kitx_list I.kIn ⟨o,h1,h2⟩ e (fun z=>nomatch z) fin
  ·exact xL (x:=V.ref a) I (show RelV (.ref a) (.ref a) from rfl) (.dK hq) e fin
theorem yV {x:Str} {T:String} {pos:Pos} (hg:Gl X x) (hm:X.mg x = none) (hv:bootBuiltins x = some (.type T)) (hn:x ≠ "__name__":=by decide) (hd:(x == ("__debug__":Str)) = false:=by decide):PE X (.Name x pos) (tC (.ty T)) :=
 YI hg hm hv (show RelV (.ty T) (Value.type T) from rfl) hn hd
theorem vO:OpR X (binaryOp .Mult) (rI IntMulOk fun i j=>.int (i * j)):=opI fun _ _ _ _ _ _ _ hc q=>mul_int q hc
def YV (i j:Int):Prop:=0 < j /\ j < 2 ^ 200
theorem YV.py {i j:Int} (h:YV i j):Builtin.divisionGoesByPylong i j = false:=by
 refine PyProof.noPylong_of_log2 ?_
 obtain ⟨h1,h2⟩:=h
 have h0:j.natAbs ≠ 0:=by omega
 have h3:j.natAbs < 2 ^ 200:=by
  have:(j.natAbs:Int) = j:=by omega
  have h4:((j.natAbs:Nat):Int) < ((2 ^ 200:Nat):Int):=by rw [this]; exact h2
  exact Int.ofNat_lt.mp h4
 exact Nat.lt_of_lt_of_le ((Nat.log2_lt h0).mpr h3) (by decide)
theorem ZU:OpR X (binaryOp .FloorDiv) (rI YV fun i j=>.int (i / j)):=opI fun i j _ _ _ _ _ hc q=>by
 have:=hc.1
 refine floordiv_int (by omega) ?_ (.inl hc.py)
 rw [Int.fdiv_eq_ediv_of_nonneg i (by omega)]
 exact q
end
def zi (P:Program) (w:World) (K:FG7) (mg:Str -> Option Value) (base:Heap) (k:Nat) (x:Str) (ps:List Str) (sp:Sp):Prop :=
 ∃ (f:Addr) (fd:FuncData),FnOk P w K mg base CX0 k f fd ps sp /\ vm K fd ps [] /\ PySem.W.keepIn K (.ref f) = true /\ mg x = some (.ref f)
theorem zi.mono {P:Program} {w:World} {K:FG7} {mg:Str -> Option Value} {base:Heap} {j k:Nat} {x:Str} {ps:List Str} {sp:Sp} (C:zi P w K mg base j x ps sp) (h:j <= k):zi P w K mg base k x ps sp:=by
 obtain ⟨f,fd,F,b,kp,m⟩:=C
 exact ⟨f,fd,F.mono h,b,kp,m⟩
section
variable {X:Cx} {k:Nat} {ps:List Str} {sp:Sp} {x:Str} {p pos:Pos} {e:Expr} {es:List Expr} {t:TA}
theorem zf (C:zi X.prog X.w X.K X.mg X.base k x ps sp) (hr:Room k X.A) (hg:Gl X x)
  (ha:PA X (e :: es) t) (hdb:(x == ("__debug__":Str)) = false:=by decide) (he:starEach (e :: es) X.env = (false,eval e X.env) :: starEach es X.env:=by rfl) (hpl:(backTo pos (starEach es X.env)).any (·.1) = false:=by rfl) :
  PE X (.Call (.Name x p) (e :: es) [] pos) (YQ sp [] E0 t):=by
 obtain ⟨f,fd,F,b,kp,m⟩:=C
 exact jE F hr hg m kp b .nil Wr ha hdb he hpl
end
structure Grow (m:List Addr) (H H':Hp):Prop where
 keep:∀ b o,b ∉ m -> H b = some o -> H' b = some o
 tup:∀ b xs,H b = some (.tup xs) -> H' b = some (.tup xs)
 frz:∀ b o u,H b = some (.frz o u) -> H' b = some (.frz o u)
theorem Grow.refl (m:List Addr) (H:Hp):Grow m H H:=⟨fun _ _ _ h=>h,fun _ _ h=>h,fun _ _ _ h=>h⟩
theorem Grow.trans {m:List Addr} {H H1 H2:Hp} (a:Grow m H H1) (b:Grow m H1 H2):Grow m H H2 :=
 ⟨fun c o n h=>b.keep c o n (a.keep c o n h),fun c xs h=>b.tup c xs (a.tup c xs h),fun c o u h=>b.frz c o u (a.frz c o u h)⟩
theorem Grow.new {m:List Addr} {H:Hp} {p:Addr} (h:H p = none) (o:HO):Grow m H (upd H p o) :=
 ⟨fun b u _ q=>by rw [zu (zr q h)]; exact q,fun b xs q=>by rw [zu (zr q h)]; exact q,fun b u v q=>by rw [zu (zr q h)]; exact q⟩
theorem Grow.set {m:List Addr} {H:Hp} {p:Addr} {xs:List V} (h:H p = some (.lst xs)) (hm:p ∈ m) (ys:List V):Grow m H (upd H p (.lst ys)) :=
 ⟨fun b u hb q=>by rw [zu (show b ≠ p from fun z=>hb (by rw [z]; exact hm))]; exact q,fun b zs q=>by rw [zu (fun z=>by subst z; rw [h] at q; cases q)]; exact q,fun b u v q=>by rw [zu (fun z=>by subst z; rw [h] at q; cases q)]; exact q⟩
theorem Grow.mono {m m':List Addr} {H H':Hp} (a:Grow m H H') (h:∀ b ∈ m,b ∈ m'):Grow m' H H':=⟨fun b o n q=>a.keep b o (fun z=>n (h b z)) q,a.tup,a.frz⟩
theorem Grow.same {H H':Hp} (a:Grow [] H H'):Same H H':=fun b o h=>a.keep b o (by simp) h
theorem Grow.sqT {m:List Addr} {H H':Hp} (g:Grow m H H') {K:FG7} {a:Addr} {xs:List V} (h:SqT K H a xs):SqT K H' a xs:=by
 rcases h with (h | ⟨o,h⟩) | h
 ·exact .inl (.inl (g.tup _ _ h))
 ·exact .inl (.inr ⟨o,g.frz _ _ _ h⟩)
 ·exact .inr h
theorem Grow.free {H H':Hp} {m:List Addr} (g:Grow m H H') {l:Addr} (hm:l ∉ m) (h:H' l = none):H l = none:=by
 cases q:H l with
 | none=>rfl
 | some o=>rw [g.keep l o hm q] at h; cases h
def Scr (K:FG7) (H:Hp) (a:Addr) (ns:List Int):Prop :=
 (∃ o,H a = some (.frz o (.lst (ns.map V.int)))) ∨
  ∃ (o:Obj) (its:Array Value) (n:Nat),K.lookup a = some o /\ o.cls = .type "list" /\ o.dict = none /\ o.data = .seq its n /\ its.size <= sizeLine /\ Vals (ns.map V.int) its.toList
theorem Scr.sq {K:FG7} {H:Hp} {a:Addr} {ns:List Int} (h:Scr K H a ns):SqL K H a (ns.map V.int):=by
 rcases h with ⟨o,h⟩ | h
 ·exact .inl (.inr ⟨o,h⟩)
 ·exact .inr h
theorem Scr.of {K:FG7} {H:Hp} {a:Addr} {ns:List Int} (hO:Only H) (h:SqL K H a (ns.map V.int)):Scr K H a ns:=by
 rcases h with (h | ⟨o,h⟩) | h
 ·rcases hO a with z | ⟨o,xs,z⟩
  ·rw [h] at z; cases z
  ·rw [h] at z; cases z
 ·exact .inl ⟨o,h⟩
 ·exact .inr h
theorem Grow.scr {m:List Addr} {H H':Hp} (g:Grow m H H') {K:FG7} {a:Addr} {ns:List Int} (h:Scr K H a ns):Scr K H' a ns:=by
 rcases h with ⟨o,h⟩ | h
 ·exact .inl ⟨o,g.frz _ _ _ h⟩
 ·exact .inr h
structure Blt (mg:Str -> Option Value):Prop where
 abs:mg "abs" = none
 len:mg "len" = none
 max:mg "max" = none
 min:mg "min" = none
 divmod:mg "divmod" = none
 repr:mg "repr" = none
 isinstance:mg "isinstance" = none
 all:mg "all" = none
 range:mg "range" = none
 int:mg "int" = none
 bool:mg "bool" = none
 str:mg "str" = none
 tuple:mg "tuple" = none
 list:mg "list" = none
 dict:mg "dict" = none
def sp1 (b:V -> Hp -> VK -> Prop):Sp:=fun vs H Q _=>∃ x,vs = [x] /\ b x H Q
def sp2 (b:V -> V -> Hp -> VK -> Prop):Sp:=fun vs H Q _=>∃ x y,vs = [x,y] /\ b x y H Q
def sp3 (b:V -> V -> V -> Hp -> VK -> Prop):Sp:=fun vs H Q _=>∃ x y z,vs = [x,y,z] /\ b x y z H Q
theorem wQ {b:V -> Hp -> VK -> Prop} {p:Str}:∀ vs H Q E,sp1 b vs H Q E -> vs.length = [p].length:=fun vs H Q E h=>by
 obtain ⟨x,rfl,_⟩:=h; rfl
theorem yk {b:V -> V -> Hp -> VK -> Prop} {p q:Str}:∀ vs H Q E,sp2 b vs H Q E -> vs.length = [p,q].length:=fun vs H Q E h=>by
 obtain ⟨x,y,rfl,_⟩:=h; rfl
theorem xq {b:V -> V -> V -> Hp -> VK -> Prop} {p q r:Str}:∀ vs H Q E,sp3 b vs H Q E -> vs.length = [p,q,r].length:=fun vs H Q E h=>by
 obtain ⟨x,y,z,rfl,_⟩:=h; rfl
structure Deed where
 add:Int
 lo:Option Int
 hi:Option Int
 deriving DecidableEq
def ov:Option Int -> V
 | none=>.non
 | some i=>.int i
def Deed.vs (d:Deed):List V:=[.int d.add,ov d.lo,ov d.hi]
def Deed.Ok (d:Deed):Prop:=∀ l h,d.lo = some l -> d.hi = some h -> l < h \/ (l = h /\ d.add = 0)
def YW (lo:Option Int) (r:Int):Int:=match lo with
 | none=>r
 | some l=>if l > r then l else r
def YX (hi:Option Int) (r:Int):Int:=match hi with
 | none=>r
 | some h=>if h < r then h else r
def Deed.mk' (d:Deed) (v:Int):Int:=YX d.hi (YW d.lo (v + d.add))
def Yr (K:FG7) (H:Hp) (x:V) (d:Deed):Prop:=∃ a,x = .ref a /\ SqT K H a d.vs
theorem Grow.deed {m:List Addr} {H H':Hp} (g:Grow m H H') {K:FG7} {x:V} {d:Deed} (h:Yr K H x d):Yr K H' x d:=by
 obtain ⟨a,e,h⟩:=h
 exact ⟨a,e,g.sqT h⟩
def Pot (H:Hp) (a:Addr):Prop:=∃ p0 p1:Int,H a = some (.lst [.int p0,.int p1]) /\ 0 <= p0
def Sm (n:Int):Prop:=-(10 ^ 30) < n /\ n < 10 ^ 30
def Deed.Sm (d:Deed):Prop:=L3.Sm d.add /\ (∀ l,d.lo = some l -> L3.Sm l) /\ ∀ h,d.hi = some h -> L3.Sm h
theorem Sm.of {n:Int} (h1:-(10 ^ 30) < n) (h2:n < 10 ^ 30):Sm n:=⟨h1,h2⟩
def qh (K:FG7):Sp:=sp1 fun x H Q=>∃ a ns,x = .ref a /\ Scr K H a ns /\ ns.length <= 63 /\ ∀ H',Q (.bl true) H'
theorem szl {n:Nat} (h:Nat.ble n 1000 = true):n <= sizeLine:=Nat.le_of_lt (zm (Nat.le_of_ble_eq_true h))
theorem Grow.shrink {H H':Hp} {l:Addr} (h:H l = none) (g:Grow [l] H H'):Grow [] H H' :=
 ⟨fun b o _ q=>g.keep b o (fun z=>by rw [List.mem_singleton.mp z] at q; rw [h] at q; cases q) q,g.tup,g.frz⟩
theorem Grow.wk {m:List Addr} {H H':Hp} (g:Grow [] H H'):Grow m H H':=g.mono (by simp)
theorem Pot.grow {H H':Hp} {a:Addr} (p:Pot H a) (g:Grow [] H H'):Pot H' a:=by
 obtain ⟨u0,u1,hu,hn⟩:=p
 exact ⟨u0,u1,g.keep _ _ (by simp) hu,hn⟩
theorem Pot.new {H:Hp} {a l:Addr} (p:Pot H a) (hl:H l = none) (o:HO):Pot (upd H l o) a:=p.grow (Grow.new hl o)
theorem XB {i j:Int} (h2:-(2 ^ 60) < j /\ j < 2 ^ 60):IntMulOk i j:=PySem.IntMulOk.of_right (Nat.le_trans ((PySem.intBits_le_iff (m:=60)).mpr (by obtain ⟨a,b⟩:=h2; omega)) (by decide))
section
variable {prog:Program} {w:World} {A:Around} {R:Result -> Shared -> Prop} {s:Shared}
theorem t8 {elt target iter:Expr} {ifs:List Expr} {scope:Scope} {pos:Pos} {it acc:Value} {env:Env} (I:Nat -> Shared -> Prop)
  (turn:∀ n s,I n s -> wpAny (model prog w) A (pyNext it) (fun r s₁=>match r with
   | none=>R (.ok .next) s₁
   | some v=>wpAny (model prog w) A (letOwnedTupleGo target it v) (fun _ s₂=>wpAny (model prog w) A (assign target env v) (fun _ s₃ =>
     wpAny (model prog w) A (forIn ifs true fun c r=>if r = true then do let ok ← isTrue c env (eval c env); pure (ForInStep.yield ok) else pure (ForInStep.yield r)) (fun ok s₄ =>
      if ok = true then wpAny (model prog w) A (eval elt env) (fun x s₅ =>
       wpAny (model prog w) A (call (.builtin "list.append") [acc,x]) (fun _ s₆=>∃ m,m < n /\ I m s₆) (fun _ _=>False) s₅) (fun _ _=>False) s₄
      else ∃ m,m < n /\ I m s₄) (fun _ _=>False) s₃) (fun _ _=>False) s₂) (fun _ _=>False) s₁) (fun _ _=>False) s)
  (n:Nat) (h:I n s) :
  codeAny (model prog w) A (.compLoop (.ListComp elt [⟨target,iter,ifs,0⟩] scope pos) 0 it acc env) R s:=by
 refine codeAny_loop rfl I (fun n s hI=>?_) n h
 show wpAny _ A ((compTurn (.ListComp elt [⟨target,iter,ifs,0⟩] scope pos) 0 it acc env).onRaise (fun x=>do noteFrame x env; theTreesLotGoes x)) _ _ s
 refine wpAny_noted ?_
 rw [compTurn_list]
 have no:∀ (E:VS7) (e:Value) (s:Shared),(fun (_:Value) (_:Shared)=>False) e s -> E e s:=fun _ _ _ f=>f.elim
 refine wpAny_bind (wpAny_standAt (wpAny_bind (wpAny_mono (turn n s hI) (fun r s₁ h₁=>?_) (no _))))
 cases r with
 | none=>exact wpAny_pure h₁
 | some v =>
  refine wpAny_bind (wpAny_mono h₁ (fun _ s₂ h₂=>?_) (no _))
  refine wpAny_bind (wpAny_mono h₂ (fun _ s₃ h₃=>wpAny_bind (wpAny_mono h₃ (fun ok s₄ h₄=>?_) (no _))) (no _))
  cases ok with
  | true =>
   simp only [if_true] at h₄ ⊢
   exact wpAny_bind (wpAny_bind (wpAny_mono h₄ (fun x s₅ h₅=>wpAny_bind (wpAny_mono h₅ (fun _ s₆ h₆=>wpAny_pure (wpAny_pure ⟨rfl,h₆⟩)) (no _))) (no _)))
  | false =>
   simp only [Bool.false_eq_true,if_false] at h₄ ⊢
   first
    | exact wpAny_bind (wpAny_pure (wpAny_pure ⟨rfl,h₄⟩))
    | exact wpAny_pure ⟨rfl,h₄⟩
end
theorem uI {scope:Scope} {env:Env} (hfree:∀ y ∈ scope.names,y.2 = .free -> ∃ c,env.cells.lookup y.1 = some c) :
  ∃ cl,closureFor scope env = pure cl /\ (∀ x c,cl.lookup x = some c -> env.cells.lookup x = some c) /\ ∀ y ∈ scope.names,y.2 = .free -> ∃ c,cl.lookup y.1 = some c:=by
 have key:∀ (l:List (Str × NameKind)) (cs:List (Str × Addr)),(∀ y ∈ l,y.2 = .free -> ∃ c,env.cells.lookup y.1 = some c) -> (∀ x c,cs.lookup x = some c -> env.cells.lookup x = some c) →
   ∃ cl,(forIn l cs (fun (x:Str × NameKind) r=>do if x.2 == .free then do let c ← cellOf env x.1; pure (ForInStep.yield ((x.1,c) :: r)) else pure (ForInStep.yield r)):Sem (List (Str × Addr))) = pure cl ∧
    (∀ x c,cl.lookup x = some c -> env.cells.lookup x = some c) /\ (∀ y ∈ l,y.2 = .free -> ∃ c,cl.lookup y.1 = some c) /\ ∀ x c,cs.lookup x = some c -> ∃ c',cl.lookup x = some c':=by
  intro l
  induction l with
  | nil=>intro cs _ h2; exact ⟨cs,rfl,h2,fun y hy=>absurd hy (by simp),fun x c h=>⟨c,h⟩⟩
  | cons y r ih =>
   intro cs h1 h2
   obtain ⟨n,k⟩:=y
   by_cases hk:k = .free
   ·subst hk
    obtain ⟨c,hc⟩:=h1 (n,.free) (by simp) rfl
    have hc':env.cells.lookup n = some c:=hc
    have e0:cellOf env n = pure c:=by unfold cellOf; rw [hc']
    obtain ⟨cl,e,p1,p2,p3⟩:=ih ((n,c) :: cs) (fun z hz=>h1 z (List.mem_cons_of_mem _ hz)) (fun x d h=>by
     by_cases hx:x = n
     ·subst hx
      rw [List.lookup_cons_self] at h
      cases h; exact hc'
     ·rw [List.lookup_cons,beq_eq_false_iff_ne.mpr hx] at h
      exact h2 x d h)
    refine ⟨cl,?_,p1,fun z hz=>?_,fun x d h=>?_⟩
    ·rw [List.forIn_cons]
     simp only [beq_self_eq_true,if_true,e0,pure_bind]
     exact e
    ·rcases List.mem_cons.mp hz with rfl | hz
     ·intro _
      exact p3 n c List.lookup_cons_self
     ·exact p2 z hz
    ·by_cases hx:x = n
     ·subst hx; exact p3 x c List.lookup_cons_self
     ·exact p3 x d (by rw [List.lookup_cons,beq_eq_false_iff_ne.mpr hx]; exact h)
   ·have hb:(k == NameKind.free) = false:=beq_eq_false_iff_ne.mpr hk
    obtain ⟨cl,e,p1,p2,p3⟩:=ih cs (fun z hz=>h1 z (List.mem_cons_of_mem _ hz)) h2
    refine ⟨cl,?_,p1,fun z hz=>?_,p3⟩
    ·rw [List.forIn_cons]
     simp only [hb,Bool.false_eq_true,if_false,pure_bind]
     exact e
    ·rcases List.mem_cons.mp hz with rfl | hz
     ·intro h; exact absurd h hk
     ·exact p2 z hz
 obtain ⟨cl,e,p1,p2,_⟩:=key scope.names [] hfree (fun x c h=>by cases h)
 refine ⟨cl,?_,p1,p2⟩
 unfold closureFor
 first
  | (rw [show (forIn scope.names [] _:Sem (List (Str × Addr))) = pure cl from e]; rfl)
  | (simp only [bind_pure]; exact e)
  | exact e
def PIfs (X:Cx) (ifs:List Expr) (t:TT):Prop :=
 ∀ (pins:List (Addr × Obj)) (s:Shared) (σ:L2.St) (H:Hp) (Q:Bool -> Hp -> Prop),Inv X pins σ H s -> t σ H Q →
  wpAny (model X.prog X.w) X.A (forIn ifs true fun c r=>if r = true then do let ok ← isTrue c X.env (eval c X.env); pure (ForInStep.yield ok) else pure (ForInStep.yield r)) (TP X pins σ Q) X.xe s
def qU:TT:=fun _ H Q=>Q true H
theorem zP {X:Cx}:PIfs X [] qU:=fun pins s σ H Q I h=>wpAny_pure ⟨H,I,h⟩
theorem qi {X:Cx} {c:Expr} {t:TT} (hc:PT X c t):PIfs X [c] t:=fun pins s σ H Q I h=>wpAny_tests_one (hc pins s σ H Q I h)
abbrev cxC (X:Cx) (N':List Str) (scope:Scope) (cl:List (Str × Addr)) (C D:Addr) (fp:List Addr) (s:Shared) (H:Hp):Cx :=
 { X with N:=N',s₀:=s,H₀:=H,env:=compEnvC scope cl C X.env,outer:=X.stack,ex:=D :: fp,fn:=fun _=>false,xe:=fun _ _=>False }
def capt (sub:List (Option Nat)) (σ:L2.St):L2.St:=sub.map fun o=>match o with
 | none=>none
 | some i=>(match σ[i]? with | some v=>v | none=>none)
def vn (J:It) (σ0:L2.St) (H1:Hp) (g:TG) (tt:TT) (te:TE) (Q:VK):Prop :=
 ∃ W:Nat -> Nat -> List V -> L2.St -> Hp -> Prop,(∃ m,W 0 m [] σ0 H1) /\ ∀ i m ys σ' H',W i m ys σ' H' →
  (J.stop i H' /\ ∀ l,H' l = none -> Q (.ref l) (upd H' l (.lst ys))) ∨
  (J.go i H' /\ ∃ Nn:List V -> L2.St -> Hp -> Prop,(∀ zs σ2 H2,Nn zs σ2 H2 -> ∃ m',m' < m /\ W (i + 1) m' zs σ2 H2) ∧
   ∀ x H2,J.yld i H' x H2 -> g x σ' H2 fun σ2 H3=>tt σ2 H3 fun b H4=>if b = true then te σ2 H4 fun y H5=>ys.length < sizeLine /\ Nn (ys ++ [y]) σ2 H5 else Nn ys σ2 H4)
def ZV (wi:TI) (sub:List (Option Nat)) (g:TG) (tt:TT) (te:TE):TE:=fun σ H Q=>wi σ H fun J H1=>vn J (capt sub σ) H1 g tt te Q
structure CSc (X:Cx) (scope:Scope) (N':List Str) (sub:List (Option Nat)):Prop where
 free:∀ y ∈ scope.names,y.2 = .free -> X.env.kindOf y.1 = some .cell
 nocell:∀ y ∈ scope.names,y.2 ≠ .cell
 kind:scope.kind = .function
 names:∀ y ∈ scope.names,y.2 = .local -> scope.names.lookup y.1 = some .local
 len:sub.length = N'.length
 cap:∀ (j:Nat) (y:Str) (i:Nat),N'[j]? = some y -> sub[j]? = some (some i) -> X.N[i]? = some y /\ X.env.scope.names.lookup y = some .cell /\ scope.names.lookup y = some .free
theorem HOk.track {P:Program} {w:World} {H:Hp} {h:Heap} {a:Addr} {o:HO} (x:HOk P w H h) (hn:H a = none) (new:ye P w (upd H a o) h a o):HOk P w (upd H a o) h:=fun b u e=>by
 by_cases hb:b = a
 ·subst hb; rw [zb] at e; cases e; exact new
 ·rw [zu hb] at e
  exact (x b u e).stay (fun c v _ q=>q) (fun c q=>by rw [zu (zr q hn)]; exact q) fun c xs q=>by rw [zu (zr q hn)]; exact q
theorem wl {scope:Scope} {env:Env} {y:Str} {k:NameKind} (h:(relabel scope env).names.lookup y = some k) :
  ∃ k',scope.names.lookup y = some k' /\ (k = k' \/ (k = .cell /\ k' = .free)):=by
 have key:∀ l:List (Str × NameKind),(l.map fun (n,k)=>if (k == NameKind.free && env.scope.kind == .function && env.kindOf n == some .cell) then (n,NameKind.cell) else (n,k)).lookup y = some k →
   ∃ k',l.lookup y = some k' /\ (k = k' \/ (k = .cell /\ k' = .free)):=by
  intro l
  induction l with
  | nil=>intro h; cases h
  | cons p r ih =>
   obtain ⟨n,k0⟩:=p
   intro h
   rw [List.map_cons] at h
   by_cases hc:(k0 == NameKind.free && env.scope.kind == .function && env.kindOf n == some .cell) = true
   ·have hf:k0 = .free:=by
     simp only [Bool.and_eq_true,beq_iff_eq] at hc
     exact hc.1.1
    dsimp only at h
    rw [if_pos hc,List.lookup_cons] at h
    rw [List.lookup_cons]
    cases hx:y == n with
    | true=>rw [hx] at h; cases h; exact ⟨k0,rfl,.inr ⟨rfl,hf⟩⟩
    | false=>rw [hx] at h; exact ih h
   ·dsimp only at h
    rw [if_neg hc,List.lookup_cons] at h
    rw [List.lookup_cons]
    cases hx:y == n with
    | true=>rw [hx] at h; cases h; exact ⟨_,rfl,.inl rfl⟩
    | false=>rw [hx] at h; exact ih h
 exact key scope.names h
theorem se {scope:Scope} {env:Env} {y:Str} (hk:env.scope.kind = .function) (hc:env.kindOf y = some .cell) (h:scope.names.lookup y = some .free):(relabel scope env).names.lookup y = some .cell:=by
 have key:∀ l:List (Str × NameKind),l.lookup y = some .free -> (l.map fun (n,k)=>if (k == NameKind.free && env.scope.kind == .function && env.kindOf n == some .cell) then (n,NameKind.cell) else (n,k)).lookup y = some .cell:=by
  intro l
  induction l with
  | nil=>intro h; cases h
  | cons p r ih =>
   obtain ⟨n,k0⟩:=p
   intro h
   rw [List.map_cons]
   rw [List.lookup_cons] at h
   dsimp only
   cases hx:y == n with
   | true =>
    rw [hx] at h
    cases h
    have e:y = n:=by simpa using hx
    subst e
    rw [if_pos (by simp [hk,hc]),List.lookup_cons,hx]
   | false =>
    rw [hx] at h
    by_cases hc2:(k0 == NameKind.free && env.scope.kind == .function && env.kindOf n == some .cell) = true
    ·rw [if_pos hc2,List.lookup_cons,hx]; exact ih h
    ·rw [if_neg hc2,List.lookup_cons,hx]; exact ih h
 exact key scope.names h
section
variable {X:Cx} {pins:List (Addr × Obj)} {σ:L2.St} {H2:Hp} {s₂:Shared} {it:Addr} {fp:List Addr} {tn:Nat -> Heap -> Prop} {J:It} {scope:Scope} {cl:List (Str × Addr)} {N':List Str} {sub:List (Option Nat)}
theorem uJ {h₁:Heap} {tk:Nat} (I:Inv X pins σ H2 s₂) (S:CSc X scope N' sub) (hcl1:∀ x c,cl.lookup x = some c -> X.env.cells.lookup x = some c) (hcl2:∀ y ∈ scope.names,y.2 = .free -> ∃ c,cl.lookup y.1 = some c)
    (f2:∀ b ∈ fp,FpOk X pins H2 b) (hfp:∀ b ∈ fp,b < s₂.heap.objs.size) {m:Str -> Option Value} {ob:Obj}
    (hns:h₁.Ns (s₂.heap.objs.size + 1) m) (hk:∀ b o,(s₂.heap.push ob).get? b = some o -> h₁.get? b = some o) :
    Inv (cxC X N' scope cl (s₂.heap.objs.size + 1) s₂.heap.objs.size fp { s₂ with heap:=s₂.heap.push ob } H2) pins (capt sub σ) H2 { s₂ with heap:=h₁,toks:=tk }:=by
  have old:∀ b o,s₂.heap.get? b = some o -> (s₂.heap.push ob).get? b = some o:=fun b o e=>Heap.get?_push_of_some _ e
  have old2:∀ b o,s₂.heap.get? b = some o -> h₁.get? b = some o:=fun b o e=>hk b o (old b o e)
  have sz:(s₂.heap.push ob).objs.size = s₂.heap.objs.size + 1:=Heap.size_push ..
  have cells:∀ x c,cl.lookup x = some c -> c < s₂.heap.objs.size:=fun x c e=>let ⟨v,q⟩:=I.cell x c (hcl1 x c e); q.lt
  have has:∀ x,((relabel scope X.env).names.lookup x = some .cell \/ (relabel scope X.env).names.lookup x = some .free) -> ∃ c,cl.lookup x = some c:=fun x hx=>by
    rcases hx with hx | hx
    · obtain ⟨k',e,z⟩:=wl hx
      rcases z with z | ⟨_,z⟩
      · subst z; exact absurd rfl (S.nocell _ (PySem.mem_of_lookup e))
      · subst z; exact hcl2 _ (PySem.mem_of_lookup e) rfl
    · obtain ⟨k',e,z⟩:=wl hx
      rcases z with z | ⟨z,_⟩
      · subst z; exact hcl2 _ (PySem.mem_of_lookup e) rfl
      · cases z
  have frsz:∀ b ∈ frs X.stack,b < s₂.heap.objs.size:=fun b hb=>by
    rcases List.mem_cons.mp (I.stkSub b hb) with z | z
    · rw [z]; exact I.lt
    · exact Nat.lt_of_not_le fun q=>I.nofs q z
  refine
    { ok :=
      { mod:=I.ok.mod,kind:=S.kind,glob:=I.ok.glob,blt:=I.ok.blt
        above:=by show (s₂.heap.push ob).objs.size <= s₂.heap.objs.size + 1; rw [sz]; exact Nat.le_refl _
        inj:=fun x y c h1 h2=>I.ok.inj x y c (hcl1 x c h1) (hcl1 y c h2)
        has:=has
        cab:=fun x c z=>by cases z
        hd:=I.ok.hd,frames:=I.ok.frames,stk:=.inl rfl
        exf:=fun b hb=>?exf
        bs:=fun b o e=>⟨old b o (I.bk b o e),(I.bs b o e).2⟩
        bsz:=by show X.base.objs.size <= (s₂.heap.push ob).objs.size; rw [sz]; exact Nat.le_succ_of_le (Nat.le_trans I.ok.bsz I.sz)
        noex:=fun b o e hb=>?noex
        exfs:=fun b hb=>?exfs
        funs:=?funs
        frf:=I.stkFree }
      os:=rfl,bare:=I.bare,base:=Un.kept fun b u e=>hk b u e
      loc:=⟨m,hns,?loc⟩
      cell:=fun x c e=>?cell
      free:=I.hok.fresh (Nat.le_succ _)
      freeC:=fun x c e=>I.freeC x c (hcl1 x c e)
      pin:=fun p hp=>?pin
      hok:=I.hok.kept old2
      len:=?len }
  case exf =>
    rcases List.mem_cons.mp hb with rfl | hb
    · exact ⟨Nat.ne_of_lt (Nat.lt_succ_self _),fun x c e=>Nat.ne_of_lt (cells x c e)⟩
    · exact ⟨Nat.ne_of_lt (Nat.lt_succ_of_lt (hfp b hb)),fun x c e=>(f2 b hb).2.2.2.2.1 x c (hcl1 x c e)⟩
  case noex =>
    have hl:b < X.s₀.heap.objs.size:=Nat.lt_of_lt_of_le (Heap.lt_size e) I.ok.bsz
    rcases List.mem_cons.mp hb with rfl | hb
    · exact absurd (Nat.lt_of_lt_of_le hl I.sz) (Nat.lt_irrefl _)
    · rcases (f2 b hb).2.2.2.1 with z | z
      · exact I.ok.noex b o e z
      · exact absurd (Nat.lt_of_lt_of_le hl z) (Nat.lt_irrefl _)
  case exfs =>
    intro hs
    rcases List.mem_cons.mp hb with rfl | hb
    · exact absurd (frsz _ hs) (Nat.lt_irrefl _)
    · rcases List.mem_cons.mp (I.stkSub b hs) with z | z
      · exact (f2 b hb).2.1 z
      · exact (f2 b hb).2.2.1 z
  case funs=>exact Heap.FunFrames.of_keeps (fun b o e _=>⟨o,old b o e,rfl⟩) I.stack
  case loc =>
    intro j y v hj hv hvis
    obtain ⟨mX,_,lX⟩:=I.loc
    unfold capt at hv
    rw [List.getElem?_map] at hv
    cases hs:sub[j]? with
    | none=>rw [hs] at hv; cases hv
    | some o =>
      rw [hs] at hv
      cases o with
      | none=>cases hv
      | some i =>
        obtain ⟨hN,hc,hf⟩:=S.cap j y i hj hs
        have hv':σ[i]? = some (some v):=by
          have z:(match σ[i]? with | some v=>v | none=>none) = some v:=Option.some.inj hv
          cases q:σ[i]? with
          | none=>rw [q] at z; cases z
          | some w=>rw [q] at z; rw [show w = some v from z]
        obtain ⟨u,ru,hl⟩:=lX i y v hN hv' (.inr (.inl hc))
        refine ⟨u,ru,?_⟩
        have kc:(relabel scope X.env).names.lookup y = some .cell:=se I.ok.kind hc hf
        rcases hl with ⟨z,_⟩ | ⟨_,c,e,ic⟩
        · have z':X.env.scope.names.lookup y = some .local :=z
          rw [hc] at z'; cases z'
        · obtain ⟨c',e'⟩:=hcl2 _ (PySem.mem_of_lookup hf) rfl
          have:=hcl1 _ _ e'
          rw [e] at this; cases this
          refine .inr ⟨.inl kc,c,e',?_⟩
          obtain ⟨oc,h1,h2⟩:=ic
          exact ⟨oc,old2 _ _ h1,h2⟩
  case cell =>
    obtain ⟨v,oc,h1,h2⟩:=I.cell x c (hcl1 x c e)
    exact ⟨v,oc,old2 _ _ h1,h2⟩
  case pin =>
    obtain ⟨p1,p2,p3,p4,p5⟩:=I.pin p hp
    refine ⟨old2 _ _ p1,p2,Nat.ne_of_lt (Nat.lt_succ_of_lt (Heap.lt_size p1)),fun hs=>?_,p5⟩
    rcases List.mem_cons.mp (I.stkSub _ hs) with z | z
    · exact p3 z
    · exact p4 z
  case len =>
    show (capt sub σ).length = N'.length
    unfold capt
    rw [List.length_map]; exact S.len
theorem qj {C D:Addr} {s₀:Shared} {s':Shared} {σ':L2.St} {H':Hp} {ys:List V} {us:List Value} {k:Nat} {oC:Obj} (I:Inv X pins σ H2 s₂)
    (hs₀:∀ b o,s₂.heap.get? b = some o -> s₀.heap.get? b = some o) (hos:s₀.os = s₂.os) (hD:s₂.heap.objs.size <= D) (hC:s₂.heap.objs.size <= C) (hDC:D ≠ C) (f2:∀ b ∈ fp,FpOk X pins H2 b)
    (I':Inv (cxC X N' scope cl C D fp s₀ H2) pins σ' H' s') (hn:H' D = none) (hy:s'.heap.get? D = some { cls:=.type "list",data:=.seq us.toArray k }) (rv:Vals ys us) (hz:ys.length <= sizeLine)
    (ho:s'.heap.get? C = some oC) (hd:∀ v,oC.data ≠ .cell v):Inv X (pins ++ [(C,oC)]) σ (upd H' D (.lst ys)) s' /\ FpOk X pins (upd H' D (.lst ys)) C:=by
  have neD:∀ b o,s₂.heap.get? b = some o -> b ≠ D:=fun b o e=>Nat.ne_of_lt (Nat.lt_of_lt_of_le (Heap.lt_size e) hD)
  have nm:∀ b o,s₂.heap.get? b = some o -> b ∉ fp -> b ∉ D :: fp:=fun b o e h z=>(List.mem_cons.mp z).elim (neD b o e) h
  have U:=I'.base
  have HC:upd H' D (.lst ys) C = none:=by rw [zu (Ne.symm hDC)]; exact I'.free
  have fpc:FpOk X pins (upd H' D (.lst ys)) C:=I.fpOk hC HC
  have un:Un (frs X.stack) fp H2 (upd H' D (.lst ys)) s₂.heap s'.heap :=
    { keep:=fun b o e n h1 h2=>U.keep b o (hs₀ b o e) n h1 (nm b o e h2)
      slot:=fun b o e n h1 h2=>U.slot b o (hs₀ b o e) n h1 (nm b o e h2)
      free:=fun b o e n h2=>by rw [zu (neD b o e)]; exact U.free b o (hs₀ b o e) n (nm b o e h2)
      there:=fun b o e h2=>U.there b o (hs₀ b o e) (nm b o e h2)
      tups:=fun b xs e=>by have z:=U.tups b xs e; rw [zu (zr z hn)]; exact z
      frzs:=fun b o u e=>by have z:=U.frzs b o u e; rw [zu (zr z hn)]; exact z
      tbls:=fun b ps e=>by obtain ⟨more,z⟩:=U.tbls b ps e; exact ⟨more,by rw [zu (zr z hn)]; exact z⟩ }
  have hok:HOk X.prog X.w (upd H' D (.lst ys)) s'.heap:=HOk.track I'.hok hn ⟨hz,us,k,rv,hy⟩
  have IX:Inv X pins σ (upd H' D (.lst ys)) s':=I.call' (I'.os.trans hos) un hok I'.bare fun b hb=>⟨(f2 b hb).2.2.2.1,(f2 b hb).2.1,(f2 b hb).2.2.2.2.1,(f2 b hb).2.2.2.2.2⟩
  refine ⟨IX.pins_of fun p hp=>?_,fpc⟩
  rcases List.mem_append.mp hp with hp | hp
  · exact IX.pin p (List.mem_append_right _ hp)
  · rw [List.mem_singleton.mp hp]
    exact ⟨ho,HC,fpc.2.1,fpc.2.2.1,hd⟩
theorem ZW {C D:Addr} {s₀:Shared} {x:Str} {px pos:Pos} {elt iter:Expr} {ifs:List Expr} {g:TG} {tt:TT} {te:TE} {Q:VK} {RR:Value -> Addr -> Result -> Shared -> Prop} {W:Nat -> Nat -> List V -> L2.St -> Hp -> Prop}
  (I:Inv X pins σ H2 s₂) (hcalm:X.calm = true) (T:Turn X.prog X.w X.K (.Name x px) J fp it tn) (f2:∀ b ∈ fp,FpOk X pins H2 b) (hfp:∀ b ∈ fp,b < s₂.heap.objs.size)
  (hs₀:∀ b o,s₂.heap.get? b = some o -> s₀.heap.get? b = some o) (hos:s₀.os = s₂.os) (hD:s₂.heap.objs.size <= D) (hC:s₂.heap.objs.size <= C) (hDC:D ≠ C)
  (hcl1:∀ x c,cl.lookup x = some c -> X.env.cells.lookup x = some c)
  (hg:PG (cxC X N' scope cl C D fp s₀ H2) (.Name x px) g) (ht:PIfs (cxC X N' scope cl C D fp s₀ H2) ifs tt) (he:PE (cxC X N' scope cl C D fp s₀ H2) elt te)
  (turn:∀ i m ys σ' H',W i m ys σ' H' →
   (J.stop i H' /\ ∀ l,H' l = none -> Q (.ref l) (upd H' l (.lst ys))) ∨
   (J.go i H' /\ ∃ Nn:List V -> L2.St -> Hp -> Prop,(∀ zs σ2 H2,Nn zs σ2 H2 -> ∃ m',m' < m /\ W (i + 1) m' zs σ2 H2) ∧
    ∀ x H2,J.yld i H' x H2 -> g x σ' H2 fun σ2 H3=>tt σ2 H3 fun b H4=>if b = true then te σ2 H4 fun y H5=>ys.length < sizeLine /\ Nn (ys ++ [y]) σ2 H5 else Nn ys σ2 H4))
  (hRR:∀ (D C:Addr) (oC:Obj) (m:Str -> Option Value) (s':Shared) (Hf:Hp),Inv X (pins ++ [(C,oC)]) σ Hf s' -> s'.heap.Ns C m -> FpOk X pins Hf C -> Q (.ref D) Hf -> RR (.ref D) C (.ok .next) s')
  (n:Nat) (s:Shared) (h:∃ i ys us k σ' H',Inv (cxC X N' scope cl C D fp s₀ H2) pins σ' H' s /\ tn i s.heap /\ (∀ b ∈ fp,H' b = none) /\ H' D = none ∧
   s.heap.get? D = some { cls:=.type "list",data:=.seq (us:List Value).toArray k } /\ Vals ys us /\ ys.length <= sizeLine /\ W i n ys σ' H') :
  codeAny (model X.prog X.w) X.A (.compLoop (.ListComp elt [⟨.Name x px,iter,ifs,0⟩] scope pos) 0 (.ref it) (.ref D) (compEnvC scope cl C X.env)) (RR (.ref D) C) s:=by
 have frsz:∀ b ∈ frs X.stack,b < s₂.heap.objs.size:=fun b hb=>by
  rcases List.mem_cons.mp (I.stkSub b hb) with z | z
  ·rw [z]; exact I.lt
  ·exact Nat.lt_of_not_le fun q=>I.nofs q z
 have cells:∀ x c,cl.lookup x = some c -> c < s₂.heap.objs.size:=fun x c e=>let ⟨v,q⟩:=I.cell x c (hcl1 x c e); q.lt
 have pinsz:∀ p ∈ X.pn ++ pins,p.1 < s₂.heap.objs.size:=fun p hp=>Heap.lt_size (I.pin p hp).1
 refine t8 (fun n s=>∃ i ys us k σ' H',Inv (cxC X N' scope cl C D fp s₀ H2) pins σ' H' s /\ tn i s.heap /\ (∀ b ∈ fp,H' b = none) /\ H' D = none ∧
   s.heap.get? D = some { cls:=.type "list",data:=.seq (us:List Value).toArray k } /\ Vals ys us /\ ys.length <= sizeLine /\ W i n ys σ' H') ?_ n h
 rintro n s ⟨i,ys,us,k,σ',H',I',st',fr,hn,hy,rv,hz,w'⟩
 have pD:Inv (cxC X N' scope cl C D fp s₀ H2) (pins ++ [(D,{ cls:=.type "list",data:=.seq us.toArray k })]) σ' H' s:=I'.pins_of fun p hp=>by
  rcases List.mem_append.mp hp with hp | hp
  ·exact I'.pin p (List.mem_append_right _ hp)
  ·rw [List.mem_singleton.mp hp]
   exact ⟨hy,hn,hDC,fun z=>absurd (Nat.lt_of_lt_of_le (frsz _ z) hD) (Nat.lt_irrefl _),fun v z=>by cases z⟩
 have fpok:∀ {H'':Hp},(∀ b ∈ fp,H'' b = none) -> ∀ b ∈ fp,FpOk (cxC X N' scope cl C D fp s₀ H2) (pins ++ [(D,{ cls:=.type "list",data:=.seq us.toArray k })]) H'' b:=fun hz b hb=>by
  refine ⟨hz b hb,Nat.ne_of_lt (Nat.lt_of_lt_of_le (hfp b hb) hC),fun z=>?_,.inl (List.mem_cons_of_mem _ hb),fun x c e=>(f2 b hb).2.2.2.2.1 x c (hcl1 x c e),fun p hp=>?_⟩
  ·rcases List.mem_cons.mp (I.stkSub b z) with z | z
   ·exact (f2 b hb).2.1 z
   ·exact (f2 b hb).2.2.1 z
  ·rcases List.mem_append.mp hp with hp | hp
   ·exact (f2 b hb).2.2.2.2.2 p (List.mem_append_left _ hp)
   ·rcases List.mem_append.mp hp with hp | hp
    ·exact (f2 b hb).2.2.2.2.2 p (List.mem_append_right _ hp)
    ·rw [List.mem_singleton.mp hp]
     exact Nat.ne_of_gt (Nat.lt_of_lt_of_le (hfp b hb) hD)
 rcases turn i n ys σ' H' w' with ⟨stop,q⟩ | ⟨go,Nn,hN,step⟩
 ·refine thn (T.done (cxC X N' scope cl C D fp s₀ H2) rfl rfl rfl hcalm i _ s σ' H' (fun _ _=>False) pD (fpok fr) st' stop) fun r s1 ⟨hr,I1⟩=>?_
  subst hr
  have hy1:=(I1.pin (D,{ cls:=.type "list",data:=.seq us.toArray k }) (by simp)).1
  obtain ⟨m,hm,_⟩:=I1.loc
  obtain ⟨oC,es,ep,hoC,hdC,_⟩:=id hm
  obtain ⟨IX,fpc⟩:=qj I hs₀ hos hD hC hDC f2 I1.unpinned hn hy1 rv hz hoC (by intro v z; rw [hdC] at z; cases z)
  exact hRR D C oC m s1 _ IX hm fpc (q D hn)
 ·refine thn (T.item (cxC X N' scope cl C D fp s₀ H2) rfl rfl rfl hcalm i _ s σ' H' (fun _ _=>False) pD (fpok fr) st' go) fun r s1 ⟨u,hr,h4⟩=>?_
  subst hr
  refine thn h4 fun _ s2 ⟨x5,H5,I5,r5,y5,st5,fr5⟩=>?_
  have I5':=I5.pinned (fpok fr5) (T.obj _ _ st5)
  refine thn (hg _ s2 σ' H5 x5 u _ I5' r5 (step x5 H5 y5)) fun _ s3 ⟨σ6,H6,I6,q6⟩=>?_
  refine thn (ht _ s3 σ6 H6 _ I6 q6) fun ok s4 ⟨H7,I7,q7⟩=>?_
  have stay:∀ {σ7:L2.St} {H7:Hp} {s7:Shared},Inv (cxC X N' scope cl C D fp s₀ H2) (pins ++ [(D,{ cls:=.type "list",data:=.seq us.toArray k })] ++ uF fp s2.heap) σ7 H7 s7 →
    (∀ b ∈ fp,∀ o,s2.heap.get? b = some o -> s7.heap.get? b = some o) /\ (∀ b ∈ fp,H7 b = none) /\ H7 D = none /\ s7.heap.get? D = some { cls:=.type "list",data:=.seq us.toArray k }:=fun {σ7 H7 s7} I7=>by
   have d:=I7.pin (D,{ cls:=.type "list",data:=.seq us.toArray k }) (by simp)
   refine ⟨fun b hb o e=>(I7.pin (b,o) (List.mem_append_right _ (List.mem_append_right _ (yS hb e)))).1,fun b hb=>?_,d.2.1,d.1⟩
   obtain ⟨o,e,_⟩:=T.obj _ _ st5 b hb
   exact (I7.pin (b,o) (List.mem_append_right _ (List.mem_append_right _ (yS hb e)))).2.1
  cases ok with
  | false =>
   rw [if_neg (by decide)] at q7 ⊢
   obtain ⟨k1,k2,k3,k4⟩:=stay I7
   obtain ⟨m',hm,w7⟩:=hN ys σ6 H7 q7
   exact ⟨m',hm,i + 1,ys,us,k,σ6,H7,I7.unpinned.unpinned,T.keep _ _ _ st5 k1,k2,k3,k4,rv,hz,w7⟩
  | true =>
   rw [if_pos rfl] at q7 ⊢
   refine thn (he _ s4 σ6 H7 _ I7 q7) fun v s5 ⟨y,H8,I8,r8,hl8,n8⟩=>?_
   obtain ⟨k1,k2,k3,k4⟩:=stay I8
   refine wpAny_list_append_plain (l:=D) ⟨k,k4⟩ (fun h' pl sb=>?_) (by rw [List.size_toArray,← rv.length]; exact hz)
   obtain ⟨k',e'⟩:=pl
   obtain ⟨m',hm,w8⟩:=hN _ σ6 H8 n8
   refine ⟨m',hm,i + 1,ys ++ [y],us ++ [v],k',σ6,H8,?_,T.keep _ _ _ (T.keep _ _ _ st5 k1) fun b hb o e=>sb.extBut b o (Nat.ne_of_lt (Nat.lt_of_lt_of_le (hfp b hb) hD)) e,k2,k3,?_,rv.append (.cons r8 .nil),?_,w8⟩
   ·exact (I8.unpinned.unpinned).turned (it:=D) (t':=s5.toks) (h':=h') (fun b o hb e=>sb.extBut b o hb e) k3 hDC (.inl (by simp)) (fun x c e=>Nat.ne_of_lt (Nat.lt_of_lt_of_le (cells x c e) hD)) (fun p hp=>Nat.ne_of_lt (Nat.lt_of_lt_of_le (pinsz p hp) hD))
   ·rw [e']; simp
   ·rw [List.length_append]; exact hl8
theorem uK {x:Str} {px pos:Pos} {elt iter:Expr} {ifs:List Expr} {g:TG} {tt:TT} {te:TE} {E:VS7} {Q:VK} {RR:Value -> Addr -> Result -> Shared -> Prop}
  (I:Inv X pins σ H2 s₂) (hcalm:X.calm = true) (T:Turn X.prog X.w X.K (.Name x px) J fp it tn) (st:tn 0 s₂.heap) (f2:∀ b ∈ fp,FpOk X pins H2 b)
  (S:CSc X scope N' sub) (hcl1:∀ x c,cl.lookup x = some c -> X.env.cells.lookup x = some c) (hcl2:∀ y ∈ scope.names,y.2 = .free -> ∃ c,cl.lookup y.1 = some c)
  (hg:∀ C D fp s H,PG (cxC X N' scope cl C D fp s H) (.Name x px) g) (ht:∀ C D fp s H,PIfs (cxC X N' scope cl C D fp s H) ifs tt) (he:∀ C D fp s H,PE (cxC X N' scope cl C D fp s H) elt te)
  (hW:vn J (capt sub σ) H2 g tt te Q)
  (hRR:∀ (D C:Addr) (oC:Obj) (m:Str -> Option Value) (s':Shared) (Hf:Hp),Inv X (pins ++ [(C,oC)]) σ Hf s' -> s'.heap.Ns C m -> FpOk X pins Hf C -> Q (.ref D) Hf -> RR (.ref D) C (.ok .next) s') :
  wpAny (model X.prog X.w) X.A (newList []) (fun acc s₃=>wpAny (model X.prog X.w) X.A (newFunctionEnv scope X.env.globals cl [] X.env.qual none .none (some X.env)) (fun cenv s₄ =>
   codeAny (model X.prog X.w) X.A (.compStart (.ListComp elt [⟨.Name x px,iter,ifs,0⟩] scope pos) 0 (.ref it) acc { cenv with scope:=relabel scope X.env }) (RR acc cenv.locals) s₄) E s₃) E s₂:=by
 obtain ⟨W,⟨m0,w0⟩,turn⟩:=hW
 refine wpAny_newObj_type (wpAny_newFunctionEnv S.nocell (by intro y hy; simp at hy) (fun h₁ hns₁ hsb₁=>?_) S.kind)
 dsimp only at hns₁ hsb₁ ⊢
 have hC:(s₂.heap.push { cls:=.type "list",dict:=none,data:=.seq ([]:List Value).toArray }).objs.size = s₂.heap.objs.size + 1:=Heap.size_push ..
 rw [hC] at hns₁ hsb₁ ⊢
 have hk:∀ b o,(s₂.heap.push { cls:=.type "list",dict:=none,data:=.seq ([]:List Value).toArray }).get? b = some o -> h₁.get? b = some o:=fun b o e =>
  hsb₁.extBut b o (by have:=Heap.lt_size e; rw [hC] at this; exact Nat.ne_of_lt this) (Heap.get?_push_of_some _ e)
 have hfp:∀ b ∈ fp,b < s₂.heap.objs.size:=fun b hb=>by
  obtain ⟨o,e,_⟩:=T.obj _ _ st b hb
  exact Heap.lt_size e
 have I0:=uJ (tk:=s₂.toks + ([]:List (Str × Value)).length) I S hcl1 hcl2 f2 hfp hns₁ hk
 have hD0:h₁.get? s₂.heap.objs.size = some { cls:=.type "list",data:=.seq ([]:List Value).toArray 0 }:=hk _ _ (Heap.get?_push_size _ rfl)
 have loop:codeAny (model X.prog X.w) X.A (.compLoop (.ListComp elt [⟨.Name x px,iter,ifs,0⟩] scope pos) 0 (.ref it) (.ref s₂.heap.objs.size) (compEnvC scope cl (s₂.heap.objs.size + 1) X.env)) (RR (.ref s₂.heap.objs.size) (s₂.heap.objs.size + 1)) { s₂ with heap:=h₁,toks:=s₂.toks + ([]:List (Str × Value)).length } :=
  ZW (s₀:={ s₂ with heap:=s₂.heap.push { cls:=.type "list",dict:=none,data:=.seq ([]:List Value).toArray } }) (C:=s₂.heap.objs.size + 1) (D:=s₂.heap.objs.size) I hcalm T f2 hfp (fun b o e=>Heap.get?_push_of_some _ e) rfl (Nat.le_refl _) (Nat.le_succ _) (Nat.ne_of_lt (Nat.lt_succ_self _)) hcl1 (hg _ _ _ _ _) (ht _ _ _ _ _) (he _ _ _ _ _) turn hRR m0 _
   ⟨0,[],[],0,capt sub σ,H2,I0,T.keep _ _ _ st fun b hb o e=>hk b o (Heap.get?_push_of_some _ e),fun b hb=>(f2 b hb).1,I.hok.fresh (Nat.le_refl _),hD0,.nil,Nat.zero_le _,w0⟩
 exact codeAny_compStart_list loop (T.self _ _ _ _ _ (T.keep _ _ _ st fun b hb o e=>hk b o (Heap.get?_push_of_some _ e)) loop)
end
section
variable {X:Cx} {scope:Scope} {N':List Str} {sub:List (Option Nat)} {x:Str} {px pos:Pos} {elt iter:Expr} {ifs:List Expr} {wi:TI} {g:TG} {tt:TT} {te:TE}
theorem CSc.clos {pins:List (Addr × Obj)} {σ:L2.St} {H:Hp} {s:Shared} (S:CSc X scope N' sub) (I:Inv X pins σ H s):∃ cl,closureFor scope X.env = pure cl /\ (∀ x c,cl.lookup x = some c -> X.env.cells.lookup x = some c) /\ ∀ y ∈ scope.names,y.2 = .free -> ∃ c,cl.lookup y.1 = some c :=
 uI fun y hy hf=>I.ok.has y.1 (.inl (S.free y hy hf))
theorem jL (S:CSc X scope N' sub) (hcalm:X.calm = true) (hi:PI X (.Name x px) iter wi)
  (hg:∀ cl C D fp s H,PG (cxC X N' scope cl C D fp s H) (.Name x px) g) (ht:∀ cl C D fp s H,PIfs (cxC X N' scope cl C D fp s H) ifs tt) (he:∀ cl C D fp s H,PE (cxC X N' scope cl C D fp s H) elt te)
  (hs:∀ x,foldedSetIterable iter X.env x = pure x:=by intro _; rfl):PE X (.ListComp elt [⟨.Name x px,iter,ifs,0⟩] scope pos) (ZV wi sub g tt te):=by
 intro pins s σ H Q I h
 obtain ⟨cl,hclos,hcl1,hcl2⟩:=S.clos I
 rw [eval_ListComp]
 refine wpAny_comprehension_free (use:=none) rfl hs hclos S.kind S.names (thn (hi pins s σ H _ I h) fun v s1 h1=>thn h1 fun itv s2 h2=>?_)
 obtain ⟨it,fp,tn,J,H2,e,I2,T,st2,f2,hW⟩:=h2
 subst e
 refine uK (RR:=fun acc C=>compPost (model X.prog X.w) X.A X.xe none (EP X pins σ Q) acc C) I2 hcalm T st2 f2 S hcl1 hcl2 (hg cl) (ht cl) (he cl) hW ?_
 intro D C oC m s' Hf IX hm fpc q
 refine ⟨m,hm,fun h' sb=>⟨.ref D,Hf,?_,rfl,q⟩⟩
 exact (IX.unpinned).turned (it:=C) (t':=s'.toks) (h':=h') (fun b o hb e=>sb.extBut b o hb e) fpc.1 fpc.2.1 fpc.2.2.2.1 fpc.2.2.2.2.1 fpc.2.2.2.2.2
theorem YY {i:Nat} {y:Str} {py spos:Pos} (hN:X.N.Nodup) (hiN:X.N[i]? = some y) (hy:X.env.scope.names.lookup y = some .local) (S:CSc X scope N' sub) (hcalm:X.calm = true) (hi:PI X (.Name x px) iter wi)
  (hg:∀ cl C D fp s H,PG (cxC X N' scope cl C D fp s H) (.Name x px) g) (ht:∀ cl C D fp s H,PIfs (cxC X N' scope cl C D fp s H) ifs tt) (he:∀ cl C D fp s H,PE (cxC X N' scope cl C D fp s H) elt te)
  (hsw:swapsWith (.ListComp elt [⟨.Name x px,iter,ifs,0⟩] scope pos) (some (.Name y py)) spos.line X.env = pure true:=by rfl)
  (hs:∀ x,foldedSetIterable iter X.env x = pure x:=by intro _; rfl):PS X (.Assign [.Name y py] (.ListComp elt [⟨.Name x px,iter,ifs,0⟩] scope pos) spos) (tAsg (ZV wi sub g tt te) (wP i)):=by
 intro pins s σ H D I h
 obtain ⟨cl,hclos,hcl1,hcl2⟩:=S.clos I
 rw [exec_Assign_Name_used _ _ _ _ hsw]
 refine wpAny_bind (wpAny_standAt (wpAny_bind ?_))
 show wpAny _ X.A (do let _ ← comprehension (.ListComp elt [⟨.Name x px,iter,ifs,0⟩] scope pos) scope X.env _ (newList []) false (eval iter X.env) (some (assign (.Name y py) X.env))) _ _ s
 refine wpAny_bind (wpAny_mono (wpAny_comprehension_free (use:=some (assign (.Name y py) X.env)) (Q:=fun _ s'=>SP X pins D .next s') rfl hs hclos S.kind S.names
  (thn (hi pins s σ H _ I h) fun v s1 h1=>thn h1 fun itv s2 h2=>?_)) (fun _ s' hq=>wpAny_pure (wpAny_pure hq)) fun _ _ e=>e)
 obtain ⟨it,fp,tn,J,H2,e,I2,T,st2,f2,hW⟩:=h2
 subst e
 refine uK (Q:=fun x H1=>wP i x σ H1 D.nx) (RR:=fun acc C=>compPost (model X.prog X.w) X.A X.xe (some (assign (.Name y py) X.env)) (fun _ s'=>SP X pins D .next s') acc C) I2 hcalm T st2 f2 S hcl1 hcl2 (hg cl) (ht cl) (he cl) hW ?_
 intro L C oC m s' Hf IX hm fpc q
 have st:=zn (X:=X) (pos:=py) hN hiN (.inl hy) (.inr hy) _ s' σ Hf (.ref L) (.ref L) D.nx IX rfl q
 refine thn st fun _ s'' ⟨σ2,H2,I2',q2⟩=>?_
 have p:=I2'.pin (C,oC) (by simp)
 have hm':s''.heap.Ns C m:=by
  obtain ⟨o,es,ep,e1,r⟩:=hm
  have z:=(IX.pin (C,oC) (by simp)).1
  rw [e1] at z; cases z
  exact ⟨_,es,ep,p.1,r⟩
 refine ⟨m,hm',fun h' sb=>⟨σ2,H2,?_,q2⟩⟩
 exact (I2'.unpinned).turned (it:=C) (t':=s''.toks) (h':=h') (fun b o hb e=>sb.extBut b o hb e) p.2.1 fpc.2.1 fpc.2.2.2.1 fpc.2.2.2.2.1 fpc.2.2.2.2.2
end
def eqVs:List V -> List V -> Bool
 | [],[]=>true
 | x :: xs,y :: ys=>eqV x y && eqVs xs ys
 | _,_=>false
theorem qk:∀ {xs ys:List V},eqVs xs ys = true ↔ xs.length = ys.length /\ ∀ (j:Nat) (x y:V),xs[j]? = some x -> ys[j]? = some y -> eqV x y = true
 | [],[]=>by simp [eqVs]
 | x :: xs,y :: ys=>by
  show (eqV x y && eqVs xs ys) = true ↔ _
  rw [Bool.and_eq_true,qk]
  constructor
  ·rintro ⟨h1,h2,h3⟩
   refine ⟨by simp [h2],fun j a b ha hb=>?_⟩
   cases j with
   | zero=>simp at ha hb; subst ha hb; exact h1
   | succ j=>exact h3 j a b (by simpa using ha) (by simpa using hb)
  ·rintro ⟨h1,h2⟩
   exact ⟨h2 0 x y rfl rfl,by simpa using h1,fun j a b ha hb=>h2 (j + 1) a b (by simpa using ha) (by simpa using hb)⟩
 | [],_ :: _=>by simp [eqVs]
 | _ :: _,[]=>by simp [eqVs]
theorem qV {xs ys:List V}:((List.range (min xs.length ys.length)).all (fun j=>match xs[j]?,ys[j]? with | some x,some y=>eqV x y | _,_=>true) && xs.length == ys.length) = eqVs xs ys:=by
 rw [Bool.eq_iff_iff,Bool.and_eq_true,List.all_eq_true,beq_iff_eq,qk]
 constructor
 ·rintro ⟨h1,h2⟩
  refine ⟨h2,fun j x y hx hy=>?_⟩
  have hj:j < xs.length:=(List.getElem?_eq_some_iff.mp hx).1
  have:=h1 j (List.mem_range.mpr (by rw [← h2]; simpa using hj))
  rw [hx,hy] at this
  exact this
 ·rintro ⟨h1,h2⟩
  refine ⟨fun j hj=>?_,h1⟩
  have hj':=List.mem_range.mp hj
  have a:j < xs.length:=by omega
  have b:j < ys.length:=by omega
  rw [List.getElem?_eq_getElem a,List.getElem?_eq_getElem b]
  exact h2 j _ _ (List.getElem?_eq_getElem a) (List.getElem?_eq_getElem b)
theorem s9 {xs:List V} {us:List Value} (r:Vals xs us) (j:Nat) (h:j < us.length):∃ x,xs[j]? = some x /\ RelV x us[j]:=by
 have hl:=r.length
 have hx:xs[j]? = some xs[j]:=List.getElem?_eq_getElem (by omega)
 obtain ⟨u,e,q⟩:=r.get hx
 rw [List.getElem?_eq_getElem h] at e
 cases e
 exact ⟨_,hx,q⟩
theorem XC {A:Around} {s:Shared} {xs ys:List V} {us ws:List Value} (r1:Vals xs us) (r2:Vals ys ws) (f1:xs.all tZ = true) (f2:ys.all tZ = true) :
  ∀ j (h1:j < us.toArray.size) (h2:j < ws.toArray.size),SeqAt.EqAt A s us.toArray[j] ws.toArray[j] ((fun j=>match xs[j]?,ys[j]? with | some x,some y=>eqV x y | _,_=>true) j):=by
 intro j h1 h2
 obtain ⟨x,ex,qx⟩:=s9 r1 j (by simpa using h1)
 obtain ⟨y,ey,qy⟩:=s9 r2 j (by simpa using h2)
 have fx:tZ x = true:=List.all_eq_true.mp f1 x (List.mem_of_getElem? ex)
 have fy:tZ y = true:=List.all_eq_true.mp f2 y (List.mem_of_getElem? ey)
 show SeqAt.EqAt A s _ _ (match xs[j]?,ys[j]? with | some x,some y=>eqV x y | _,_=>true)
 rw [ex,ey]
 simpa using Xx qx qy fx fy
section
variable {X:Cx}
def rEqT (K:FG7) (neg:Bool):R2:=fun x y H Q=>∃ a b xs ys,x = .ref a /\ y = .ref b /\ SqT K H a xs /\ SqT K H b ys /\ xs.all tZ = true /\ ys.all tZ = true /\ Q (.bl (if neg then !eqVs xs ys else eqVs xs ys)) H
theorem yT {h:Heap} {a:Addr} {its:Array Value} (t:IsTup h a its):h.IsTuple a its:=t
theorem Ys {k:Nat} (hr:Room k X.A):OpR X (compareOp .NotEq) (rEqT X.K true):=by
 intro pins s σ H x y v u Q I rx ry h
 obtain ⟨a,b,xs,ys,rfl,rfl,ha,hb,f1,f2,q⟩:=h
 cases rx; cases ry
 obtain ⟨us,r1,t1,_⟩:=I.tuple ha
 obtain ⟨ws,r2,t2,_⟩:=I.tuple hb
 refine SeqAt.RcNeAt.tuples (yT t1) (yT t2) hr.units0 (XC r1 r2 f1 f2) _ _ _ _ ?_
 rw [List.size_toArray,List.size_toArray,← r1.length,← r2.length,qV]
 exact ⟨.bl _,H,I,rfl,q⟩
end
section
variable {X:Cx} {pos:Pos}
theorem sf:∀ {bs:List Bool} {us:List Value},Vals (bs.map V.bl) us -> LSm.BoolsAre us bs
 | [],_,.nil=>.nil
 | b :: bs,_,.cons r t=>by
  cases r
  exact .cons b (sf t)
theorem yi (hcalm:X.calm = true):xD X (.builtin "all") (fun xs H Q=>∃ (l:Addr) (bs:List Bool),xs = [.ref l] /\ SqL X.K H l (bs.map V.bl) /\ Q (.bl (bs.all id)) H):=by
 intro pins s σ H xs us Q I r h
 obtain ⟨l,bs,rfl,hl,q⟩:=h
 obtain ⟨u,rfl,rx⟩:=we r
 cases (show u = Value.ref l from rx)
 obtain ⟨vs,rv,pl,_⟩:=I.list hl
 have hl':s.heap.IsList l vs.toArray:=pl.isList
 have hb:LSm.BoolsAre vs bs:=sf rv
 have hlt:l < s.heap.objs.size:=by obtain ⟨_,e,_⟩:=hl'; exact Heap.lt_size e
 refine call_all_walk (wpAny_pyIter_list hl' ?_)
 refine ⟨s.heap.objs.size,[s.heap.objs.size,l],[s.heap.objs.size],vs.toArray.size,_,_,fun i=>(bs[i]?).getD true,rfl,Walks.list (A:=X.A.in1) (I.ok.hd hcalm) _ l (Nat.ne_of_lt hlt) vs.toArray,
  ⟨⟨_,Heap.get?_push_size _ rfl,rfl,rfl⟩,hl'.push _⟩,fun i v s' Q' E' hP hQ=>?_,fun h' tk hk=>?_⟩
 ·obtain ⟨b,e,rfl⟩:=hb.get i v (by simpa using hP)
  simp only [e,Option.getD_some] at hQ
  exact wpAny_truthy_bool hQ
 ·have e:((List.range vs.toArray.size).all fun i=>(bs[i]?).getD true) = bs.all id:=by
   have hlen:bs.length = vs.length:=by rw [← rv.length,List.length_map]
   rw [List.size_toArray,← hlen,Bool.eq_iff_iff,List.all_eq_true,List.all_eq_true]
   constructor
   ·intro z b hb'
    obtain ⟨i,hi,rfl⟩:=List.getElem_of_mem hb'
    have:=z i (List.mem_range.mpr hi)
    simpa [List.getElem?_eq_getElem hi] using this
   ·intro z i hi
    have hi':=List.mem_range.mp hi
    simpa [List.getElem?_eq_getElem hi'] using z _ (List.getElem_mem hi')
  rw [e]
  exact ⟨.bl (bs.all id),H,I.kept (t':=tk) (h':=h') (LSm.kept_iter hk),rfl,q⟩
end
theorem CSc.of {X:Cx} {scope:Scope} {N':List Str} {sub:List (Option Nat)} (sc:Scope) (NN:List Str) (e:X.env.scope = sc) (en:X.N = NN)
  (h:((scope.names.all fun y=>(y.2 != .free || sc.names.lookup y.1 == some .cell) && (y.2 != .cell) && (y.2 != .local || scope.names.lookup y.1 == some .local)) && (sub.length == N'.length) &&
   ((N'.zip sub).all fun p=>match p.2 with | none=>true | some i=>NN[i]? == some p.1 && sc.names.lookup p.1 == some .cell && scope.names.lookup p.1 == some .free)) = true)
  (hk:scope.kind = .function):CSc X scope N' sub:=by
 rw [Bool.and_eq_true,Bool.and_eq_true] at h
 obtain ⟨⟨h1,h2⟩,h3⟩:=h
 have k1:=fun y hy=>List.all_eq_true.mp h1 y hy
 refine ⟨fun y hy hf=>?_,fun y hy hc=>?_,hk,fun y hy hl=>?_,by simpa using h2,fun j y i hj hs=>?_⟩
 ·have:=k1 y hy
  simp only [hf,Bool.and_eq_true] at this
  have z:=this.1.1
  show X.env.scope.names.lookup y.1 = _
  rw [e]; simpa using z
 ·have:=k1 y hy
  simp only [hc,Bool.and_eq_true] at this
  simp at this
 ·have:=k1 y hy
  simp only [hl,Bool.and_eq_true] at this
  simpa using this.2
 ·have hm:(y,some i) ∈ N'.zip sub:=by
   have:(N'.zip sub)[j]? = some (y,some i):=by
    rw [List.getElem?_zip_eq_some]; exact ⟨hj,hs⟩
   exact List.mem_of_getElem? this
  have:=List.all_eq_true.mp h3 _ hm
  simp only [Bool.and_eq_true,beq_iff_eq] at this
  rw [e,en]
  exact ⟨this.1.1,this.1.2,this.2⟩
def Wt (a:Int) (lo hi:Option Int):Deed:=if lo ≠ none /\ lo = hi then ⟨0,lo,hi⟩ else ⟨a,lo,hi⟩
def thrO (e:Deed) (o:Option Int) (d:Option Int):Option Int:=match o with
 | none=>d
 | some l=>some (e.mk' l)
def Wu (d e:Deed):Deed:=Wt (d.add + e.add) (thrO e d.lo e.lo) (thrO e d.hi e.hi)
def Deed.Bd (B:Int) (d:Deed):Prop:=(-B <= d.add /\ d.add <= B) /\ (∀ l,d.lo = some l -> -B <= l /\ l <= B) /\ ∀ h,d.hi = some h -> -B <= h /\ h <= B
theorem Deed.Sm.bd {d:Deed} (h:d.Sm):d.Bd (10 ^ 30):=by
 obtain ⟨⟨a1,a2⟩,h1,h2⟩:=h
 exact ⟨⟨by omega,by omega⟩,fun l e=>by have:=h1 l e; exact ⟨by have:=this.1; omega,by have:=this.2; omega⟩,fun l e=>by have:=h2 l e; exact ⟨by have:=this.1; omega,by have:=this.2; omega⟩⟩
theorem jM {σ:L2.St} {H:Hp} {A B:Hp -> Prop} (h:A H):qU σ H (fun b H4=>if b = true then A H4 else B H4):=by
 show if true = true then A H else B H
 rw [if_pos rfl]; exact h
theorem zy {c:Bool} {A B:Prop} (e:c = false) (h:B):if c = true then A else B:=by rw [e]; exact iteF h
theorem yd {c:Bool} {A B:Prop} (e:c = true) (h:A):if c = true then A else B:=by rw [e]; exact iteT h
theorem vz {K:FG7} {a:Addr} {xs:List V} {g:TG} {tt:TT} {te:TE} {Q:VK} {σ:L2.St} {H:Hp} (Pv:Nat -> List V -> L2.St -> Hp -> Prop) (h0:Pv 0 [] σ H) (hl:∀ i ys σ H,i <= xs.length -> Pv i ys σ H -> SqT K H a xs)
  (hs:∀ i x ys σ H,xs[i]? = some x -> Pv i ys σ H -> g x σ H fun σ2 H3=>tt σ2 H3 fun b H4=>if b = true then te σ2 H4 fun y H5=>ys.length < sizeLine /\ Pv (i + 1) (ys ++ [y]) σ2 H5 else Pv (i + 1) ys σ2 H4)
  (hd:∀ ys σ H,Pv xs.length ys σ H -> ∀ l,H l = none -> Q (.ref l) (upd H l (.lst ys))) :
  vn (Itt K a) σ H g tt te Q:=by
 refine ⟨fun i m ys σ H=>m = xs.length - i /\ i <= xs.length /\ Pv i ys σ H,⟨xs.length,by simp,Nat.zero_le _,h0⟩,?_⟩
 rintro i m ys σ H ⟨rfl,hi,p⟩
 have q:=hl i ys σ H hi p
 by_cases hlt:i < xs.length
 ·refine .inr ⟨⟨xs,xs[i],q,by simp [hlt]⟩,Pv (i + 1),fun zs σ' H' p'=>⟨xs.length - (i + 1),by omega,rfl,hlt,p'⟩,fun x H' y=>?_⟩
  obtain ⟨e,y⟩:=y
  subst e
  exact hs i x ys σ _ (y xs q) p
 ·have e:i = xs.length:=by omega
  subst e
  exact .inl ⟨⟨xs,q,Nat.le_refl _⟩,hd ys σ H p⟩
theorem jN {K:FG7} {a:Addr} {xs:List V} {g:TG} {tt:TT} {te:TE} {Q:VK} {σ:L2.St} {H:Hp} (Pv:Nat -> List V -> L2.St -> Hp -> Prop) (h0:Pv 0 [] σ H) (hl:∀ i ys σ H,i <= xs.length -> Pv i ys σ H -> SqL K H a xs)
  (hs:∀ i x ys σ H,xs[i]? = some x -> Pv i ys σ H -> g x σ H fun σ2 H3=>tt σ2 H3 fun b H4=>if b = true then te σ2 H4 fun y H5=>ys.length < sizeLine /\ Pv (i + 1) (ys ++ [y]) σ2 H5 else Pv (i + 1) ys σ2 H4)
  (hd:∀ ys σ H,Pv xs.length ys σ H -> ∀ l,H l = none -> Q (.ref l) (upd H l (.lst ys))) :
  vn (Itl K a) σ H g tt te Q:=by
 refine ⟨fun i m ys σ H=>m = xs.length - i /\ i <= xs.length /\ Pv i ys σ H,⟨xs.length,by simp,Nat.zero_le _,h0⟩,?_⟩
 rintro i m ys σ H ⟨rfl,hi,p⟩
 have q:=hl i ys σ H hi p
 by_cases hlt:i < xs.length
 ·refine .inr ⟨⟨xs,xs[i],q,by simp [hlt]⟩,Pv (i + 1),fun zs σ' H' p'=>⟨xs.length - (i + 1),by omega,rfl,hlt,p'⟩,fun x H' y=>?_⟩
  obtain ⟨e,y⟩:=y
  subst e
  exact hs i x ys σ _ (y xs q) p
 ·have e:i = xs.length:=by omega
  subst e
  exact .inl ⟨⟨xs,q,Nat.le_refl _⟩,hd ys σ H p⟩
theorem jO {X:Cx} {K:FG7} (h:X.K = K):IxR X (rIxT K):=by subst h; exact uH
theorem Deed.Bd.mono {d:Deed} {B C:Int} (b:d.Bd B) (h:B <= C):d.Bd C:=by
 obtain ⟨⟨b1,b2⟩,b3,b4⟩:=b
 exact ⟨⟨by omega,by omega⟩,fun l e=>by have:=b3 l e; omega,fun l e=>by have:=b4 l e; omega⟩
theorem Grow.sqL {H H':Hp} (g:Grow [] H H') {K:FG7} {a:Addr} {xs:List V} (h:SqL K H a xs):SqL K H' a xs:=by
 rcases h with (h | ⟨o,h⟩) | h
 ·exact .inl (.inl (g.keep _ _ (by simp) h))
 ·exact .inl (.inr ⟨o,g.frz _ _ _ h⟩)
 ·exact .inr h
theorem nd {d e:Deed} (h:d = e):(!decide (d = e)) = false:=by rw [decide_eq_true h]; rfl
mutual
inductive Dat (K:FG7) (H:Hp):V -> PyData -> Prop
 | non:Dat K H .non .none
 | bl (b:Bool):Dat K H (.bl b) (.bool b)
 | int (i:Int):Dat K H (.int i) (.int i)
 | tup {a:Addr} {xs:List V} {ds:List PyData}:SqT K H a xs -> DatAll K H xs ds -> Dat K H (.ref a) (.tuple ds)
 | lst {a:Addr} {xs:List V} {ds:List PyData}:SqL K H a xs -> DatAll K H xs ds -> Dat K H (.ref a) (.list ds)
inductive DatAll (K:FG7) (H:Hp):List V -> List PyData -> Prop
 | nil:DatAll K H [] []
 | cons {x:V} {xs:List V} {d:PyData} {ds:List PyData}:Dat K H x d -> DatAll K H xs ds -> DatAll K H (x :: xs) (d :: ds)
end
section
variable {X:Cx} {pins:List (Addr × Obj)} {σ:L2.St} {H:Hp} {s:Shared}
mutual
theorem Dat.reads (I:Inv X pins σ H s):∀ {x:V} {d:PyData} {u:Value},Dat X.K H x d -> RelV x u -> ∃ as,Reads s.heap u d as
 | _,_,u,.non,r=>by
  cases (show u = Value.none from r)
  exact ⟨_,.none⟩
 | _,_,u,.bl b,r=>by
  cases (show u = Value.bool b from r)
  exact ⟨_,.bool b⟩
 | _,_,u,.int i,r=>by
  obtain ⟨t,rfl⟩:=r
  exact ⟨_,.int i t⟩
 | _,_,u,.tup (a:=a) hs hd,r=>by
  cases (show u = Value.ref a from r)
  obtain ⟨its,r1,⟨o,e1,e2,n,e3⟩,_⟩:=I.tuple hs
  obtain ⟨as,q⟩:=DatAll.reads I hd r1
  exact ⟨_,.tuple e1 e2 e3 q⟩
 | _,_,u,.lst (a:=a) hs hd,r=>by
  cases (show u = Value.ref a from r)
  obtain ⟨its,r1,⟨o,n,e1,e2,_,e3⟩,_⟩:=I.list hs
  obtain ⟨as,q⟩:=DatAll.reads I hd r1
  exact ⟨_,.list e1 e2 e3 q⟩
theorem DatAll.reads (I:Inv X pins σ H s):∀ {xs:List V} {ds:List PyData} {us:List Value},DatAll X.K H xs ds -> Vals xs us -> ∃ as,ReadsAll s.heap us ds as
 | _,_,_,.nil,.nil=>⟨_,.nil⟩
 | _,_,_,.cons h t,.cons r rs=>by
  obtain ⟨as,q⟩:=Dat.reads I h r
  obtain ⟨bs,q2⟩:=DatAll.reads I t rs
  exact ⟨_,.cons q q2⟩
end
end
mutual
/-- a bound of the text's length -/
def wtD:PyData -> Nat
 | .list xs | .tuple xs=>wtAll xs + 3
 | .int _=>1921
 | .none | .bool _=>5
 | _=>20000000
def wtAll:List PyData -> Nat
 | []=>0
 | x :: xs=>wtD x + 2 + wtAll xs
end
mutual
theorem shown_wt:∀ {d:PyData},d.showable = true -> d.hasDict = false -> wtD d <= 16777216 -> d.shown.length <= wtD d
 | .none,_,_,_=>by decide
 | .bool b,_,_,_=>by cases b <;> decide
 | .int i,h,_,_=>int_text_len_1921 (of_decide_eq_true h)
 | .str _,_,_,z=>absurd (show 20000000 <= 16777216 from z) (by decide)
 | .list xs,h,h2,z=>by
  have z':wtAll xs + 3 <= 16777216:=z
  have q:=shown_wtAll (xs:=xs) h h2 (by omega)
  have l:=listText_len_le (PyData.shownAll xs)
  show (listText (PyData.shownAll xs)).length <= wtAll xs + 3
  omega
 | .tuple xs,h,h2,z=>by
  have z':wtAll xs + 3 <= 16777216:=z
  have q:=shown_wtAll (xs:=xs) h h2 (by omega)
  have l:=tupleText_len_le (PyData.shownAll xs)
  show (tupleText (PyData.shownAll xs)).length <= wtAll xs + 3
  omega
 | .dict _,_,h,_=>by cases h
theorem shown_wtAll:∀ {xs:List PyData},PyData.showableAll xs = true -> PyData.hasDictAll xs = false -> wtAll xs <= 16777216 -> ((PyData.shownAll xs).map (·.length)).sum + 2 * (PyData.shownAll xs).length <= wtAll xs
 | [],_,_,_=>by decide
 | x :: xs,h,h2,z=>by
  have h':(x.showable && PyData.showableAll xs) = true:=h
  have h2':(x.hasDict || PyData.hasDictAll xs) = false:=h2
  rw [Bool.and_eq_true] at h'
  rw [Bool.or_eq_false_iff] at h2'
  have z':wtD x + 2 + wtAll xs <= 16777216:=z
  have q1:=shown_wt (d:=x) h'.1 h2'.1 (by omega)
  have q2:=shown_wtAll (xs:=xs) h'.2 h2'.2 (by omega)
  show (x.shown.length :: (PyData.shownAll xs).map (·.length)).sum + 2 * ((PyData.shownAll xs).length + 1) <= wtD x + 2 + wtAll xs
  rw [List.sum_cons]
  omega
end
section
variable {K:FG7} {a:Addr} {xs:List V} {lo:Int} {n k:Nat} {te:TE} {Q:VK} {σ:L2.St} {H:Hp}
theorem xZ (Pv:Nat -> List V -> Hp -> Prop) (h0:Pv 0 [] H)
  (hs:∀ i ys H',i < n -> Pv i ys H' -> te (σ.set k (some (.int (lo + i)))) H' fun y H5=>ys.length < sizeLine /\ Pv (i + 1) (ys ++ [y]) H5)
  (hd:∀ ys H',Pv n ys H' -> ∀ l,H' l = none -> Q (.ref l) (upd H' l (.lst ys))):vn (Itr lo n) σ H (wP k) qU te Q:=by
 refine ⟨fun i m ys σ' H'=>m = n - i /\ i <= n /\ (σ' = σ \/ ∃ e,σ' = σ.set k e) /\ Pv i ys H',⟨n,by simp,Nat.zero_le _,.inl rfl,h0⟩,?_⟩
 rintro i m ys σ' H' ⟨rfl,hi,hσ,p⟩
 by_cases hlt:i < n
 ·refine .inr ⟨hlt,fun zs σ2 H2=>(σ2 = σ \/ ∃ e,σ2 = σ.set k e) /\ Pv (i + 1) zs H2,fun zs σ2 H2 p'=>⟨n - (i + 1),by omega,rfl,hlt,p'.1,p'.2⟩,fun x H2 y=>?_⟩
  obtain ⟨e,y⟩:=y
  subst e y
  have e:σ'.set k (some (V.int (lo + i))) = σ.set k (some (V.int (lo + i))):=by
   rcases hσ with rfl | ⟨e,rfl⟩
   ·rfl
   ·rw [List.set_set]
  show if true = true then te (σ'.set k (some (V.int (lo + i)))) H2 (fun y H5=>ys.length < sizeLine /\ ((σ'.set k (some (V.int (lo + i))) = σ \/ ∃ e,σ'.set k (some (V.int (lo + i))) = σ.set k e) /\ Pv (i + 1) (ys ++ [y]) H5)) else ((σ'.set k (some (V.int (lo + i))) = σ \/ ∃ e,σ'.set k (some (V.int (lo + i))) = σ.set k e) /\ Pv (i + 1) ys H2)
  rw [if_pos rfl,e]
  have e2:(fun (y:V) (H5:Hp)=>ys.length < sizeLine /\ ((σ.set k (some (V.int (lo + i))) = σ \/ ∃ e,σ.set k (some (V.int (lo + i))) = σ.set k e) /\ Pv (i + 1) (ys ++ [y]) H5)) = fun y H5=>ys.length < sizeLine /\ Pv (i + 1) (ys ++ [y]) H5:=by
   funext y H5
   exact propext ⟨fun z=>⟨z.1,z.2.2⟩,fun z=>⟨z.1,.inr ⟨_,rfl⟩,z.2⟩⟩
  rw [e2]
  exact hs i ys H2 hlt p
 ·have e:i = n:=by omega
  subst e
  exact .inl ⟨Nat.le_refl _,hd ys H' p⟩
theorem uL (Pv:Nat -> List V -> Hp -> Prop) (h0:Pv 0 [] H) (hl:∀ i ys H',Pv i ys H' -> SqL K H' a xs)
  (hs:∀ i x ys H',xs[i]? = some x -> Pv i ys H' -> te (σ.set k (some x)) H' fun y H5=>ys.length < sizeLine /\ Pv (i + 1) (ys ++ [y]) H5)
  (hd:∀ ys H',Pv xs.length ys H' -> ∀ l,H' l = none -> Q (.ref l) (upd H' l (.lst ys))):vn (Itl K a) σ H (wP k) qU te Q:=by
 refine jN (xs:=xs) (fun i ys σ' H'=>(σ' = σ \/ ∃ e,σ' = σ.set k e) /\ Pv i ys H') ⟨.inl rfl,h0⟩ (fun i ys σ' H' _ p=>hl i ys H' p.2) ?_ (fun ys σ' H' p l hl=>hd ys H' p.2 l hl)
 rintro i x ys σ' H' hx ⟨hσ,p⟩
 have e:σ'.set k (some x) = σ.set k (some x):=by
  rcases hσ with rfl | ⟨e,rfl⟩
  ·rfl
  ·rw [List.set_set]
 show if true = true then te (σ'.set k (some x)) H' (fun y H5=>ys.length < sizeLine /\ ((σ'.set k (some x) = σ \/ ∃ e,σ'.set k (some x) = σ.set k e) /\ Pv (i + 1) (ys ++ [y]) H5)) else ((σ'.set k (some x) = σ \/ ∃ e,σ'.set k (some x) = σ.set k e) /\ Pv (i + 1) ys H')
 rw [if_pos rfl,e]
 have e2:(fun (y:V) (H5:Hp)=>ys.length < sizeLine /\ ((σ.set k (some x) = σ \/ ∃ e,σ.set k (some x) = σ.set k e) /\ Pv (i + 1) (ys ++ [y]) H5)) = fun y H5=>ys.length < sizeLine /\ Pv (i + 1) (ys ++ [y]) H5:=by
  funext y H5
  exact propext ⟨fun z=>⟨z.1,z.2.2⟩,fun z=>⟨z.1,.inr ⟨_,rfl⟩,z.2⟩⟩
 rw [e2]
 exact hs i x ys H' hx p
end
theorem Grow.fresh {m:List Addr} {H H':Hp} (h:∀ b ∈ m,H b = none) (g:Grow m H H'):Grow [] H H' :=
 ⟨fun b o _ q=>g.keep b o (fun z=>by rw [h b z] at q; cases q) q,g.tup,g.frz⟩
theorem Grow.less {m m':List Addr} {H H':Hp} (g:Grow m H H') (h:∀ b ∈ m,b ∈ m' \/ H b = none):Grow m' H H' :=
 ⟨fun b o n q=>g.keep b o (fun z=>by
  rcases h b z with w | w
  ·exact n w
  ·rw [w] at q; cases q) q,g.tup,g.frz⟩
theorem Pot.ne {H:Hp} {a l:Addr} (p:Pot H a) (h:H l = none):l ∉ [a]:=by
 intro z
 obtain ⟨z0,z1,hz,_⟩:=p
 rw [List.mem_singleton.mp z,hz] at h
 cases h
theorem u8 {n:Nat} {i:Int} (h0:0 <= i) (h:i.toNat < n):ixN n i = some i.toNat:=by
 unfold ixN; rw [if_pos h0,if_pos (by omega)]
theorem ZX {xs:List V} {i:Int} {j:Nat} {v:V} (h:ixN xs.length i = some j) (hv:xs[j]? = some v):atI xs i = some v:=by
 unfold atI; rw [h]; exact hv
structure Ask where
 hand:Int
 box:Int
 deed:Deed
def XD (K:FG7) (H:Hp) (x:V) (k:Ask):Prop:=∃ r rd,x = .ref r /\ SqT K H r [.int k.hand,.int k.box,.ref rd] /\ SqT K H rd k.deed.vs
def AllA (K:FG7) (H:Hp):List V -> List Ask -> Prop
 | [],[]=>True
 | x :: xs,k :: ks=>XD K H x k /\ AllA K H xs ks
 | _,_=>False
def zS (K:FG7) (H:Hp) (x:V) (b:List Int):Prop:=∃ r,x = .ref r /\ SqT K H r (b.map V.int)
theorem Grow.board {m:List Addr} {H H':Hp} (g:Grow m H H') {K:FG7} {x:V} {b:List Int} (h:zS K H x b):zS K H' x b:=by
 obtain ⟨r,e,h1⟩:=h
 exact ⟨r,e,g.sqT h1⟩
theorem AllA.len {K:FG7} {H:Hp}:∀ {xs:List V} {ks:List Ask},AllA K H xs ks -> xs.length = ks.length
 | [],[],_=>rfl
 | _ :: xs,_ :: ks,⟨_,t⟩=>congrArg (· + 1) (AllA.len t)
 | [],_ :: _,h=>h.elim
 | _ :: _,[],h=>h.elim
theorem AllA.get {K:FG7} {H:Hp}:∀ {xs:List V} {ks:List Ask} {i:Nat} {x:V},AllA K H xs ks -> xs[i]? = some x -> ∃ k,ks[i]? = some k /\ XD K H x k
 | _ :: _,k :: _,0,x,⟨h,_⟩,e=>by
  obtain rfl:=Option.some.inj e
  exact ⟨k,rfl,h⟩
 | _ :: _,_ :: _,i + 1,x,⟨_,t⟩,e=>AllA.get (i:=i) t e
 | [],[],i,x,_,e=>by cases e
 | [],_ :: _,_,_,h,_=>h.elim
 | _ :: _,[],_,_,h,_=>h.elim
theorem jP {xs:List Int} {i:Nat} (h:i < xs.length):xs[i]? = some (xs.getD i 0):=by
 rw [List.getD_eq_getElem?_getD,List.getElem?_eq_getElem h]; rfl
def InB (B:Int) (xs:List Int):Prop:=∀ v ∈ xs,-B < v /\ v < B
def Sh (d:PyData) (w n:Nat):Prop:=d.showable = true /\ d.hasDict = false /\ wtD d <= w /\ d.depth <= n
theorem Sh.mono {d:PyData} {w w' n n':Nat} (h:Sh d w n) (h1:w <= w') (h2:n <= n'):Sh d w' n':=⟨h.1,h.2.1,Nat.le_trans h.2.2.1 h1,Nat.le_trans h.2.2.2 h2⟩
theorem InB.mono {B C:Int} {xs:List Int} (h:InB B xs) (hC:B <= C):InB C xs:=fun v hv=>by have:=h v hv; omega
inductive Tr where
 | leaf (n:Int)
 | node (l r:Tr)
def Tr.count:Tr -> Int
 | .leaf _=>1
 | .node l r=>l.count + r.count
def Tr.ht:Tr -> Nat
 | .leaf _=>0
 | .node l r=>max l.ht r.ht + 1
def Tr.wt:Tr -> Nat
 | .leaf _=>1
 | .node l r=>l.wt + r.wt + 1
def sp4 (b:V -> V -> V -> V -> Hp -> VK -> Prop):Sp:=fun vs H Q _=>∃ x y z u,vs = [x,y,z,u] /\ b x y z u H Q
theorem rc {b:V -> V -> V -> V -> Hp -> VK -> Prop} {p q r s:Str}:∀ vs H Q E,sp4 b vs H Q E -> vs.length = [p,q,r,s].length:=fun vs H Q E h=>by
 obtain ⟨x,y,z,u,rfl,_⟩:=h; rfl
def AllR {α:Type} (R:V -> α -> Prop):List V -> List α -> Prop
 | [],[]=>True
 | x :: xs,k :: ks=>R x k /\ AllR R xs ks
 | _,_=>False
section
variable {α:Type} {R S:V -> α -> Prop}
theorem AllR.imp (h:∀ x k,R x k -> S x k):∀ {xs:List V} {ks:List α},AllR R xs ks -> AllR S xs ks
 | [],[],_=>trivial
 | _ :: _,_ :: _,⟨a,t⟩=>⟨h _ _ a,AllR.imp h t⟩
 | [],_ :: _,z=>z.elim
 | _ :: _,[],z=>z.elim
theorem AllR.len:∀ {xs:List V} {ks:List α},AllR R xs ks -> xs.length = ks.length
 | [],[],_=>rfl
 | _ :: xs,_ :: ks,⟨_,t⟩=>congrArg (· + 1) (AllR.len t)
 | [],_ :: _,h=>h.elim
 | _ :: _,[],h=>h.elim
theorem AllR.get:∀ {xs:List V} {ks:List α} {i:Nat} {x:V},AllR R xs ks -> xs[i]? = some x -> ∃ k,ks[i]? = some k /\ R x k
 | _ :: _,k :: _,0,x,⟨h,_⟩,e=>by
  obtain rfl:=Option.some.inj e
  exact ⟨k,rfl,h⟩
 | _ :: _,_ :: _,i + 1,x,⟨_,t⟩,e=>AllR.get (i:=i) t e
 | [],[],i,x,_,e=>by cases e
 | [],_ :: _,_,_,h,_=>h.elim
 | _ :: _,[],_,_,h,_=>h.elim
theorem AllR.getR:∀ {xs:List V} {ks:List α} {i:Nat} {k:α},AllR R xs ks -> ks[i]? = some k -> ∃ x,xs[i]? = some x /\ R x k
 | x :: _,_ :: _,0,k,⟨h,_⟩,e=>by
  obtain rfl:=Option.some.inj e
  exact ⟨x,rfl,h⟩
 | _ :: _,_ :: _,i + 1,k,⟨_,t⟩,e=>AllR.getR (i:=i) t e
 | [],[],i,k,_,e=>by cases e
 | [],_ :: _,_,_,h,_=>h.elim
 | _ :: _,[],_,_,h,_=>h.elim
theorem AllR.app:∀ {xs ys:List V} {ks js:List α},AllR R xs ks -> AllR R ys js -> AllR R (xs ++ ys) (ks ++ js)
 | [],_,[],_,_,h=>h
 | _ :: _,_,_ :: _,_,⟨h,t⟩,q=>⟨h,AllR.app t q⟩
 | [],_,_ :: _,_,h,_=>h.elim
 | _ :: _,_,[],_,h,_=>h.elim
theorem AllR.one {x:V} {k:α} (h:R x k):AllR R [x] [k]:=⟨h,trivial⟩
theorem AllR.take:∀ {xs:List V} {ks:List α} {n:Nat},AllR R xs ks -> AllR R (xs.take n) (ks.take n)
 | [],[],n,_=>by rw [List.take_nil,List.take_nil]; trivial
 | _ :: _,_ :: _,0,_=>trivial
 | _ :: _,_ :: _,n + 1,⟨h,t⟩=>⟨h,AllR.take t⟩
 | [],_ :: _,_,h=>h.elim
 | _ :: _,[],_,h=>h.elim
end
def look:Deed:=⟨0,none,none⟩
def XE (ds:List Deed):Prop:=∀ d ∈ ds,d.Ok
def runD (ds:List Deed):Deed:=ds.foldl Wu look
theorem AllR.drop {α:Type} {R:V -> α -> Prop}:∀ {xs:List V} {ks:List α} {n:Nat},AllR R xs ks -> AllR R (xs.drop n) (ks.drop n)
 | [],[],n,_=>by rw [List.drop_nil,List.drop_nil]; trivial
 | _ :: _,_ :: _,0,h=>h
 | _ :: _,_ :: _,n + 1,⟨h,t⟩=>AllR.drop (n:=n) t
 | [],_ :: _,_,h=>h.elim
 | _ :: _,[],_,h=>h.elim
theorem sg {X:Cx} {K:FG7} (h:X.K = K):xD X (.builtin "len") (fun xs H Q=>∃ p ys,xs = [.ref p] /\ (SqL K H p ys \/ SqT K H p ys) /\ Q (.int ys.length) H):=by subst h; exact zC
def vg (K:FG7) (H:Hp) (x:V) (rows:List (List Int)):Prop:=∃ r xs,x = .ref r /\ SqT K H r xs /\ AllR (zS K H) xs rows
theorem Grow.boardsR {m:List Addr} {H H':Hp} (g:Grow m H H') {K:FG7} {xs:List V} {rows:List (List Int)} (h:AllR (zS K H) xs rows):AllR (zS K H') xs rows:=h.imp fun _ _ z=>g.board z
theorem Grow.rows {m:List Addr} {H H':Hp} (g:Grow m H H') {K:FG7} {x:V} {rows:List (List Int)} (h:vg K H x rows):vg K H' x rows:=by
 obtain ⟨r,xs,e,h1,h2⟩:=h
 exact ⟨r,xs,e,g.sqT h1,g.boardsR h2⟩
def Rng (m:Int) (xs:List Int):Prop:=∀ v ∈ xs,0 <= v /\ v < m
def Wv (R M:Nat) (rows:List (List Int)):Prop:=rows.length = R /\ ∀ row ∈ rows,row.length = M /\ Rng M row
theorem getI {xs:List Int} {i:Int} (h0:0 <= i) (h:i < xs.length):atI (xs.map V.int) i = some (V.int (xs.getD i.toNat 0)):=by
 have hj:i.toNat < xs.length:=by omega
 exact ZX (u8 h0 (by rw [List.length_map]; exact hj)) (by rw [List.getElem?_map,jP hj]; rfl)
theorem XF {K:FG7} {H:Hp} {xs:List V} {rows:List (List Int)} (h:AllR (zS K H) xs rows) {i:Int} (h0:0 <= i) (h1:i < rows.length):∃ a,atI xs i = some (V.ref a) /\ SqT K H a ((rows.getD i.toNat []).map V.int):=by
 have hj:i.toNat < rows.length:=by omega
 have e:rows[i.toNat]? = some (rows.getD i.toNat []):=by rw [List.getD_eq_getElem?_getD,List.getElem?_eq_getElem hj]; rfl
 obtain ⟨x,hx,a,rfl,hs⟩:=h.getR e
 exact ⟨a,ZX (u8 h0 (by rw [h.len]; exact hj)) hx,hs⟩
structure Fd (R:Nat) (tab:List (List Int)) (ns:List Int):Prop where
 tab:Wv R R tab
 ns:Rng R ns
section
variable {prog:Program} {w:World} {A:Around} {E:VS7} {s:Shared}
theorem re {jt t:Addr} {i:Nat} {vs:Array Value} {v:Value} {Q:VS7} (hit:s.heap.IsTupleIter jt t i) (ht:s.heap.IsTuple t vs) (hv:vs[i]? = some v)
  (hQ:∀ h',h'.IsTupleIter jt t (i + 1) -> Heap.SameBut jt s.heap h' -> Q v { s with heap:=h' }):wpAny (model prog w) A (Builtin.SmallTypes.nextOf (.ref jt)) Q E s:=by
 obtain ⟨oj,hoj,cj,dj⟩:=id hit
 obtain ⟨ot,hot,_,nt,dt⟩:=ht
 unfold Builtin.SmallTypes.nextOf
 refine wpAny_bind (wpAny_callSpecial?_slot (name:=Str.ofString "__next__") hit.typeIs F.slot_tuple_iterator_next (wpAny_call_entry F.slot_tuple_iterator_next hit.typeIs F.entry_tuple_iterator_next ?_ (F.args_tuple_iterator_next_1 _)))
 show wpAny _ _ (field (.ref jt) 0 >>= _) _ _ s
 refine wpAny_bind (wpAny_field hoj dj (x:=.ref t) rfl ?_); show wpAny _ _ (if (Value.ref t == Value.none) = true then _ else _) _ _ s
 rw [if_neg (show ¬ ((Value.ref t == Value.none) = true) by exact Bool.false_ne_true)]; show wpAny _ _ (field (.ref jt) 1 >>= _) _ _ s
 refine wpAny_bind (wpAny_field hoj dj (x:=.int i 0) rfl ?_); show wpAny _ _ (seqItems? (.ref t) >>= _) _ _ s
 refine wpAny_bind (wpAny_seqItems hot dt ?_); simp only [Int.toNat_natCast,hv]
 refine wpAny_bind (wpAny_setField hoj dj (by simp) (wpAny_pure ⟨v,rfl,wpAny_pure (hQ _ ⟨_,Heap.get?_update_self _ hoj (Obj.isFreed_of_fields (Obj.data_mapFields dj _)),(Obj.cls_mapFields ..).trans cj,by rw [Obj.data_mapFields dj]; simp [rawInt]⟩ (Heap.SameBut.update ..))⟩))
theorem uM {jt t:Addr} {i:Nat} {vs:Array Value} {Q:VS7} (hh:A.handled = none) (hit:s.heap.IsTupleIter jt t i) (ht:s.heap.IsTuple t vs) (hv:vs[i]? = none)
  (hE:∀ h' e,Heap.ExtBut jt s.heap h' -> (∃ o,h'.get? e = some o /\ o.cls = .type "StopIteration") -> E (.ref e) { s with heap:=h' }):wpAny (model prog w) A (Builtin.SmallTypes.nextOf (.ref jt)) Q E s:=by
 obtain ⟨oj,hoj,cj,dj⟩:=id hit
 obtain ⟨ot,hot,_,nt,dt⟩:=ht
 unfold Builtin.SmallTypes.nextOf
 refine wpAny_bind (wpAny_callSpecial?_slot (name:=Str.ofString "__next__") hit.typeIs F.slot_tuple_iterator_next (wpAny_call_entry F.slot_tuple_iterator_next hit.typeIs F.entry_tuple_iterator_next ?_ (F.args_tuple_iterator_next_1 _)))
 show wpAny _ _ (field (.ref jt) 0 >>= _) _ _ s
 refine wpAny_bind (wpAny_field hoj dj (x:=.ref t) rfl ?_); show wpAny _ _ (if (Value.ref t == Value.none) = true then _ else _) _ _ s
 rw [if_neg (show ¬ ((Value.ref t == Value.none) = true) by exact Bool.false_ne_true)]; show wpAny _ _ (field (.ref jt) 1 >>= _) _ _ s
 refine wpAny_bind (wpAny_field hoj dj (x:=.int i 0) rfl ?_); show wpAny _ _ (seqItems? (.ref t) >>= _) _ _ s
 refine wpAny_bind (wpAny_seqItems hot dt ?_); simp only [Int.toNat_natCast,hv]
 refine wpAny_bind (wpAny_rule (wpAny_bind (wpAny_setField hoj dj (by simp) ?_))); show wpAny _ _ (newExc (.type "StopIteration") [] >>= _) _ _ _
 refine wpAny_bind ?_; simp only [newExc,newTuple]
 refine wpAny_bind (wpAny_newObj_type ?_ (by size_fits)); refine wpAny_bind (m:=firstArgMember _ _) (wpAny_of_eq (a:=Value.none) (by first | rfl | (simp only [firstArgMember]; rfl)) ?_)
 refine wpAny_newObj_type ?_ (by size_fits); simp only [raiseNew]
 refine wpAny_bind (wpAny_handled ?_); (first | rw [show A.in1.handled = none from hh] | rw [hh])
 exact wpAny_bind (wpAny_pure (wpAny_throw (hE _ _ (((Heap.SameBut.update ..).extBut.push _).push _) ⟨_,Heap.get?_push_size _ rfl,rfl⟩)))
end
theorem jQ {prog:Program} {w:World} {A:Around} (hh:A.handled = none) (jt t:Addr) (hne:t ≠ jt) (vs:Array Value) :
  Draws prog w A jt [jt,t] vs.size (fun i v=>vs[i]? = some v) (fun i h=>h.IsTupleIter jt t i /\ h.IsTuple t vs) where
 live:=fun _ _ st=>let ⟨o,ho,_⟩:=st.1; ⟨o,ho⟩
 frame:=fun _ _ _ st hk=>⟨st.1.at (hk jt (by simp)),st.2.at (hk t (by simp))⟩
 item:=fun i s Q E hi st hQ=>re st.1 st.2 (v:=vs[i]) (by simp [hi]) fun h' hit' hs'=>hQ _ h' s.toks (by simp [hi]) ⟨hit',st.2.extBut hs'.extBut hne⟩ hs'
 done:=fun s Q E st hE=>uM hh st.1 st.2 (by simp) hE
theorem jR {prog:Program} {w:World} {A:Around} (hh:A.handled = none) (jt t:Addr) (vs:Array Value) {i:Nat} (hv:vs[i]? = none) :
  Draws prog w A jt [jt,t] i (fun _ _=>True) (fun j h=>j = i /\ h.IsTupleIter jt t i /\ h.IsTuple t vs) where
 live:=fun _ _ st=>let ⟨o,ho,_⟩:=st.2.1; ⟨o,ho⟩
 frame:=fun _ _ _ st hk=>⟨st.1,st.2.1.at (hk jt (by simp)),st.2.2.at (hk t (by simp))⟩
 item:=fun j s Q E hj st hQ=>absurd st.1 (Nat.ne_of_lt hj)
 done:=fun s Q E st hE=>uM hh st.2.1 st.2.2 hv hE
section
variable {X:Cx} {pins:List (Addr × Obj)} {σ:L2.St} {H:Hp} {s:Shared} {h':Heap}
theorem u9 {fp:List Addr} {t':Nat} (I:Inv X pins σ H s) (k:∀ b o,b ∉ fp -> s.heap.get? b = some o -> h'.get? b = some o) (ff:∀ b ∈ fp,FpOk X pins H b):Inv X pins σ H { s with heap:=h',toks:=t' }:=by
 have nit:∀ b u,H b = some u -> b ∉ fp:=fun b u e z=>by rw [(ff b z).1] at e; cases e
 refine I.step (g':=s.gens) (d':=s.drawn) (ch:=fp) (fun b hb=>?_) (fun b o _ _ hc e _=>k b o hc e) (fun b o _ _ hc e _=>⟨o.slots,k b o hc e⟩) (fun _ _ _ _ n=>n) (fun b o hc e=>⟨o,k b o hc e⟩) (fun _ _ e=>e) (fun _ _ _ e=>e) (fun b ps e=>⟨#[],by rw [e]; simp⟩) (fun m hm=>?_) (fun b u e=>?_) I.bare
 ·obtain ⟨_,f1,_,f3,f4,f5⟩:=ff b hb
  exact ⟨f3,f1,f4,f5⟩
 ·obtain ⟨o,es,ep,ho,r⟩:=hm
  exact ⟨o,es,ep,k _ o (fun z=>(ff _ z).2.1 rfl) ho,r⟩
 ·refine (I.hok b u e).stay (fun c v hc q=>k c v ?_ q) (fun _ q=>q) fun _ _ q=>q
  rcases hc with z | z
  ·rw [z]; exact nit b u e
  ·exact nit c _ z
theorem ql {fp:List Addr} {T:Addr} {o:HO} {t':Nat} (I:Inv X pins σ H s) (k:∀ b o,b ∉ fp -> s.heap.get? b = some o -> h'.get? b = some o) (ff:∀ b ∈ fp,FpOk X pins H b) (hT:s.heap.objs.size <= T)
  (new:ye X.prog X.w (upd H T o) h' T o):Inv X pins σ (upd H T o) { s with heap:=h',toks:=t' }:=by
 have hn:H T = none:=I.hok.fresh hT
 have I1:Inv X pins σ H { s with heap:=h',toks:=t' }:=u9 I k ff
 have hok:HOk X.prog X.w (upd H T o) h':=HOk.track I1.hok hn new
 refine I.step (g':=s.gens) (d':=s.drawn) (ch:=fp) (fun b hb=>?_) (fun b o _ _ hc e _=>k b o hc e) (fun b o _ _ hc e _=>⟨o.slots,k b o hc e⟩) (fun b u _ e n=>by rw [zu (Nat.ne_of_lt (Nat.lt_of_lt_of_le (Heap.lt_size e) hT))]; exact n) (fun b o hc e=>⟨o,k b o hc e⟩)
  (fun b xs e=>by rw [zu (zr e hn)]; exact e) (fun b u xs e=>by rw [zu (zr e hn)]; exact e) (fun b ps e=>⟨#[],by rw [zu (zr e hn),e]; simp⟩) (fun m hm=>?_) hok I.bare
 ·obtain ⟨_,f1,_,f3,f4,f5⟩:=ff b hb
  exact ⟨f3,f1,f4,f5⟩
 ·obtain ⟨o,es,ep,ho,r⟩:=hm
  exact ⟨o,es,ep,k _ o (fun z=>(ff _ z).2.1 rfl) ho,r⟩
end
def Ite (K:FG7) (a:Addr):It :=
 ⟨fun i H=>∃ xs x,SqT K H a xs /\ xs[i]? = some x,fun i H x H'=>∃ T v,H T = none /\ x = .ref T /\ H' = upd H T (.tup [.int i,v]) /\ ∀ xs,SqT K H a xs -> xs[i]? = some v,fun i H=>∃ xs,SqT K H a xs /\ xs.length <= i⟩
section
variable {X:Cx} {elts:List Expr} {kt:Nat} {pt:Pos}
theorem Yt:bootBuiltins "enumerate" = some (.type "enumerate"):=by decide +kernel
end
theorem ZY {K:FG7} {a:Addr} {xs:List V} {g:TG} {tb:TS} {D:Ends} {σ:L2.St} {H:Hp} (Pv:Nat -> L2.St -> Hp -> Prop) (h0:Pv 0 σ H) (hl:∀ i σ H,i <= xs.length -> Pv i σ H -> SqT K H a xs)
  (hs:∀ i x σ H T,xs[i]? = some x -> Pv i σ H -> H T = none -> g (.ref T) σ (upd H T (.tup [.int i,x])) fun σ2 H2=>tb { D with nx:=Pv (i + 1),ct:=Pv (i + 1),bk:=D.nx } σ2 H2) (hd:∀ σ H,Pv xs.length σ H -> D.nx σ H) :
  ∃ W:Nat -> Nat -> L2.St -> Hp -> Prop,(∃ m,W 0 m σ H) /\ ∀ i m σ H,W i m σ H →
   ((Ite K a).stop i H /\ D.nx σ H) \/ ((Ite K a).go i H /\ ∃ N:L2.St -> Hp -> Prop,(∀ σ' H',N σ' H' -> ∃ m',m' < m /\ W (i + 1) m' σ' H') /\ ∀ x H',(Ite K a).yld i H x H' -> g x σ H' fun σ2 H2=>tb { D with nx:=N,ct:=N,bk:=D.nx } σ2 H2):=by
 refine ⟨fun i m σ H=>m = xs.length - i /\ i <= xs.length /\ Pv i σ H,⟨xs.length,by simp,Nat.zero_le _,h0⟩,?_⟩
 rintro i m σ H ⟨rfl,hi,p⟩
 have q:=hl i σ H hi p
 by_cases hlt:i < xs.length
 ·refine .inr ⟨⟨xs,xs[i],q,by simp [hlt]⟩,Pv (i + 1),fun σ' H' p'=>⟨xs.length - (i + 1),by omega,rfl,hlt,p'⟩,fun x H' y=>?_⟩
  obtain ⟨T,v,hT,rfl,rfl,y⟩:=y
  exact hs i v σ H T (y xs q) p hT
 ·have e:i = xs.length:=by omega
  subst e
  exact .inl ⟨⟨xs,q,Nat.le_refl _⟩,hd σ H p⟩
theorem Ww {ds:List Deed} {i:Nat} (h:i < ds.length):ds[i]? = some (ds.getD i look):=by
 rw [List.getD_eq_getElem?_getD,List.getElem?_eq_getElem h]; rfl
def Wx (j:Int) (ks:List Ask):List Deed:=(ks.filter fun k=>decide (k.box = j)).map Ask.deed
structure GInv (b:List Int) (ks:List Ask) (g:List Deed × List Deed) (p:List Int × List Int):Prop where
 l1:g.1.length = b.length
 l2:g.2.length = ks.length
 p1:p.1.length = ks.length
 p2:p.2.length = b.length
 bd1:∀ d ∈ g.1,d.Ok /\ d.Bd (ks.length * 10 ^ 30)
 bd2:∀ d ∈ g.2,d.Ok /\ d.Bd (ks.length * 10 ^ 30)
 run:∀ j:Nat,j < b.length -> g.1.getD j look = runD (Wx j ks)
 val:∀ j:Nat,j < b.length -> p.2.getD j 0 = (g.1.getD j look).mk' (b.getD j 0)
 ans:∀ i k,ks[i]? = some k -> p.1.getD i 0 = (g.2.getD i look).mk' (b.getD k.box.toNat 0)
theorem AllR.set {α:Type} {R:V -> α -> Prop} {x:V} {k:α} (h:R x k):∀ {xs:List V} {ks:List α} {n:Nat},AllR R xs ks -> AllR R (xs.set n x) (ks.set n k)
 | [],[],n,_=>by cases n <;> trivial
 | _ :: _,_ :: _,0,⟨_,t⟩=>⟨h,t⟩
 | _ :: _,_ :: _,n + 1,⟨a,t⟩=>⟨a,AllR.set h t⟩
 | [],_ :: _,_,z=>z.elim
 | _ :: _,[],_,z=>z.elim
section
variable {K:FG7} {a:Addr} {xs:List V} {k:Nat} {tt:TT} {te:TE} {Q:VK} {σ:L2.St} {H:Hp}
theorem qW (p:V -> Bool) (Pv:Nat -> List V -> Hp -> Prop) (h0:Pv 0 [] H) (hl:∀ i ys H',Pv i ys H' -> SqT K H' a xs)
  (ht:∀ x H' (R:Bool -> Hp -> Prop),x ∈ xs -> R (p x) H' -> tt (σ.set k (some x)) H' R)
  (hs:∀ i x ys H',xs[i]? = some x -> Pv i ys H' -> p x = true -> te (σ.set k (some x)) H' fun y H5=>ys.length < sizeLine /\ Pv (i + 1) (ys ++ [y]) H5)
  (hn:∀ i x ys H',xs[i]? = some x -> Pv i ys H' -> p x = false -> Pv (i + 1) ys H')
  (hd:∀ ys H',Pv xs.length ys H' -> ∀ l,H' l = none -> Q (.ref l) (upd H' l (.lst ys))):vn (Itt K a) σ H (wP k) tt te Q:=by
 refine vz (xs:=xs) (fun i ys σ' H'=>(σ' = σ \/ ∃ e,σ' = σ.set k e) /\ Pv i ys H') ⟨.inl rfl,h0⟩ (fun i ys σ' H' _ p=>hl i ys H' p.2) ?_ (fun ys σ' H' p l hl=>hd ys H' p.2 l hl)
 rintro i x ys σ' H' hx ⟨hσ,pv⟩
 have e:σ'.set k (some x) = σ.set k (some x):=by
  rcases hσ with rfl | ⟨e,rfl⟩
  ·rfl
  ·rw [List.set_set]
 show tt (σ'.set k (some x)) H' _
 rw [e]
 refine ht x H' _ (List.mem_of_getElem? hx) ?_
 by_cases c:p x = true
 ·rw [if_pos c]
  have e2:(fun (y:V) (H5:Hp)=>ys.length < sizeLine /\ ((σ.set k (some x) = σ \/ ∃ e,σ.set k (some x) = σ.set k e) /\ Pv (i + 1) (ys ++ [y]) H5)) = fun y H5=>ys.length < sizeLine /\ Pv (i + 1) (ys ++ [y]) H5:=by
   funext y H5
   exact propext ⟨fun z=>⟨z.1,z.2.2⟩,fun z=>⟨z.1,.inr ⟨_,rfl⟩,z.2⟩⟩
  have z:=hs i x ys H' hx pv c
  rw [← e2] at z
  exact z
 ·rw [if_neg c]
  exact ⟨.inr ⟨_,rfl⟩,hn i x ys H' hx pv (by simpa using c)⟩
end
def figI (k st l:Int):Int:=Builtin.bitAnd (l / 2 ^ (k - st).toNat) 1
def wfI (k st l w:Int):Int:=Builtin.bitXor l (Builtin.bitXor (figI k st l) w * 2 ^ (k - st).toNat)
def wayN (k h s:Int):Nat -> Int
 | 0=>h
 | n + 1=>wfI k (1 + n) (wayN k h s n) (figI k (1 + n) s)
def swI (k st l:Int):Int:=Builtin.bitOr (l / 2 ^ (k - st + 1).toNat * 2 ^ (k - st).toNat) (Builtin.bitAnd l (1 * 2 ^ (k - st).toNat - 1))
def vo (k n:Int):List Int:=(List.range k.toNat).map fun i:Nat=>Builtin.bitAnd (n / 2 ^ (k - 1 - (0 + (i:Int))).toNat) 1
def numL (xs:List Int):Int:=xs.foldl (fun f o=>2 * f + o) 0
def ym (k h g:Int) (n:Nat):Int:=numL ((vo k g).take n ++ (vo k h).drop n)
def wv (k l:Int) (st:Nat):Int:=numL ((vo k l).take (st - 1) ++ (vo k l).drop st)
theorem jS:∀ k:Fin 5,∀ h:Fin 16,∀ g:Fin 16,h.val < 2 ^ k.val -> g.val < 2 ^ k.val -> ∀ n:Fin 5,n.val <= k.val →
  (wayN k.val h.val g.val n.val = ym k.val h.val g.val n.val /\ 0 <= ym k.val h.val g.val n.val /\ ym k.val h.val g.val n.val < 2 ^ k.val) ∧
  (1 <= n.val -> swI k.val n.val (ym k.val h.val g.val n.val) = wv k.val (ym k.val h.val g.val (n.val - 1)) n.val /\ wv k.val (ym k.val h.val g.val n.val) n.val = wv k.val (ym k.val h.val g.val (n.val - 1)) n.val /\ 0 <= wv k.val (ym k.val h.val g.val (n.val - 1)) n.val /\ wv k.val (ym k.val h.val g.val (n.val - 1)) n.val < 16):=by
 decide +kernel
theorem jT:∀ k:Fin 5,∀ st:Fin 5,st.val <= k.val -> ∀ l:Fin 16,(figI k.val st.val l.val = 0 \/ figI k.val st.val l.val = 1) /\ ∀ w:Fin 2,(Builtin.bitXor (figI k.val st.val l.val) w.val).natAbs < 2:=by
 decide +kernel
theorem qm {i j:Int} (h:-(2 ^ 60) < i /\ i < 2 ^ 60):IntMulOk i j:=PySem.IntMulOk.of_left (Nat.le_trans ((PySem.intBits_le_iff (m:=60)).mpr (by obtain ⟨a,b⟩:=h; omega)) (by decide))
theorem vh {k:Nat} (h:k <= 4):CPow 1 (k:Int):=⟨by omega,by omega,by decide⟩
theorem xr {k:Nat} (h:k <= 4):(2:Nat) ^ k <= 16:=Nat.le_trans (Nat.pow_le_pow_right (by decide) h) (by decide)
theorem yW {k:Nat}:(1:Int) * 2 ^ ((k:Int)).toNat = ((2 ^ k:Nat):Int):=by rw [Int.toNat_natCast,Int.one_mul,Int.natCast_pow]; rfl
theorem ZZ {k h g n:Nat} (k4:k <= 4) (hh:h < 2 ^ k) (hg:g < 2 ^ k) (hn:n <= k):wayN k h g n = ym k h g n /\ 0 <= ym k h g n /\ ym k h g n < 16:=by
 have p:=xr k4
 have z:=(jS ⟨k,by omega⟩ ⟨h,by omega⟩ ⟨g,by omega⟩ hh hg ⟨n,by omega⟩ hn).1
 refine ⟨z.1,z.2.1,?_⟩
 have z3:ym k h g n < (2:Int) ^ k:=z.2.2
 have:((2 ^ k:Nat):Int) = (2:Int) ^ k:=Int.natCast_pow 2 k
 omega
theorem figF {k st:Nat} {l:Int} (k4:k <= 4) (hs:st <= k) (l0:0 <= l) (l1:l < 16):(figI k st l = 0 \/ figI k st l = 1) /\ ∀ w:Int,w = 0 \/ w = 1 -> (Builtin.bitXor (figI k st l) w).natAbs < 2 ^ 64:=by
 obtain ⟨n,rfl⟩:∃ n:Nat,l = n:=⟨l.toNat,by omega⟩
 have z:=jT ⟨k,by omega⟩ ⟨st,by omega⟩ hs ⟨n,by omega⟩
 refine ⟨z.1,fun w hw=>?_⟩
 rcases hw with rfl | rfl
 ·exact Nat.lt_trans (z.2 0) (by decide)
 ·exact Nat.lt_trans (z.2 1) (by decide)
def yu (k h g:Nat):List Int:=(List.range (k + 1)).map fun n=>ym k h g n
theorem wR {k h g n:Nat} (hn:n <= k):(yu k h g).getD n 0 = ym k h g n:=by
 unfold yu
 rw [List.getD_eq_getElem?_getD,List.getElem?_map,List.getElem?_range (by omega)]; rfl
theorem Wy {ys:List Int} {v:Int}:atI ((ys ++ [v]).map V.int) (-1) = some (V.int v):=by
 refine ZX (j:=ys.length) ?_ ?_
 ·unfold ixN
  rw [List.length_map,List.length_append,if_neg (by decide),if_pos (by show -((ys.length + 1:Nat):Int) <= -1; omega)]
  exact congrArg some (by show (-1 + ((ys.length + 1:Nat):Int)).toNat = ys.length; omega)
 ·rw [List.getElem?_map]; simp
def xm (_:FG7):Sp:=sp3 fun x y z H Q=>∃ (k st:Nat) (l:Int),x = .int k /\ y = .int st /\ z = .int l /\ st <= k /\ Q (.int (figI k st l)) H
def xf (_:FG7):Sp:=sp4 fun x y z u H Q=>∃ (k st:Nat) (l w:Int),x = .int k /\ y = .int st /\ z = .int l /\ u = .int w /\ k <= 4 /\ st <= k /\ 0 <= l /\ l < 16 /\ (w = 0 \/ w = 1) /\ Q (.int (wfI k st l w)) H
def sh (_:FG7):Sp:=sp4 fun x y z u H Q=>∃ (k st:Nat) (l s:Int),x = .int k /\ y = .int st /\ z = .int l /\ u = .int s /\ k <= 4 /\ st <= k /\ 0 <= l /\ l < 16 /\ 0 <= s /\ s < 16 /\ Q (.int (wfI k st l (figI k st s))) H
def qo (K:FG7):Sp:=sp3 fun x y z H Q=>∃ k h g:Nat,x = .int k /\ y = .int h /\ z = .int g /\ k <= 4 /\ h < 2 ^ k /\ g < 2 ^ k /\ ∀ y H',Grow [] H H' -> zS K H' y (yu k h g) -> Q y H'
def y8 (_:FG7):Sp:=sp3 fun x y z H Q=>∃ (k st:Nat) (l:Int),x = .int k /\ y = .int st /\ z = .int l /\ k <= 4 /\ st <= k /\ 0 <= l /\ l < 16 /\ Q (.int (swI k st l)) H
section
variable {X:Cx}
theorem rf:∀ {ns:List Int} {us:List Value},Vals (ns.map V.int) us -> ∀ (i:Nat) (v:Value),us[i]? = some v -> ∃ t,v = Value.int ((ns[i]?).getD 0) t
 | [],_,.nil,i,v,e=>by cases e
 | n :: ns,_,.cons r t,0,v,e=>by
  obtain ⟨u,rfl⟩:=r
  obtain rfl:=Option.some.inj e
  exact ⟨u,rfl⟩
 | n :: ns,_,.cons r t,i + 1,v,e=>rf t i v e
theorem jU (hcalm:X.calm = true):xD X (.builtin "max") (fun xs H Q=>∃ (l:Addr) (ns:List Int),xs = [.ref l] /\ SqL X.K H l (ns.map V.int) /\ 0 < ns.length /\ ∀ M,M ∈ ns -> (∀ a ∈ ns,a <= M) -> Q (.int M) H):=by
 intro pins s σ H xs us Q I r h
 obtain ⟨l,ns,rfl,hl,h0,q⟩:=h
 obtain ⟨u,rfl,rx⟩:=we r
 cases (show u = Value.ref l from rx)
 obtain ⟨vs,rv,pl,_⟩:=I.list hl
 have hl':s.heap.IsList l vs.toArray:=pl.isList
 have hb:=rf rv
 have hlen:ns.length = vs.length:=by rw [← rv.length,List.length_map]
 have hlt:l < s.heap.objs.size:=by obtain ⟨_,e,_⟩:=hl'; exact Heap.lt_size e
 have best:=argBest_gt (fun i=>(ns[i]?).getD 0) (vs.length - 1)
 refine call_max_walk (wpAny_pyIter_list hl' ?_)
 refine ⟨s.heap.objs.size,[s.heap.objs.size,l],[s.heap.objs.size],vs.toArray.size,_,_,fun i j=>decide ((ns[i]?).getD 0 > (ns[j]?).getD 0),rfl,Walks.list (A:=X.A.in1) (I.ok.hd hcalm) _ l (Nat.ne_of_lt hlt) vs.toArray,
  ⟨⟨_,Heap.get?_push_size _ rfl,rfl,rfl⟩,hl'.push _⟩,?_,?_,CmpOf.ints_gt _ (fun i v hP=>hb i v (by simpa using hP)),fun v h' tk hP hk=>?_⟩
 ·intro b hb
  have sz:(s.heap.push { cls:=.type "list_iterator",data:=.fields #[.ref l,.int 0 0] }).objs.size = s.heap.objs.size + 1:=Heap.size_push ..
  rcases List.mem_cons.mp hb with z | z
  ·rw [z]; show _ < (s.heap.push _).objs.size; rw [sz]; omega
  ·rw [List.mem_singleton.mp z]; show _ < (s.heap.push _).objs.size; rw [sz]; exact Nat.lt_succ_of_lt hlt
 ·rw [List.size_toArray]; omega
 ·rw [List.size_toArray] at hP
  obtain ⟨t,rfl⟩:=hb _ v (by simpa using hP)
  have hi:argBest (fun i j=>decide ((ns[i]?).getD 0 > (ns[j]?).getD 0)) (vs.length - 1) < ns.length:=by have:=best.1; omega
  refine ⟨.int ((ns[argBest (fun i j=>decide ((ns[i]?).getD 0 > (ns[j]?).getD 0)) (vs.length - 1)]?).getD 0),H,I.kept (t':=tk) (h':=h') (LSm.kept_iter hk),⟨t,rfl⟩,q _ ?_ ?_⟩
  ·rw [List.getElem?_eq_getElem hi]; exact List.getElem_mem hi
  ·intro a ha
   obtain ⟨j,hj,rfl⟩:=List.getElem_of_mem ha
   have:=best.2 j (by omega)
   rw [List.getElem?_eq_getElem hj] at this
   exact this
theorem jV (hcalm:X.calm = true):xD X (.builtin "min") (fun xs H Q=>∃ (l:Addr) (ns:List Int),xs = [.ref l] /\ SqL X.K H l (ns.map V.int) /\ 0 < ns.length /\ ∀ M,M ∈ ns -> (∀ a ∈ ns,M <= a) -> Q (.int M) H):=by
 intro pins s σ H xs us Q I r h
 obtain ⟨l,ns,rfl,hl,h0,q⟩:=h
 obtain ⟨u,rfl,rx⟩:=we r
 cases (show u = Value.ref l from rx)
 obtain ⟨vs,rv,pl,_⟩:=I.list hl
 have hl':s.heap.IsList l vs.toArray:=pl.isList
 have hb:=rf rv
 have hlen:ns.length = vs.length:=by rw [← rv.length,List.length_map]
 have hlt:l < s.heap.objs.size:=by obtain ⟨_,e,_⟩:=hl'; exact Heap.lt_size e
 have best:=argBest_lt (fun i=>(ns[i]?).getD 0) (vs.length - 1)
 refine call_min_walk (wpAny_pyIter_list hl' ?_)
 refine ⟨s.heap.objs.size,[s.heap.objs.size,l],[s.heap.objs.size],vs.toArray.size,_,_,fun i j=>decide ((ns[i]?).getD 0 < (ns[j]?).getD 0),rfl,Walks.list (A:=X.A.in1) (I.ok.hd hcalm) _ l (Nat.ne_of_lt hlt) vs.toArray,
  ⟨⟨_,Heap.get?_push_size _ rfl,rfl,rfl⟩,hl'.push _⟩,?_,?_,CmpOf.ints_lt _ (fun i v hP=>hb i v (by simpa using hP)),fun v h' tk hP hk=>?_⟩
 ·intro b hb
  have sz:(s.heap.push { cls:=.type "list_iterator",data:=.fields #[.ref l,.int 0 0] }).objs.size = s.heap.objs.size + 1:=Heap.size_push ..
  rcases List.mem_cons.mp hb with z | z
  ·rw [z]; show _ < (s.heap.push _).objs.size; rw [sz]; omega
  ·rw [List.mem_singleton.mp z]; show _ < (s.heap.push _).objs.size; rw [sz]; exact Nat.lt_succ_of_lt hlt
 ·rw [List.size_toArray]; omega
 ·rw [List.size_toArray] at hP
  obtain ⟨t,rfl⟩:=hb _ v (by simpa using hP)
  have hi:argBest (fun i j=>decide ((ns[i]?).getD 0 < (ns[j]?).getD 0)) (vs.length - 1) < ns.length:=by have:=best.1; omega
  refine ⟨.int ((ns[argBest (fun i j=>decide ((ns[i]?).getD 0 < (ns[j]?).getD 0)) (vs.length - 1)]?).getD 0),H,I.kept (t':=tk) (h':=h') (LSm.kept_iter hk),⟨t,rfl⟩,q _ ?_ ?_⟩
  ·rw [List.getElem?_eq_getElem hi]; exact List.getElem_mem hi
  ·intro a ha
   obtain ⟨j,hj,rfl⟩:=List.getElem_of_mem ha
   have:=best.2 j (by omega)
   rw [List.getElem?_eq_getElem hj] at this
   exact this
end
theorem Deed.Sm.bd2 {d:Deed} (h:d.Sm):d.Bd (2 * 10 ^ 30):=h.bd.mono (by decide)
section
variable {X:Cx} {pins:List (Addr × Obj)} {σ:L2.St} {H2:Hp} {s₂:Shared} {it:Addr} {fp:List Addr} {tn:Nat -> Heap -> Prop} {J:It} {scope:Scope} {cl:List (Str × Addr)} {N':List Str} {sub:List (Option Nat)}
theorem jW {C D:Addr} {s₀:Shared} {tg:Expr} {pos:Pos} {elt iter:Expr} {ifs:List Expr} {g:TG} {tt:TT} {te:TE} {Q:VK} {RR:Value -> Addr -> Result -> Shared -> Prop} {W:Nat -> Nat -> List V -> L2.St -> Hp -> Prop}
  (I:Inv X pins σ H2 s₂) (hcalm:X.calm = true) (T:Turn X.prog X.w X.K tg J fp it tn) (f2:∀ b ∈ fp,FpOk X pins H2 b) (hfp:∀ b ∈ fp,b < s₂.heap.objs.size)
  (hs₀:∀ b o,s₂.heap.get? b = some o -> s₀.heap.get? b = some o) (hos:s₀.os = s₂.os) (hD:s₂.heap.objs.size <= D) (hC:s₂.heap.objs.size <= C) (hDC:D ≠ C)
  (hcl1:∀ x c,cl.lookup x = some c -> X.env.cells.lookup x = some c)
  (hg:PG (cxC X N' scope cl C D fp s₀ H2) tg g) (ht:PIfs (cxC X N' scope cl C D fp s₀ H2) ifs tt) (he:PE (cxC X N' scope cl C D fp s₀ H2) elt te)
  (turn:∀ i m ys σ' H',W i m ys σ' H' →
   (J.stop i H' /\ ∀ l,H' l = none -> Q (.ref l) (upd H' l (.lst ys))) ∨
   (J.go i H' /\ ∃ Nn:List V -> L2.St -> Hp -> Prop,(∀ zs σ2 H2,Nn zs σ2 H2 -> ∃ m',m' < m /\ W (i + 1) m' zs σ2 H2) ∧
    ∀ x H2,J.yld i H' x H2 -> g x σ' H2 fun σ2 H3=>tt σ2 H3 fun b H4=>if b = true then te σ2 H4 fun y H5=>ys.length < sizeLine /\ Nn (ys ++ [y]) σ2 H5 else Nn ys σ2 H4))
  (hRR:∀ (D C:Addr) (oC:Obj) (m:Str -> Option Value) (s':Shared) (Hf:Hp),Inv X (pins ++ [(C,oC)]) σ Hf s' -> s'.heap.Ns C m -> FpOk X pins Hf C -> Q (.ref D) Hf -> RR (.ref D) C (.ok .next) s')
  (n:Nat) (s:Shared) (h:∃ i ys us k σ' H',Inv (cxC X N' scope cl C D fp s₀ H2) pins σ' H' s /\ tn i s.heap /\ (∀ b ∈ fp,H' b = none) /\ H' D = none ∧
   s.heap.get? D = some { cls:=.type "list",data:=.seq (us:List Value).toArray k } /\ Vals ys us /\ ys.length <= sizeLine /\ W i n ys σ' H') :
  codeAny (model X.prog X.w) X.A (.compLoop (.ListComp elt [⟨tg,iter,ifs,0⟩] scope pos) 0 (.ref it) (.ref D) (compEnvC scope cl C X.env)) (RR (.ref D) C) s:=by
 have frsz:∀ b ∈ frs X.stack,b < s₂.heap.objs.size:=fun b hb=>by
  rcases List.mem_cons.mp (I.stkSub b hb) with z | z
  ·rw [z]; exact I.lt
  ·exact Nat.lt_of_not_le fun q=>I.nofs q z
 have cells:∀ x c,cl.lookup x = some c -> c < s₂.heap.objs.size:=fun x c e=>let ⟨v,q⟩:=I.cell x c (hcl1 x c e); q.lt
 have pinsz:∀ p ∈ X.pn ++ pins,p.1 < s₂.heap.objs.size:=fun p hp=>Heap.lt_size (I.pin p hp).1
 refine t8 (fun n s=>∃ i ys us k σ' H',Inv (cxC X N' scope cl C D fp s₀ H2) pins σ' H' s /\ tn i s.heap /\ (∀ b ∈ fp,H' b = none) /\ H' D = none ∧
   s.heap.get? D = some { cls:=.type "list",data:=.seq (us:List Value).toArray k } /\ Vals ys us /\ ys.length <= sizeLine /\ W i n ys σ' H') ?_ n h
 rintro n s ⟨i,ys,us,k,σ',H',I',st',fr,hn,hy,rv,hz,w'⟩
 have pD:Inv (cxC X N' scope cl C D fp s₀ H2) (pins ++ [(D,{ cls:=.type "list",data:=.seq us.toArray k })]) σ' H' s:=I'.pins_of fun p hp=>by
  rcases List.mem_append.mp hp with hp | hp
  ·exact I'.pin p (List.mem_append_right _ hp)
  ·rw [List.mem_singleton.mp hp]
   exact ⟨hy,hn,hDC,fun z=>absurd (Nat.lt_of_lt_of_le (frsz _ z) hD) (Nat.lt_irrefl _),fun v z=>by cases z⟩
 have fpok:∀ {H'':Hp},(∀ b ∈ fp,H'' b = none) -> ∀ b ∈ fp,FpOk (cxC X N' scope cl C D fp s₀ H2) (pins ++ [(D,{ cls:=.type "list",data:=.seq us.toArray k })]) H'' b:=fun hz b hb=>by
  refine ⟨hz b hb,Nat.ne_of_lt (Nat.lt_of_lt_of_le (hfp b hb) hC),fun z=>?_,.inl (List.mem_cons_of_mem _ hb),fun x c e=>(f2 b hb).2.2.2.2.1 x c (hcl1 x c e),fun p hp=>?_⟩
  ·rcases List.mem_cons.mp (I.stkSub b z) with z | z
   ·exact (f2 b hb).2.1 z
   ·exact (f2 b hb).2.2.1 z
  ·rcases List.mem_append.mp hp with hp | hp
   ·exact (f2 b hb).2.2.2.2.2 p (List.mem_append_left _ hp)
   ·rcases List.mem_append.mp hp with hp | hp
    ·exact (f2 b hb).2.2.2.2.2 p (List.mem_append_right _ hp)
    ·rw [List.mem_singleton.mp hp]
     exact Nat.ne_of_gt (Nat.lt_of_lt_of_le (hfp b hb) hD)
 rcases turn i n ys σ' H' w' with ⟨stop,q⟩ | ⟨go,Nn,hN,step⟩
 ·refine thn (T.done (cxC X N' scope cl C D fp s₀ H2) rfl rfl rfl hcalm i _ s σ' H' (fun _ _=>False) pD (fpok fr) st' stop) fun r s1 ⟨hr,I1⟩=>?_
  subst hr
  have hy1:=(I1.pin (D,{ cls:=.type "list",data:=.seq us.toArray k }) (by simp)).1
  obtain ⟨m,hm,_⟩:=I1.loc
  obtain ⟨oC,es,ep,hoC,hdC,_⟩:=id hm
  obtain ⟨IX,fpc⟩:=qj I hs₀ hos hD hC hDC f2 I1.unpinned hn hy1 rv hz hoC (by intro v z; rw [hdC] at z; cases z)
  exact hRR D C oC m s1 _ IX hm fpc (q D hn)
 ·refine thn (T.item (cxC X N' scope cl C D fp s₀ H2) rfl rfl rfl hcalm i _ s σ' H' (fun _ _=>False) pD (fpok fr) st' go) fun r s1 ⟨u,hr,h4⟩=>?_
  subst hr
  refine thn h4 fun _ s2 ⟨x5,H5,I5,r5,y5,st5,fr5⟩=>?_
  have I5':=I5.pinned (fpok fr5) (T.obj _ _ st5)
  refine thn (hg _ s2 σ' H5 x5 u _ I5' r5 (step x5 H5 y5)) fun _ s3 ⟨σ6,H6,I6,q6⟩=>?_
  refine thn (ht _ s3 σ6 H6 _ I6 q6) fun ok s4 ⟨H7,I7,q7⟩=>?_
  have stay:∀ {σ7:L2.St} {H7:Hp} {s7:Shared},Inv (cxC X N' scope cl C D fp s₀ H2) (pins ++ [(D,{ cls:=.type "list",data:=.seq us.toArray k })] ++ uF fp s2.heap) σ7 H7 s7 →
    (∀ b ∈ fp,∀ o,s2.heap.get? b = some o -> s7.heap.get? b = some o) /\ (∀ b ∈ fp,H7 b = none) /\ H7 D = none /\ s7.heap.get? D = some { cls:=.type "list",data:=.seq us.toArray k }:=fun {σ7 H7 s7} I7=>by
   have d:=I7.pin (D,{ cls:=.type "list",data:=.seq us.toArray k }) (by simp)
   refine ⟨fun b hb o e=>(I7.pin (b,o) (List.mem_append_right _ (List.mem_append_right _ (yS hb e)))).1,fun b hb=>?_,d.2.1,d.1⟩
   obtain ⟨o,e,_⟩:=T.obj _ _ st5 b hb
   exact (I7.pin (b,o) (List.mem_append_right _ (List.mem_append_right _ (yS hb e)))).2.1
  cases ok with
  | false =>
   rw [if_neg (by decide)] at q7 ⊢
   obtain ⟨k1,k2,k3,k4⟩:=stay I7
   obtain ⟨m',hm,w7⟩:=hN ys σ6 H7 q7
   exact ⟨m',hm,i + 1,ys,us,k,σ6,H7,I7.unpinned.unpinned,T.keep _ _ _ st5 k1,k2,k3,k4,rv,hz,w7⟩
  | true =>
   rw [if_pos rfl] at q7 ⊢
   refine thn (he _ s4 σ6 H7 _ I7 q7) fun v s5 ⟨y,H8,I8,r8,hl8,n8⟩=>?_
   obtain ⟨k1,k2,k3,k4⟩:=stay I8
   refine wpAny_list_append_plain (l:=D) ⟨k,k4⟩ (fun h' pl sb=>?_) (by rw [List.size_toArray,← rv.length]; exact hz)
   obtain ⟨k',e'⟩:=pl
   obtain ⟨m',hm,w8⟩:=hN _ σ6 H8 n8
   refine ⟨m',hm,i + 1,ys ++ [y],us ++ [v],k',σ6,H8,?_,T.keep _ _ _ (T.keep _ _ _ st5 k1) fun b hb o e=>sb.extBut b o (Nat.ne_of_lt (Nat.lt_of_lt_of_le (hfp b hb) hD)) e,k2,k3,?_,rv.append (.cons r8 .nil),?_,w8⟩
   ·exact (I8.unpinned.unpinned).turned (it:=D) (t':=s5.toks) (h':=h') (fun b o hb e=>sb.extBut b o hb e) k3 hDC (.inl (by simp)) (fun x c e=>Nat.ne_of_lt (Nat.lt_of_lt_of_le (cells x c e) hD)) (fun p hp=>Nat.ne_of_lt (Nat.lt_of_lt_of_le (pinsz p hp) hD))
   ·rw [e']; simp
   ·rw [List.length_append]; exact hl8
theorem vP {tg:Expr} {pos:Pos} {elt iter:Expr} {ifs:List Expr} {g:TG} {tt:TT} {te:TE} {E:VS7} {Q:VK} {RR:Value -> Addr -> Result -> Shared -> Prop}
  (I:Inv X pins σ H2 s₂) (hcalm:X.calm = true) (T:Turn X.prog X.w X.K tg J fp it tn) (st:tn 0 s₂.heap) (f2:∀ b ∈ fp,FpOk X pins H2 b)
  (S:CSc X scope N' sub) (hcl1:∀ x c,cl.lookup x = some c -> X.env.cells.lookup x = some c) (hcl2:∀ y ∈ scope.names,y.2 = .free -> ∃ c,cl.lookup y.1 = some c)
  (hg:∀ C D fp s H,PG (cxC X N' scope cl C D fp s H) tg g) (ht:∀ C D fp s H,PIfs (cxC X N' scope cl C D fp s H) ifs tt) (he:∀ C D fp s H,PE (cxC X N' scope cl C D fp s H) elt te)
  (hW:vn J (capt sub σ) H2 g tt te Q)
  (hRR:∀ (D C:Addr) (oC:Obj) (m:Str -> Option Value) (s':Shared) (Hf:Hp),Inv X (pins ++ [(C,oC)]) σ Hf s' -> s'.heap.Ns C m -> FpOk X pins Hf C -> Q (.ref D) Hf -> RR (.ref D) C (.ok .next) s') :
  wpAny (model X.prog X.w) X.A (newList []) (fun acc s₃=>wpAny (model X.prog X.w) X.A (newFunctionEnv scope X.env.globals cl [] X.env.qual none .none (some X.env)) (fun cenv s₄ =>
   codeAny (model X.prog X.w) X.A (.compStart (.ListComp elt [⟨tg,iter,ifs,0⟩] scope pos) 0 (.ref it) acc { cenv with scope:=relabel scope X.env }) (RR acc cenv.locals) s₄) E s₃) E s₂:=by
 obtain ⟨W,⟨m0,w0⟩,turn⟩:=hW
 refine wpAny_newObj_type (wpAny_newFunctionEnv S.nocell (by intro y hy; simp at hy) (fun h₁ hns₁ hsb₁=>?_) S.kind)
 dsimp only at hns₁ hsb₁ ⊢
 have hC:(s₂.heap.push { cls:=.type "list",dict:=none,data:=.seq ([]:List Value).toArray }).objs.size = s₂.heap.objs.size + 1:=Heap.size_push ..
 rw [hC] at hns₁ hsb₁ ⊢
 have hk:∀ b o,(s₂.heap.push { cls:=.type "list",dict:=none,data:=.seq ([]:List Value).toArray }).get? b = some o -> h₁.get? b = some o:=fun b o e =>
  hsb₁.extBut b o (by have:=Heap.lt_size e; rw [hC] at this; exact Nat.ne_of_lt this) (Heap.get?_push_of_some _ e)
 have hfp:∀ b ∈ fp,b < s₂.heap.objs.size:=fun b hb=>by
  obtain ⟨o,e,_⟩:=T.obj _ _ st b hb
  exact Heap.lt_size e
 have I0:=uJ (tk:=s₂.toks + ([]:List (Str × Value)).length) I S hcl1 hcl2 f2 hfp hns₁ hk
 have hD0:h₁.get? s₂.heap.objs.size = some { cls:=.type "list",data:=.seq ([]:List Value).toArray 0 }:=hk _ _ (Heap.get?_push_size _ rfl)
 have loop:codeAny (model X.prog X.w) X.A (.compLoop (.ListComp elt [⟨tg,iter,ifs,0⟩] scope pos) 0 (.ref it) (.ref s₂.heap.objs.size) (compEnvC scope cl (s₂.heap.objs.size + 1) X.env)) (RR (.ref s₂.heap.objs.size) (s₂.heap.objs.size + 1)) { s₂ with heap:=h₁,toks:=s₂.toks + ([]:List (Str × Value)).length } :=
  jW (s₀:={ s₂ with heap:=s₂.heap.push { cls:=.type "list",dict:=none,data:=.seq ([]:List Value).toArray } }) (C:=s₂.heap.objs.size + 1) (D:=s₂.heap.objs.size) I hcalm T f2 hfp (fun b o e=>Heap.get?_push_of_some _ e) rfl (Nat.le_refl _) (Nat.le_succ _) (Nat.ne_of_lt (Nat.lt_succ_self _)) hcl1 (hg _ _ _ _ _) (ht _ _ _ _ _) (he _ _ _ _ _) turn hRR m0 _
   ⟨0,[],[],0,capt sub σ,H2,I0,T.keep _ _ _ st fun b hb o e=>hk b o (Heap.get?_push_of_some _ e),fun b hb=>(f2 b hb).1,I.hok.fresh (Nat.le_refl _),hD0,.nil,Nat.zero_le _,w0⟩
 exact codeAny_compStart_list loop (T.self _ _ _ _ _ (T.keep _ _ _ st fun b hb o e=>hk b o (Heap.get?_push_of_some _ e)) loop)
end
section
variable {X:Cx} {scope:Scope} {N':List Str} {sub:List (Option Nat)} {tg:Expr} {pos:Pos} {elt iter:Expr} {ifs:List Expr} {wi:TI} {g:TG} {tt:TT} {te:TE}
theorem ya (S:CSc X scope N' sub) (hcalm:X.calm = true) (hi:PI X tg iter wi)
  (hg:∀ cl C D fp s H,PG (cxC X N' scope cl C D fp s H) tg g) (ht:∀ cl C D fp s H,PIfs (cxC X N' scope cl C D fp s H) ifs tt) (he:∀ cl C D fp s H,PE (cxC X N' scope cl C D fp s H) elt te)
  (hs:∀ x,foldedSetIterable iter X.env x = pure x:=by intro _; rfl):PE X (.ListComp elt [⟨tg,iter,ifs,0⟩] scope pos) (ZV wi sub g tt te):=by
 intro pins s σ H Q I h
 obtain ⟨cl,hclos,hcl1,hcl2⟩:=S.clos I
 rw [eval_ListComp]
 refine wpAny_comprehension_free (use:=none) rfl hs hclos S.kind S.names (thn (hi pins s σ H _ I h) fun v s1 h1=>thn h1 fun itv s2 h2=>?_)
 obtain ⟨it,fp,tn,J,H2,e,I2,T,st2,f2,hW⟩:=h2
 subst e
 refine vP (RR:=fun acc C=>compPost (model X.prog X.w) X.A X.xe none (EP X pins σ Q) acc C) I2 hcalm T st2 f2 S hcl1 hcl2 (hg cl) (ht cl) (he cl) hW ?_
 intro D C oC m s' Hf IX hm fpc q
 refine ⟨m,hm,fun h' sb=>⟨.ref D,Hf,?_,rfl,q⟩⟩
 exact (IX.unpinned).turned (it:=C) (t':=s'.toks) (h':=h') (fun b o hb e=>sb.extBut b o hb e) fpc.1 fpc.2.1 fpc.2.2.2.1 fpc.2.2.2.2.1 fpc.2.2.2.2.2
theorem qp {i:Nat} {y:Str} {py spos:Pos} (hN:X.N.Nodup) (hiN:X.N[i]? = some y) (hy:X.env.scope.names.lookup y = some .local) (S:CSc X scope N' sub) (hcalm:X.calm = true) (hi:PI X tg iter wi)
  (hg:∀ cl C D fp s H,PG (cxC X N' scope cl C D fp s H) tg g) (ht:∀ cl C D fp s H,PIfs (cxC X N' scope cl C D fp s H) ifs tt) (he:∀ cl C D fp s H,PE (cxC X N' scope cl C D fp s H) elt te)
  (hsw:swapsWith (.ListComp elt [⟨tg,iter,ifs,0⟩] scope pos) (some (.Name y py)) spos.line X.env = pure true:=by rfl)
  (hs:∀ x,foldedSetIterable iter X.env x = pure x:=by intro _; rfl):PS X (.Assign [.Name y py] (.ListComp elt [⟨tg,iter,ifs,0⟩] scope pos) spos) (tAsg (ZV wi sub g tt te) (wP i)):=by
 intro pins s σ H D I h
 obtain ⟨cl,hclos,hcl1,hcl2⟩:=S.clos I
 rw [exec_Assign_Name_used _ _ _ _ hsw]
 refine wpAny_bind (wpAny_standAt (wpAny_bind ?_))
 show wpAny _ X.A (do let _ ← comprehension (.ListComp elt [⟨tg,iter,ifs,0⟩] scope pos) scope X.env _ (newList []) false (eval iter X.env) (some (assign (.Name y py) X.env))) _ _ s
 refine wpAny_bind (wpAny_mono (wpAny_comprehension_free (use:=some (assign (.Name y py) X.env)) (Q:=fun _ s'=>SP X pins D .next s') rfl hs hclos S.kind S.names
  (thn (hi pins s σ H _ I h) fun v s1 h1=>thn h1 fun itv s2 h2=>?_)) (fun _ s' hq=>wpAny_pure (wpAny_pure hq)) fun _ _ e=>e)
 obtain ⟨it,fp,tn,J,H2,e,I2,T,st2,f2,hW⟩:=h2
 subst e
 refine vP (Q:=fun x H1=>wP i x σ H1 D.nx) (RR:=fun acc C=>compPost (model X.prog X.w) X.A X.xe (some (assign (.Name y py) X.env)) (fun _ s'=>SP X pins D .next s') acc C) I2 hcalm T st2 f2 S hcl1 hcl2 (hg cl) (ht cl) (he cl) hW ?_
 intro L C oC m s' Hf IX hm fpc q
 have st:=zn (X:=X) (pos:=py) hN hiN (.inl hy) (.inr hy) _ s' σ Hf (.ref L) (.ref L) D.nx IX rfl q
 refine thn st fun _ s'' ⟨σ2,H2,I2',q2⟩=>?_
 have p:=I2'.pin (C,oC) (by simp)
 have hm':s''.heap.Ns C m:=by
  obtain ⟨o,es,ep,e1,r⟩:=hm
  have z:=(IX.pin (C,oC) (by simp)).1
  rw [e1] at z; cases z
  exact ⟨_,es,ep,p.1,r⟩
 refine ⟨m,hm',fun h' sb=>⟨σ2,H2,?_,q2⟩⟩
 exact (I2'.unpinned).turned (it:=C) (t':=s''.toks) (h':=h') (fun b o hb e=>sb.extBut b o hb e) p.2.1 fpc.2.1 fpc.2.2.2.1 fpc.2.2.2.2.1 fpc.2.2.2.2.2
end
section
variable {prog:Program} {w:World} {A:Around} {E:VS7} {s:Shared}
theorem uN {h:Heap} {z TI TO:Addr} {f0:Value} (hz:IsZip h z TI TO f0) (v:Value):IsZip (h.update z (Obj.mapFields fun x=>x.setIfInBounds 0 v)) z TI TO v /\ Heap.SameBut z h (h.update z (Obj.mapFields fun x=>x.setIfInBounds 0 v)) :=
 ⟨Heap.get?_update_self _ hz rfl,Heap.SameBut.update ..⟩
theorem XG {h:Heap} {z TI TO:Addr} {f0:Value} (hz:IsZip h z TI TO f0):IsZip (h.update z (Obj.mapFields fun x=>x.setIfInBounds 1 (.bool false))) z TI TO f0 /\ Heap.SameBut z h (h.update z (Obj.mapFields fun x=>x.setIfInBounds 1 (.bool false))) :=
 ⟨Heap.get?_update_self _ hz rfl,Heap.SameBut.update ..⟩
theorem Yu {h:Heap} {T:Addr} {a b:Value} (hp:IsPair h T a b) (v:Value):IsPair (h.update T (Obj.mapSeq fun x=>x.setIfInBounds 0 v)) T v b /\ Heap.SameBut T h (h.update T (Obj.mapSeq fun x=>x.setIfInBounds 0 v)) :=
 ⟨Heap.get?_update_self _ hp rfl,Heap.SameBut.update ..⟩
theorem XH {h:Heap} {T:Addr} {a b:Value} (hp:IsPair h T a b) (v:Value):IsPair (h.update T (Obj.mapSeq fun x=>x.setIfInBounds 1 v)) T a v /\ Heap.SameBut T h (h.update T (Obj.mapSeq fun x=>x.setIfInBounds 1 v)) :=
 ⟨Heap.get?_update_self _ hp rfl,Heap.SameBut.update ..⟩
theorem jX {z TI TO i1 i2:Addr} {fp1 fp2:List Addr} {n1 n2 i:Nat} {P1 P2:Nat -> Value -> Prop} {St1 St2:Nat -> Heap -> Prop} {a b:Value} {Q:VS7}
  (D1:Draws prog w A i1 fp1 n1 P1 St1) (D2:Draws prog w A i2 fp2 n2 P2 St2)
  (hz:IsZip s.heap z TI TO .none) (hI:IsPair s.heap TI (.ref i1) (.ref i2)) (hO:IsPair s.heap TO a b) (st1:St1 i s.heap) (st2:St2 i s.heap) (l1:i < n1) (l2:i < n2)
  (z1:z ∉ fp1) (z2:z ∉ fp2) (o1:TO ∉ fp1) (o2:TO ∉ fp2) (x12:i2 ∉ fp1) (x21:i1 ∉ fp2) (iz1:i1 ≠ z) (iz2:i2 ≠ z) (io1:i1 ≠ TO) (io2:i2 ≠ TO) (oz:TO ≠ z) (tz:TI ≠ z) (tO:TI ≠ TO) (ti1:TI ≠ i1) (ti2:TI ≠ i2)
  (hQ:∀ x y h' tk,P1 i x -> P2 i y -> IsZip h' z TI TO (rawInt s.heap.objs.size) -> IsPair h' TI (.ref i1) (.ref i2) -> IsPair h' TO x y -> St1 (i + 1) h' -> St2 (i + 1) h' -> IsPair h' s.heap.objs.size x y -> h'.objs.size = s.heap.objs.size + 1 →
   (∀ c o,c ≠ z -> c ≠ TO -> c ≠ i1 -> c ≠ i2 -> s.heap.get? c = some o -> h'.get? c = some o) -> Q (.ref s.heap.objs.size) { s with heap:=h',toks:=tk }) :
  wpAny (model prog w) A (Builtin.«zip.__next__» { pos:=[.ref z] }) (fun fin s'=>∃ v,fin = Fin.done (Flow.ret v) /\ Q v s') E s:=by
 show wpAny _ _ (field (.ref z) 2 >>= _) _ _ s
 refine wpAny_bind (wpAny_field hz rfl (x:=.bool false) rfl ?_)
 show wpAny _ _ (field (.ref z) 3 >>= _) _ _ s
 refine wpAny_bind (wpAny_field hz rfl (x:=.ref TI) rfl ?_)
 show wpAny _ _ (seqItems? (.ref TI) >>= _) _ _ s
 refine wpAny_bind (wpAny_seqItems hI rfl ?_)
 show wpAny _ _ (Builtin.SmallTypes.ownedTupleIsFree (.ref z) >>= _) _ _ s
 refine wpAny_bind ?_
 unfold Builtin.SmallTypes.ownedTupleIsFree
 refine wpAny_bind (wpAny_field hz rfl (x:=.none) rfl (wpAny_pure ?_))
 show wpAny _ _ (rule _ >>= _) _ _ s
 refine wpAny_bind (wpAny_rule ?_)
 show wpAny _ _ (field (.ref z) 4 >>= _) _ _ s
 refine wpAny_bind (wpAny_field hz rfl (x:=.ref TO) rfl ?_)
 show wpAny _ _ (setField (.ref z) 0 .ellipsis >>= _) _ _ s
 refine wpAny_bind (wpAny_setField hz rfl (by show 0 < 5; decide) ?_)
 obtain ⟨hz0,sb0⟩:=uN hz .ellipsis
 revert hz0 sb0
 generalize s.heap.update z (Obj.mapFields fun x=>x.setIfInBounds 0 Value.ellipsis) = h0
 intro hz0 sb0
 have no:∀ b,b ≠ z -> ∀ o,s.heap.get? b = some o -> h0.get? b = some o:=fun b hb o e=>(sb0.2 b hb).trans e
 refine wpAny_bind ?_
 show wpAny _ _ (forIn [(Value.ref i1,0),(Value.ref i2,1)] (none,()) _) _ _ _
 rw [List.forIn_cons]
 refine wpAny_bind (wpAny_bind (wpAny_onRaise ?_))
 show wpAny _ _ (Builtin.SmallTypes.nextOf (.ref i1) >>= fun x=>pure (some x)) _ _ _
 refine wpAny_bind (D1.item i { s with heap:=h0 } _ _ l1 (D1.frame _ _ _ st1 fun b hb o e=>no b (fun q=>z1 (q ▸ hb)) o e) fun x h1 tk1 p1 st1' sb1=>wpAny_pure ?_)
 have hO1:IsPair h1 TO a b:=(sb1.2 TO (Ne.symm io1)).trans (no TO oz _ hO)
 show wpAny _ _ (seqItems? (.ref TO) >>= _) _ _ _
 refine wpAny_bind (wpAny_seqItems (s:={ s with heap:=h1,toks:=tk1 }) hO1 rfl ?_)
 show wpAny _ _ (updateSeq TO _ >>= _) _ _ _
 refine wpAny_bind (wpAny_updateSeq (s:={ s with heap:=h1,toks:=tk1 }) hO1 rfl ?_)
 obtain ⟨hO2,sb2⟩:=Yu hO1 x
 revert hO2 sb2
 show IsPair (h1.update TO (Obj.mapSeq fun q=>q.setIfInBounds 0 x)) TO x b -> Heap.SameBut TO h1 (h1.update TO (Obj.mapSeq fun q=>q.setIfInBounds 0 x)) -> wpAny _ _ _ _ _ { s with heap:=h1.update TO (Obj.mapSeq fun q=>q.setIfInBounds 0 x),toks:=tk1 }
 generalize h1.update TO (Obj.mapSeq fun q=>q.setIfInBounds 0 x) = h2
 intro hO2 sb2
 refine wpAny_bind (wpAny_letGo (wpAny_pure ?_))
 show wpAny _ _ (forIn [(Value.ref i2,1)] (none,()) _) _ _ _
 rw [List.forIn_cons]
 refine wpAny_bind (wpAny_bind (wpAny_onRaise ?_))
 show wpAny _ _ (Builtin.SmallTypes.nextOf (.ref i2) >>= fun x=>pure (some x)) _ _ _
 have k2:∀ c o,c ≠ z -> c ≠ TO -> c ≠ i1 -> s.heap.get? c = some o -> h2.get? c = some o:=fun c o c1 c2 c3 e=>(sb2.2 c c2).trans ((sb1.2 c c3).trans (no c c1 o e))
 refine wpAny_bind (D2.item i { s with heap:=h2,toks:=tk1 } _ _ l2 (D2.frame _ _ _ st2 fun c hc o e=>k2 c o (fun q=>z2 (q ▸ hc)) (fun q=>o2 (q ▸ hc)) (fun q=>x21 (q ▸ hc)) e) fun y h3 tk3 p2 st2' sb3=>wpAny_pure ?_)
 have hO3:IsPair h3 TO x b:=(sb3.2 TO (Ne.symm io2)).trans hO2
 show wpAny _ _ (seqItems? (.ref TO) >>= _) _ _ _
 refine wpAny_bind (wpAny_seqItems (s:={ s with heap:=h3,toks:=tk3 }) hO3 rfl ?_)
 show wpAny _ _ (updateSeq TO _ >>= _) _ _ _
 refine wpAny_bind (wpAny_updateSeq (s:={ s with heap:=h3,toks:=tk3 }) hO3 rfl ?_)
 obtain ⟨hO4,sb4⟩:=XH hO3 y
 revert hO4 sb4
 show IsPair (h3.update TO (Obj.mapSeq fun q=>q.setIfInBounds 1 y)) TO x y -> Heap.SameBut TO h3 (h3.update TO (Obj.mapSeq fun q=>q.setIfInBounds 1 y)) -> wpAny _ _ _ _ _ { s with heap:=h3.update TO (Obj.mapSeq fun q=>q.setIfInBounds 1 y),toks:=tk3 }
 generalize h3.update TO (Obj.mapSeq fun q=>q.setIfInBounds 1 y) = h4
 intro hO4 sb4
 refine wpAny_bind (wpAny_letGo (wpAny_pure ?_))
 show wpAny _ _ (forIn [] (none,()) _) _ _ _
 rw [List.forIn_nil]
 refine wpAny_pure ?_
 show wpAny _ _ (seqItems? (.ref TO) >>= _) _ _ _
 refine wpAny_bind (wpAny_seqItems (s:={ s with heap:=h4,toks:=tk3 }) hO4 rfl ?_)
 show wpAny _ _ (newTuple [x,y] >>= _) _ _ _
 refine wpAny_bind ?_
 simp only [newTuple]
 have k4:∀ c o,c ≠ z -> c ≠ TO -> c ≠ i1 -> c ≠ i2 -> s.heap.get? c = some o -> h4.get? c = some o:=fun c o c1 c2 c3 c4 e=>(sb4.2 c c2).trans ((sb3.2 c c4).trans (k2 c o c1 c2 c3 e))
 have hz4:IsZip h4 z TI TO .ellipsis:=(sb4.2 z (Ne.symm oz)).trans ((sb3.2 z (Ne.symm iz2)).trans ((sb2.2 z (Ne.symm oz)).trans ((sb1.2 z (Ne.symm iz1)).trans hz0)))
 have s1':St1 (i + 1) h4:=D1.frame _ _ _ st1' fun c hc o e=>(sb4.2 c (fun q=>o1 (q ▸ hc))).trans ((sb3.2 c (fun q=>x12 (q ▸ hc))).trans ((sb2.2 c (fun q=>o1 (q ▸ hc))).trans e))
 have s2':St2 (i + 1) h4:=D2.frame _ _ _ st2' fun c hc o e=>(sb4.2 c (fun q=>o2 (q ▸ hc))).trans e
 have sz4:h4.objs.size = s.heap.objs.size:=by rw [sb4.1,sb3.1,sb2.1,sb1.1,sb0.1]
 refine wpAny_newObj_type ?_ (by size_fits)
 have hz5:IsZip (h4.push { cls:=.type "tuple",data:=.seq #[x,y] }) z TI TO .ellipsis:=Heap.get?_push_of_some _ hz4
 have hT5:IsPair (h4.push { cls:=.type "tuple",data:=.seq #[x,y] }) h4.objs.size x y:=Heap.get?_push_size _ rfl
 have sz5:(h4.push { cls:=.type "tuple",data:=.seq #[x,y] }).objs.size = h4.objs.size + 1:=Heap.size_push ..
 have k5:∀ c o,h4.get? c = some o -> (h4.push { cls:=.type "tuple",data:=.seq #[x,y] }).get? c = some o:=fun c o e=>Heap.get?_push_of_some _ e
 show wpAny _ _ _ _ _ { s with heap:=h4.push { cls:=.type "tuple",data:=.seq #[x,y] },toks:=tk3 }
 revert hz5 hT5 sz5 k5
 generalize h4.push { cls:=.type "tuple",data:=.seq #[x,y] } = h5
 intro hz5 hT5 sz5 k5
 show wpAny _ _ (Builtin.SmallTypes.ownedTupleHandOut (.ref z) (.ref h4.objs.size) >>= fun _=>pure (Fin.done (Flow.ret (.ref h4.objs.size)))) _ _ _
 rw [sz4] at hT5 sz5 ⊢
 refine wpAny_bind ?_
 show wpAny _ _ (setField (.ref z) 0 (rawInt s.heap.objs.size) >>= fun _=>setField (.ref z) 1 (.bool false)) _ _ _
 refine wpAny_bind (wpAny_setField (s:={ s with heap:=h5,toks:=tk3 }) hz5 rfl (by show 0 < 5; decide) ?_)
 obtain ⟨hz6,sb6⟩:=uN hz5 (rawInt s.heap.objs.size)
 obtain ⟨hz7,sb7⟩:=XG hz6
 refine wpAny_setField hz6 rfl (by show 1 < 5; decide) (wpAny_pure ⟨_,rfl,?_⟩)
 have k7:∀ c o,c ≠ z -> h4.get? c = some o -> ((h5.update z (Obj.mapFields fun x=>x.setIfInBounds 0 (rawInt s.heap.objs.size))).update z (Obj.mapFields fun x=>x.setIfInBounds 1 (.bool false))).get? c = some o:=fun c o c1 e=>(sb7.2 c c1).trans ((sb6.2 c c1).trans (k5 c o e))
 have nT:s.heap.objs.size ≠ z:=Nat.ne_of_gt (Heap.lt_size hz)
 exact hQ x y _ tk3 p1 p2 hz7 (k7 TI _ tz (k4 TI _ tz tO ti1 ti2 hI)) (k7 TO _ oz hO4) (D1.frame _ _ _ s1' fun c hc o e=>k7 c o (fun q=>z1 (q ▸ hc)) e) (D2.frame _ _ _ s2' fun c hc o e=>k7 c o (fun q=>z2 (q ▸ hc)) e) ((sb7.2 _ nT).trans ((sb6.2 _ nT).trans hT5)) (by rw [sb7.1,sb6.1,sz5]) fun c o c1 c2 c3 c4 e=>k7 c o c1 (k4 c o c1 c2 c3 c4 e)
theorem Z0 {z TI TO i1 i2:Addr} {fp1:List Addr} {n1:Nat} {P1:Nat -> Value -> Prop} {St1:Nat -> Heap -> Prop} {a b:Value} {Q:Fin -> Shared -> Prop}
  (D1:Draws prog w A i1 fp1 n1 P1 St1)
  (hz:IsZip s.heap z TI TO .none) (hI:IsPair s.heap TI (.ref i1) (.ref i2)) (hO:IsPair s.heap TO a b) (st1:St1 n1 s.heap)
  (z1:z ∉ fp1) (iz1:i1 ≠ z)
  (hE:∀ h' e tk,(∀ c o,c ≠ z -> c ≠ TO -> c ≠ i1 -> c ≠ i2 -> s.heap.get? c = some o -> h'.get? c = some o) -> (∃ o,h'.get? e = some o /\ o.cls = .type "StopIteration") -> E (.ref e) { s with heap:=h',toks:=tk }) :
  wpAny (model prog w) A (Builtin.«zip.__next__» { pos:=[.ref z] }) Q E s:=by
 show wpAny _ _ (field (.ref z) 2 >>= _) _ _ s
 refine wpAny_bind (wpAny_field hz rfl (x:=.bool false) rfl ?_)
 show wpAny _ _ (field (.ref z) 3 >>= _) _ _ s
 refine wpAny_bind (wpAny_field hz rfl (x:=.ref TI) rfl ?_)
 show wpAny _ _ (seqItems? (.ref TI) >>= _) _ _ s
 refine wpAny_bind (wpAny_seqItems hI rfl ?_)
 show wpAny _ _ (Builtin.SmallTypes.ownedTupleIsFree (.ref z) >>= _) _ _ s
 refine wpAny_bind ?_
 unfold Builtin.SmallTypes.ownedTupleIsFree
 refine wpAny_bind (wpAny_field hz rfl (x:=.none) rfl (wpAny_pure ?_))
 show wpAny _ _ (rule _ >>= _) _ _ s
 refine wpAny_bind (wpAny_rule ?_)
 show wpAny _ _ (field (.ref z) 4 >>= _) _ _ s
 refine wpAny_bind (wpAny_field hz rfl (x:=.ref TO) rfl ?_)
 show wpAny _ _ (setField (.ref z) 0 .ellipsis >>= _) _ _ s
 refine wpAny_bind (wpAny_setField hz rfl (by show 0 < 5; decide) ?_)
 obtain ⟨hz0,sb0⟩:=uN hz .ellipsis
 revert hz0 sb0
 generalize s.heap.update z (Obj.mapFields fun x=>x.setIfInBounds 0 Value.ellipsis) = h0
 intro hz0 sb0
 have no:∀ b,b ≠ z -> ∀ o,s.heap.get? b = some o -> h0.get? b = some o:=fun b hb o e=>(sb0.2 b hb).trans e
 refine wpAny_bind ?_
 show wpAny _ _ (forIn [(Value.ref i1,0),(Value.ref i2,1)] (none,()) _) _ _ _
 rw [List.forIn_cons]
 refine wpAny_bind (wpAny_bind (wpAny_onRaise ?_))
 show wpAny _ _ (Builtin.SmallTypes.nextOf (.ref i1) >>= fun x=>pure (some x)) _ _ _
 refine wpAny_bind (D1.done { s with heap:=h0 } _ _ (D1.frame _ _ _ st1 fun b hb o e=>no b (fun q=>z1 (q ▸ hb)) o e) fun h1 e xb hs=>?_)
 have hz1:IsZip h1 z TI TO .ellipsis:=xb z _ (Ne.symm iz1) hz0
 obtain ⟨hz2,sb2⟩:=uN hz1 .none
 refine wpAny_setField (s:={ s with heap:=h1 }) hz1 rfl (by show 0 < 5; decide) (hE _ e s.toks (fun c o c1 c2 c3 c4 q=>(sb2.2 c c1).trans (xb c o c3 (no c c1 o q))) ?_)
 obtain ⟨o,ho,hc⟩:=hs
 refine ⟨o,(sb2.2 e fun q=>?_).trans ho,hc⟩
 rw [q,hz1] at ho
 obtain rfl:=Option.some.inj ho
 exact absurd hc (by show ¬ (Value.type "zip" = Value.type "StopIteration"); decide)
theorem Z1 {z TI TO i1 i2:Addr} {fp1 fp2:List Addr} {n1 i:Nat} {P1 P2:Nat -> Value -> Prop} {St1 St2:Nat -> Heap -> Prop} {a b:Value} {Q:Fin -> Shared -> Prop}
  (D1:Draws prog w A i1 fp1 n1 P1 St1) (D2:Draws prog w A i2 fp2 i P2 St2)
  (hz:IsZip s.heap z TI TO .none) (hI:IsPair s.heap TI (.ref i1) (.ref i2)) (hO:IsPair s.heap TO a b) (st1:St1 i s.heap) (st2:St2 i s.heap) (l1:i < n1)
  (z1:z ∉ fp1) (z2:z ∉ fp2) (o2:TO ∉ fp2) (x21:i1 ∉ fp2) (iz1:i1 ≠ z) (iz2:i2 ≠ z) (io1:i1 ≠ TO) (oz:TO ≠ z)
  (hE:∀ h' e tk,(∀ c o,c ≠ z -> c ≠ TO -> c ≠ i1 -> c ≠ i2 -> s.heap.get? c = some o -> h'.get? c = some o) -> (∃ o,h'.get? e = some o /\ o.cls = .type "StopIteration") -> E (.ref e) { s with heap:=h',toks:=tk }) :
  wpAny (model prog w) A (Builtin.«zip.__next__» { pos:=[.ref z] }) Q E s:=by
 show wpAny _ _ (field (.ref z) 2 >>= _) _ _ s
 refine wpAny_bind (wpAny_field hz rfl (x:=.bool false) rfl ?_)
 show wpAny _ _ (field (.ref z) 3 >>= _) _ _ s
 refine wpAny_bind (wpAny_field hz rfl (x:=.ref TI) rfl ?_)
 show wpAny _ _ (seqItems? (.ref TI) >>= _) _ _ s
 refine wpAny_bind (wpAny_seqItems hI rfl ?_)
 show wpAny _ _ (Builtin.SmallTypes.ownedTupleIsFree (.ref z) >>= _) _ _ s
 refine wpAny_bind ?_
 unfold Builtin.SmallTypes.ownedTupleIsFree
 refine wpAny_bind (wpAny_field hz rfl (x:=.none) rfl (wpAny_pure ?_))
 show wpAny _ _ (rule _ >>= _) _ _ s
 refine wpAny_bind (wpAny_rule ?_)
 show wpAny _ _ (field (.ref z) 4 >>= _) _ _ s
 refine wpAny_bind (wpAny_field hz rfl (x:=.ref TO) rfl ?_)
 show wpAny _ _ (setField (.ref z) 0 .ellipsis >>= _) _ _ s
 refine wpAny_bind (wpAny_setField hz rfl (by show 0 < 5; decide) ?_)
 obtain ⟨hz0,sb0⟩:=uN hz .ellipsis
 revert hz0 sb0
 generalize s.heap.update z (Obj.mapFields fun x=>x.setIfInBounds 0 Value.ellipsis) = h0
 intro hz0 sb0
 have no:∀ b,b ≠ z -> ∀ o,s.heap.get? b = some o -> h0.get? b = some o:=fun b hb o e=>(sb0.2 b hb).trans e
 refine wpAny_bind ?_
 show wpAny _ _ (forIn [(Value.ref i1,0),(Value.ref i2,1)] (none,()) _) _ _ _
 rw [List.forIn_cons]
 refine wpAny_bind (wpAny_bind (wpAny_onRaise ?_))
 show wpAny _ _ (Builtin.SmallTypes.nextOf (.ref i1) >>= fun x=>pure (some x)) _ _ _
 refine wpAny_bind (D1.item i { s with heap:=h0 } _ _ l1 (D1.frame _ _ _ st1 fun b hb o e=>no b (fun q=>z1 (q ▸ hb)) o e) fun x h1 tk1 p1 st1' sb1=>wpAny_pure ?_)
 have hO1:IsPair h1 TO a b:=(sb1.2 TO (Ne.symm io1)).trans (no TO oz _ hO)
 show wpAny _ _ (seqItems? (.ref TO) >>= _) _ _ _
 refine wpAny_bind (wpAny_seqItems (s:={ s with heap:=h1,toks:=tk1 }) hO1 rfl ?_)
 show wpAny _ _ (updateSeq TO _ >>= _) _ _ _
 refine wpAny_bind (wpAny_updateSeq (s:={ s with heap:=h1,toks:=tk1 }) hO1 rfl ?_)
 obtain ⟨hO2,sb2⟩:=Yu hO1 x
 revert hO2 sb2
 show IsPair (h1.update TO (Obj.mapSeq fun q=>q.setIfInBounds 0 x)) TO x b -> Heap.SameBut TO h1 (h1.update TO (Obj.mapSeq fun q=>q.setIfInBounds 0 x)) -> wpAny _ _ _ _ _ { s with heap:=h1.update TO (Obj.mapSeq fun q=>q.setIfInBounds 0 x),toks:=tk1 }
 generalize h1.update TO (Obj.mapSeq fun q=>q.setIfInBounds 0 x) = h2
 intro hO2 sb2
 refine wpAny_bind (wpAny_letGo (wpAny_pure ?_))
 show wpAny _ _ (forIn [(Value.ref i2,1)] (none,()) _) _ _ _
 rw [List.forIn_cons]
 refine wpAny_bind (wpAny_bind (wpAny_onRaise ?_))
 show wpAny _ _ (Builtin.SmallTypes.nextOf (.ref i2) >>= fun x=>pure (some x)) _ _ _
 have k2:∀ c o,c ≠ z -> c ≠ TO -> c ≠ i1 -> s.heap.get? c = some o -> h2.get? c = some o:=fun c o c1 c2 c3 e=>(sb2.2 c c2).trans ((sb1.2 c c3).trans (no c c1 o e))
 have hz2:IsZip h2 z TI TO .ellipsis:=(sb2.2 z (Ne.symm oz)).trans ((sb1.2 z (Ne.symm iz1)).trans hz0)
 refine wpAny_bind (D2.done { s with heap:=h2,toks:=tk1 } _ _ (D2.frame _ _ _ st2 fun c hc o e=>k2 c o (fun q=>z2 (q ▸ hc)) (fun q=>o2 (q ▸ hc)) (fun q=>x21 (q ▸ hc)) e) fun h3 e xb hs=>?_)
 have hz3:IsZip h3 z TI TO .ellipsis:=xb z _ (Ne.symm iz2) hz2
 obtain ⟨hz4,sb4⟩:=uN hz3 .none
 refine wpAny_setField (s:={ s with heap:=h3,toks:=tk1 }) hz3 rfl (by show 0 < 5; decide) (hE _ e tk1 (fun c o c1 c2 c3 c4 q=>(sb4.2 c c1).trans (xb c o c4 (k2 c o c1 c2 c3 q))) ?_)
 obtain ⟨o,ho,hc⟩:=hs
 refine ⟨o,(sb4.2 e fun q=>?_).trans ho,hc⟩
 rw [q,hz3] at ho
 obtain rfl:=Option.some.inj ho
 exact absurd hc (by show ¬ (Value.type "zip" = Value.type "StopIteration"); decide)
end
section
variable {prog:Program} {w:World} {A:Around} {E:VS7} {s:Shared}
theorem jY {e:Addr} {Q:Option Value -> Shared -> Prop} (h:∃ o,s.heap.get? e = some o /\ o.cls = .type "StopIteration") (q:Q none s) :
  wpAny (model prog w) A (do if ← isInstance (.ref e) (.type "StopIteration") then pure none else throw (.ref e):Sem (Option Value)) Q E s:=by
 refine wpAny_bind (wpAny_isInstance (T:="StopIteration") (b:=true) h (by first | rfl | decide) ?_)
 rw [if_pos rfl]
 exact wpAny_pure q
theorem Yv {z TI TO:Addr} {f0:Value} (hz:IsZip s.heap z TI TO f0):s.TypeIs (.ref z) "zip":=⟨_,hz,rfl⟩
theorem jZ {z TI TO:Addr} {f0:Value} {Q:Option Value -> Shared -> Prop} (hz:IsZip s.heap z TI TO f0)
  (h:wpAny (model prog w) A.in1 (Builtin.«zip.__next__» { pos:=[.ref z] }) (fun fin s'=>∃ v,fin = Fin.done (Flow.ret v) /\ Q (some v) s')
   (fun e s'=>∃ a,e = .ref a /\ (∃ o,s'.heap.get? a = some o /\ o.cls = .type "StopIteration") /\ Q none s') s):wpAny (model prog w) A (pyNext (.ref z)) Q E s:=by
 unfold pyNext
 refine wpAny_bind (wpAny_attempt (wpAny_callSpecial?_slot (name:=Str.ofString "__next__") (Yv hz) F.slot_zip_next (wpAny_call_entry F.slot_zip_next (Yv hz) F.entry_zip_next (wpAny_mono h (fun fin s' hq=>?_) (fun e s' hq=>?_)) (F.args_zip_next_1 _))))
 ·obtain ⟨v,rfl,q⟩:=hq
  exact ⟨v,rfl,wpAny_pure q⟩
 ·obtain ⟨a,rfl,ho,q⟩:=hq
  exact jY ho q
def wf (h:Heap) (a:Addr) (cn:String) (vs:Array Value):Prop:=(cn = "tuple_iterator" /\ h.IsTuple a vs) \/ (cn = "list_iterator" /\ h.IsList a vs)
theorem wf.iter {a:Addr} {cn:String} {vs:Array Value} {Q:VS7} (h:wf s.heap a cn vs)
  (q:Q (.ref s.heap.objs.size) { s with heap:=s.heap.push { cls:=.type cn,data:=.fields #[.ref a,.int 0 0] } }):wpAny (model prog w) A (pyIter (.ref a)) Q E s:=by
 rcases h with ⟨rfl,h⟩ | ⟨rfl,h⟩
 ·exact wpAny_pyIter_tuple h q
 ·exact wpAny_pyIter_list h q
theorem wf.push {h:Heap} {a:Addr} {cn:String} {vs:Array Value} (x:wf h a cn vs) (o:Obj):wf (h.push o) a cn vs:=by
 rcases x with ⟨rfl,x⟩ | ⟨rfl,x⟩
 ·exact .inl ⟨rfl,x.push o⟩
 ·exact .inr ⟨rfl,x.push o⟩
def zpO (c:String) (a:Addr):Obj:={ cls:=.type c,data:=.fields #[.ref a,.int 0 0] }
def zpT (a b:Value):Obj:={ cls:=.type "tuple",data:=.seq #[a,b] }
def zpZ (TI TO:Addr):Obj:={ cls:=.type "zip",data:=.fields #[.none,.bool false,.bool false,.ref TI,.ref TO] }
def zpN (h:Heap) (c1:String) (a:Addr) (c2:String) (b:Addr):Addr :=
 let h1:=h.push (zpO c1 a)
 let h2:=h1.push (zpO c2 b)
 let h3:=h2.push (zpT (.ref h.objs.size) (.ref h1.objs.size))
 (h3.push (zpT .none .none)).objs.size
def zpH (h:Heap) (c1:String) (a:Addr) (c2:String) (b:Addr):Heap :=
 let h1:=h.push (zpO c1 a)
 let h2:=h1.push (zpO c2 b)
 let h3:=h2.push (zpT (.ref h.objs.size) (.ref h1.objs.size))
 let h4:=h3.push (zpT .none .none)
 h4.push (zpZ h2.objs.size h3.objs.size)
theorem YZ (a b:Addr) (c1 c2:String) (xs ys:Array Value) :
  Meets (Builtin.«zip.__new__» ⟨[.type "zip",.ref a,.ref b],[]⟩) (fun _ R s=>wf s.heap a c1 xs /\ wf s.heap b c2 ys ∧
   R (.ok (.ret (.ref (zpN s.heap c1 a c2 b)))) { s with heap:=zpH s.heap c1 a c2 b }) :=
 .of_wp fun prog w A R s h=>by
  obtain ⟨hp,g,d,tk,os⟩:=s; obtain ⟨h1,h2,h⟩:=h
  have hsub:=sub_zip
  have h2':wf (Shared.heap ⟨hp.push { cls:=.type c1,data:=.fields #[.ref a,.int 0 0] },g,d,tk,os⟩) b c2 ys:=h2.push _
  wp_walk using wf.iter h1,wf.iter h2'
  exact ⟨_,rfl,h⟩
theorem j0 {a b:Addr} {c1 c2:String} {xs ys:Array Value} {Q:VS7} (ha:wf s.heap a c1 xs) (hb:wf s.heap b c2 ys)
  (h:∀ h',IsZip h' (s.heap.objs.size + 4) (s.heap.objs.size + 2) (s.heap.objs.size + 3) .none -> IsPair h' (s.heap.objs.size + 2) (.ref s.heap.objs.size) (.ref (s.heap.objs.size + 1)) -> IsPair h' (s.heap.objs.size + 3) .none .none →
   h'.get? s.heap.objs.size = some (zpO c1 a) -> h'.get? (s.heap.objs.size + 1) = some (zpO c2 b) -> (∀ c o,s.heap.get? c = some o -> h'.get? c = some o) -> Q (.ref (s.heap.objs.size + 4)) { s with heap:=h' }) :
  wpAny (model prog w) A (call (.type "zip") [.ref a,.ref b]) Q E s:=by
 refine callType_new F.called_zip (by decide) (F.typeCall_zip_2 _ _) (F.newCall_zip_2 _ _) (fun obj=>F.args_object_init_3 obj _ _) F.entry_zip_new (YZ a b c1 c2 xs ys) ⟨ha,hb,?_⟩
 have gs:∀ (h:Heap) (o:Obj) (m:Nat),o.isFreed = false -> h.objs.size = m -> (h.push o).get? m = some o /\ (h.push o).objs.size = m + 1:=fun h o m f e=>by
  subst e; exact ⟨Heap.get?_push_size _ f,Heap.size_push ..⟩
 obtain ⟨e1,z1⟩:=gs s.heap (zpO c1 a) _ rfl rfl
 obtain ⟨e2,z2⟩:=gs (s.heap.push (zpO c1 a)) (zpO c2 b) _ rfl z1
 obtain ⟨e3,z3⟩:=gs ((s.heap.push (zpO c1 a)).push (zpO c2 b)) (zpT (.ref s.heap.objs.size) (.ref (s.heap.push (zpO c1 a)).objs.size)) _ rfl z2
 obtain ⟨e4,z4⟩:=gs (((s.heap.push (zpO c1 a)).push (zpO c2 b)).push (zpT (.ref s.heap.objs.size) (.ref (s.heap.push (zpO c1 a)).objs.size))) (zpT .none .none) _ rfl z3
 obtain ⟨e5,z5⟩:=gs ((((s.heap.push (zpO c1 a)).push (zpO c2 b)).push (zpT (.ref s.heap.objs.size) (.ref (s.heap.push (zpO c1 a)).objs.size))).push (zpT .none .none)) (zpZ ((s.heap.push (zpO c1 a)).push (zpO c2 b)).objs.size (((s.heap.push (zpO c1 a)).push (zpO c2 b)).push (zpT (.ref s.heap.objs.size) (.ref (s.heap.push (zpO c1 a)).objs.size))).objs.size) _ rfl z4
 have eN:zpN s.heap c1 a c2 b = s.heap.objs.size + 4:=z4
 have ps:∀ (h:Heap) (o:Obj) (c:Addr) (q:Obj),h.get? c = some q -> (h.push o).get? c = some q:=fun h o c q e=>Heap.get?_push_of_some _ e
 have f5:(zpH s.heap c1 a c2 b).get? (s.heap.objs.size + 4) = some (zpZ (s.heap.objs.size + 2) (s.heap.objs.size + 3)):=by
  have:=e5
  rw [z2,z3] at this
  unfold zpH
  dsimp only
  rw [z2,z3]
  exact this
 have f3:(zpH s.heap c1 a c2 b).get? (s.heap.objs.size + 2) = some (zpT (.ref s.heap.objs.size) (.ref (s.heap.objs.size + 1))):=by
  have:=ps _ (zpZ ((s.heap.push (zpO c1 a)).push (zpO c2 b)).objs.size (((s.heap.push (zpO c1 a)).push (zpO c2 b)).push (zpT (.ref s.heap.objs.size) (.ref (s.heap.push (zpO c1 a)).objs.size))).objs.size) _ _ (ps _ (zpT .none .none) _ _ e3)
  unfold zpH
  dsimp only
  exact this.trans (by rw [z1])
 have f4:(zpH s.heap c1 a c2 b).get? (s.heap.objs.size + 3) = some (zpT .none .none):=ps _ _ _ _ e4
 have f1:(zpH s.heap c1 a c2 b).get? s.heap.objs.size = some (zpO c1 a):=ps _ _ _ _ (ps _ _ _ _ (ps _ _ _ _ (ps _ _ _ _ e1)))
 have f2:(zpH s.heap c1 a c2 b).get? (s.heap.objs.size + 1) = some (zpO c2 b):=ps _ _ _ _ (ps _ _ _ _ (ps _ _ _ _ e2))
 have fk:∀ c o,s.heap.get? c = some o -> (zpH s.heap c1 a c2 b).get? c = some o:=fun c o e=>ps _ _ _ _ (ps _ _ _ _ (ps _ _ _ _ (ps _ _ _ _ (ps _ _ _ _ e))))
 show _ /\ _
 rw [eN]
 exact ⟨⟨_,f5,rfl⟩,h _ f5 f3 f4 f1 f2 fk⟩
end
def SqC (c:Bool) (K:FG7) (H:Hp) (a:Addr) (xs:List V):Prop:=match c with
 | true=>SqT K H a xs
 | false=>SqL K H a xs
def wE (c:Bool) (h:Heap) (j a:Addr) (i:Nat):Prop:=match c with
 | true=>h.IsTupleIter j a i
 | false=>h.IsListIter j a i
def SeqC (c:Bool) (h:Heap) (a:Addr) (vs:Array Value):Prop:=match c with
 | true=>h.IsTuple a vs
 | false=>h.IsList a vs
def cnC (c:Bool):String:=match c with
 | true=>"tuple_iterator"
 | false=>"list_iterator"
theorem wE.at {c:Bool} {h h':Heap} {j a:Addr} {i:Nat} (x:wE c h j a i) (k:∀ o,h.get? j = some o -> h'.get? j = some o):wE c h' j a i:=by
 cases c
 ·exact Heap.IsListIter.at x k
 ·exact Heap.IsTupleIter.at x k
theorem wE.obj {c:Bool} {h:Heap} {j a:Addr} {i:Nat} (x:wE c h j a i):∃ o,h.get? j = some o /\ ∀ v,o.data ≠ .cell v:=by
 cases c
 ·obtain ⟨o,e,_,d⟩:=x
  exact ⟨o,e,fun v z=>by rw [d] at z; cases z⟩
 ·obtain ⟨o,e,_,d⟩:=x
  exact ⟨o,e,fun v z=>by rw [d] at z; cases z⟩
theorem wE.mk {c:Bool} {h:Heap} {j a:Addr} (e:h.get? j = some (zpO (cnC c) a)):wE c h j a 0:=by
 cases c
 ·exact ⟨_,e,rfl,rfl⟩
 ·exact ⟨_,e,rfl,rfl⟩
theorem SeqC.src {c:Bool} {h:Heap} {a:Addr} {vs:Array Value} (x:SeqC c h a vs):wf h a (cnC c) vs:=by
 cases c
 ·exact .inr ⟨rfl,x⟩
 ·exact .inl ⟨rfl,x⟩
theorem SeqC.lt {c:Bool} {h:Heap} {a:Addr} {vs:Array Value} (x:SeqC c h a vs):a < h.objs.size:=by
 cases c
 ·obtain ⟨_,e,_⟩:=(show h.IsList a vs from x); exact Heap.lt_size e
 ·obtain ⟨_,e,_⟩:=(show h.IsTuple a vs from x); exact Heap.lt_size e
theorem si {prog:Program} {w:World} {A:Around} (hh:A.handled = none) (c:Bool) (j t:Addr) (hne:t ≠ j) (vs:Array Value) :
  Draws prog w A j [j,t] vs.size (fun i v=>vs[i]? = some v) (fun i h=>wE c h j t i /\ SeqC c h t vs):=by
 cases c
 ·exact Draws.list hh j t hne vs
 ·exact jQ hh j t hne vs
theorem qX {prog:Program} {w:World} {A:Around} (hh:A.handled = none) (jt t:Addr) (vs:Array Value) {i:Nat} (hv:vs[i]? = none) :
  Draws prog w A jt [jt,t] i (fun _ _=>True) (fun j h=>j = i /\ h.IsListIter jt t i /\ h.IsList t vs) where
 live:=fun _ _ st=>let ⟨o,ho,_⟩:=st.2.1; ⟨o,ho⟩
 frame:=fun _ _ _ st hk=>⟨st.1,st.2.1.at (hk jt (by simp)),st.2.2.at (hk t (by simp))⟩
 item:=fun j s Q E hj st hQ=>absurd st.1 (Nat.ne_of_lt hj)
 done:=fun s Q E st hE=>wpAny_nextOf_list_end hh st.2.1 st.2.2 hv hE
theorem x8 {prog:Program} {w:World} {A:Around} (hh:A.handled = none) (c:Bool) (j t:Addr) (vs:Array Value) {i:Nat} (hv:vs[i]? = none) :
  Draws prog w A j [j,t] i (fun _ _=>True) (fun k h=>k = i /\ wE c h j t i /\ SeqC c h t vs):=by
 cases c
 ·exact qX hh j t vs hv
 ·exact jR hh j t vs hv
theorem yA {X:Cx} {pins:List (Addr × Obj)} {σ:L2.St} {H:Hp} {s:Shared} {c:Bool} {a:Addr} {xs:List V} (I:Inv X pins σ H s) (h:SqC c X.K H a xs):∃ its:List Value,Vals xs its /\ SeqC c s.heap a its.toArray:=by
 cases c
 ·obtain ⟨its,r,p,_⟩:=I.list h
  exact ⟨its,r,p.isList⟩
 ·obtain ⟨its,r,p,_⟩:=I.tuple h
  exact ⟨its,r,p⟩
theorem xP {X:Cx} {pins:List (Addr × Obj)} {σ:L2.St} {H:Hp} {s:Shared} {c:Bool} {a:Addr} {xs ys:List V} (I:Inv X pins σ H s) (h:SqC c X.K H a xs) (h':SqC c X.K H a ys):xs = ys:=by
 cases c
 ·exact I.list_inj h h'
 ·exact I.tuple_inj h h'
theorem nne {i j:Nat} (h:i ≠ j):i ≠ j:=h
theorem nin2 {z j t:Nat} (h1:z ≠ j) (h2:z ≠ t):z ∉ ([j,t]:List Nat):=by simp [h1,h2]
def Itz (K:FG7) (c:Bool) (a:Addr) (d:Bool) (b:Addr):It :=
  ⟨fun i H=>∃ xs ys x y,SqC c K H a xs /\ SqC d K H b ys /\ xs[i]? = some x /\ ys[i]? = some y,
   fun i H x H'=>∃ T v w,H T = none /\ x = .ref T /\ H' = upd H T (.tup [v,w]) /\ (∀ xs,SqC c K H a xs -> xs[i]? = some v) /\ ∀ ys,SqC d K H b ys -> ys[i]? = some w,
   fun i H=>∃ xs ys,SqC c K H a xs /\ SqC d K H b ys /\ (xs.length <= i \/ ys.length <= i)⟩
def XI (c d:Bool) (z TI TO i1 i2 a b:Addr) (i:Nat) (h:Heap):Prop :=
 IsZip h z TI TO .none /\ IsPair h TI (.ref i1) (.ref i2) /\ (∃ u v,IsPair h TO u v) /\ wE c h i1 a i /\ wE d h i2 b i
theorem nad {n:Nat} (i j:Nat) (h:i ≠ j):n + i ≠ n + j:=fun z=>h (Nat.add_left_cancel z)
theorem nad0 {n:Nat} (i:Nat) (h:i ≠ 0):n + i ≠ n:=fun z=>h (Nat.add_left_cancel (z.trans (Nat.add_zero n).symm))
theorem Z2 {P:Program} {w:World} {K:FG7} {elts:List Expr} {kt:Nat} {pt:Pos} (c d:Bool) (a b n:Nat) (ha:a < n) (hb:b < n) :
  Turn P w K (.Tuple elts kt pt) (Itz K c a d b) [n + 4,n + 3,n + 2,n + 1,n] (n + 4) (XI c d (n + 4) (n + 2) (n + 3) n (n + 1) a b) where
 mem:=by simp
 obj:=fun i h st q hq=>by
  obtain ⟨hz,hI,⟨u,v,hO⟩,s1,s2⟩:=st
  simp only [List.mem_cons,List.mem_nil_iff,or_false] at hq
  rcases hq with rfl | rfl | rfl | rfl | rfl
  ·exact ⟨_,hz,fun v z=>by cases z⟩
  ·exact ⟨_,hO,fun v z=>by cases z⟩
  ·exact ⟨_,hI,fun v z=>by cases z⟩
  ·exact s2.obj
  ·exact s1.obj
 keep:=fun i h h' st k=>by
  obtain ⟨hz,hI,⟨u,v,hO⟩,s1,s2⟩:=st
  exact ⟨k _ (by simp) _ hz,k _ (by simp) _ hI,⟨u,v,k _ (by simp) _ hO⟩,s1.at (k _ (by simp)),s2.at (k _ (by simp))⟩
 item:=by
  intro X hP hw hK hc i pins s σ H E I hf st hg
  subst hP hw hK
  obtain ⟨hz,hI,⟨u0,v0,hO⟩,s1,s2⟩:=st
  obtain ⟨xs,ys,x,y,hqa,hqb,hx,hy⟩:=hg
  obtain ⟨ia,ra,pa⟩:=yA I hqa
  obtain ⟨ib,rb,pb⟩:=yA I hqb
  obtain ⟨u,hu,ru⟩:=ra.get hx
  obtain ⟨v,hv,rv⟩:=rb.get hy
  have l1:i < ia.toArray.size:=by have:=(List.getElem?_eq_some_iff.mp hu).1; simpa using this
  have l2:i < ib.toArray.size:=by have:=(List.getElem?_eq_some_iff.mp hv).1; simpa using this
  have an:a ≠ n:=Nat.ne_of_lt ha
  have bn:b ≠ n + 1:=by omega
  refine jZ hz (wpAny_mono (jX (A:=X.A.in1) (Q:=fun v s1=>∃ u,some v = some u /\ wpAny (model X.prog X.w) X.A (letOwnedTupleGo (.Tuple elts kt pt) (.ref (n + 4)) u) (fun _ s2=>∃ x H',Inv X pins σ H' s2 /\ RelV x u /\ (Itz X.K c a d b).yld i H x H' /\ XI c d (n + 4) (n + 2) (n + 3) n (n + 1) a b (i + 1) s2.heap /\ ∀ b ∈ [n + 4,n + 3,n + 2,n + 1,n],H' b = none) E s1) (si (A:=X.A.in1) (I.ok.hd hc) c n a an ia.toArray) (si (A:=X.A.in1) (I.ok.hd hc) d (n + 1) b bn ib.toArray) hz hI hO ⟨s1,pa⟩ ⟨s2,pb⟩ l1 l2
   (nin2 (by first | exact nad _ _ (by decide) | exact nad0 _ (by decide) | exact (nad0 _ (by decide)).symm | omega) (by first | exact nad _ _ (by decide) | exact nad0 _ (by decide) | exact (nad0 _ (by decide)).symm | omega)) (nin2 (by first | exact nad _ _ (by decide) | exact nad0 _ (by decide) | exact (nad0 _ (by decide)).symm | omega) (by first | exact nad _ _ (by decide) | exact nad0 _ (by decide) | exact (nad0 _ (by decide)).symm | omega)) (nin2 (by first | exact nad _ _ (by decide) | exact nad0 _ (by decide) | exact (nad0 _ (by decide)).symm | omega) (by first | exact nad _ _ (by decide) | exact nad0 _ (by decide) | exact (nad0 _ (by decide)).symm | omega)) (nin2 (by first | exact nad _ _ (by decide) | exact nad0 _ (by decide) | exact (nad0 _ (by decide)).symm | omega) (by first | exact nad _ _ (by decide) | exact nad0 _ (by decide) | exact (nad0 _ (by decide)).symm | omega)) (nin2 (by first | exact nad _ _ (by decide) | exact nad0 _ (by decide) | exact (nad0 _ (by decide)).symm | omega) (by first | exact nad _ _ (by decide) | exact nad0 _ (by decide) | exact (nad0 _ (by decide)).symm | omega)) (nin2 (by first | exact nad _ _ (by decide) | exact nad0 _ (by decide) | exact (nad0 _ (by decide)).symm | omega) (by first | exact nad _ _ (by decide) | exact nad0 _ (by decide) | exact (nad0 _ (by decide)).symm | omega)) (nne (by first | exact nad _ _ (by decide) | exact nad0 _ (by decide) | exact (nad0 _ (by decide)).symm | omega)) (nne (by first | exact nad _ _ (by decide) | exact nad0 _ (by decide) | exact (nad0 _ (by decide)).symm | omega)) (nne (by first | exact nad _ _ (by decide) | exact nad0 _ (by decide) | exact (nad0 _ (by decide)).symm | omega)) (nne (by first | exact nad _ _ (by decide) | exact nad0 _ (by decide) | exact (nad0 _ (by decide)).symm | omega)) (nne (by first | exact nad _ _ (by decide) | exact nad0 _ (by decide) | exact (nad0 _ (by decide)).symm | omega)) (nne (by first | exact nad _ _ (by decide) | exact nad0 _ (by decide) | exact (nad0 _ (by decide)).symm | omega)) (nne (by first | exact nad _ _ (by decide) | exact nad0 _ (by decide) | exact (nad0 _ (by decide)).symm | omega)) (nne (by first | exact nad _ _ (by decide) | exact nad0 _ (by decide) | exact (nad0 _ (by decide)).symm | omega)) (nne (by first | exact nad _ _ (by decide) | exact nad0 _ (by decide) | exact (nad0 _ (by decide)).symm | omega)) ?_) (fun fin s' hq=>hq) (fun e s' (hq:False)=>hq.elim))
  intro p q h1 tk hp hq hz1 hI1 hO1 st1 st2 hT hsz hk
  have ep:p = u:=by
   have e1:ia.toArray[i]? = some p:=hp
   have e2:ia.toArray[i]? = some u:=by simpa using hu
   rw [e1] at e2; exact Option.some.inj e2
  have eq':q = v:=by
   have e1:ib.toArray[i]? = some q:=hq
   have e2:ib.toArray[i]? = some v:=by simpa using hv
   rw [e1] at e2; exact Option.some.inj e2
  subst ep eq'
  refine ⟨_,rfl,wpAny_letOwnedTupleGo_zip (s:={ s with heap:=h1,toks:=tk }) hz1 fun h2 hz2 hs2=>?_⟩
  have hk2:∀ b o,b ∉ [n + 4,n + 3,n + 2,n + 1,n] -> s.heap.get? b = some o -> h2.get? b = some o:=fun b o hb q=>by
   have n1:b ≠ n + 4:=fun z=>hb (by simp [z])
   have n2:b ≠ n + 3:=fun z=>hb (by simp [z])
   have n3:b ≠ n + 1:=fun z=>hb (by simp [z])
   have n4:b ≠ n:=fun z=>hb (by simp [z])
   exact (hs2.2 b n1).trans (hk b o n1 n2 n4 n3 q)
  have zs:n + 4 < s.heap.objs.size:=Heap.lt_size hz
  have hT2:h2.get? s.heap.objs.size = some { cls:=.type "tuple",data:=.seq #[p,q] }:=(hs2.2 _ (Nat.ne_of_gt zs)).trans hT
  have hn:H s.heap.objs.size = none:=I.hok.fresh (Nat.le_refl _)
  have I2:Inv X pins σ (upd H s.heap.objs.size (.tup [x,y])) { s with heap:=h2,toks:=tk }:=ql (s:=s) I hk2 hf (Nat.le_refl _) ⟨by show 2 <= sizeLine; decide,[p,q],.cons ru (.cons rv .nil),_,hT2,rfl,0,rfl⟩
  refine ⟨.ref s.heap.objs.size,upd H s.heap.objs.size (.tup [x,y]),I2,rfl,⟨_,x,y,hn,rfl,rfl,fun zs hz=>by rw [xP I hz hqa]; exact hx,fun zs hz=>by rw [xP I hz hqb]; exact hy⟩,⟨hz2,(hs2.2 _ (nne (by first | exact nad _ _ (by decide) | exact nad0 _ (by decide) | exact (nad0 _ (by decide)).symm | omega))).trans hI1,⟨p,q,(hs2.2 _ (nne (by first | exact nad _ _ (by decide) | exact nad0 _ (by decide) | exact (nad0 _ (by decide)).symm | omega))).trans hO1⟩,st1.1.at fun o e=>(hs2.2 _ (nne (by first | exact nad _ _ (by decide) | exact nad0 _ (by decide) | exact (nad0 _ (by decide)).symm | omega))).trans e,st2.1.at fun o e=>(hs2.2 _ (nne (by first | exact nad _ _ (by decide) | exact nad0 _ (by decide) | exact (nad0 _ (by decide)).symm | omega))).trans e⟩,fun q hq=>?_⟩
  have nb:q ≠ s.heap.objs.size:=by
   simp only [List.mem_cons,List.mem_nil_iff,or_false] at hq
   omega
  rw [zu nb]; exact (hf q hq).1
 done:=by
  intro X hP hw hK hc i pins s σ H E I hf st hg
  subst hP hw hK
  obtain ⟨hz,hI,⟨u0,v0,hO⟩,s1,s2⟩:=st
  obtain ⟨xs,ys,hqa,hqb,hl⟩:=hg
  obtain ⟨ia,ra,pa⟩:=yA I hqa
  obtain ⟨ib,rb,pb⟩:=yA I hqb
  have la:=ra.length
  have lb:=rb.length
  have an:a ≠ n:=Nat.ne_of_lt ha
  have fin:∀ (h':Heap) (e:Addr) (tk:Nat),(∀ c o,c ≠ n + 4 -> c ≠ n + 3 -> c ≠ n -> c ≠ n + 1 -> s.heap.get? c = some o -> h'.get? c = some o) -> Inv X pins σ H { s with heap:=h',toks:=tk }:=fun h' e tk k =>
   u9 (fp:=[n + 4,n + 3,n + 2,n + 1,n]) I (fun b o hb q=>k b o (fun z=>hb (by simp [z])) (fun z=>hb (by simp [z])) (fun z=>hb (by simp [z])) (fun z=>hb (by simp [z])) q) hf
  by_cases h1:xs.length <= i
  ·refine jZ hz (Z0 (A:=X.A.in1) (x8 (A:=X.A.in1) (I.ok.hd hc) c n a ia.toArray (i:=i) (by simp; omega)) hz hI hO ⟨rfl,s1,pa⟩ (nin2 (by first | exact nad _ _ (by decide) | exact nad0 _ (by decide) | exact (nad0 _ (by decide)).symm | omega) (by first | exact nad _ _ (by decide) | exact nad0 _ (by decide) | exact (nad0 _ (by decide)).symm | omega)) (nne (by first | exact nad _ _ (by decide) | exact nad0 _ (by decide) | exact (nad0 _ (by decide)).symm | omega)) fun h' e tk k ho=>⟨e,rfl,ho,rfl,fin h' e tk k⟩)
  ·have h2:ys.length <= i:=by omega
   refine jZ hz (Z1 (A:=X.A.in1) (si (A:=X.A.in1) (I.ok.hd hc) c n a an ia.toArray) (x8 (A:=X.A.in1) (I.ok.hd hc) d (n + 1) b ib.toArray (i:=i) (by simp; omega)) hz hI hO ⟨s1,pa⟩ ⟨rfl,s2,pb⟩ (by simp; omega) (nin2 (by first | exact nad _ _ (by decide) | exact nad0 _ (by decide) | exact (nad0 _ (by decide)).symm | omega) (by first | exact nad _ _ (by decide) | exact nad0 _ (by decide) | exact (nad0 _ (by decide)).symm | omega)) (nin2 (by first | exact nad _ _ (by decide) | exact nad0 _ (by decide) | exact (nad0 _ (by decide)).symm | omega) (by first | exact nad _ _ (by decide) | exact nad0 _ (by decide) | exact (nad0 _ (by decide)).symm | omega)) (nin2 (by first | exact nad _ _ (by decide) | exact nad0 _ (by decide) | exact (nad0 _ (by decide)).symm | omega) (by first | exact nad _ _ (by decide) | exact nad0 _ (by decide) | exact (nad0 _ (by decide)).symm | omega)) (nin2 (by first | exact nad _ _ (by decide) | exact nad0 _ (by decide) | exact (nad0 _ (by decide)).symm | omega) (by first | exact nad _ _ (by decide) | exact nad0 _ (by decide) | exact (nad0 _ (by decide)).symm | omega)) (nne (by first | exact nad _ _ (by decide) | exact nad0 _ (by decide) | exact (nad0 _ (by decide)).symm | omega)) (nne (by first | exact nad _ _ (by decide) | exact nad0 _ (by decide) | exact (nad0 _ (by decide)).symm | omega)) (nne (by first | exact nad _ _ (by decide) | exact nad0 _ (by decide) | exact (nad0 _ (by decide)).symm | omega)) (nne (by first | exact nad _ _ (by decide) | exact nad0 _ (by decide) | exact (nad0 _ (by decide)).symm | omega)) fun h' e tk k ho=>⟨e,rfl,ho,rfl,fin h' e tk k⟩)
 self:=fun _ _ _ _ _ st h=>wpAny_pyIter_zip st.1 h
section
variable {X:Cx} {elts:List Expr} {kt:Nat} {pt:Pos}
theorem Wz:bootBuiltins "zip" = some (.type "zip"):=by decide +kernel
def iZip (K:FG7) (ta:TA):TI:=fun σ H R=>ta σ H fun vs H1=>∃ (c d:Bool) (a b:Addr),vs = [.ref a,.ref b] /\ (∃ xs,SqC c K H1 a xs) /\ (∃ ys,SqC d K H1 b ys) /\ R (Itz K c a d b) H1
end
section
variable {X:Cx} {elts:List Expr} {kt:Nat} {pt:Pos} {K:FG7}
theorem XJ {a b:Expr} {ta:TA} {p pos:Pos} (hK:X.K = K) (hg:Gl X "zip") (hm:X.mg "zip" = none) (ha:PA X [a,b] ta) (hs:starEach [a,b] X.env = [(false,eval a X.env),(false,eval b X.env)]:=by rfl) (hs2:starEach [b] X.env = [(false,eval b X.env)]:=by rfl) :
  PI X (.Tuple elts kt pt) (.Call (.Name "zip" p) [a,b] [] pos) (iZip K ta):=by
 subst hK
 intro pins s σ H R I h
 refine Call_ (xH I hg hm Wz (PyProof.Rows.callWith_type1 (thn (ha pos pins s σ H _ I h) fun us s1 ⟨vs,H1,I1,r1,q1⟩=>?_) (by rw [hs,hs2]) (by rw [hs2]; rfl)))
 obtain ⟨c,d,ra,rb,e,⟨xs,hqa⟩,⟨ys,hqb⟩,q⟩:=q1
 subst e
 obtain ⟨u,w',rfl,e1,e2⟩:=qP r1
 cases (show u = Value.ref ra from e1)
 cases (show w' = Value.ref rb from e2)
 obtain ⟨ia,va,pa⟩:=yA I1 hqa
 obtain ⟨ib,vb,pb⟩:=yA I1 hqb
 refine j0 pa.src pb.src fun h' hz hI hO h1 h2 hk=>?_
 refine wpAny_pyIter_zip (s:={ s1 with heap:=h' }) hz ?_
 have I2:Inv X pins σ H1 { s1 with heap:=h' }:=I1.kept (t':=s1.toks) hk
 refine ⟨s1.heap.objs.size + 4,[s1.heap.objs.size + 4,s1.heap.objs.size + 3,s1.heap.objs.size + 2,s1.heap.objs.size + 1,s1.heap.objs.size],_,_,H1,rfl,I2,Z2 c d ra rb s1.heap.objs.size pa.lt pb.lt,⟨hz,hI,⟨_,_,hO⟩,.mk h1,.mk h2⟩,fun b hb=>?_,q⟩
 have hle:s1.heap.objs.size <= b:=by
  simp only [List.mem_cons,List.mem_nil_iff,or_false] at hb
  rcases hb with rfl | rfl | rfl | rfl | rfl <;> first | exact Nat.le_add_right _ _ | exact Nat.le_refl _
 exact I1.fpOk hle (I1.hok.fresh hle)
end
section
variable {K:FG7} {a b:Addr} {c d:Bool} {xs ys:List V} {g:TG} {tt:TT} {te:TE} {tb:TS} {D:Ends} {Q:VK} {σ:L2.St} {H:Hp}
theorem Y0 (Pv:Nat -> L2.St -> Hp -> Prop) (h0:Pv 0 σ H) (hl:∀ i σ H,Pv i σ H -> SqC c K H a xs /\ SqC d K H b ys)
  (hs:∀ i x y σ H T,xs[i]? = some x -> ys[i]? = some y -> Pv i σ H -> H T = none -> g (.ref T) σ (upd H T (.tup [x,y])) fun σ2 H2=>tb { D with nx:=Pv (i + 1),ct:=Pv (i + 1),bk:=D.nx } σ2 H2) (hd:∀ σ H,Pv (min xs.length ys.length) σ H -> D.nx σ H) :
  ∃ W:Nat -> Nat -> L2.St -> Hp -> Prop,(∃ m,W 0 m σ H) /\ ∀ i m σ H,W i m σ H →
   ((Itz K c a d b).stop i H /\ D.nx σ H) \/ ((Itz K c a d b).go i H /\ ∃ N:L2.St -> Hp -> Prop,(∀ σ' H',N σ' H' -> ∃ m',m' < m /\ W (i + 1) m' σ' H') /\ ∀ x H',(Itz K c a d b).yld i H x H' -> g x σ H' fun σ2 H2=>tb { D with nx:=N,ct:=N,bk:=D.nx } σ2 H2):=by
 refine ⟨fun i m σ H=>m = min xs.length ys.length - i /\ i <= min xs.length ys.length /\ Pv i σ H,⟨min xs.length ys.length,by simp,Nat.zero_le _,h0⟩,?_⟩
 rintro i m σ H ⟨rfl,hi,p⟩
 obtain ⟨q1,q2⟩:=hl i σ H p
 by_cases hlt:i < min xs.length ys.length
 ·have l1:i < xs.length:=by omega
  have l2:i < ys.length:=by omega
  refine .inr ⟨⟨xs,ys,xs[i],ys[i],q1,q2,by simp [l1],by simp [l2]⟩,Pv (i + 1),fun σ' H' p'=>⟨min xs.length ys.length - (i + 1),by omega,rfl,hlt,p'⟩,fun x H' y=>?_⟩
  obtain ⟨T,v,w,hT,rfl,rfl,y1,y2⟩:=y
  exact hs i v w σ H T (y1 xs q1) (y2 ys q2) p hT
 ·have e:i = min xs.length ys.length:=by omega
  subst e
  exact .inl ⟨⟨xs,ys,q1,q2,by omega⟩,hd σ H p⟩
end
section
variable {prog:Program} {w:World} {A:Around} {E:VS7} {s:Shared}
open PySem.AutoSeq1 (wpAny_loadPart')
theorem j1 (t:Addr) (c:Bool) (vs:Array Value) :
  Meets (Builtin.«enumerate.__new__» ⟨[.type "enumerate",.ref t],[]⟩) (fun _ R s=>SeqC c s.heap t vs ∧
   R (.ok (.ret (.ref (s.heap.push (zpO (cnC c) t)).objs.size)))
    { s with heap:=(s.heap.push (zpO (cnC c) t)).push { cls:=.type "enumerate",data:=.fields #[.none,.bool false,.ref s.heap.objs.size,rawInt 0,.none,.none] } }) :=
 .of_wp fun prog w A R s h=>by
  obtain ⟨hp,g,d,tk,os⟩:=s; obtain ⟨hT,h⟩:=h
  have hT':wf (Shared.heap ⟨hp,g,d,tk,os⟩) t (cnC c) vs:=hT.src
  obtain ⟨ot,hot⟩:∃ o,hp.get? t = some o:=by
   cases c
   ·obtain ⟨o,e,_⟩:=(show hp.IsList t vs from hT); exact ⟨o,e⟩
   ·obtain ⟨o,e,_⟩:=(show hp.IsTuple t vs from hT); exact ⟨o,e⟩
  have hsub:=sub_enumerate
  wp_walk using wpAny_loadPart' hot
  refine wpAny_stack_any fun st=>wpAny_pure ?_
  split
  ·rename_i c' _ _ _ _ _
   cases (c' == Value.type "enumerate") <;> (wp_walk using wpAny_loadPart' hot,wf.iter hT') <;> exact ⟨_,rfl,h⟩
  ·wp_walk using wpAny_loadPart' hot,wf.iter hT'
   exact ⟨_,rfl,h⟩
theorem uO {t:Addr} {c:Bool} {vs:Array Value} {Q:VS7} (ht:SeqC c s.heap t vs)
  (h:∀ h',IsEnum h' (s.heap.objs.size + 1) s.heap.objs.size 0 .none -> wE c h' s.heap.objs.size t 0 -> h'.objs.size = s.heap.objs.size + 2 -> (∀ b o,s.heap.get? b = some o -> h'.get? b = some o) -> Q (.ref (s.heap.objs.size + 1)) { s with heap:=h' }) :
  wpAny (model prog w) A (call (.type "enumerate") [.ref t]) Q E s:=by
 refine callType_new F.called_enumerate (by decide) (F.typeCall_enumerate_1 _) (F.newCall_enumerate_1 _) (fun obj=>F.args_object_init_2 obj _) F.entry_enumerate_new (j1 t c vs) ⟨ht,?_⟩
 have hz:(s.heap.push (zpO (cnC c) t)).objs.size = s.heap.objs.size + 1:=Heap.size_push ..
 show _ /\ _
 rw [hz]
 have he:IsEnum ((s.heap.push (zpO (cnC c) t)).push { cls:=.type "enumerate",data:=.fields #[.none,.bool false,.ref s.heap.objs.size,rawInt 0,.none,.none] }) (s.heap.objs.size + 1) s.heap.objs.size 0 .none:=by
  have:=Heap.get?_push_size (s.heap.push (zpO (cnC c) t)) (o:={ cls:=.type "enumerate",data:=.fields #[.none,.bool false,.ref s.heap.objs.size,rawInt 0,.none,.none] }) rfl
  rw [hz] at this; exact this
 exact ⟨⟨_,he,rfl⟩,h _ he (.mk (Heap.get?_push_of_some _ (Heap.get?_push_size _ rfl))) (by rw [Heap.size_push,Heap.size_push]) fun b o x=>Heap.get?_push_of_some _ (Heap.get?_push_of_some _ x)⟩
end
def IteC (c:Bool) (K:FG7) (a:Addr):It :=
 ⟨fun i H=>∃ xs x,SqC c K H a xs /\ xs[i]? = some x,fun i H x H'=>∃ T v,H T = none /\ x = .ref T /\ H' = upd H T (.tup [.int i,v]) /\ ∀ xs,SqC c K H a xs -> xs[i]? = some v,fun i H=>∃ xs,SqC c K H a xs /\ xs.length <= i⟩
theorem qY {P:Program} {w:World} {K:FG7} {elts:List Expr} {kt:Nat} {pt:Pos} (c:Bool) (a e jt:Addr) (hej:e ≠ jt) (hae:a ≠ e) (haj:a ≠ jt) :
  Turn P w K (.Tuple elts kt pt) (IteC c K a) [e,jt] e (fun i h=>(∃ old,IsEnum h e jt i old) /\ wE c h jt a i) where
 mem:=by simp
 obj:=fun i h st b hb=>by
  obtain ⟨⟨old,he⟩,st⟩:=st
  simp only [List.mem_cons,List.mem_nil_iff,or_false] at hb
  rcases hb with rfl | rfl
  ·exact ⟨_,he,fun v z=>by cases z⟩
  ·exact st.obj
 keep:=fun i h h' st k=>by
  obtain ⟨⟨old,he⟩,st⟩:=st
  exact ⟨⟨old,k e (by simp) _ he⟩,st.at fun o q=>k jt (by simp) o q⟩
 item:=by
  intro X hP hw hK hc i pins s σ H E I hf st hg
  subst hP hw hK
  obtain ⟨⟨old,he⟩,hit⟩:=st
  obtain ⟨xs,x,hq,hx⟩:=hg
  obtain ⟨its,rv,p⟩:=yA I hq
  obtain ⟨u,hu,ru⟩:=rv.get hx
  have hlt:i < its.toArray.size:=by have:=(List.getElem?_eq_some_iff.mp hu).1; simpa using this
  refine wpAny_pyNext_enum_itemD (si (A:=X.A.in1) (I.ok.hd hc) c jt a haj its.toArray) he ⟨hit,p⟩ hlt hej (by simp [hej,Ne.symm hae]) fun v h1 tk hv hout hst1 hT hsz hk=>?_
  have hvu:v = u:=by
   have e1:its.toArray[i]? = some v:=hv
   have e2:its.toArray[i]? = some u:=by simpa using hu
   rw [e1] at e2; exact Option.some.inj e2
  subst hvu
  refine ⟨_,rfl,wpAny_letOwnedTupleGo_enum (s:={ s with heap:=h1,toks:=tk + 1 }) hout fun h2 he2 hs2=>?_⟩
  have hk2:∀ b o,b ∉ [e,jt] -> s.heap.get? b = some o -> h2.get? b = some o:=fun b o hb q=>by
   have n1:b ≠ e:=fun z=>hb (by simp [z])
   have n2:b ≠ jt:=fun z=>hb (by simp [z])
   exact (hs2.2 b n1).trans (hk b o n1 n2 q)
  have eT:s.heap.objs.size ≠ e:=Nat.ne_of_gt (Heap.lt_size he)
  have hT2:h2.get? s.heap.objs.size = some { cls:=.type "tuple",data:=.seq #[.int i tk,v] }:=(hs2.2 _ eT).trans hT
  have hn:H s.heap.objs.size = none:=I.hok.fresh (Nat.le_refl _)
  have I2:Inv X pins σ (upd H s.heap.objs.size (.tup [.int i,x])) { s with heap:=h2,toks:=tk + 1 }:=ql (s:=s) I hk2 hf (Nat.le_refl _) ⟨by show 2 <= sizeLine; decide,[.int i tk,v],.cons ⟨_,rfl⟩ (.cons ru .nil),_,hT2,rfl,0,rfl⟩
  refine ⟨.ref s.heap.objs.size,upd H s.heap.objs.size (.tup [.int i,x]),I2,rfl,⟨_,x,hn,rfl,rfl,fun ys hy=>by rw [xP I hy hq]; exact hx⟩,⟨⟨v,by simpa using he2⟩,?_⟩,fun b hb=>?_⟩
  ·exact hst1.1.at fun o q=>(hs2.2 jt (Ne.symm hej)).trans q
  ·have nb:b ≠ s.heap.objs.size:=by
    obtain ⟨oj,hoj,_⟩:=hit.obj
    simp only [List.mem_cons,List.mem_nil_iff,or_false] at hb
    rcases hb with rfl | rfl
    ·exact Ne.symm eT
    ·exact Nat.ne_of_lt (Heap.lt_size hoj)
   rw [zu nb]; exact (hf b hb).1
 done:=by
  intro X hP hw hK hc i pins s σ H E I hf st hg
  subst hP hw hK
  obtain ⟨⟨old,he⟩,hit⟩:=st
  obtain ⟨xs,hq,hx⟩:=hg
  obtain ⟨its,rv,p⟩:=yA I hq
  have hl:=rv.length
  refine wpAny_pyNext_enum_endD (x8 (A:=X.A.in1) (I.ok.hd hc) c jt a its.toArray (i:=i) (by simp; omega)) he ⟨rfl,hit,p⟩ fun h' eb=>⟨rfl,?_⟩
  exact u9 (fp:=[e,jt]) (t':=s.toks) I (fun b o hb q=>eb b o (fun z=>hb (by simp [z])) q) hf
 self:=fun _ _ _ _ _ st h=>by
  obtain ⟨⟨old,he⟩,_⟩:=st
  exact wpAny_pyIter_enum he h
section
variable {X:Cx} {elts:List Expr} {kt:Nat} {pt:Pos} {K:FG7}
def XL (c:Bool) (K:FG7) (ta:TA):TI:=fun σ H R=>ta σ H fun vs H1=>∃ a xs,vs = [.ref a] /\ SqC c K H1 a xs /\ R (IteC c K a) H1
theorem qq {a:Expr} {ta:TA} {p pos:Pos} (c:Bool) (hK:X.K = K) (hg:Gl X "enumerate") (hm:X.mg "enumerate" = none) (ha:PA X [a] ta) (hs:starEach [a] X.env = [(false,eval a X.env)]:=by rfl) :
  PI X (.Tuple elts kt pt) (.Call (.Name "enumerate" p) [a] [] pos) (XL c K ta):=by
 subst hK
 intro pins s σ H R I h
 refine Call_ (xH I hg hm Yt (PyProof.Rows.callWith_type1 (thn (ha pos pins s σ H _ I h) fun us s1 ⟨vs,H1,I1,r1,q1⟩=>?_) hs rfl))
 obtain ⟨t,xs,e,hq,q⟩:=q1
 subst e
 obtain ⟨u,rfl,e1⟩:=we r1
 cases (show u = Value.ref t from e1)
 obtain ⟨its,rv,p⟩:=yA I1 hq
 refine uO p fun h' he hit _ hk=>?_
 refine wpAny_pyIter_enum he ?_
 have lt:t < s1.heap.objs.size:=p.lt
 have I2:Inv X pins σ H1 { s1 with heap:=h' }:=I1.kept (t':=s1.toks) hk
 refine ⟨s1.heap.objs.size + 1,[s1.heap.objs.size + 1,s1.heap.objs.size],_,_,H1,rfl,I2,qY c t (s1.heap.objs.size + 1) s1.heap.objs.size (Nat.succ_ne_self _) (Nat.ne_of_lt (Nat.lt_succ_of_lt lt)) (Nat.ne_of_lt lt),⟨⟨_,he⟩,hit⟩,fun b hb=>?_,q⟩
 simp only [List.mem_cons,List.mem_nil_iff,or_false] at hb
 rcases hb with rfl | rfl
 ·exact I1.fpOk (Nat.le_succ _) (I1.hok.fresh (Nat.le_succ _))
 ·exact I1.fpOk (Nat.le_refl _) (I1.hok.fresh (Nat.le_refl _))
end
section
variable {K:FG7} {a:Addr} {c:Bool} {xs:List V} {g:TG} {tt:TT} {te:TE} {tb:TS} {D:Ends} {Q:VK} {σ:L2.St} {H:Hp}
theorem qZ (Pv:Nat -> List V -> L2.St -> Hp -> Prop) (h0:Pv 0 [] σ H) (hl:∀ i zs σ H,Pv i zs σ H -> SqC c K H a xs)
  (hs:∀ i x zs σ H T,xs[i]? = some x -> Pv i zs σ H -> H T = none -> g (.ref T) σ (upd H T (.tup [.int i,x])) fun σ2 H3=>tt σ2 H3 fun b H4=>if b = true then te σ2 H4 fun y H5=>zs.length < sizeLine /\ Pv (i + 1) (zs ++ [y]) σ2 H5 else Pv (i + 1) zs σ2 H4)
  (hd:∀ zs σ H,Pv xs.length zs σ H -> ∀ l,H l = none -> Q (.ref l) (upd H l (.lst zs))) :
  vn (IteC c K a) σ H g tt te Q:=by
 refine ⟨fun i m zs σ H=>m = xs.length - i /\ i <= xs.length /\ Pv i zs σ H,⟨xs.length,by simp,Nat.zero_le _,h0⟩,?_⟩
 rintro i m zs σ H ⟨rfl,hi,p⟩
 have q:=hl i zs σ H p
 by_cases hlt:i < xs.length
 ·refine .inr ⟨⟨xs,xs[i],q,by simp [hlt]⟩,Pv (i + 1),fun ws σ' H' p'=>⟨xs.length - (i + 1),by omega,rfl,hlt,p'⟩,fun x H' y=>?_⟩
  obtain ⟨T,v,hT,rfl,rfl,y1⟩:=y
  exact hs i v zs σ H T (y1 xs q) p hT
 ·have e:i = xs.length:=by omega
  subst e
  exact .inl ⟨⟨xs,q,Nat.le_refl _⟩,hd zs σ H p⟩
end
section
variable {X:Cx}
variable {K:FG7}
theorem tf {es:List Expr} {k:Nat} {pos:Pos} {t:TGs} (n:Nat) (h0:X.K = K) (hc:X.calm = true) (h:PGs X es t)
  (hn:(assignEach es X.env).length = n) (hst:(assignEach es X.env).findIdx? (·.1) = none):PG X (.Tuple es k pos) (gTup K n t):=by subst h0; exact uD hc h hn hst
end
def InC (C:Int) (xs:List Int):Prop:=∀ v ∈ xs,-C <= v /\ v <= C
theorem InC.mono {B C:Int} {xs:List Int} (h:InC B xs) (hC:B <= C):InC C xs:=fun v hv=>by have:=h v hv; omega
theorem wD:∀ {ns:List Int} {us:List Value},IntsAre us ns -> Vals (ns.map V.int) us:=by
 intro ns us h
 induction h with
 | nil=>exact .nil
 | cons n t _ ih=>exact .cons ⟨t,rfl⟩ ih
section
variable {X:Cx} {K:FG7}
theorem sj (hK:X.K = K):xD X (.builtin "sorted") (fun xs H Q=>∃ (l:Addr) (ns:List Int),xs = [.ref l] /\ SqL K H l (ns.map V.int) /\ ns.length < 64 /\ ∀ (p:Addr) (ms:List Int),H p = none -> ms.Perm ns -> ms.Pairwise (· <= ·) -> Q (.ref p) (upd H p (.lst (ms.map V.int)))):=by
 subst hK
 intro pins s σ H xs us Q I r h
 obtain ⟨l,ns,rfl,hl,h64,q⟩:=h
 obtain ⟨u,rfl,rx⟩:=we r
 cases (show u = Value.ref l from rx)
 obtain ⟨vs,rv,pl,hz⟩:=I.list hl
 have hlen:=rv.length
 rw [List.length_map] at hlen hz
 refine sorted_ints pl.isList (qS rv) (by omega) fun out ms i1 i2 i3=>?_
 obtain ⟨e,he⟩:=sortedAll_at s.heap vs out
 have hn:H (s.heap.objs.size + 1) = none:=I.hok.fresh (Nat.le_succ _)
 have rl:=wD i1
 refine ⟨.ref (s.heap.objs.size + 1),_,?_,rfl,q _ ms hn i2 i3⟩
 refine I.laid (t':=s.toks) (fun b o q=>sortedAll_old q) (Nat.le_succ _) (show ye X.prog X.w _ _ _ (.lst (ms.map V.int)) from ⟨by rw [List.length_map,i2.length_eq]; exact hz,out.toList,e,rl,he⟩)
end
theorem rg {M:Model} {A:Around} {E:VS7} {s:Shared} {a:Addr} {Q:Option Obj -> Shared -> Prop} (h:Q (s.heap.get? a) s):wpAny M A (loadIfAlive a) Q E s:=fun _ _ _=>h
structure Wk (prog:Program) (w:World) (A:Around) (T:String) (I:Addr) (n:Nat) (Fr:Addr -> Prop) (J:List Value -> Shared -> Prop) (Fn:List Value -> Shared -> Prop):Prop where
 ty:∀ acc s,J acc s -> s.TypeIs (.ref I) T
 self:∀ acc s (Q:VS7) (E:VS7),J acc s -> Q (.ref I) s -> wpAny (model prog w) A (pyIter (.ref I)) Q E s
 stay:∀ acc s (S:Addr) (ob:Obj) (h':Heap),J acc s -> Fr S -> s.heap.get? S = some ob -> ob.cls = .type "list" -> (∀ b o,b ≠ S -> s.heap.get? b = some o -> h'.get? b = some o) -> h'.objs.size = s.heap.objs.size -> J acc { s with heap:=h' }
 next:∀ acc s (S:Addr) (ob:Obj) (Q:Option Value -> Shared -> Prop) (E:VS7),J acc s -> Fr S -> s.heap.get? S = some ob -> ob.cls = .type "list" →
  (∀ v s',acc.length < n -> J (acc ++ [v]) s' -> s'.heap.get? S = some ob -> Q (some v) s') -> (∀ s',Fn acc s' -> s'.heap.get? S = some ob -> Q none s') -> wpAny (model prog w) A (pyNext (.ref I)) Q E s
 push:∀ acc s (o:Obj),J acc s -> J acc { s with heap:=s.heap.push o }
abbrev lsO (acc:Array Value) (c:Nat):Obj:={ cls:=.type "list",dict:=none,data:=.seq acc c,slots:=#[] }
section
variable {prog:Program} {w:World} {A:Around} {R:Result -> Shared -> Prop} {T:String} {I:Addr} {n:Nat} {Fr:Addr -> Prop} {J Fn:List Value -> Shared -> Prop}
theorem sk (W:Wk prog w A.in1 T I n Fr J Fn) (hn:n <= sizeLine) (S:Addr) (hSf:Fr S) (res:Value) :
  ∀ (k:Nat) (s:Shared) (acc:List Value) (c:Nat),n - acc.length = k -> acc.length <= n -> J acc s -> s.heap.get? S = some (lsO acc.toArray c) →
  (∀ s' acc' c',Fn acc' s' -> acc'.length <= n -> s'.heap.get? S = some (lsO acc'.toArray c') -> R (.ok (.ret res)) s') →
  codeAny (model prog w) A (.builtin "list.extend.loop" ⟨[.ref S,.ref I,res],[]⟩) R s:=by
 intro k
 induction k with
 | zero =>
  intro s acc c hk hi hj hS hR
  refine codeAny_builtin F.entry_extend_loop ?_
  rw [Around.under_plainId F.plain_extend_loop _]
  show wpAny _ A.in1 (pyNext (.ref I) >>= _) _ _ s
  refine wpAny_bind (W.next acc s S _ _ _ hj hSf hS rfl (fun v s' hl=>by omega) fun s' hf hS'=>?_)
  exact wpAny_pure (hR s' acc c hf hi hS')
 | succ k ih =>
  intro s acc c hk hi hj hS hR
  refine codeAny_builtin F.entry_extend_loop ?_
  rw [Around.under_plainId F.plain_extend_loop _]
  show wpAny _ A.in1 (pyNext (.ref I) >>= _) _ _ s
  refine wpAny_bind (W.next acc s S _ _ _ hj hSf hS rfl (fun v s' hl hj' hS'=>?_) fun s' hf hS'=>?_)
  ·show wpAny _ A.in1 (updateSeq S (·.push v) >>= _) _ _ _
   refine wpAny_bind ?_
   obtain ⟨c2,e2⟩:∃ c2,(s'.heap.update S (Obj.mapSeq (·.push v))).get? S = some (lsO (acc ++ [v]).toArray c2):=by
    rw [show (acc ++ [v]).toArray = acc.toArray.push v by simp]
    exact ⟨_,Heap.get?_update_self (Obj.mapSeq (·.push v)) hS' rfl⟩
   refine wpAny_updateSeq hS' rfl (wpAny_pure ⟨plainId_quiet F.plain_extend_loop _,ih _ (acc ++ [v]) c2 (by rw [List.length_append]; show n - (acc.length + 1) = k; omega) (by rw [List.length_append]; show acc.length + 1 <= n; omega)
    (W.stay _ s' S _ _ hj' hSf hS' rfl (fun b o hb e=>(Heap.get?_update_other _ _ (Ne.symm hb)).trans e) (Heap.size_update ..)) e2 hR⟩) (by rw [List.size_toArray]; omega) (by show (acc.toArray.push v).size <= sizeLine + 1; rw [Array.size_push,List.size_toArray]; omega)
  ·exact wpAny_pure (hR s' acc c hf hi hS')
theorem Y1 (W:Wk prog w A.in1 T I n Fr J Fn) (hn:n <= sizeLine) (t1:(Value.type T == Value.type "list") = false) (t2:(Value.type T == Value.type "tuple") = false) (t3:typeLookup (.type T) "__len__" = pure none) (t4:typeLookup (.type T) "__length_hint__" = pure none)
  (S:Addr) (res:Value) (c₀:Nat) {s:Shared} (hj:J [] s) (hSf:Fr S) (hSI:S ≠ I) (hS:s.heap.get? S = some (lsO #[] c₀))
  (hR:∀ s' acc' c',Fn acc' s' -> acc'.length <= n -> s'.heap.get? S = some (lsO acc'.toArray c') -> R (.ok (.ret res)) s') :
  wpAny (model prog w) A.in1 (Builtin.List.listExtendWith (.ref S) (.ref I) res)
   (fun fin s'=>match fin with | .done f=>R (.ok f) s' | .again c'=>c'.quiet = true /\ codeAny (model prog w) A c' R s') (fun e s'=>R (.error e) s') s:=by
 unfold Builtin.List.listExtendWith
 refine wpAny_bind (wpAny_typeOf (W.ty _ _ hj) ?_)
 have h1:Builtin.List.listSameRef (.ref S) (.ref I) = false:=by simp [Builtin.List.listSameRef,hSI]
 simp only [h1,t1,t2,Bool.or_false,Bool.false_eq_true,if_false]
 refine wpAny_bind (W.self _ _ _ _ hj ?_)
 refine wpAny_bind (wpAny_holding ?_)
 unfold Builtin.List.listLengthHint
 refine wpAny_bind (wpAny_specialOf (W.ty _ _ hj) t3 ?_)
 show wpAny _ A.in1 (specialOf (Value.ref I) (Str.ofString "__length_hint__") >>= _) _ _ _
 refine wpAny_bind (wpAny_specialOf (W.ty _ _ hj) t4 ?_)
 refine wpAny_pure ?_
 show wpAny _ A.in1 (rule "list.extend.makes-room" >>= fun _=>Builtin.List.listTouch (.ref S) >>= fun _ =>
  again (.builtin "list.extend.loop" ⟨[.ref S,.ref I,res],[]⟩)) _ _ _
 refine wpAny_bind (wpAny_rule ?_)
 refine wpAny_bind ?_
 show wpAny _ A.in1 (updateSeq S (·.push .none) >>= fun _=>updateSeq S (·.pop)) _ _ _
 refine wpAny_bind (wpAny_updateSeq hS rfl ?_)
 have hS₂:=Heap.get?_update_self (Obj.mapSeq (·.push Value.none)) hS rfl
 refine wpAny_updateSeq (hz:=by seq_fits) hS₂ rfl ?_
 have hS₃:=Heap.get?_update_self (Obj.mapSeq (·.pop)) hS₂ rfl
 have oth:∀ b o,b ≠ S -> s.heap.get? b = some o -> ((s.heap.update S (Obj.mapSeq (·.push Value.none))).update S (Obj.mapSeq (·.pop))).get? b = some o :=
  fun b o hb e=>(Heap.get?_update_other _ _ (Ne.symm hb)).trans ((Heap.get?_update_other _ _ (Ne.symm hb)).trans e)
 exact wpAny_pure ⟨plainId_quiet F.plain_extend_loop _,sk W hn S hSf res n _ [] _ rfl (Nat.zero_le _) (W.stay _ s S _ _ hj hSf hS rfl oth (by rw [Heap.size_update,Heap.size_update])) hS₃ hR⟩
end
section
variable {prog:Program} {w:World} {A:Around} {E:VS7} {s:Shared} {T:String} {I:Addr} {n:Nat} {Fr:Addr -> Prop} {J Fn:List Value -> Shared -> Prop}
theorem Z3 {Q:List Value -> Shared -> Prop} (W:Wk prog w A.in1 T I n Fr J Fn) (hn:n <= sizeLine) (t1:(Value.type T == Value.type "list") = false) (t2:(Value.type T == Value.type "tuple") = false) (t3:typeLookup (.type T) "__len__" = pure none) (t4:typeLookup (.type T) "__length_hint__" = pure none)
  (hj:J [] s) (hSf:Fr s.heap.objs.size) (hSI:s.heap.objs.size ≠ I) (hQ:∀ s' acc',Fn acc' s' -> acc'.length <= n -> Q acc' s'):wpAny (model prog w) A (collect (.ref I)) Q E s:=by
 unfold collect
 refine wpAny_bind (wpAny_runValue (codeAny_builtin F.entry_proto_collect ?_))
 rw [Around.under_plainId F.plain_proto_collect _]
 show wpAny _ A.in1 (newList [] >>= fun l=>again (.builtin "list.__iadd__" ⟨[l,.ref I],[]⟩)) _ _ s
 refine wpAny_bind (wpAny_newObj_type ?_)
 refine wpAny_pure ⟨plainId_quiet F.plain_list_iadd _,codeAny_builtin F.entry_list_iadd ?_⟩
 rw [Around.under_plainId F.plain_list_iadd _]
 have hj1:=W.push _ s { cls:=.type "list",data:=.seq ([]:List Value).toArray } hj
 show wpAny _ A.in1 (Builtin.List.listExtendWith (.ref s.heap.objs.size) (.ref I) (.ref s.heap.objs.size)) _ _ _
 have fin:∀ s' acc' c',Fn acc' s' -> acc'.length <= n -> s'.heap.get? s.heap.objs.size = some (lsO acc'.toArray c') -> wpAny (model prog w) A (load s.heap.objs.size >>= fun o=>match o.data with | .seq xs _=>pure xs.toList | _=>unsupported "internal:collect") Q E s':=fun s' acc' c' hf hl hS' =>
  wpAny_bind (wpAny_load hS' (wpAny_pure (hQ s' acc' hf hl)))
 refine wpAny_mono (Y1 (R:=fun r s'=>∃ acc' c',r = .ok (.ret (.ref s.heap.objs.size)) /\ Fn acc' s' /\ acc'.length <= n /\ s'.heap.get? s.heap.objs.size = some (lsO acc'.toArray c')) W hn t1 t2 t3 t4 s.heap.objs.size _ _ hj1 hSf hSI (Heap.get?_push_size _ rfl) fun s' acc' c' hf hl hS'=>⟨acc',c',rfl,hf,hl,hS'⟩) (fun fn s' h=>?_) (fun e s' h=>?_)
 ·cases fn with
  | done f =>
   obtain ⟨acc',c',e,hf,hl,hS'⟩:=h
   cases e
   exact fin s' acc' c' hf hl hS'
  | again c =>
   refine ⟨h.1,codeAny_mono h.2 fun r s'' hr=>?_⟩
   obtain ⟨acc',c',e,hf,hl,hS'⟩:=hr
   subst e
   exact fin s'' acc' c' hf hl hS'
 ·obtain ⟨acc',c',e,_⟩:=h
  cases e
theorem rh {Q:VS7} (W:Wk prog w A.in1.in1.in1 T I n Fr J Fn) (hn:n <= sizeLine) (t1:(Value.type T == Value.type "list") = false) (t2:(Value.type T == Value.type "tuple") = false) (t3:typeLookup (.type T) "__len__" = pure none) (t4:typeLookup (.type T) "__length_hint__" = pure none)
  (hj:J [] s) (hSf:Fr s.heap.objs.size) (hSI:s.heap.objs.size ≠ I)
  (hQ:∀ s' acc',Fn acc' s' -> acc'.length <= n -> Q (.ref s'.heap.objs.size) { s' with heap:=s'.heap.push { cls:=.type "tuple",data:=.seq acc'.toArray } }) :
  wpAny (model prog w) A (call (.type "tuple") [.ref I]) Q E s:=by
 refine callType_codes (Q₁:=fun obj s₁=>s₁.TypeIs obj "tuple" /\ Q obj s₁) F.called_tuple (F.typeCall_tuple_1 _) F.entry_object_init ?_ fun obj s₁ h₁=>?_
 ·refine codeAny_of_tree ?_
  show wpAny _ A.in1.in1 (do checkBuiltinCall "tuple.__new__" ⟨[.type "tuple",.ref I],[]⟩; again (.builtin "tuple.__new__" ⟨[.type "tuple",.ref I],[]⟩)) _ _ s
  refine wpAny_bind (wpAny_of_eq (F.newCall_tuple_1 _) (wpAny_pure ⟨plainId_quiet F.plain_tuple_new _,codeAny_builtin F.entry_tuple_new ?_⟩))
  rw [Around.under_plainId F.plain_tuple_new _]
  have hsub:=sub_tuple_self
  have hinit:=init_tuple_lookup
  have hmh:=madeHere_tuple
  have hTI:=W.ty _ _ hj
  wp_walk using wpAny_typeOf hTI,Z3 (A:=A.in1.in1) W hn t1 t2 t3 t4 hj hSf hSI
  intro s' acc hf hl
  show wpAny _ _ (Builtin.Tuple.tupleExact acc.toArray >>= fun v=>ret v) _ _ _
  unfold Builtin.Tuple.tupleExact
  refine wpAny_bind (wpAny_newObj_type ?_ (by show acc.toArray.size <= sizeLine; rw [List.size_toArray]; omega))
  exact wpAny_pure ⟨⟨_,Heap.get?_push_size _ rfl,rfl⟩,hQ s' acc hf hl⟩
 ·exact ⟨h₁.1,F.args_object_init_2 obj _,object_init_meets F.called_tuple.init.lookup F.called_tuple.made (by decide) prog w A.in1 _ s₁ ⟨h₁.1,rfl,h₁.2⟩⟩
end
abbrev yn (h:Heap) (e it:Addr) (i:Int) (f0 f1 old:Value):Prop :=
 h.get? e = some { cls:=.type "enumerate",dict:=none,data:=.fields #[f0,f1,.ref it,rawInt i,.none,old],slots:=#[] }
def OwnF (f0:Value):Prop:=f0 = .none \/ ∃ a:Addr,f0 = rawInt a
section
variable {prog:Program} {w:World} {A:Around} {E:VS7} {s:Shared}
theorem q5 {e it:Addr} {fp:List Addr} {n i:Nat} {P:Nat -> Value -> Prop} {St:Nat -> Heap -> Prop} {f0 f1 old:Value} {Q:VS7}
  (D:Draws prog w A it fp n P St) (he:yn s.heap e it i f0 f1 old) (hf:OwnF f0) (hst:St i s.heap) (hlt:i < n) (hne:e ≠ it) (hef:e ∉ fp)
  (hQ:∀ x h' tk f0' f1' old',P i x -> yn h' e it ((i:Int) + 1) f0' f1' old' -> OwnF f0' -> St (i + 1) h' →
   h'.get? s.heap.objs.size = some { cls:=.type "tuple",data:=.seq #[.int i tk,x] } -> h'.objs.size = s.heap.objs.size + 1 →
   (∀ b o,b ≠ e -> b ≠ it -> s.heap.get? b = some o -> h'.get? b = some o) -> Q (.ref s.heap.objs.size) { s with heap:=h',toks:=tk + 1 }) :
  wpAny (model prog w) A (Builtin.«enumerate.__next__» ⟨[.ref e],[]⟩) (fun fin s'=>∃ v,fin = Fin.done (Flow.ret v) /\ Q v s') E s:=by
 obtain ⟨hp,g,d,tk0,os⟩:=s
 show wpAny _ _ (field (.ref e) 2 >>= _) _ _ ⟨hp,g,d,tk0,os⟩
 refine wpAny_bind (wpAny_field he rfl (x:=.ref it) rfl ?_)
 refine wpAny_bind (D.item i _ _ _ hlt hst fun x h₁ tk hPx hit₁ hs₁=>?_)
 replace hs₁:Heap.SameBut it hp h₁:=hs₁
 have he₁:yn h₁ e it i f0 f1 old:=(hs₁.2 e hne).trans he
 show wpAny _ _ (field (.ref e) 3 >>= _) _ _ ⟨h₁,g,d,tk,os⟩
 refine wpAny_bind (wpAny_field he₁ rfl (x:=rawInt i) rfl ?_)
 show wpAny _ _ (field (.ref e) 4 >>= _) _ _ ⟨h₁,g,d,tk,os⟩
 refine wpAny_bind (wpAny_field he₁ rfl (x:=.none) rfl ?_)
 show wpAny _ _ (mkInt i >>= _) _ _ ⟨h₁,g,d,tk,os⟩
 refine wpAny_bind (wpAny_mkInt ?_)
 show wpAny _ _ (setField (.ref e) 3 (rawInt ((i:Int) + 1)) >>= _) _ _ ⟨h₁,g,d,tk + 1,os⟩
 refine wpAny_bind (wpAny_setField_rec he₁ (by simp) fun h₂ he₂ hs₂=>?_)
 replace hs₂:Heap.SameBut e h₁ h₂:=hs₂
 replace he₂:yn h₂ e it ((i:Int) + 1) f0 f1 old:=he₂
 show wpAny _ _ (setField (.ref e) 4 .none >>= _) _ _ ⟨h₂,g,d,tk + 1,os⟩
 refine wpAny_bind (wpAny_setField_rec he₂ (by simp) fun h₃ he₃ hs₃=>?_)
 replace hs₃:Heap.SameBut e h₂ h₃:=hs₃
 replace he₃:yn h₃ e it ((i:Int) + 1) f0 f1 old:=he₃
 show wpAny _ _ (newTuple [.int i tk,x] >>= _) _ _ ⟨h₃,g,d,tk + 1,os⟩
 refine wpAny_bind (wpAny_newTuple ?_)
 have he₄:yn (h₃.push { cls:=.type "tuple",data:=.seq #[.int i tk,x] }) e it ((i:Int) + 1) f0 f1 old:=Heap.get?_push_of_some _ he₃
 generalize hh₄:h₃.push { cls:=.type "tuple",data:=.seq #[.int i tk,x] } = h₄ at he₄
 have hsz:h₃.objs.size = hp.objs.size:=by rw [hs₃.1,hs₂.1,hs₁.1]
 have hel:e < hp.objs.size:=Heap.lt_size he
 have ht₄:h₄.get? hp.objs.size = some { cls:=.type "tuple",data:=.seq #[.int i tk,x] }:=by rw [← hh₄,← hsz]; exact Heap.get?_push_size _ rfl
 have hz₄:h₄.objs.size = hp.objs.size + 1:=by rw [← hh₄,Heap.size_push,hsz]
 have hk₄:∀ b o,b ≠ e -> b ≠ it -> hp.get? b = some o -> h₄.get? b = some o:=fun b o hbe hbi hb=>by
  rw [← hh₄]; exact Heap.get?_push_of_some _ (hs₃.extBut b o hbe (hs₂.extBut b o hbe (hs₁.extBut b o hbi hb)))
 have hit₄:St (i + 1) h₄:=D.frame _ _ _ hit₁ fun b hb o y=>by
  have hbe:b ≠ e:=fun q=>hef (q ▸ hb)
  rw [← hh₄]; exact Heap.get?_push_of_some _ (hs₃.extBut b o hbe (hs₂.extBut b o hbe y))
 show wpAny _ _ (Builtin.SmallTypes.ownedTupleIsFree (.ref e) >>= _) _ _ ⟨h₄,g,d,tk + 1,os⟩
 rw [hsz]
 clear hh₄ he₃ hs₃ he₂ hs₂ he₁ hs₁ hit₁ hsz h₃ h₂ h₁
 have eT:hp.objs.size ≠ e:=Nat.ne_of_gt hel
 -- the tuple is free: it is kept by the enumerate object
 have free:wpAny (model prog w) A (rule "enumerate.__next__.owned-tuple-again" >>= fun _=>field (.ref e) 5 >>= fun old=>setField (.ref e) 5 x >>= fun _=>Builtin.SmallTypes.ownedTupleHandOut (.ref e) (.ref hp.objs.size) >>= fun _=>letGo [old] [.ref hp.objs.size] >>= fun _=>ret (.ref hp.objs.size)) (fun fin s'=>∃ v,fin = Fin.done (Flow.ret v) /\ Q v s') E ⟨h₄,g,d,tk + 1,os⟩:=by
  refine wpAny_bind (wpAny_rule ?_)
  refine wpAny_bind (wpAny_field he₄ rfl (x:=old) rfl ?_)
  refine wpAny_bind (wpAny_setField_rec he₄ (by simp) fun h₅ he₅ hs₅=>?_)
  replace hs₅:Heap.SameBut e h₄ h₅:=hs₅
  replace he₅:yn h₅ e it ((i:Int) + 1) f0 f1 x:=he₅
  refine wpAny_bind ?_
  unfold Builtin.SmallTypes.ownedTupleHandOut
  refine wpAny_bind (wpAny_setField_rec he₅ (by simp) fun h₆ he₆ hs₆=>?_)
  replace hs₆:Heap.SameBut e h₅ h₆:=hs₆
  replace he₆:yn h₆ e it ((i:Int) + 1) (rawInt hp.objs.size) f1 x:=he₆
  refine wpAny_setField_rec he₆ (by simp) fun h₇ he₇ hs₇=>?_
  replace hs₇:Heap.SameBut e h₆ h₇:=hs₇
  replace he₇:yn h₇ e it ((i:Int) + 1) (rawInt hp.objs.size) (.bool false) x:=he₇
  refine wpAny_bind (wpAny_letGo (wpAny_pure ⟨_,rfl,hQ x h₇ tk _ _ _ hPx he₇ (.inr ⟨_,rfl⟩) ?_ ?_ ?_ ?_⟩))
  ·exact D.frame _ _ _ hit₄ fun b hb o y=>by
    have hbe:b ≠ e:=fun q=>hef (q ▸ hb)
    exact hs₇.extBut b o hbe (hs₆.extBut b o hbe (hs₅.extBut b o hbe y))
  ·exact hs₇.extBut _ _ eT (hs₆.extBut _ _ eT (hs₅.extBut _ _ eT ht₄))
  ·rw [hs₇.1,hs₆.1,hs₅.1,hz₄]
  ·exact fun b o hbe hbi hb=>hs₇.extBut b o hbe (hs₆.extBut b o hbe (hs₅.extBut b o hbe (hk₄ b o hbe hbi hb)))
 have used:∀ h₅ f1',yn h₅ e it ((i:Int) + 1) f0 f1' old -> Heap.SameBut e h₄ h₅ -> wpAny (model prog w) A (ret (.ref hp.objs.size)) (fun fin s'=>∃ v,fin = Fin.done (Flow.ret v) /\ Q v s') E ⟨h₅,g,d,tk + 1,os⟩:=fun h₅ f1' he₅ hs₅ =>
  wpAny_pure ⟨_,rfl,hQ x h₅ tk _ _ _ hPx he₅ hf (D.frame _ _ _ hit₄ fun b hb o y=>hs₅.extBut b o (fun q=>hef (q ▸ hb)) y) (hs₅.extBut _ _ eT ht₄) (by rw [hs₅.1,hz₄]) fun b o hbe hbi hb=>hs₅.extBut b o hbe (hk₄ b o hbe hbi hb)⟩
 refine wpAny_bind ?_
 unfold Builtin.SmallTypes.ownedTupleIsFree
 rcases hf with rfl | ⟨a,rfl⟩
 ·refine wpAny_bind (wpAny_field he₄ rfl (x:=.none) rfl (wpAny_pure ?_))
  simp only [if_true]
  exact free
 ·refine wpAny_bind (wpAny_field he₄ rfl (x:=rawInt a) rfl ?_)
  show wpAny _ _ (loadIfAlive (a:Int).toNat >>= _) _ _ _
  refine wpAny_bind (rg ?_)
  by_cases hl:(h₄.get? (a:Int).toNat).isNone = true
  ·rw [show (Shared.heap ⟨h₄,g,d,tk + 1,os⟩).get? (a:Int).toNat = h₄.get? (a:Int).toNat from rfl,hl]
   simp only [if_true]
   refine wpAny_pure ?_
   simp only [if_true]
   exact free
  ·rw [show (Shared.heap ⟨h₄,g,d,tk + 1,os⟩).get? (a:Int).toNat = h₄.get? (a:Int).toNat from rfl,Bool.eq_false_iff.mpr hl]
   simp only [Bool.false_eq_true,if_false]
   refine wpAny_bind (wpAny_field he₄ rfl (x:=f1) rfl ?_)
   split
   ·refine wpAny_bind (wpAny_setField_rec he₄ (by simp) fun h₅ he₅ hs₅=>wpAny_pure ?_)
    simp only [Bool.false_eq_true,if_false]
    exact used h₅ (.bool true) he₅ hs₅
   ·refine wpAny_pure ?_
    simp only [Bool.false_eq_true,if_false]
    exact used h₄ f1 he₄ ⟨rfl,fun _ _=>rfl⟩
theorem q8 {e it:Addr} {fp:List Addr} {n:Nat} {P:Nat -> Value -> Prop} {St:Nat -> Heap -> Prop} {i:Int} {f0 f1 old:Value} {Q:Option Value -> Shared -> Prop}
  (D:Draws prog w A.in1 it fp n P St) (he:yn s.heap e it i f0 f1 old) (hst:St n s.heap)
  (hQ:∀ h',Heap.ExtBut it s.heap h' -> Q none { s with heap:=h' }):wpAny (model prog w) A (pyNext (.ref e)) Q E s:=by
 have hT:s.TypeIs (.ref e) "enumerate":=⟨_,he,rfl⟩
 unfold pyNext
 refine wpAny_bind (wpAny_attempt (wpAny_callSpecial?_slot (name:=Str.ofString "__next__") hT F.slot_enumerate_next
  (wpAny_call_entry F.slot_enumerate_next hT F.entry_enumerate_next ?_ (F.args_enumerate_next_1 _))))
 show wpAny _ _ (field (.ref e) 2 >>= _) _ _ _
 refine wpAny_bind (wpAny_field he rfl (x:=.ref it) rfl ?_)
 refine wpAny_bind (D.done _ _ _ hst fun h' x he' hx'=>?_)
 obtain ⟨o,ho,hc⟩:=hx'
 refine wpAny_bind (wpAny_isInstance (T:="StopIteration") (b:=true) ⟨o,ho,hc⟩ isSubtype_stop ?_)
 exact wpAny_pure (hQ _ he')
theorem sm {e it:Addr} {fp:List Addr} {n i:Nat} {P:Nat -> Value -> Prop} {St:Nat -> Heap -> Prop} {f0 f1 old:Value} {Q:Option Value -> Shared -> Prop}
  (D:Draws prog w A.in1 it fp n P St) (he:yn s.heap e it i f0 f1 old) (hf:OwnF f0) (hst:St i s.heap) (hlt:i < n) (hne:e ≠ it) (hef:e ∉ fp)
  (hQ:∀ x h' tk f0' f1' old',P i x -> yn h' e it ((i:Int) + 1) f0' f1' old' -> OwnF f0' -> St (i + 1) h' →
   h'.get? s.heap.objs.size = some { cls:=.type "tuple",data:=.seq #[.int i tk,x] } -> h'.objs.size = s.heap.objs.size + 1 →
   (∀ b o,b ≠ e -> b ≠ it -> s.heap.get? b = some o -> h'.get? b = some o) -> Q (some (.ref s.heap.objs.size)) { s with heap:=h',toks:=tk + 1 }) :
  wpAny (model prog w) A (pyNext (.ref e)) Q E s:=by
 have hT:s.TypeIs (.ref e) "enumerate":=⟨_,he,rfl⟩
 unfold pyNext
 exact wpAny_bind (wpAny_attempt (wpAny_callSpecial?_slot (name:=Str.ofString "__next__") hT F.slot_enumerate_next
  (wpAny_call_entry F.slot_enumerate_next hT F.entry_enumerate_next
   (q5 D he hf hst hlt hne hef fun x h' tk f0' f1' old' a b c d e1 f k=>wpAny_pure (hQ x h' tk f0' f1' old' a b c d e1 f k)) (F.args_enumerate_next_1 _))))
theorem q9 {e it:Addr} {i:Int} {f0 f1 old:Value} {Q:VS7} (he:yn s.heap e it i f0 f1 old) (h:Q (.ref e) s):wpAny (model prog w) A (pyIter (.ref e)) Q E s:=by
 have hT:s.TypeIs (.ref e) "enumerate":=⟨_,he,rfl⟩
 refine wpAny_pyIter_slot hT F.slot_enumerate_iter (wpAny_call_entry F.slot_enumerate_iter hT F.entry_enumerate_iter ?_ (F.args_enumerate_iter_1 _))
 show wpAny _ _ (ret (.ref e)) _ _ s
 exact wpAny_pure ⟨_,rfl,"enumerate",_,hT,F.slot_enumerate_next.lookup,h⟩
def EnJ (s0:Shared) (c:Bool) (e jt a:Addr) (its:Array Value) (acc:List Value) (s:Shared):Prop :=
 ∃ (h:Heap) (tk:Nat) (f0 f1 old:Value),s = { s0 with heap:=h,toks:=tk } /\ yn h e jt (acc.length:Int) f0 f1 old /\ OwnF f0 /\ wE c h jt a acc.length /\ SeqC c h a its /\ acc.length <= its.size /\ s0.heap.objs.size <= h.objs.size ∧
  (∀ (i:Nat) (v:Value),acc[i]? = some v -> ∃ (T:Addr) (t:Tok) (x:Value),v = .ref T /\ s0.heap.objs.size <= T /\ its[i]? = some x /\ h.get? T = some { cls:=.type "tuple",data:=.seq #[.int i t,x] }) ∧
  ∀ b o,b ≠ e -> b ≠ jt -> s0.heap.get? b = some o -> h.get? b = some o
def EnF (s0:Shared) (e jt:Addr) (its:Array Value) (acc:List Value) (s:Shared):Prop :=
 ∃ (h:Heap) (tk:Nat),s = { s0 with heap:=h,toks:=tk } /\ acc.length = its.size /\ (∃ o,h.get? e = some o) ∧
  (∀ (i:Nat) (v:Value),acc[i]? = some v -> ∃ (T:Addr) (t:Tok) (x:Value),v = .ref T /\ s0.heap.objs.size <= T /\ its[i]? = some x /\ h.get? T = some { cls:=.type "tuple",data:=.seq #[.int i t,x] }) ∧
  ∀ b o,b ≠ e -> b ≠ jt -> s0.heap.get? b = some o -> h.get? b = some o
theorem Y2 {s0:Shared} (hh:A.handled = none) (c:Bool) (e jt a:Addr) (hej:e ≠ jt) (hae:a ≠ e) (haj:a ≠ jt) (its:Array Value) :
  Wk prog w A "enumerate" e its.size (fun S=>S ∉ [e,jt,a] /\ s0.heap.objs.size <= S) (EnJ s0 c e jt a its) (EnF s0 e jt its) where
 ty:=fun acc s ⟨h,tk,f0,f1,old,es,he,_⟩=>by subst es; exact ⟨_,he,rfl⟩
 self:=fun acc s Q E ⟨h,tk,f0,f1,old,es,he,_⟩ q=>by subst es; exact q9 (s:={ s0 with heap:=h,toks:=tk }) he q
 push:=fun acc s o ⟨h,tk,f0,f1,old,es,he,hf,hi,hs,hl,hz,ht,hk⟩=>by
  subst es
  refine ⟨h.push o,tk,f0,f1,old,rfl,Heap.get?_push_of_some _ he,hf,hi.at fun ob q=>Heap.get?_push_of_some _ q,?_,hl,by rw [Heap.size_push]; omega,fun i v hv=>?_,fun b ob b1 b2 q=>Heap.get?_push_of_some _ (hk b ob b1 b2 q)⟩
  ·cases c
   ·exact Heap.IsList.push hs o
   ·exact Heap.IsTuple.push hs o
  ·obtain ⟨T,t,x,e1,e2,e3,e4⟩:=ht i v hv
   exact ⟨T,t,x,e1,e2,e3,Heap.get?_push_of_some _ e4⟩
 stay:=fun acc s S ob h' ⟨h,tk,f0,f1,old,es,he,hf,hi,hs,hl,hz,ht,hk⟩ hS hob hc k hsz=>by
  subst es
  have nS:S ≠ e /\ S ≠ jt /\ S ≠ a:=by simpa using hS.1
  have k':∀ b o,b ≠ S -> h.get? b = some o -> h'.get? b = some o:=k
  have hob':h.get? S = some ob:=hob
  refine ⟨h',tk,f0,f1,old,rfl,k' e _ (Ne.symm nS.1) he,hf,hi.at fun o q=>k' jt o (Ne.symm nS.2.1) q,?_,hl,by rw [hsz]; exact hz,fun i v hv=>?_,fun b o b1 b2 q=>?_⟩
  ·cases c
   ·exact Heap.IsList.at hs fun o q=>k' a o (Ne.symm nS.2.2) q
   ·exact Heap.IsTuple.at hs fun o q=>k' a o (Ne.symm nS.2.2) q
  ·obtain ⟨T,t,x,e1,e2,e3,e4⟩:=ht i v hv
   refine ⟨T,t,x,e1,e2,e3,k' T _ (fun z=>?_) e4⟩
   rw [z,hob'] at e4
   cases e4
   exact absurd hc (by show ¬ (Value.type "tuple" = Value.type "list"); decide)
  ·by_cases z:b = S
   ·exact absurd (Heap.lt_size q) (by rw [z]; exact Nat.not_lt.mpr hS.2)
   ·exact k' b o z (hk b o b1 b2 q)
 next:=fun acc s S ob Q E ⟨h,tk,f0,f1,old,es,he,hf,hi,hs,hl,hz,ht,hk⟩ hS hob hc q1 q2=>by
  subst es
  have nS:S ≠ e /\ S ≠ jt /\ S ≠ a:=by simpa using hS.1
  have hob':h.get? S = some ob:=hob
  by_cases hlt:acc.length < its.size
  ·refine sm (s:={ s0 with heap:=h,toks:=tk }) (si (A:=A.in1) hh c jt a haj its) he hf ⟨hi,hs⟩ hlt hej (by simp [hej,Ne.symm hae]) fun x h' tk' f0' f1' old' hx he' hf' hst hT hsz hkk=>?_
   have elen:(acc ++ [Value.ref h.objs.size]).length = acc.length + 1:=by rw [List.length_append]; rfl
   refine q1 _ _ hlt ⟨h',tk' + 1,f0',f1',old',rfl,?_,hf',?_,hst.2,by rw [elen]; omega,?_,fun i v hv=>?_,fun b o b1 b2 q=>hkk b o b1 b2 (hk b o b1 b2 q)⟩ (hkk S _ nS.1 nS.2.1 hob')
   ·rw [elen]; exact he'
   ·rw [elen]; exact hst.1
   ·rw [hsz]; exact Nat.le_succ_of_le hz
   ·by_cases hi':i < acc.length
    ·rw [List.getElem?_append_left hi'] at hv
     obtain ⟨T,t,y,e1,e2,e3,e4⟩:=ht i v hv
     have lt:=Heap.lt_size e4
     refine ⟨T,t,y,e1,e2,e3,hkk T _ (fun z=>?_) (fun z=>?_) e4⟩
     ·rw [z] at e4
      have q:=congrArg (fun o:Option Obj=>o.map Obj.cls) (e4.symm.trans he)
      exact absurd (Value.type.inj (Option.some.inj q)) (by decide)
     ·obtain ⟨oj,hoj,_⟩:∃ o,h.get? jt = some o /\ o.cls = .type (cnC c):=by
       cases c
       ·obtain ⟨o,a1,a2,_⟩:=(show h.IsListIter jt a acc.length from hi); exact ⟨o,a1,a2⟩
       ·obtain ⟨o,a1,a2,_⟩:=(show h.IsTupleIter jt a acc.length from hi); exact ⟨o,a1,a2⟩
      rename_i hcj
      rw [z,hoj] at e4
      rw [Option.some.inj e4] at hcj
      exact absurd (Value.type.inj hcj) (by cases c <;> decide)
    ·have hil:i < (acc ++ [Value.ref h.objs.size]).length:=(List.getElem?_eq_some_iff.mp hv).1
     have hie:i = acc.length:=by omega
     subst hie
     rw [List.getElem?_append_right (Nat.le_refl _),Nat.sub_self] at hv
     cases hv
     exact ⟨h.objs.size,tk',x,rfl,hz,hx,hT⟩
  ·have hle:acc.length = its.size:=by omega
   refine q8 (s:={ s0 with heap:=h,toks:=tk }) (x8 (A:=A.in1) hh c jt a its (i:=acc.length) (by simp; omega)) he ⟨rfl,hi,hs⟩ fun h' eb=>?_
   refine q2 _ ⟨h',tk,rfl,hle,⟨_,eb e _ hej he⟩,fun i v hv=>?_,fun b o b1 b2 q=>eb b o b2 (hk b o b1 b2 q)⟩ (eb S _ nS.2.1 hob')
   ·obtain ⟨T,t,y,e1,e2,e3,e4⟩:=ht i v hv
    refine ⟨T,t,y,e1,e2,e3,eb T _ (fun z=>?_) e4⟩
    obtain ⟨oj,hoj,hcj⟩:∃ o,h.get? jt = some o /\ o.cls = .type (cnC c):=by
     cases c
     ·obtain ⟨o,a1,a2,_⟩:=(show h.IsListIter jt a acc.length from hi); exact ⟨o,a1,a2⟩
     ·obtain ⟨o,a1,a2,_⟩:=(show h.IsTupleIter jt a acc.length from hi); exact ⟨o,a1,a2⟩
    rw [z,hoj] at e4
    rw [Option.some.inj e4] at hcj
    exact absurd (Value.type.inj hcj) (by cases c <;> decide)
end
def updT (H:Hp):List (Addr × HO) -> Hp
 | []=>H
 | p :: r=>updT (upd H p.1 p.2) r
theorem wF {b:Addr}:∀ {ts:List (Addr × HO)} {H:Hp},(∀ p ∈ ts,p.1 ≠ b) -> updT H ts b = H b
 | [],_,_=>rfl
 | p :: r,H,h=>by
  show updT (upd H p.1 p.2) r b = _
  rw [wF fun q hq=>h q (List.mem_cons_of_mem _ hq),zu (Ne.symm (h p (by simp)))]
theorem tj:∀ {ts:List (Addr × HO)} {H:Hp},(ts.map (·.1)).Nodup -> ∀ p ∈ ts,updT H ts p.1 = some p.2
 | q :: r,H,hn,p,hp=>by
  show updT (upd H q.1 q.2) r p.1 = _
  rw [List.map_cons,List.nodup_cons] at hn
  rcases List.mem_cons.mp hp with rfl | hp
  ·rw [wF fun z hz e=>hn.1 (by rw [← e]; exact List.mem_map_of_mem hz),zb]
  ·exact tj hn.2 p hp
section
variable {X:Cx} {pins:List (Addr × Obj)} {σ:L2.St} {H:Hp} {s:Shared} {h':Heap}
theorem j2 {fp:List Addr} {t':Nat} (I:Inv X pins σ H s) (k:∀ b o,b ∉ fp -> s.heap.get? b = some o -> h'.get? b = some o) (ff:∀ b ∈ fp,FpOk X pins H b) (ts:List (Addr × HO)) (hn:(ts.map (·.1)).Nodup)
  (hT:∀ p ∈ ts,s.heap.objs.size <= p.1) (new:∀ p ∈ ts,∀ H,ye X.prog X.w H h' p.1 p.2):Inv X pins σ (updT H ts) { s with heap:=h',toks:=t' }:=by
 have I1:Inv X pins σ H { s with heap:=h',toks:=t' }:=u9 I k ff
 have key:∀ (ts:List (Addr × HO)) (H:Hp),HOk X.prog X.w H h' -> (ts.map (·.1)).Nodup -> (∀ p ∈ ts,H p.1 = none) -> (∀ p ∈ ts,∀ H,ye X.prog X.w H h' p.1 p.2) -> HOk X.prog X.w (updT H ts) h':=by
  intro ts
  induction ts with
  | nil=>intro H h _ _ _; exact h
  | cons p r ih =>
   intro H h hn hf hw
   rw [List.map_cons,List.nodup_cons] at hn
   refine ih (upd H p.1 p.2) (HOk.track h (hf p (by simp)) ?_) hn.2 (fun q hq=>?_) fun q hq=>hw q (List.mem_cons_of_mem _ hq)
   ·exact hw p (by simp) _
   ·rw [zu fun e=>hn.1 (by rw [← e]; exact List.mem_map_of_mem hq)]
    exact hf q (List.mem_cons_of_mem _ hq)
 have none':∀ p ∈ ts,H p.1 = none:=fun p hp=>I.hok.fresh (hT p hp)
 have hok:HOk X.prog X.w (updT H ts) h':=key ts H I1.hok hn none' new
 have old:∀ b,b < s.heap.objs.size -> updT H ts b = H b:=fun b hb=>wF fun p hp e=>Nat.lt_irrefl _ (Nat.lt_of_lt_of_le (e ▸ hb) (hT p hp))
 have same:∀ b (o:HO),H b = some o -> updT H ts b = some o:=fun b o e=>by
  rw [wF fun p hp e2=>by rw [← e2,none' p hp] at e; cases e]; exact e
 refine I.step (g':=s.gens) (d':=s.drawn) (ch:=fp) (fun b hb=>?_) (fun b o _ _ hc e _=>k b o hc e) (fun b o _ _ hc e _=>⟨o.slots,k b o hc e⟩) (fun b u _ e n=>by rw [old b (Heap.lt_size e)]; exact n) (fun b o hc e=>⟨o,k b o hc e⟩)
  (fun b xs e=>same b _ e) (fun b u xs e=>same b _ e) (fun b ps e=>⟨#[],by rw [same b _ e]; simp⟩) (fun m hm=>?_) hok I.bare
 ·obtain ⟨_,f1,_,f3,f4,f5⟩:=ff b hb
  exact ⟨f3,f1,f4,f5⟩
 ·obtain ⟨o,es,ep,ho,r⟩:=hm
  exact ⟨o,es,ep,k _ o (fun z=>(ff _ z).2.1 rfl) ho,r⟩
end
theorem XM:typeLookup (.type "enumerate") "__len__" = pure none:=by rw [typeLookup_type,builtinLookup_eq_fast]; kernel_rfl
theorem Y3:typeLookup (.type "enumerate") "__length_hint__" = pure none:=by rw [typeLookup_type,builtinLookup_eq_fast]; kernel_rfl
theorem vQ {ts:List (Addr × HO)} {H:Hp} (h:∀ p ∈ ts,H p.1 = none) {b:Addr} {o:HO} (e:H b = some o):updT H ts b = some o:=by
 rw [wF fun p hp e2=>by rw [← e2,h p hp] at e; cases e]; exact e
theorem j3 {ts:List (Addr × HO)} {H:Hp} (h:∀ p ∈ ts,H p.1 = none):Grow [] H (updT H ts) :=
 ⟨fun b o _ e=>vQ h e,fun b xs e=>vQ h e,fun b o u e=>vQ h e⟩
def rfA:Value -> Addr
 | .ref a=>a
 | _=>0
theorem sr:∀ {acc:List Value},(∀ v ∈ acc,∃ T:Addr,v = .ref T) -> Vals ((acc.map rfA).map V.ref) acc
 | [],_=>.nil
 | v :: acc,h=>by
  obtain ⟨T,rfl⟩:=h v (by simp)
  exact .cons rfl (sr fun u hu=>h u (List.mem_cons_of_mem _ hu))
section
variable {X:Cx} {pins:List (Addr × Obj)} {σ:L2.St} {H:Hp} {s0:Shared} {K:FG7}
theorem XN {e jt:Addr} {xs:List V} {us:List Value} {acc:List Value} {h2 h3:Heap} {tk:Nat} (I:Inv X pins σ H s0) (fe:FpOk X pins H e) (fj:FpOk X pins H jt) (rv:Vals xs us) (hl:acc.length = us.length)
  (ht:∀ (i:Nat) (v:Value),acc[i]? = some v -> ∃ (T:Addr) (t:Tok) (x:Value),v = .ref T /\ s0.heap.objs.size <= T /\ us[i]? = some x /\ h2.get? T = some { cls:=.type "tuple",data:=.seq #[.int i t,x] })
  (hk:∀ b o,b ≠ e -> b ≠ jt -> s0.heap.get? b = some o -> h2.get? b = some o) (h23:∀ b o,h2.get? b = some o -> h3.get? b = some o)
  (S:Addr) (o:HO) (hS:s0.heap.objs.size <= S) (hST:∀ T,(∃ (i:Nat) (t:Tok) (x:Value),h2.get? T = some { cls:=.type "tuple",data:=.seq #[.int (i:Int) t,x] }) -> T ≠ S)
  (hO:∀ H,ye X.prog X.w H h3 S o) :
  ∃ H',Inv X pins σ H' { s0 with heap:=h3,toks:=tk } /\ Grow [] H H' /\ H S = none /\ H' S = some o /\ acc = (acc.map rfA).map Value.ref /\ ∀ (i:Nat) (x:V),xs[i]? = some x -> ∃ T,(acc.map rfA)[i]? = some T /\ H' T = some (.tup [.int i,x]):=by
 have hxl:=rv.length
 have get:∀ i,i < xs.length -> ∃ (T:Addr) (t:Tok) (x:V) (u:Value),acc[i]? = some (.ref T) /\ (acc.map rfA).getD i 0 = T /\ s0.heap.objs.size <= T /\ xs[i]? = some x /\ xs.getD i .non = x /\ RelV x u /\ h2.get? T = some { cls:=.type "tuple",data:=.seq #[.int i t,u] }:=by
  intro i hi
  have ha:acc[i]? = some acc[i]:=List.getElem?_eq_getElem (by omega)
  obtain ⟨T,t,u,e1,e2,e3,e4⟩:=ht i _ ha
  obtain ⟨x,hx,rx⟩:=s9 rv i (by omega)
  rw [e1] at ha
  have hu:us[i]? = some us[i]:=List.getElem?_eq_getElem (by omega)
  rw [hu] at e3
  cases e3
  exact ⟨T,t,x,us[i],ha,by rw [List.getD_eq_getElem?_getD,List.getElem?_map,ha]; rfl,e2,hx,by rw [List.getD_eq_getElem?_getD,hx]; rfl,rx,e4⟩
 have hacc:acc = (acc.map rfA).map Value.ref:=by
  refine List.ext_getElem? fun i=>?_
  by_cases hi:i < xs.length
  ·obtain ⟨T,t,x,u,e1,_⟩:=get i hi
   rw [List.getElem?_map,List.getElem?_map,e1]; rfl
  ·rw [List.getElem?_eq_none (by omega),List.getElem?_eq_none (by rw [List.length_map,List.length_map]; omega)]
 let ts:List (Addr × HO):=((List.range xs.length).map fun i=>((acc.map rfA).getD i 0,HO.tup [.int i,xs.getD i .non])) ++ [(S,o)]
 have hT:∀ p ∈ ts,s0.heap.objs.size <= p.1:=by
  intro p hp
  rcases List.mem_append.mp hp with hp | hp
  ·obtain ⟨i,hi,rfl⟩:=List.mem_map.mp hp
   obtain ⟨T,t,x,u,_,e2,e3,_⟩:=get i (List.mem_range.mp hi)
   show s0.heap.objs.size <= (acc.map rfA).getD i 0
   rw [e2]; exact e3
  ·rw [List.mem_singleton.mp hp]; exact hS
 have hn:(ts.map (·.1)).Nodup:=by
  show (List.map _ (_ ++ [(S,o)])).Nodup
  rw [List.map_append,List.map_map,List.nodup_append]
  refine ⟨?_,by simp,?_⟩
  ·refine List.pairwise_map.mpr ((List.pairwise_lt_range (n:=xs.length)).imp_of_mem fun {a b} ha hb hab=>?_)
   obtain ⟨T,t,x,u,_,e2,_,_,_,_,e4⟩:=get a (List.mem_range.mp ha)
   obtain ⟨T',t',x',u',_,e2',_,_,_,_,e4'⟩:=get b (List.mem_range.mp hb)
   show (acc.map rfA).getD a 0 ≠ (acc.map rfA).getD b 0
   rw [e2,e2']
   intro z
   rw [z,e4'] at e4
   have z2:=Option.some.inj e4
   injection z2 with _ _ z3
   injection z3 with z4
   have z5:=congrArg (fun q:Array Value=>q[0]?) z4
   have z6:some (Value.int (b:Int) t') = some (Value.int (a:Int) t):=z5
   injection z6 with z7
   injection z7 with z8
   omega
  ·intro a ha b hb
   obtain ⟨i,hi,rfl⟩:=List.mem_map.mp ha
   have hb':b = S:=by simpa using hb
   subst hb'
   obtain ⟨T,t,x,u,_,e2,_,_,_,_,e4⟩:=get i (List.mem_range.mp hi)
   show (acc.map rfA).getD i 0 ≠ b
   rw [e2]
   exact hST T ⟨i,t,u,e4⟩
 have hN:∀ p ∈ ts,H p.1 = none:=fun p hp=>I.hok.fresh (hT p hp)
 have I2:Inv X pins σ (updT H ts) { s0 with heap:=h3,toks:=tk }:=by
  refine j2 (fp:=[e,jt]) I (fun b ob hb q=>h23 b ob (hk b ob (fun z=>hb (by simp [z])) (fun z=>hb (by simp [z])) q)) (fun b hb=>?_) ts hn hT (fun p hp=>?_)
  ·simp only [List.mem_cons,List.mem_nil_iff,or_false] at hb
   rcases hb with rfl | rfl
   ·exact fe
   ·exact fj
  ·rcases List.mem_append.mp hp with hp | hp
   ·obtain ⟨i,hi,rfl⟩:=List.mem_map.mp hp
    obtain ⟨T,t,x,u,_,e2,_,_,e3,rx,e4⟩:=get i (List.mem_range.mp hi)
    intro H
    show ye X.prog X.w H h3 ((acc.map rfA).getD i 0) (.tup [.int i,xs.getD i .non])
    rw [e2,e3]
    exact ⟨by show 2 <= sizeLine; decide,[.int i t,u],.cons ⟨_,rfl⟩ (.cons rx .nil),_,h23 _ _ e4,rfl,0,rfl⟩
   ·rw [List.mem_singleton.mp hp]; exact hO
 refine ⟨updT H ts,I2,j3 hN,I.hok.fresh hS,tj hn (S,o) (List.mem_append_right _ (by simp)),hacc,fun i x hx=>?_⟩
 have hi:i < xs.length:=(List.getElem?_eq_some_iff.mp hx).1
 obtain ⟨T,t,x',u,e1,e2,_,e3,e4,_⟩:=get i hi
 refine ⟨T,by rw [List.getElem?_map,e1]; rfl,?_⟩
 have z:=tj (H:=H) hn ((acc.map rfA).getD i 0,HO.tup [.int i,xs.getD i .non]) (List.mem_append_left _ (List.mem_map.mpr ⟨i,List.mem_range.mpr hi,rfl⟩))
 rw [e2,e4] at z
 rw [hx] at e3
 cases e3
 exact z
end
section
variable {X:Cx} {K:FG7} {a:Expr} {ta:TA} {p p2 pos pos2:Pos}
def XO (c:Bool) (K:FG7) (tp:Bool) (ta:TA):TE:=fun σ H Q=>ta σ H fun vs H1=>∃ a xs,vs = [.ref a] /\ SqC c K H1 a xs /\ xs.length <= 1000 ∧
 ∀ (r:Addr) (Ts:List Addr) (H':Hp),Grow [] H1 H' -> H1 r = none -> H' r = some (if tp = true then .tup (Ts.map V.ref) else .lst (Ts.map V.ref)) -> Ts.length = xs.length -> (∀ (i:Nat) (x:V),xs[i]? = some x -> ∃ T,Ts[i]? = some T /\ H' T = some (.tup [.int i,x])) -> Q (.ref r) H'
theorem ss (c:Bool) (hK:X.K = K) (hc:X.calm = true) (hgl:Gl X "tuple") (hml:X.mg "tuple" = none) (hge:Gl X "enumerate") (hme:X.mg "enumerate" = none) (ha:PA X [a] ta)
  (hs:starEach [a] X.env = [(false,eval a X.env)]:=by rfl) (hs2:starEach [(.Call (.Name "enumerate" p2) [a] [] pos2:Expr)] X.env = [(false,eval (.Call (.Name "enumerate" p2) [a] [] pos2) X.env)]:=by rfl) :
  PE X (.Call (.Name "tuple" p) [.Call (.Name "enumerate" p2) [a] [] pos2] [] pos) (XO c K true ta):=by
 subst hK
 intro pins s σ H Q I h
 refine wpAny_Call_Name_kw (xH I hgl hml z9 (PyProof.Rows.callWith_type1 ?_ hs2 rfl))
 rw [hs2]
 show wpAny _ _ (spliced [(false,eval (.Call (.Name "enumerate" p2) [a] [] pos2) X.env)]) _ _ s
 refine Calls.spliced_cons ?_
 refine Call_ (xH I hge hme Yt (PyProof.Rows.callWith_type1 (thn (ha pos2 pins s σ H _ I h) fun us s1 ⟨vs,H1,I1,r1,q1⟩=>?_) hs rfl))
 obtain ⟨t,xs,e,hq,hlen,q⟩:=q1
 subst e
 obtain ⟨u,rfl,e1⟩:=we r1
 cases (show u = Value.ref t from e1)
 obtain ⟨its,rv,pq⟩:=yA I1 hq
 have hlt:=pq.lt
 have hl:=rv.length
 refine uO pq fun h' he hit hz' hk=>Calls.spliced_nil ?_
 have I2:Inv X pins σ H1 { s1 with heap:=h' }:=I1.kept (t':=s1.toks) hk
 have ez:s1.heap.objs.size + 1 < h'.objs.size:=Heap.lt_size he
 have fe:=I1.fpOk (Nat.le_succ s1.heap.objs.size) (I1.hok.fresh (Nat.le_succ s1.heap.objs.size))
 have fj:=I1.fpOk (Nat.le_refl s1.heap.objs.size) (I1.hok.fresh (Nat.le_refl s1.heap.objs.size))
 have ps:SeqC c h' t its.toArray:=by
  cases c
  ·exact Heap.IsList.at pq (hk t)
  ·exact Heap.IsTuple.at pq (hk t)
 refine rh (A:=X.A) (s:={ s1 with heap:=h' }) (Y2 (A:=X.A.in1.in1.in1) (s0:={ s1 with heap:=h' }) (I.ok.hd hc) c (s1.heap.objs.size + 1) s1.heap.objs.size t (Nat.succ_ne_self _) (Nat.ne_of_lt (Nat.lt_succ_of_lt hlt)) (Nat.ne_of_lt hlt) its.toArray)
  (by rw [List.size_toArray,← hl]; exact Nat.le_of_lt (zm hlen)) (by decide) (by decide) XM Y3 ⟨h',s1.toks,.none,.bool false,.none,rfl,he,.inl rfl,hit,ps,Nat.zero_le _,Nat.le_refl _,(fun i v hv=>by cases hv),fun b o _ _ q=>q⟩ ⟨?_,Nat.le_refl _⟩ (Nat.ne_of_gt ez) ?_
 ·have n1:h'.objs.size ≠ s1.heap.objs.size + 1:=Nat.ne_of_gt ez
  have n2:h'.objs.size ≠ s1.heap.objs.size:=Nat.ne_of_gt (Nat.lt_of_succ_lt ez)
  have n3:h'.objs.size ≠ t:=Nat.ne_of_gt (Nat.lt_trans hlt (Nat.lt_of_succ_lt ez))
  simp only [List.mem_cons,List.mem_nil_iff,or_false,not_or]
  exact ⟨n1,n2,n3⟩
 ·rintro s' acc ⟨h2,tk,rfl,ha1,⟨oe,hoe⟩,ha2,ha3⟩ hal
  have hvr:Vals ((acc.map rfA).map V.ref) acc:=sr fun v hv=>by
   obtain ⟨i,hi⟩:=List.getElem?_of_mem hv
   obtain ⟨T,_,_,z,_⟩:=ha2 i v hi
   exact ⟨T,z⟩
  have hle:h'.objs.size <= h2.objs.size:=by
   rw [hz']
   exact Heap.lt_size hoe
  obtain ⟨H',I3,g,hn,hS',hacc,hts⟩:=XN (e:=s1.heap.objs.size + 1) (jt:=s1.heap.objs.size) (h2:=h2) (h3:=h2.push { cls:=.type "tuple",data:=.seq acc.toArray }) (tk:=tk) I2 (by exact fe) (by exact fj) rv (by rw [ha1,List.size_toArray]) (fun i v hv=>by
   obtain ⟨T,t,x,z1,z2,z3,z4⟩:=ha2 i v hv
   exact ⟨T,t,x,z1,z2,by simpa using z3,z4⟩) ha3 (fun b o q=>Heap.get?_push_of_some _ q) h2.objs.size (.tup ((acc.map rfA).map V.ref)) hle (fun T ⟨i,t,x,z⟩ e=>by
    exact absurd (Heap.lt_size z) (by rw [e]; exact Nat.lt_irrefl _)) (fun H=>⟨by rw [List.length_map,List.length_map,ha1,List.size_toArray,← hl]; exact Nat.le_of_lt (zm hlen),acc,hvr,_,Heap.get?_push_size _ rfl,rfl,0,rfl⟩)
  exact ⟨.ref h2.objs.size,H',I3,rfl,q _ _ H' g hn hS' (by rw [List.length_map,ha1,List.size_toArray,hl]) hts⟩
end
def zB (H:Hp) (a:Addr):Prop:=∃ p0 c t:Int,H a = some (.lst [.int p0,.int c,.int t]) /\ 0 <= p0
theorem zB.grow {H H':Hp} {a:Addr} (p:zB H a) (g:Grow [] H H'):zB H' a:=by
 obtain ⟨x,y,z,h,q⟩:=p
 exact ⟨x,y,z,g.keep _ _ (by simp) h,q⟩
theorem zB.new {H:Hp} {a l:Addr} (p:zB H a) (hl:H l = none) (o:HO):zB (upd H l o) a:=p.grow (Grow.new hl o)
theorem zB.ne {H:Hp} {a l:Addr} (p:zB H a) (h:H l = none):l ∉ [a]:=by
 intro z
 obtain ⟨x,y,w,hz,_⟩:=p
 rw [List.mem_singleton.mp z,hz] at h
 cases h
def su (K:FG7):Sp:=sp2 fun x y H Q=>∃ a ns k,x = .ref a /\ y = .int k /\ Scr K H a ns /\ 0 <= k /\ k < 1000 /\ ∀ p H',H p = none -> Grow [] H H' -> zB H' p -> Q (.ref p) H'
def qr (_:FG7):Sp:=sp2 fun x y H Q=>∃ c t:Int,x = .int c /\ y = .int t /\ ∀ n H',0 <= n -> Grow [] H H' -> Q (.int n) H'
def xt (_:FG7):Sp:=sp2 fun x y H Q=>∃ a m,x = .ref a /\ y = .int m /\ zB H a /\ 0 < m /\ m < 2 ^ 200 /\ ∀ n H',0 <= n -> n < m -> Grow [a] H H' -> zB H' a -> Q (.int n) H'
def PrAt (K:FG7) (H:Hp) (x:V) (q:Nat × Nat):Prop:=∃ r,x = .ref r /\ SqT K H r [.int q.1,.int q.2]
theorem Grow.prs {m:List Addr} {H H':Hp} (g:Grow m H H') {K:FG7} {xs:List V} {qs:List (Nat × Nat)} (h:AllR (PrAt K H) xs qs):AllR (PrAt K H') xs qs:=h.imp fun _ _ ⟨r,e,z⟩=>⟨r,e,g.sqT z⟩
def PrsT (K:FG7) (H:Hp) (x:V) (qs:List (Nat × Nat)):Prop:=∃ r xs,x = .ref r /\ SqT K H r xs /\ AllR (PrAt K H) xs qs
theorem Grow.prsT {m:List Addr} {H H':Hp} (g:Grow m H H') {K:FG7} {x:V} {qs:List (Nat × Nat)} (h:PrsT K H x qs):PrsT K H' x qs:=by
 obtain ⟨r,xs,e,h1,h2⟩:=h
 exact ⟨r,xs,e,g.sqT h1,g.prs h2⟩
def Z4 (k:Nat) (qs:List (Nat × Nat)):Prop:=∀ q ∈ qs,q.1 < 2 ^ k /\ q.2 < 2 ^ k
def Z5 (ns:List Int):List Int:=ns.mergeSort fun a b=>decide (a <= b)
theorem Z6 {ms ns:List Int} (p:ms.Perm ns) (s:ms.Pairwise (· <= ·)):ms = Z5 ns:=by
 refine PySem.W.ksm_same (p.trans (List.mergeSort_perm ns _).symm) s ?_
 have z:=List.pairwise_mergeSort (le:=fun a b:Int=>decide (a <= b)) (fun a b c h1 h2=>decide_eq_true (Int.le_trans (of_decide_eq_true h1) (of_decide_eq_true h2))) (fun a b=>by
  rcases Int.le_total a b with h | h
  ·simp [h]
  ·simp [h]) ns
 exact z.imp fun h=>of_decide_eq_true h
def dupS:List Int -> Option Int
 | a :: b :: r=>if a = b then some a else dupS (b :: r)
 | _=>none
theorem tm {ms:List Int} {j:Nat} {a:Int} (h:ms[j]? = some a):ms.drop j = a :: ms.drop (j + 1):=by
 have hj:=(List.getElem?_eq_some_iff.mp h)
 rw [List.drop_eq_getElem_cons hj.1,hj.2]
theorem XQ {ms:List Int} {j:Nat} {a:Int} (h:ms[j]? = some a) (h2:ms[j + 1]? = some a):dupS (ms.drop j) = some a:=by
 rw [tm h,tm h2]; simp [dupS]
theorem XR {ms:List Int} {j:Nat} {a b:Int} (h:ms[j]? = some a) (h2:ms[j + 1]? = some b) (n:a ≠ b):dupS (ms.drop j) = dupS (ms.drop (j + 1)):=by
 rw [tm h,tm h2]; simp [dupS,n]
theorem Y4 {ms:List Int} {j:Nat} (h:ms.length <= j + 1):dupS (ms.drop j) = none:=by
 have:(ms.drop j).length <= 1:=by rw [List.length_drop]; omega
 match e:ms.drop j,this with
 | [],_=>rfl
 | [_],_=>rfl
def yJ (rows:List (List Int)) (l:Nat):List Int:=rows.map fun r=>r.getD l 0
def x9 (rows:List (List Int)) (l:Nat):Option Int:=dupS (Z5 (yJ rows l))
def vA (k:Nat) (rows:List (List Int)) (o:Option (Nat × Int)):Prop:=match o with
 | none=>∀ l,l <= k -> x9 rows l = none
 | some (l,v)=>l <= k /\ x9 rows l = some v /\ ∀ j,j < l -> x9 rows j = none
theorem vA.one {k:Nat} {rows rows':List (List Int)} {o o':Option (Nat × Int)} (e:∀ l,x9 rows l = x9 rows' l) (h:vA k rows o) (h':vA k rows' o'):o = o':=by
 cases o with
 | none =>
  cases o' with
  | none=>rfl
  | some p =>
   obtain ⟨l,v⟩:=p
   have z:=h l h'.1
   rw [e,h'.2.1] at z; cases z
 | some p =>
  obtain ⟨l,v⟩:=p
  cases o' with
  | none =>
   have z:=h' l h.1
   rw [← e,h.2.1] at z; cases z
  | some p' =>
   obtain ⟨l',v'⟩:=p'
   obtain ⟨a1,a2,a3⟩:=h
   obtain ⟨b1,b2,b3⟩:=h'
   by_cases c:l < l'
   ·have z:=b3 l c
    rw [← e,a2] at z; cases z
   ·by_cases c2:l' < l
    ·have z:=a3 l' c2
     rw [e,b2] at z; cases z
    ·have:l = l':=by omega
     subst this
     rw [e,b2] at a2
     cases a2; rfl
def yo (k:Nat) (pl:List (Nat × Nat)):List (List Int):=pl.map fun q=>yu k q.1 q.2
def rj (K:FG7) (H:Hp) (x:V) (o:Option (Nat × Int)):Prop:=match o with
 | none=>x = .non
 | some (l,v)=>∃ r,x = .ref r /\ SqT K H r [.int l,.int v]
theorem Grow.clash {m:List Addr} {H H':Hp} (g:Grow m H H') {K:FG7} {x:V} {o:Option (Nat × Int)} (h:rj K H x o):rj K H' x o:=by
 cases o with
 | none=>exact h
 | some p =>
  obtain ⟨l,v⟩:=p
  obtain ⟨r,e,z⟩:=h
  exact ⟨r,e,g.sqT z⟩
def xg (K:FG7):Sp:=sp2 fun x y H Q=>∃ (k:Nat) (pl:List (Nat × Nat)),x = .int k /\ k <= 4 /\ PrsT K H y pl /\ pl.length <= 40 /\ Z4 k pl /\ ∀ o y H',Grow [] H H' -> rj K H' y o -> vA k (yo k pl) o -> Q y H'
def j5 (k:Nat) (rows:List (List Int)):Prop:=rows.length = k /\ ∀ r ∈ rows,r.length = 2 ^ (k - 1) /\ ∀ b ∈ r,b = 0 \/ b = 1
def Y5 (k:Nat) (rows:List (List Int)) (st l:Nat):Nat:=if (rows.getD (st - 1) []).getD (wv k l st).toNat 0 = 1 then l ^^^ 2 ^ (k - st) else l
def ledN (k:Nat) (rows:List (List Int)) (h:Nat):Nat -> Nat
 | 0=>h
 | n + 1=>Y5 k rows (n + 1) (ledN k rows h n)
theorem rk:∀ k:Fin 5,∀ st:Fin 5,1 <= st.val -> st.val <= k.val -> ∀ l:Fin 16,l.val < 2 ^ k.val →
  0 <= wv k.val l.val st.val /\ wv k.val l.val st.val < 2 ^ (k.val - 1) /\ numL (vo k.val l.val) = (l.val:Int) /\ numL ((vo k.val l.val).set (st.val - 1) (1 - (vo k.val l.val).getD (st.val - 1) 0)) = ((l.val ^^^ 2 ^ (k.val - st.val):Nat):Int) /\ l.val ^^^ 2 ^ (k.val - st.val) < 2 ^ k.val:=by
 decide +kernel
theorem XS {k st l:Nat} (k4:k <= 4) (s1:1 <= st) (s2:st <= k) (hl:l < 2 ^ k) :
  0 <= wv k l st /\ wv k l st < ((2 ^ (k - 1):Nat):Int) /\ numL (vo k l) = (l:Int) /\ numL ((vo k l).set (st - 1) (1 - (vo k l).getD (st - 1) 0)) = ((l ^^^ 2 ^ (k - st):Nat):Int) /\ l ^^^ 2 ^ (k - st) < 2 ^ k:=by
 have p:=xr k4
 have z:=rk ⟨k,by omega⟩ ⟨st,by omega⟩ s1 s2 ⟨l,by omega⟩ hl
 refine ⟨z.1,?_,z.2.2.1,z.2.2.2.1,z.2.2.2.2⟩
 have:((2 ^ (k - 1):Nat):Int) = (2:Int) ^ (k - 1):=Int.natCast_pow 2 (k - 1)
 rw [this]; exact z.2.1
theorem Z7 {k st l:Nat} {rows:List (List Int)} (k4:k <= 4) (s1:1 <= st) (s2:st <= k) (hl:l < 2 ^ k):Y5 k rows st l < 2 ^ k:=by
 unfold Y5
 split
 ·exact (XS k4 s1 s2 hl).2.2.2.2
 ·exact hl
theorem j6 {k h:Nat} {rows:List (List Int)} (k4:k <= 4) (hh:h < 2 ^ k):∀ n,n <= k -> ledN k rows h n < 2 ^ k
 | 0,_=>hh
 | n + 1,hn=>Z7 k4 (by omega) hn (j6 k4 hh n (by omega))
def ledL (k:Nat) (rows:List (List Int)):List Int:=(List.range (2 ^ k)).map fun h=>(ledN k rows h k:Int)
def vR (K:FG7):Sp:=sp2 fun x y H Q=>∃ (a:Addr) (k:Nat),x = .ref a /\ y = .int k /\ k <= 4 /\ zB H a /\ ∀ y rows H',Grow [a] H H' -> zB H' a -> vg K H' y rows -> j5 k rows -> Q y H'
theorem Y6 {xs:List V} {c:Nat}:cutV xs (some (c:Int)) none = xs.drop c:=by
 unfold cutV
 rw [HT.sIx_none,HT.sIx_nat]
 by_cases h:c <= xs.length
 ·rw [Nat.min_eq_left h,List.take_of_length_le (by rw [List.length_drop]; exact Nat.le_refl _)]
 ·rw [Nat.min_eq_right (by omega),List.drop_eq_nil_of_le (by omega),List.drop_eq_nil_of_le (by omega)]; simp
mutual
inductive Dq (K:FG7) (H:Hp):V -> PyData -> Prop
 | non:Dq K H .non .none
 | bl (b:Bool):Dq K H (.bl b) (.bool b)
 | int (i:Int):Dq K H (.int i) (.int i)
 | str (x:Str):Dq K H (.str x) (.str x)
 | tup {a:Addr} {xs:List V} {ds:List PyData}:SqT K H a xs -> DqAll K H xs ds -> Dq K H (.ref a) (.tuple ds)
 | lst {a:Addr} {xs:List V} {ds:List PyData}:SqL K H a xs -> DqAll K H xs ds -> Dq K H (.ref a) (.list ds)
inductive DqAll (K:FG7) (H:Hp):List V -> List PyData -> Prop
 | nil:DqAll K H [] []
 | cons {x:V} {xs:List V} {d:PyData} {ds:List PyData}:Dq K H x d -> DqAll K H xs ds -> DqAll K H (x :: xs) (d :: ds)
end
mutual
theorem Dat.dq {K:FG7} {H:Hp}:∀ {x:V} {d:PyData},Dat K H x d -> Dq K H x d
 | _,_,.non=>.non
 | _,_,.bl b=>.bl b
 | _,_,.int i=>.int i
 | _,_,.tup h t=>.tup h (DatAll.dq t)
 | _,_,.lst h t=>.lst h (DatAll.dq t)
theorem DatAll.dq {K:FG7} {H:Hp}:∀ {xs:List V} {ds:List PyData},DatAll K H xs ds -> DqAll K H xs ds
 | _,_,.nil=>.nil
 | _,_,.cons h t=>.cons (Dat.dq h) (DatAll.dq t)
end
theorem DqAll.len {K:FG7} {H:Hp}:∀ {xs:List V} {ds:List PyData},DqAll K H xs ds -> xs.length = ds.length
 | _,_,.nil=>rfl
 | _,_,.cons _ t=>congrArg (· + 1) (DqAll.len t)
theorem DqAll.app {K:FG7} {H:Hp}:∀ {xs:List V} {ds:List PyData} {ys:List V} {es:List PyData},DqAll K H xs ds -> DqAll K H ys es -> DqAll K H (xs ++ ys) (ds ++ es)
 | _,_,_,_,.nil,h=>h
 | _,_,_,_,.cons h t,g=>.cons h (DqAll.app t g)
theorem tq (n:Nat):(List.range n).all (fun _=>true) = true:=List.all_eq_true.mpr fun _ _=>rfl
section
variable {X:Cx} {pins:List (Addr × Obj)} {σ:L2.St} {H:Hp} {s:Shared}
mutual
theorem dq_eq (I:Inv X pins σ H s):∀ {d:PyData} {x y:V} {u v:Value} {A:Around},Dq X.K H x d -> Dq X.K H y d -> RelV x u -> RelV y v -> A.units + d.depth < cLine -> SeqAt.EqAt A s u v true
 | _,_,y,u,v,A,.non,hy,ru,rv,_=>by
  cases hy
  cases (show u = Value.none from ru)
  cases (show v = Value.none from rv)
  exact SeqAt.EqAt.same _
 | _,_,y,u,v,A,.bl b,hy,ru,rv,_=>by
  cases hy
  cases (show u = Value.bool b from ru)
  cases (show v = Value.bool b from rv)
  exact SeqAt.EqAt.same _
 | _,_,y,u,v,A,.int i,hy,ru,rv,_=>by
  cases hy
  obtain ⟨t,rfl⟩:=ru
  obtain ⟨t',rfl⟩:=rv
  have z:=SeqAt.EqAt.int_int (A:=A) (s:=s) i t i t'
  rw [beq_self_eq_true] at z
  exact z
 | _,_,y,u,v,A,.str x,hy,ru,rv,_=>by
  cases hy
  obtain ⟨t,rfl⟩:=ru
  obtain ⟨t',rfl⟩:=rv
  have z:=SeqAt.EqAt.str_str (A:=A) (s:=s) x t x t'
  rw [beq_self_eq_true] at z
  exact z
 | _,_,y,u,v,A,.tup (a:=a) (xs:=xs) (ds:=ds) hs ha,hy,ru,rv,hu=>by
  cases hy with
  | tup hs' ha' =>
   rename_i a' xs'
   cases (show u = Value.ref a from ru)
   cases (show v = Value.ref a' from rv)
   obtain ⟨us,r1,t1,_⟩:=I.tuple hs
   obtain ⟨ws,r2,t2,_⟩:=I.tuple hs'
   have hd:A.units + (PyData.depthAll ds + 1) < cLine:=hu
   by_cases e:a = a'
   ·subst e; exact SeqAt.EqAt.same _
   ·have l1:=ha.len
    have l2:=ha'.len
    have q:=SeqAt.RcAt.tuples (e:=fun _=>true) (yT t1) (yT t2) (by omega) (dqs_eq I ha ha' r1 r2 (A:=A.in1) (by show A.units + 1 + PyData.depthAll ds < cLine; omega))
    rw [tq,Bool.true_and,List.size_toArray,List.size_toArray,← r1.length,← r2.length,l1,l2,beq_self_eq_true] at q
    exact SeqAt.EqAt.of_refs e q
 | _,_,y,u,v,A,.lst (a:=a) (xs:=xs) (ds:=ds) hs ha,hy,ru,rv,hu=>by
  cases hy with
  | lst hs' ha' =>
   rename_i a' xs'
   cases (show u = Value.ref a from ru)
   cases (show v = Value.ref a' from rv)
   obtain ⟨us,r1,t1,_⟩:=I.list hs
   obtain ⟨ws,r2,t2,_⟩:=I.list hs'
   have hd:A.units + (PyData.depthAll ds + 1) < cLine:=hu
   by_cases e:a = a'
   ·subst e; exact SeqAt.EqAt.same _
   ·have l1:=ha.len
    have l2:=ha'.len
    have q:=SeqAt.RcAt.lists (e:=fun _=>true) t1.isList t2.isList (by rw [List.size_toArray,List.size_toArray,← r1.length,← r2.length,l1,l2]) (by omega) (dqs_eq I ha ha' r1 r2 (A:=A.in1) (by show A.units + 1 + PyData.depthAll ds < cLine; omega))
    rw [tq] at q
    exact SeqAt.EqAt.of_refs e q
theorem dqs_eq (I:Inv X pins σ H s):∀ {ds:List PyData} {xs ys:List V} {us vs:List Value} {A:Around},DqAll X.K H xs ds -> DqAll X.K H ys ds -> Vals xs us -> Vals ys vs -> A.units + PyData.depthAll ds < cLine →
  ∀ j (h1:j < us.toArray.size) (h2:j < vs.toArray.size),SeqAt.EqAt A s us.toArray[j] vs.toArray[j] true
 | _,_,_,_,_,A,.nil,hy,ru,rv,_=>fun j h1 _=>by
  cases ru
  exact absurd h1 (Nat.not_lt_zero j)
 | _,_,_,_,_,A,.cons (d:=d) (ds:=ds) hx tx,hy,ru,rv,hd=>fun j h1 h2=>by
  cases hy with
  | cons hy ty =>
   cases ru with
   | cons r1 rr1 =>
    cases rv with
    | cons r2 rr2 =>
     have hd':A.units + max d.depth (PyData.depthAll ds) < cLine:=hd
     cases j with
     | zero=>simpa using dq_eq I hx hy r1 r2 (A:=A) (by omega)
     | succ j =>
      have z:=dqs_eq I tx ty rr1 rr2 (A:=A) (by omega) j (by simpa using h1) (by simpa using h2)
      simpa using z
end
variable {K:FG7}
end
def xN (k st a:Nat):Nat:=a ^^^ 2 ^ (k - st)
def nN (k st a:Nat):Nat:=(wv k a st).toNat
def lN (k h g n:Nat):Nat:=(ym k h g n).toNat
theorem j7:∀ k:Fin 5,∀ st:Fin 5,1 <= st.val -> st.val <= k.val -> ∀ a:Fin 16,a.val < 2 ^ k.val →
  (swI k.val st.val a.val = wv k.val a.val st.val /\ wv k.val a.val st.val = (nN k.val st.val a.val:Int) /\ nN k.val st.val a.val < 2 ^ (k.val - 1) /\ nN k.val st.val (xN k.val st.val a.val) = nN k.val st.val a.val) ∧
  (xN k.val st.val (xN k.val st.val a.val) = a.val /\ xN k.val st.val a.val ≠ a.val /\ xN k.val st.val a.val < 2 ^ k.val) ∧
  (wfI k.val st.val a.val (Builtin.bitXor (figI k.val st.val a.val) 0) = (a.val:Int) /\ wfI k.val st.val a.val (Builtin.bitXor (figI k.val st.val a.val) 1) = (xN k.val st.val a.val:Int)) ∧
  (Builtin.bitXor (figI k.val st.val a.val) (figI k.val st.val (xN k.val st.val a.val)) = 1 /\ Builtin.bitXor (figI k.val st.val a.val) (figI k.val st.val a.val) = 0) ∧
  ((Builtin.bitXor (figI k.val st.val a.val) 0 = 0 \/ Builtin.bitXor (figI k.val st.val a.val) 0 = 1) /\ (Builtin.bitXor (figI k.val st.val a.val) 1 = 0 \/ Builtin.bitXor (figI k.val st.val a.val) 1 = 1)):=by
 decide +kernel
theorem j8:∀ k:Fin 5,∀ h:Fin 16,∀ g:Fin 16,h.val < 2 ^ k.val -> g.val < 2 ^ k.val →
  lN k.val h.val g.val 0 = h.val /\ lN k.val h.val g.val k.val = g.val /\ ∀ n:Fin 5,n.val <= k.val -> (ym k.val h.val g.val n.val = (lN k.val h.val g.val n.val:Int) /\ lN k.val h.val g.val n.val < 2 ^ k.val) ∧
   (n.val + 1 <= k.val -> lN k.val h.val g.val (n.val + 1) = lN k.val h.val g.val n.val \/ lN k.val h.val g.val (n.val + 1) = xN k.val (n.val + 1) (lN k.val h.val g.val n.val)):=by
 decide +kernel
structure OneF (k st a:Nat):Prop where
 sw:swI k st a = wv k a st
 num:wv k a st = (nN k st a:Int)
 lt:nN k st a < 2 ^ (k - 1)
 nx:nN k st (xN k st a) = nN k st a
 xx:xN k st (xN k st a) = a
 xne:xN k st a ≠ a
 xlt:xN k st a < 2 ^ k
 w0:wfI k st a (Builtin.bitXor (figI k st a) 0) = (a:Int)
 w1:wfI k st a (Builtin.bitXor (figI k st a) 1) = (xN k st a:Int)
 c1:Builtin.bitXor (figI k st a) (figI k st (xN k st a)) = 1
 c0:Builtin.bitXor (figI k st a) (figI k st a) = 0
 b0:Builtin.bitXor (figI k st a) 0 = 0 \/ Builtin.bitXor (figI k st a) 0 = 1
 b1:Builtin.bitXor (figI k st a) 1 = 0 \/ Builtin.bitXor (figI k st a) 1 = 1
theorem oneF {k st a:Nat} (k4:k <= 4) (s1:1 <= st) (s2:st <= k) (ha:a < 2 ^ k):OneF k st a:=by
 have p:=xr k4
 obtain ⟨⟨a1,a2,a3,a4⟩,⟨b1,b2,b3⟩,⟨c1,c2⟩,⟨d1,d2⟩,e1,e2⟩:=j7 ⟨k,by omega⟩ ⟨st,by omega⟩ s1 s2 ⟨a,by omega⟩ ha
 exact ⟨a1,a2,a3,a4,b1,b2,b3,c1,c2,d1,d2,e1,e2⟩
theorem wayF {k h g:Nat} (k4:k <= 4) (hh:h < 2 ^ k) (hg:g < 2 ^ k):lN k h g 0 = h /\ lN k h g k = g /\ ∀ n,n <= k -> (ym k h g n = (lN k h g n:Int) /\ lN k h g n < 2 ^ k) /\ (n + 1 <= k -> lN k h g (n + 1) = lN k h g n \/ lN k h g (n + 1) = xN k (n + 1) (lN k h g n)):=by
 have p:=xr k4
 obtain ⟨a,b,c⟩:=j8 ⟨k,by omega⟩ ⟨h,by omega⟩ ⟨g,by omega⟩ hh hg
 exact ⟨a,b,fun n hn=>c ⟨n,by omega⟩ hn⟩
def plOf (gs:List Nat):List (Nat × Nat):=(List.range gs.length).map fun h=>(h,gs.getD h 0)
def xu (k:Nat) (gs:List Nat):Prop:=gs.length = 2 ^ k /\ ∀ g ∈ gs,g < 2 ^ k
theorem xu.get {k:Nat} {gs:List Nat} (h:xu k gs) {i:Nat} (hi:i < 2 ^ k):gs.getD i 0 < 2 ^ k:=by
 rw [List.getD_eq_getElem?_getD,List.getElem?_eq_getElem (by rw [h.1]; exact hi)]
 exact h.2 _ (List.getElem_mem _)
theorem Y7 {k:Nat} {gs:List Nat} (h:xu k gs):Z4 k (plOf gs):=by
 intro q hq
 obtain ⟨i,hi,rfl⟩:=List.mem_map.mp hq
 have hi':i < 2 ^ k:=by rw [← h.1]; exact List.mem_range.mp hi
 exact ⟨hi',h.get hi'⟩
theorem qt {gs:List Nat}:(plOf gs).length = gs.length:=by unfold plOf; rw [List.length_map,List.length_range]
def Yw (k st:Nat) (q:Nat × Nat):Int:=Builtin.bitXor (figI k st (ym k q.1 q.2 (st - 1))) (figI k st (ym k q.1 q.2 st))
def uP (k st:Nat) (m:List Int) (q:Nat × Nat):List Int:=m.set (nN k st (lN k q.1 q.2 st)) (Yw k st q)
def vS (k st:Nat) (pl:List (Nat × Nat)):List Int:=pl.foldl (uP k st) (List.replicate (2 ^ k / 2) 0)
def WA (k:Nat) (gs:List Nat):List (List Int):=(List.range k).map fun n=>vS k (n + 1) (plOf gs)
theorem j9 {k st:Nat} {pl:List (Nat × Nat)}:(vS k st pl).length = 2 ^ k / 2:=by
 have key:∀ (pl:List (Nat × Nat)) (m:List Int),(pl.foldl (uP k st) m).length = m.length:=by
  intro pl
  induction pl with
  | nil=>intro m; rfl
  | cons q pl ih=>intro m; rw [List.foldl_cons,ih]; exact List.length_set ..
 exact (key pl _).trans (List.length_replicate ..)
theorem rm {k:Nat} (h:1 <= k):2 ^ k / 2 = 2 ^ (k - 1):=by
 obtain ⟨n,rfl⟩:∃ n,k = n + 1:=⟨k - 1,by omega⟩
 rw [Nat.pow_succ,Nat.mul_div_cancel _ (by decide)]; rfl
def stR (k:Nat) (row:List Int) (st l:Nat):Nat:=if row.getD (nN k st l) 0 = 1 then xN k st l else l
section
variable {X:Cx} {a:Expr} {ta:TA} {p p2 pos pos2:Pos}
def WB (ta:TA):TE:=fun σ H Q=>ta σ H fun vs H1=>∃ n:Nat,vs = [.int n] /\ n <= 1000 /\ ∀ l,H1 l = none -> Q (.ref l) (upd H1 l (.lst ((List.range n).map fun i:Nat=>V.int i)))
theorem sx (hc:X.calm = true) (hgl:Gl X "list") (hml:X.mg "list" = none) (hgr:Gl X "range") (hmr:X.mg "range" = none) (ha:PA X [a] ta)
  (hs:starEach [a] X.env = [(false,eval a X.env)]:=by rfl) (hs2:starEach [(.Call (.Name "range" p2) [a] [] pos2:Expr)] X.env = [(false,eval (.Call (.Name "range" p2) [a] [] pos2) X.env)]:=by rfl) :
  PE X (.Call (.Name "list" p) [.Call (.Name "range" p2) [a] [] pos2] [] pos) (WB ta):=by
 intro pins s σ H Q I h
 refine wpAny_Call_Name_kw (xH I hgl hml Yq (PyProof.Rows.callWith_type1 ?_ hs2 rfl))
 rw [hs2]
 show wpAny _ _ (spliced [(false,eval (.Call (.Name "range" p2) [a] [] pos2) X.env)]) _ _ s
 refine Calls.spliced_cons ?_
 refine Call_ (xH I hgr hmr boot_range (PyProof.Rows.callWith_type1 (thn (ha pos2 pins s σ H _ I h) fun us s1 ⟨vs,H1,I1,r1,q1⟩=>?_) hs rfl))
 obtain ⟨n,e,hn,q⟩:=q1
 subst e
 obtain ⟨u,rfl,e1⟩:=we r1
 obtain ⟨t,rfl⟩:=e1
 refine call_range_1 (Calls.spliced_nil ?_)
 have I2:Inv X pins σ H1 { s1 with heap:=s1.heap.push { cls:=.type "range",data:=.fields #[.int 0 s1.toks,.int n t,.int 1 (s1.toks + 1)] },toks:=s1.toks + 1 + 1 }:=I1.kept fun b o e=>Heap.get?_push_of_some _ e
 refine call_list_range (n:=n) (I.ok.hd hc) (IsRange.new ..) (small_one (by omega) (by omega) (by omega) (by omega)) (by rw [rangeSize_one]; split <;> omega) (by omega) fun h' tk acc c' hk hS hacc=>?_
 have hvr:Vals ((List.range n).map fun i:Nat=>V.int i) acc.toList:=by
  have hlen:acc.toList.length = n:=by rw [Array.length_toList]; exact hacc.1
  have key:∀ (m:Nat) (l:List Value) (j:Nat),l.length = m -> (∀ i v,l[i]? = some v -> ∃ t,v = Value.int ((j + i:Nat):Int) t) -> Vals ((List.range' j m).map fun i:Nat=>V.int i) l:=by
   intro m
   induction m with
   | zero =>
    intro l j hl _
    rw [List.length_eq_zero_iff.mp hl]
    exact .nil
   | succ m ih =>
    intro l j hl hv
    match l,hl,hv with
    | x :: l,hl,hv =>
     refine .cons ?_ (ih l (j + 1) (by simpa using hl) fun i v h=>?_)
     ·obtain ⟨t,e⟩:=hv 0 x rfl
      exact ⟨t,e⟩
     ·obtain ⟨t,e⟩:=hv (i + 1) v (by simpa using h)
      exact ⟨t,by rw [e,show j + (i + 1) = j + 1 + i by omega]⟩
  rw [List.range_eq_range']
  refine key n acc.toList 0 hlen fun i v h=>?_
  obtain ⟨t,e⟩:=hacc.2 i v (by rw [← h]; exact (Array.getElem?_toList).symm)
  exact ⟨t,by rw [e]; congr 1; omega⟩
 refine ⟨.ref (s1.heap.push { cls:=.type "range",data:=.fields #[.int 0 s1.toks,.int n t,.int 1 (s1.toks + 1)] }).objs.size,_,I2.laid (t':=tk) hk (Nat.le_refl _) (show ye X.prog X.w _ h' _ (.lst ((List.range n).map fun i:Nat=>V.int i)) from ⟨by rw [List.length_map,List.length_range]; exact Nat.le_of_lt (zm hn),acc.toList,c',hvr,by simpa using hS⟩),rfl,q _ (I2.hok.fresh (Nat.le_refl _))⟩
end
theorem Y8 {k:Nat} (h:k <= 4):(1:Int) * 2 ^ ((k:Int)).toNat / 2 ^ (1:Int).toNat = ((2 ^ k / 2:Nat):Int):=by
 have key:∀ k:Fin 5,(1:Int) * 2 ^ ((k.val:Int)).toNat / 2 ^ (1:Int).toNat = ((2 ^ k.val / 2:Nat):Int):=by decide
 exact key ⟨k,by omega⟩
def Bits (r:List Int):Prop:=∀ b ∈ r,b = 0 \/ b = 1
def yB (_:FG7):Sp:=sp1 fun x H Q=>∃ k:Nat,x = .int k /\ k <= 4 /\ Q (.int (2 ^ k / 2:Nat)) H
def vT (K:FG7):Sp:=sp4 fun x y z u H Q=>∃ (k st a:Nat) (row:List Int),x = .int k /\ y = .int st /\ z = .int a /\ zS K H u row /\ k <= 4 /\ 1 <= st /\ st <= k /\ a < 2 ^ k /\ row.length = 2 ^ (k - 1) /\ Bits row /\ Q (.int (stR k row st a)) H
def vU (gs:List Nat):List V:=gs.map fun g:Nat=>V.int g
def vV (K:FG7):Sp:=sp3 fun x y z H Q=>∃ (k st:Nat) (gs:List Nat) (lw:Addr) (ws:List V),x = .int k /\ y = .int st /\ z = .ref lw /\ H lw = some (.lst ws) /\ AllR (zS K H) ws (yo k (plOf gs)) /\ k <= 4 /\ 1 <= st /\ st <= k /\ xu k gs /\ ∀ y H',Grow [] H H' -> zS K H' y (vS k st (plOf gs)) -> Q y H'
def XT (K:FG7) (H:Hp) (x:V) (k:Nat) (gs:List Nat) (o:Option (Nat × Int)):Prop:=∃ (r:Addr) (s:Str) (y:V),x = .ref r /\ SqT K H r [.str s,y] /\ match o with
 | none=>s = "settings" /\ vg K H y (WA k gs)
 | some (l,v)=>s = "clash" /\ ∃ c,y = .ref c /\ SqT K H c [.int l,.int v]
theorem Grow.ans {m:List Addr} {H H':Hp} (g:Grow m H H') {K:FG7} {x:V} {k:Nat} {gs:List Nat} {o:Option (Nat × Int)} (h:XT K H x k gs o):XT K H' x k gs o:=by
 obtain ⟨r,s,y,e,z,w⟩:=h
 refine ⟨r,s,y,e,g.sqT z,?_⟩
 cases o with
 | none=>exact ⟨w.1,g.rows w.2⟩
 | some p =>
  obtain ⟨l,v⟩:=p
  obtain ⟨w1,c,e,z⟩:=w
  exact ⟨w1,c,e,g.sqT z⟩
theorem j5.bits {k n:Nat} {rows:List (List Int)} (h:j5 k rows) (hn:n < k):(rows.getD n []).length = 2 ^ (k - 1) /\ Bits (rows.getD n []):=by
 have e:rows[n]? = some (rows.getD n []):=by rw [List.getD_eq_getElem?_getD,List.getElem?_eq_getElem (by rw [h.1]; exact hn)]; rfl
 exact h.2 _ (List.mem_of_getElem? e)
theorem Za {k:Nat} {gs:List Nat} (h:xu k gs):(vU gs).length = 2 ^ k:=by unfold vU; rw [List.length_map,h.1]
theorem Zb {gs:List Nat} {i:Nat} {x:V} (h:(vU gs)[i]? = some x):i < gs.length /\ x = .int (gs.getD i 0:Nat):=by
 unfold vU at h
 rw [List.getElem?_map] at h
 cases e:gs[i]? with
 | none=>rw [e] at h; cases h
 | some g =>
  rw [e] at h
  refine ⟨(List.getElem?_eq_some_iff.mp e).1,?_⟩
  rw [List.getD_eq_getElem?_getD,e]
  exact (Option.some.inj h).symm
def rowD (r:List Int):PyData:=.tuple (r.map PyData.int)
def rn (rows:List (List Int)):PyData:=.tuple (rows.map rowD)
theorem AllR.of_get {α:Type} {R:V -> α -> Prop}:∀ {xs:List V} {ks:List α},xs.length = ks.length -> (∀ (i:Nat) (x:V),xs[i]? = some x -> ∃ k,ks[i]? = some k /\ R x k) -> AllR R xs ks
 | [],[],_,_=>trivial
 | x :: xs,k :: ks,hl,h=>by
  refine ⟨?_,AllR.of_get (by simpa using hl) fun i y hy=>by simpa using h (i + 1) y (by simpa using hy)⟩
  obtain ⟨k',e,r⟩:=h 0 x rfl
  cases e
  exact r
 | [],_ :: _,hl,_=>by simp at hl
 | _ :: _,[],hl,_=>by simp at hl
theorem xu.set {k:Nat} {gs:List Nat} (h:xu k gs) {j n:Nat} (hn:n < 2 ^ k):xu k (gs.set j n):=by
 refine ⟨by rw [List.length_set,h.1],fun g hg=>?_⟩
 rcases List.mem_or_eq_of_mem_set hg with z | rfl
 ·exact h.2 g z
 ·exact hn
def wfN (k s l:Nat) (w:Int):Nat:=(wfI k s l w).toNat
theorem ja:∀ k:Fin 5,∀ l:Fin 16,l.val < 2 ^ k.val -> (∀ t:Fin 5,figI k.val t.val l.val = 0 \/ figI k.val t.val l.val = 1) /\ ∀ m:Fin 16,m.val < 2 ^ k.val -> (∀ t:Fin 5,1 <= t.val -> t.val <= k.val -> figI k.val t.val l.val = figI k.val t.val m.val) -> l = m:=by
 decide +kernel
structure WfF (k s l:Nat) (w:Int):Prop where
 eq:wfI k s l w = (wfN k s l w:Int)
 lt:wfN k s l w < 2 ^ k
 at_:figI k s (wfN k s l w) = w
 off:∀ t:Nat,t <= k -> t ≠ s -> figI k t (wfN k s l w) = figI k t l
theorem Y9 {k l m:Nat} (k4:k <= 4) (hl:l < 2 ^ k) (hm:m < 2 ^ k) (h:∀ t:Nat,1 <= t -> t <= k -> figI k t l = figI k t m):l = m:=by
 have p:=xr k4
 have z:=(ja ⟨k,by omega⟩ ⟨l,by omega⟩ hl).2 ⟨m,by omega⟩ hm fun t h1 h2=>h t.val h1 h2
 exact congrArg Fin.val z
def mixN (k e x t:Nat):Nat:=(numL ((vo k e).take (t - 1) ++ (vo k x).drop t)).toNat
def fstI (rows:List (List Int)) (t n:Nat):Int:=(rows.getD (t - 1) []).getD n 0
def WC (k:Nat) (rows:List (List Int)) (e m x y:Nat):Prop:=∃ t:Nat,m < t /\ t <= k /\ figI k t x ≠ figI k t y /\ (∀ u:Nat,t < u -> u <= k -> figI k u x = figI k u y) /\ figI k t x = fstI rows t (mixN k e x t)
structure OrdF (k:Nat) (rows:List (List Int)) (e n:Nat) (L:List Nat):Prop where
 len:L.length = 2 ^ n
 mem:∀ x ∈ L,x < 2 ^ k /\ ∀ t:Nat,1 <= t -> t <= k - n -> figI k t x = figI k t e
 all:∀ x:Nat,x < 2 ^ k -> (∀ t:Nat,1 <= t -> t <= k - n -> figI k t x = figI k t e) -> x ∈ L
 row:L.Pairwise (WC k rows e (k - n))
section
variable {lo:Int} {n k:Nat} {tt:TT} {te:TE} {Q:VK} {σ:L2.St} {H:Hp}
theorem Zc (p:Nat -> Bool) (Pv:Nat -> List V -> Hp -> Prop) (h0:Pv 0 [] H)
  (ht:∀ i ys H' (R:Bool -> Hp -> Prop),i < n -> Pv i ys H' -> R (p i) H' -> tt (σ.set k (some (.int (lo + i)))) H' R)
  (hs:∀ i ys H',i < n -> Pv i ys H' -> p i = true -> te (σ.set k (some (.int (lo + i)))) H' fun y H5=>ys.length < sizeLine /\ Pv (i + 1) (ys ++ [y]) H5)
  (hn:∀ i ys H',i < n -> Pv i ys H' -> p i = false -> Pv (i + 1) ys H')
  (hd:∀ ys H',Pv n ys H' -> ∀ l,H' l = none -> Q (.ref l) (upd H' l (.lst ys))):vn (Itr lo n) σ H (wP k) tt te Q:=by
 refine ⟨fun i m ys σ' H'=>m = n - i /\ i <= n /\ (σ' = σ \/ ∃ e,σ' = σ.set k e) /\ Pv i ys H',⟨n,by simp,Nat.zero_le _,.inl rfl,h0⟩,?_⟩
 rintro i m ys σ' H' ⟨rfl,hi,hσ,pv⟩
 by_cases hlt:i < n
 ·refine .inr ⟨hlt,fun zs σ2 H2=>(σ2 = σ \/ ∃ e,σ2 = σ.set k e) /\ Pv (i + 1) zs H2,fun zs σ2 H2 p'=>⟨n - (i + 1),by omega,rfl,hlt,p'.1,p'.2⟩,fun x H2 y=>?_⟩
  obtain ⟨e,y⟩:=y
  subst e y
  have e:σ'.set k (some (V.int (lo + i))) = σ.set k (some (V.int (lo + i))):=by
   rcases hσ with rfl | ⟨e,rfl⟩
   ·rfl
   ·rw [List.set_set]
  show tt (σ'.set k (some (V.int (lo + i)))) H2 _
  rw [e]
  refine ht i ys H2 _ hlt pv ?_
  by_cases c:p i = true
  ·rw [if_pos c]
   have e2:(fun (y:V) (H5:Hp)=>ys.length < sizeLine /\ ((σ.set k (some (V.int (lo + i))) = σ \/ ∃ e,σ.set k (some (V.int (lo + i))) = σ.set k e) /\ Pv (i + 1) (ys ++ [y]) H5)) = fun y H5=>ys.length < sizeLine /\ Pv (i + 1) (ys ++ [y]) H5:=by
    funext y H5
    exact propext ⟨fun z=>⟨z.1,z.2.2⟩,fun z=>⟨z.1,.inr ⟨_,rfl⟩,z.2⟩⟩
   have z:=hs i ys H2 hlt pv c
   rw [← e2] at z
   exact z
  ·rw [if_neg c]
   exact ⟨.inr ⟨_,rfl⟩,hn i ys H2 hlt pv (by simpa using c)⟩
 ·obtain rfl:i = n:=by omega
  exact .inl ⟨Nat.le_refl _,hd ys H' pv⟩
end
def rq (k a b:Nat):List Int:=((List.range k).filter fun i=>decide (figI k ((i + 1:Nat):Int) a ≠ figI k ((i + 1:Nat):Int) b)).map fun i:Nat=>((i + 1:Nat):Int)
def vW (_:FG7):Sp:=sp3 fun x y z H Q=>∃ (k a b:Nat),x = .int k /\ y = .int a /\ z = .int b /\ k <= 4 /\ a < 2 ^ k /\ b < 2 ^ k /\ ∀ l H',Grow [] H H' -> H' l = some (.lst ((rq k a b).map V.int)) -> Q (.ref l) H'
theorem uQ {k a b:Nat} (k4:k <= 4) (ha:a < 2 ^ k) (hb:b < 2 ^ k) (h:a ≠ b):0 < (rq k a b).length:=by
 unfold rq
 rw [List.length_map]
 by_cases c:∃ t:Nat,1 <= t /\ t <= k /\ figI k t a ≠ figI k t b
 ·obtain ⟨t,t1,t2,t3⟩:=c
  refine List.length_pos_of_mem (a:=t - 1) (List.mem_filter.mpr ⟨List.mem_range.mpr (by omega),decide_eq_true ?_⟩)
  rw [show t - 1 + 1 = t by omega]; exact t3
 ·exfalso
  exact h (Y9 k4 ha hb fun t t1 t2=>by
   by_cases d:figI k t a = figI k t b
   ·exact d
   ·exact absurd ⟨t,t1,t2,d⟩ c)
def LsR (H:Hp) (x:V) (row:List Int):Prop:=∃ r,x = .ref r /\ H r = some (.lst (row.map V.int))
def LsB (H:Hp) (x:V) (rows:List (List Int)):Prop:=∃ l xs,x = .ref l /\ H l = some (.lst xs) /\ AllR (LsR H) xs rows
def LsN (a:Addr) (H:Hp) (x:V) (row:List Int):Prop:=∃ r,x = .ref r /\ r ∉ [a] /\ H r = some (.lst (row.map V.int))
def LsA (a:Addr) (H:Hp) (x:V) (rows:List (List Int)):Prop:=∃ l xs,x = .ref l /\ l ∉ [a] /\ H l = some (.lst xs) /\ AllR (LsN a H) xs rows
theorem LsA.b {a:Addr} {H:Hp} {x:V} {rows:List (List Int)} (h:LsA a H x rows):LsB H x rows:=by
 obtain ⟨l,xs,e,n,z,w⟩:=h
 exact ⟨l,xs,e,z,w.imp fun _ _ ⟨r,e,_,z⟩=>⟨r,e,z⟩⟩
def sd (k a:Nat):Nat:=if h:a = 0 \/ k = 0 then 0 else a % 2 ^ k ^^^ sd k (a / 2 ^ k)
termination_by a
decreasing_by
 have:a ≠ 0:=fun e=>h (.inl e)
 exact Nat.div_lt_self (by omega) (Nat.one_lt_two_pow (fun e=>h (.inr e)))
def vX (K:FG7) (H:Hp) (f:Addr) (rows:List (List Int)):Prop:=∃ xs,H f = some (.lst xs) /\ AllR (zS K H) xs rows
theorem vX.grow {K:FG7} {H H':Hp} {f:Addr} {rows:List (List Int)} (h:vX K H f rows) (g:Grow [] H H'):vX K H' f rows:=by
 obtain ⟨xs,e,a⟩:=h
 exact ⟨xs,g.keep _ _ (by simp) e,g.boardsR a⟩
theorem vX.ne {K:FG7} {H:Hp} {f r:Addr} {rows:List (List Int)} (h:vX K H f rows) (e:H r = none):r ≠ f:=by
 obtain ⟨xs,e',_⟩:=h
 intro z; rw [z,e'] at e; cases e
theorem vX.set {K:FG7} {H:Hp} {f:Addr} {rows:List (List Int)} {xs:List V} (e:H f = some (.lst xs)) (a:AllR (zS K H) xs rows):vX K H f rows:=⟨xs,e,a⟩
structure CScC (X:Cx) (scope:Scope) (N':List Str) (sub:List (Option Nat)):Prop where
 free:∀ y ∈ scope.names,y.2 = .free -> X.env.kindOf y.1 = some .cell
 nd:(scope.names.map (·.1)).Nodup
 kind:scope.kind = .function
 names:∀ y ∈ scope.names,y.2 = .local -> scope.names.lookup y.1 = some .local
 len:sub.length = N'.length
 cap:∀ (j:Nat) (y:Str) (i:Nat),N'[j]? = some y -> sub[j]? = some (some i) -> X.N[i]? = some y /\ X.env.scope.names.lookup y = some .cell /\ scope.names.lookup y = some .free
section
variable {X:Cx} {scope:Scope} {N':List Str} {sub:List (Option Nat)} {tg:Expr} {pos:Pos} {elt iter:Expr} {ifs:List Expr} {wi:TI} {g:TG} {tt:TT} {te:TE}
theorem CScC.clos {pins:List (Addr × Obj)} {σ:L2.St} {H:Hp} {s:Shared} (S:CScC X scope N' sub) (I:Inv X pins σ H s):∃ cl,closureFor scope X.env = pure cl /\ (∀ x c,cl.lookup x = some c -> X.env.cells.lookup x = some c) /\ ∀ y ∈ scope.names,y.2 = .free -> ∃ c,cl.lookup y.1 = some c :=
 uI fun y hy hf=>I.ok.has y.1 (.inl (S.free y hy hf))
end
theorem CScC.of {X:Cx} {scope:Scope} {N':List Str} {sub:List (Option Nat)} (sc:Scope) (NN:List Str) (e:X.env.scope = sc) (en:X.N = NN)
  (h:((scope.names.all fun y=>(y.2 != .free || sc.names.lookup y.1 == some .cell) && (y.2 != .local || scope.names.lookup y.1 == some .local)) && (sub.length == N'.length) &&
   ((N'.zip sub).all fun p=>match p.2 with | none=>true | some i=>NN[i]? == some p.1 && sc.names.lookup p.1 == some .cell && scope.names.lookup p.1 == some .free)) = true)
  (nd:(scope.names.map (·.1)).Nodup) (hk:scope.kind = .function):CScC X scope N' sub:=by
 rw [Bool.and_eq_true,Bool.and_eq_true] at h
 obtain ⟨⟨h1,h2⟩,h3⟩:=h
 have k1:=fun y hy=>List.all_eq_true.mp h1 y hy
 refine ⟨fun y hy hf=>?_,nd,hk,fun y hy hl=>?_,by simpa using h2,fun j y i hj hs=>?_⟩
 ·have:=k1 y hy
  simp only [hf,Bool.and_eq_true] at this
  have z:=this.1
  show X.env.scope.names.lookup y.1 = _
  rw [e]; simpa using z
 ·have:=k1 y hy
  simp only [hl,Bool.and_eq_true] at this
  simpa using this.2
 ·have hm:(y,some i) ∈ N'.zip sub:=by
   have:(N'.zip sub)[j]? = some (y,some i):=by
    rw [List.getElem?_zip_eq_some]; exact ⟨hj,hs⟩
   exact List.mem_of_getElem? this
  have:=List.all_eq_true.mp h3 _ hm
  simp only [Bool.and_eq_true,beq_iff_eq] at this
  rw [e,en]
  exact ⟨this.1.1,this.1.2,this.2⟩
theorem XE.at {ds:List Deed} (h:XE ds) {i:Nat} (hi:i < ds.length):(ds.getD i look).Ok:=h _ (List.mem_of_getElem? (Ww hi))
structure MixOk (m:List Nat):Prop where
 nd:m.Nodup
 lt:∀ j ∈ m,j < m.length
 has:∀ j,j < m.length -> j ∈ m
theorem MixOk.of {m:List Nat} {n:Nat} (h:m.Perm (List.range n)):MixOk m /\ m.length = n:=by
 have hl:m.length = n:=by rw [h.length_eq,List.length_range]
 refine ⟨⟨(h.nodup_iff).mpr List.nodup_range,fun j hj=>?_,fun j hj=>?_⟩,hl⟩
 ·rw [hl]; exact List.mem_range.mp (h.mem_iff.mp hj)
 ·exact h.mem_iff.mpr (List.mem_range.mpr (by omega))
theorem MixOk.at {m:List Nat} (h:MixOk m) {j:Nat} (hj:j < m.length):m.idxOf j < m.length /\ m.getD (m.idxOf j) 0 = j:=by
 have hl:=List.idxOf_lt_length_of_mem (h.has j hj)
 refine ⟨hl,?_⟩
 rw [List.getD_eq_getElem?_getD,List.getElem?_eq_getElem hl]
 exact List.getElem_idxOf hl
structure WkD (prog:Program) (w:World) (A:Around) (T:String) (I:Addr) (n:Nat) (Fr:Addr -> Prop) (J:List Value -> Shared -> Prop) (Fn:List Value -> Shared -> Prop):Prop where
 ty:∀ acc s,J acc s -> s.TypeIs (.ref I) T
 self:∀ acc s (Q:VS7) (E:VS7),J acc s -> Q (.ref I) s -> wpAny (model prog w) A (pyIter (.ref I)) Q E s
 stay:∀ acc s (S:Addr) (ob:Obj) (h':Heap),J acc s -> Fr S -> s.heap.get? S = some ob -> (ob.cls = .type "list" /\ ∀ v,ob.data ≠ .cell v) -> (∀ b o,b ≠ S -> s.heap.get? b = some o -> h'.get? b = some o) -> h'.objs.size = s.heap.objs.size -> J acc { s with heap:=h' }
 next:∀ acc s (S:Addr) (ob:Obj) (Q:Option Value -> Shared -> Prop) (E:VS7),J acc s -> Fr S -> s.heap.get? S = some ob -> (ob.cls = .type "list" /\ ∀ v,ob.data ≠ .cell v) →
  (∀ v s',acc.length < n -> J (acc ++ [v]) s' -> s'.heap.get? S = some ob -> Q (some v) s') -> (∀ s',Fn acc s' -> s'.heap.get? S = some ob -> Q none s') -> wpAny (model prog w) A (pyNext (.ref I)) Q E s
 push:∀ acc s (o:Obj),J acc s -> J acc { s with heap:=s.heap.push o }
section
variable {X:Cx} {K:FG7} {a b:Expr} {ta:TA} {p p2 pos pos2:Pos}
theorem SqC.grow {c:Bool} {H H':Hp} {a:Addr} {xs:List V} (g:Grow [] H H') (h:SqC c K H a xs):SqC c K H' a xs:=by
 cases c
 ·exact g.sqL h
 ·exact g.sqT h
end
open PySem PySem.Spec PyProof.Rows L2 HT
section
variable {prog:Program} {w:World} {A:Around} {E:VS7} {s:Shared}
theorem Z8 (l b:Addr) (us ws:Array Value) (n m:Nat) (d1 d2:Option Addr) (e1 e2:Array (Option Value)) (h0:us.isEmpty = true) :
  Meets (Builtin.«tuple.__add__» ⟨[.ref l,.ref b],[]⟩) (fun _ R s=>s.heap.get? l = some ⟨.type "tuple",d1,.seq us n,e1⟩ /\ s.heap.get? b = some ⟨.type "tuple",d2,.seq ws m,e2⟩ /\ R (.ok (.ret (.ref b))) s) :=
 .of_wp fun P w A R s h=>by
  obtain ⟨hh,gg,dd,tk,os⟩:=s
  obtain ⟨eL,eT,q⟩:=h
  have k1:=PySem.AutoSeq1.sub_tuple_tuple
  wp_walk using PySem.AutoSeq1.wpAny_loadPart' eL,PySem.AutoSeq1.wpAny_loadPart' eT
  exact ⟨_,rfl,q⟩
theorem Z9 {t b:Addr} {vs ws:List Value} {Q:VS7} (ht:IsTup s.heap t vs.toArray) (hb:IsTup s.heap b ws.toArray) (hv:vs = []) (h1:Q (.ref b) s):wpAny (model prog w) A (binaryOp .Add (.ref t) (.ref b)) Q E s:=by
 obtain ⟨⟨c1,d1,x1,l1⟩,ho,hc,n,hd⟩:=id ht
 obtain ⟨⟨c2,d2,x2,l2⟩,ho2,hc2,m,hd2⟩:=id hb
 cases hc
 cases hd
 cases hc2
 cases hd2
 exact concat_meets ⟨_,ho,rfl⟩ ⟨_,ho2,rfl⟩ noFill_tuple_add seq_tuple_add PySem.F.slot_tuple_add PySem.F.entry_tuple_add (PySem.F.args_tuple_add_2 _ _) (Z8 t b vs.toArray ws.toArray n m d1 d2 l1 l2 (by simp [hv])) ⟨ho,ho2,h1⟩
theorem tu {t sl:Addr} {us:Array Value} {vl vu:Value} {lo hi:Option Int} {Q:VS7} (ht:IsTup s.heap t us) (hs:s.heap.IsSliceOf sl vl vu .none) (pl:IsPart vl lo) (pu:IsPart vu hi)
  (hw:sIx us.size 0 lo = 0 /\ sIx us.size us.size hi = us.size) (h:Q (.ref t) s):wpAny (model prog w) A (getItem (.ref t) (.ref sl)) Q E s:=by
 obtain ⟨os,hos,hcs,hds⟩:=id hs
 have hTs:s.TypeIs (.ref sl) "slice":=⟨os,hos,hcs⟩
 unfold getItem
 try with_reducible refine wpAny_holding ?_
 first | refine wpAny_bind (wpAny_pure ?_) | skip
 refine wpAny_bind (wpAny_sequenceKey ht.typeIs (by decide) ?_)
 refine wpAny_bind (wpAny_callSpecial?_slot (name:=Str.ofString "__getitem__") ht.typeIs PyProof.Rows.slot_tuple_getitem
  (wpAny_call_entry PyProof.Rows.slot_tuple_getitem ht.typeIs entry_tuple_getitem ?_ (args_tuple_getitem _ _)))
 show wpAny _ _ (Builtin.Tuple.tupleItemsOf (.ref t) >>= _) _ _ s
 refine wpAny_bind (tupleItemsOf_ ht ?_)
 refine wpAny_bind (wpAny_typeOf hTs ?_)
 rw [if_pos (by decide)]
 refine wpAny_bind (xA hs pl pu ?_)
 have yes:(((sIx us.size 0 lo:Nat):Int) == 0 && (1:Int) == 1 && (sIx us.size us.size hi - sIx us.size 0 lo) == us.size) = true:=by
  rw [hw.1,hw.2]; simp
 show wpAny _ _ (if (((sIx us.size 0 lo:Nat):Int) == 0 && (1:Int) == 1 && (sIx us.size us.size hi - sIx us.size 0 lo) == us.size) = true then _ else _) _ _ s
 rw [if_pos yes]
 refine wpAny_bind ?_
 unfold Builtin.Tuple.tupleIsExact
 refine wpAny_bind (wpAny_typeOf ht.typeIs (wpAny_pure ?_))
 show wpAny _ _ (rule _ >>= _) _ _ s
 exact wpAny_bind (wpAny_rule (wpAny_bind (wpAny_pure (wpAny_pure ⟨_,rfl,wpAny_pure h⟩))))
end
section
variable {X:Cx} {K:FG7}
def rSlG (K:FG7):V -> Option Int -> Option Int -> Hp -> VK -> Prop:=fun x lo hi H Q=>∃ a xs,x = .ref a /\ SqT K H a xs /\ ∀ p H',Grow [] H H' -> SqT K H' p (cutV xs lo hi) -> Q (.ref p) H'
theorem Zd {xs:List V} {lo hi:Option Int} (h:HT.sIx xs.length 0 lo = 0 /\ HT.sIx xs.length xs.length hi = xs.length):cutV xs lo hi = xs:=by
 unfold cutV
 rw [h.1,h.2,List.drop_zero,Nat.sub_zero,List.take_length]
theorem rA (hK:X.K = K):SlR X (rSlG K):=by
 subst hK
 intro pins s σ H x v vl vu lo hi sl Q I rx hs pl pu h
 obtain ⟨a,xs,rfl,hx,q⟩:=h
 by_cases hw:HT.sIx xs.length 0 lo = 0 /\ HT.sIx xs.length xs.length hi = xs.length
 ·cases rx
  obtain ⟨its,r,ht,hz⟩:=I.tuple hx
  have hlen:its.toArray.size = xs.length:=by rw [List.size_toArray]; exact r.length.symm
  refine ⟨"tuple",_,PyProof.Rows.slot_tuple_getitem.lookup,ht.typeIs,?_⟩
  exact tu ht hs pl pu (by rw [hlen]; exact hw) ⟨.ref a,H,I,rfl,q a H (Grow.refl _ _) (by rw [Zd hw]; exact hx)⟩
 ·exact Xw pins s σ H _ v vl vu lo hi sl Q I rx hs pl pu ⟨a,xs,rfl,hx,hw,fun p hp=>q p _ (Grow.new hp _) (SqT.of zb)⟩
def WD (K:FG7):R2:=fun x y H Q=>∃ a b xs ys,x = .ref a /\ y = .ref b /\ SqT K H a xs /\ SqT K H b ys /\ xs.length + ys.length <= sizeLine /\ ∀ p H',Grow [] H H' -> SqT K H' p (xs ++ ys) -> Q (.ref p) H'
theorem vY (hK:X.K = K):OpR X (binaryOp .Add) (WD K):=by
 subst hK
 intro pins s σ H x y v u Q I rx ry h
 obtain ⟨a,b,xs,ys,rfl,rfl,ha,hb,hz,q⟩:=h
 by_cases hx:xs = []
 ·cases rx
  cases ry
  obtain ⟨its,r1,p1,_⟩:=I.tuple ha
  obtain ⟨its2,r2,p2,_⟩:=I.tuple hb
  exact Z9 p1 p2 (r1.nil_iff.mpr hx) ⟨.ref b,H,I,rfl,q b H (Grow.refl _ _) (by rw [hx]; exact hb)⟩
 ·exact YS pins s σ H _ _ v u Q I rx ry ⟨a,b,xs,ys,rfl,rfl,ha,hb,hx,hz,fun e=>q a H (Grow.refl _ _) (by rw [e,List.append_nil]; exact ha),fun _ p hp=>q p _ (Grow.new hp _) (SqT.of zb)⟩
end
def rB (P:Program) (w:World) (K:FG7) (mg:Str -> Option Value) (base:Heap) (C:Addr) (k:Nat) (m:Str) (ps:List Str) (sp:Sp):Prop :=
 ∃ (f:Addr) (fd:FuncData),FnOk P w K mg base CX0 k f fd ps sp /\ vm K fd ps [] /\ Meth K C m f
def tw (P:Program) (w:World) (K:FG7) (mg:Str -> Option Value) (base:Heap) (C:Addr) (k:Nat) (ps:List Str) (sp:Sp):Prop :=
 ∃ (j:Nat) (f:Addr) (fd:FuncData),j + 1 = k /\ FnOk P w K mg base CX0 j f fd ps sp /\ vm K fd ps [] /\ Mk K C f
section
variable {P:Program} {w:World} {K:FG7} {mg:Str -> Option Value} {base:Heap} {C:Addr} {j k:Nat} {m:Str} {ps:List Str} {sp:Sp}
theorem rB.mono (c:rB P w K mg base C j m ps sp) (h:j <= k):rB P w K mg base C k m ps sp:=by
 obtain ⟨f,fd,F,b,mt⟩:=c
 exact ⟨f,fd,F.mono h,b,mt⟩
theorem tw.mono (c:tw P w K mg base C j ps sp) (h:j <= k):tw P w K mg base C k ps sp:=by
 obtain ⟨i,f,fd,e,F,b,mt⟩:=c
 exact ⟨k - 1,f,fd,by omega,F.mono (by omega),b,mt⟩
end
structure CTxt (K:FG7) (mg:Str -> Option Value) (C:Addr):Prop where
 cl:Cls K C
 n1:vH K C "depth"
 n2:vH K C "gates"
 n3:vH K C "out_lines"
 n4:vH K C "ups"
 n5:vH K C "tokens"
 n6:vH K C "came_out"
 n7:vH K C "given"
 mgC:mg "Counter" = some (.ref C)
section
variable {X:Cx} {K:FG7}
def FrT (H:Hp) (r:Addr) (xs:List V):Prop:=∃ o:Obj,H r = some (.frz o (.tup xs)) /\ o.cls = .type "tuple" /\ o.dict = none
theorem FrT.sqT {H:Hp} {r:Addr} {xs:List V} (h:FrT H r xs):SqT K H r xs:=by
 obtain ⟨o,e,_⟩:=h
 exact .inl (.inr ⟨o,e⟩)
end
def Trc (h:Heap) (e T:Addr) (cls:Value):Prop :=
 ∃ oe vs oT ts,h.get? e = some oe /\ oe.cls = cls /\ oe.data = .fields vs /\ vs[1]? = some (.ref T) /\ T ≠ e /\ h.get? T = some oT /\ oT.data = .fields ts /\ ts[3]? = some .none /\ vs[2]? = some .none
structure Lft (fr:List Addr) (e T0 T:Addr) (cls:Value) (h h':Heap):Prop where
 keep:∀ b o,b ∉ fr -> b ≠ e -> b ≠ T0 -> h.get? b = some o -> h'.get? b = some o
 slot:∀ b o,b ∈ fr -> b ≠ e -> b ≠ T0 -> h.get? b = some o -> ∃ sl,h'.get? b = some { o with slots:=sl }
 new:h.get? T = none
 trc:Trc h' e T cls
section
variable {M:Model} {A:Around} {E:VS7} {s:Shared}
theorem ww {base:Heap} {env:Env} {outer:List Env} {L e:Addr} {oe:Obj} {vs:Array Value} {head:Value} {hadNext:Bool} {Q:Unit -> Shared -> Prop}
  (hfr:A.frames = some (env :: outer)) (hl:s.heap.FunFrames base (env :: outer)) (hf:env.frame = some L)
  (he:s.heap.get? e = some oe) (hd:oe.data = .fields vs) (hsz:1 < vs.size) (hv2:vs[2]? = some .none)
  (h:∀ h' T,Lft ((env :: outer).filterMap (·.frame)) e e T oe.cls s.heap h' -> Q () { s with heap:=h' }) :
  wpAny M A (do let a ← frameOf env; let pl ← entryPlaceOf L hadNext; let b ← EntryCells.newEntry head a .none (rawInt L) .none pl; setField (.ref e) 1 b) (fun _ s'=>wpAny M A (setFlight (.ref e) none) Q E s') E s:=by
 have hne:e ∉ (env :: outer).filterMap (·.frame):=fun hm=>by
  obtain ⟨_,o,ho,hnf⟩:=hl.mem hm
  rw [he] at ho
  cases ho
  exact hnf vs hd
 refine wpAny_bind (wpAny_frameOf_fun hfr hl hf fun h1 s1=>?_)
 refine wpAny_bind (wpAny_entryPlaceOf fun pl hpl=>?_)
 unfold EntryCells.newEntry newFields
 refine wpAny_bind (wpAny_newObj_type ?_ (hpl.sizeOk5 _ _ _ _ _))
 have e1:h1.get? e = some oe:=(s1.2.1 e hne).trans he
 have hTe:h1.objs.size ≠ e:=Nat.ne_of_gt (Heap.lt_size e1)
 generalize hT:({ cls:=.type "traceback",dict:=none,data:=.fields ([head,.ref L,.none,rawInt L,.none] ++ (if pl.isEmpty then List.replicate 6 Value.none else pl)).toArray }:Obj) = oT
 have hTd:oT.data = .fields ([head,.ref L,.none,rawInt L,.none] ++ (if pl.isEmpty then List.replicate 6 Value.none else pl)).toArray:=by rw [← hT]
 have hTf:oT.isFreed = false:=Obj.isFreed_of_fields hTd
 have e2:=Heap.get?_push_of_some (h:=h1) oT e1
 refine wpAny_setField e2 hd hsz ?_
 have d3:=Obj.data_mapFields hd (·.setIfInBounds 1 (Value.ref h1.objs.size))
 have e3:=Heap.get?_update_self (Obj.mapFields (·.setIfInBounds 1 (Value.ref h1.objs.size))) e2 (Obj.isFreed_of_fields d3)
 have t3:((h1.push oT).update e (Obj.mapFields (·.setIfInBounds 1 (Value.ref h1.objs.size)))).get? h1.objs.size = some oT:=(Heap.get?_update_other _ _ (Ne.symm hTe)).trans (Heap.get?_push_size h1 hTf)
 unfold setFlight
 refine wpAny_bind (wpAny_field e3 d3 (x:=.ref h1.objs.size) (by simp [hsz]) ?_)
 rw [if_pos (show (Value.ref h1.objs.size != Value.none) = true from by simp)]
 refine wpAny_setField t3 hTd (by simp only [List.size_toArray,List.length_append,List.length_cons,List.length_nil] <;> omega) (h _ h1.objs.size ?_)
 have keep:∀ b o,b ≠ e -> h1.get? b = some o →
   (((h1.push oT).update e (Obj.mapFields (·.setIfInBounds 1 (Value.ref h1.objs.size)))).update h1.objs.size (Obj.mapFields (·.setIfInBounds 3 ((none:Option Addr).elim Value.none fun f=>rawInt f)))).get? b = some o:=fun b o hbe hb=>by
  rw [Heap.get?_update_other _ _ (Nat.ne_of_gt (Heap.lt_size hb)),Heap.get?_update_other _ _ (Ne.symm hbe)]
  exact Heap.get?_push_of_some _ hb
 refine ⟨fun b o hb hbe _ ho=>keep b o hbe ((s1.2.1 b hb).trans ho),fun b o hb hbe _ ho=>?_,?_,?_⟩
 ·obtain ⟨sl,hs⟩:=s1.2.2 b o ho
  exact ⟨sl,keep b _ hbe hs⟩
 ·cases q:s.heap.get? h1.objs.size with
  | none=>rfl
  | some o =>
   have:=Heap.lt_size q
   rw [s1.1] at this
   exact absurd this (Nat.lt_irrefl _)
 ·refine ⟨_,_,_,_,(Heap.get?_update_other _ _ hTe).trans e3,Obj.cls_mapFields _ _,d3,by simp [hsz],hTe,Heap.get?_update_self _ t3 (Obj.isFreed_of_fields (Obj.data_mapFields hTd _)),Obj.data_mapFields hTd _,?_,(Array.getElem?_setIfInBounds_ne (by decide)).trans hv2⟩
  simp only [Array.getElem?_setIfInBounds,if_true]
  rw [if_pos (by simp only [List.size_toArray,List.length_append,List.length_cons,List.length_nil]; omega)]
  rfl
theorem rC {base:Heap} {env:Env} {outer:List Env} {L e:Addr} {oe:Obj} {vs:Array Value} {Q:Unit -> Shared -> Prop}
  (hfr:A.frames = some (env :: outer)) (hl:s.heap.FunFrames base (env :: outer)) (hf:env.frame = some L)
  (he:s.heap.get? e = some oe) (hd:oe.data = .fields vs) (h1:vs[1]? = some .none) (hv2:vs[2]? = some .none)
  (h:∀ h' T,Lft ((env :: outer).filterMap (·.frame)) e e T oe.cls s.heap h' -> Q () { s with heap:=h' }):wpAny M A (leaving env (.ref e)) Q E s:=by
 unfold leaving noteFrame
 simp only [hf]
 refine wpAny_bind (wpAny_bind (wpAny_field he hd h1 ?_))
 rw [if_neg (by decide)]
 exact ww hfr hl hf he hd (Array.getElem?_eq_some_iff.mp h1).1 hv2 h
theorem jb {base:Heap} {env:Env} {outer:List Env} {L e T0:Addr} {cls:Value} {Q:Unit -> Shared -> Prop}
  (hfr:A.frames = some (env :: outer)) (hl:s.heap.FunFrames base (env :: outer)) (hf:env.frame = some L) (ht:Trc s.heap e T0 cls)
  (h:∀ h' T,Lft ((env :: outer).filterMap (·.frame)) e T0 T cls s.heap h' -> Q () { s with heap:=h' }):wpAny M A (leaving env (.ref e)) Q E s:=by
 obtain ⟨oe,vs,oT,ts,he,hcls,hd,h1,hTe,hT,hdT,h3,hv2⟩:=ht
 subst hcls
 unfold leaving noteFrame
 simp only [hf]
 refine wpAny_bind (wpAny_bind (wpAny_field he hd h1 ?_))
 rw [if_pos (show (Value.ref T0 != Value.none) = true from by simp)]
 refine wpAny_bind (wpAny_field hT hdT h3 ?_)
 rw [if_neg (show ¬ ((Value.none == rawInt L) = true) from by simp [rawInt])]
 refine wpAny_bind (wpAny_setField hT hdT (Array.getElem?_eq_some_iff.mp h3).1 ?_)
 have other:∀ b,b ≠ T0 -> (s.heap.update T0 (Obj.mapFields (·.setIfInBounds 3 Value.none))).get? b = s.heap.get? b:=fun b hb=>Heap.get?_update_other _ _ (Ne.symm hb)
 have nf:∀ b o,s.heap.get? b = some o -> (∀ vs,o.data ≠ .fields vs) -> b ≠ T0:=fun b o hb hnf q=>by
  rw [q,hT] at hb
  cases hb
  exact hnf ts hdT
 refine ww hfr (hl.of_keeps fun b o hb hnf=>⟨o,(other b (nf b o hb hnf)).trans hb,rfl⟩) hf ((other e (Ne.symm hTe)).trans he) hd (Array.getElem?_eq_some_iff.mp h1).1 hv2 fun h' T x=>h h' T ?_
 refine ⟨fun b o hb hbe hb0 ho=>x.keep b o hb hbe hbe ((other b hb0).trans ho),fun b o hb hbe hb0 ho=>x.slot b o hb hbe hbe ((other b hb0).trans ho),?_,x.trc⟩
 have:=x.new
 by_cases q:T = T0
 ·subst q
  have e5:=Heap.get?_update_self (Obj.mapFields (·.setIfInBounds 3 Value.none)) hT (Obj.isFreed_of_fields (Obj.data_mapFields hdT _))
  rw [show (s.heap.update T (Obj.mapFields (·.setIfInBounds 3 Value.none))).get? T = _ from e5] at this
  cases this
 ·rw [← other T q]; exact this
end
def CX1 (P:Program) (w:World):CXT:=fun outer H s E e s'=>∃ (a T C:Addr) (H':Hp),e = .ref a /\ s'.os = s.os /\ AllBare s'.gens /\ Un (frs outer) [] H H' s.heap s'.heap /\ HOk P w H' s'.heap ∧
 Trc s'.heap a T (.ref C) /\ H' a = none /\ H' T = none /\ s.heap.get? a = none /\ s.heap.get? T = none /\ E e (some C) H'
theorem ye.at {P:Program} {w:World} {H:Hp} {h:Heap} {a:Addr} {o:HO} (x:ye P w H h a o):∃ ob,h.get? a = some ob:=by
 induction o with
 | lst xs=>obtain ⟨z,its,n,r,e⟩:=x; exact ⟨_,e⟩
 | tup xs=>obtain ⟨z,its,r,ob,e,c⟩:=x; exact ⟨_,e⟩
 | dK kvs=>obtain ⟨z,y,vs,r,ob,es,ep,e,c⟩:=x; exact ⟨_,e⟩
 | dT kvs=>obtain ⟨z,y,xs,r,ob,es,ep,e,c⟩:=x; exact ⟨_,e⟩
 | set S n=>obtain ⟨ob,es,ep,t,e,c⟩:=x; exact ⟨_,e⟩
 | ins C dx fs=>obtain ⟨d,z,ne,e,_⟩:=x; exact ⟨_,e⟩
 | own y=>exact x
 | xd fs=>obtain ⟨mA,⟨od,es,ep,e,c⟩,r⟩:=x; exact ⟨_,e⟩
 | rng lo hi=>obtain ⟨t,u,v,e⟩:=x; exact ⟨_,e⟩
 | frz ob u ih=>exact ⟨_,x.1⟩
 | tbl ps=>exact ⟨_,x⟩
 | met f y=>exact ⟨_,x⟩
 | ext φ=>exact x.2.1
theorem Ya {P:Program} {w:World} {H:Hp} {h h':Heap} {fr:List Addr} {e T0 T:Addr} {cls:Value} (x:HOk P w H h) (l:Lft fr e T0 T cls h h') (hfr:∀ b ∈ fr,H b = none) (he:H e = none) (h0:H T0 = none):HOk P w H h':=fun b u q=>by
 refine (x b u q).stay (fun c v hc r=>?_) (fun _ r=>r) fun _ _ r=>r
 have hn:H c ≠ none:=by
  rcases hc with rfl | hc
  ·rw [q]; exact fun z=>nomatch z
  ·rw [hc]; exact fun z=>nomatch z
 exact l.keep c v (fun z=>hn (hfr c z)) (fun z=>hn (by rw [z]; exact he)) (fun z=>hn (by rw [z]; exact h0)) r
section
variable {P:Program} {w:World} {K:FG7} {mg:Str -> Option Value} {base:Heap} {N:List Str} {qual:Str} {scope:Scope} {f:Addr} {cd:Value} {A:Around} {outer:List Env} {s0:Shared} {H0:Hp} {E:XK}
 {pins:List (Addr × Obj)} {σ:L2.St} {H:Hp} {s:Shared}
theorem Ze {h2:Heap} {e T0 T C:Addr} (I:Inv (cxOf (CX1 P w) P w K mg base N qual scope f cd A outer s0 H0 E) pins σ H s) (l:Lft ((envOfC qual scope s0.heap.objs.size f cd :: outer).filterMap (·.frame)) e T0 T (.ref C) s.heap h2)
  (new:∀ b o,s0.heap.get? b = some o -> b ≠ e /\ b ≠ T0) (he0:H e = none) (ht0:H T0 = none) (q:E (.ref e) (some C) H):CX1 P w outer H0 s0 E (.ref e) { s with heap:=h2 }:=by
 have hfr:∀ b ∈ (envOfC qual scope s0.heap.objs.size f cd :: outer).filterMap (·.frame),H b = none:=I.stkFree
 have hU:Un (frs outer) [] H0 H s0.heap s.heap:=I.base
 have newT:∀ b o,s0.heap.get? b = some o -> b ≠ T:=fun b o hb z=>by
  obtain ⟨o',h1⟩:=hU.there b o hb (by simp)
  have:=l.new
  rw [← z,h1] at this; cases this
 have nin:∀ b o,s0.heap.get? b = some o -> b ∉ frs outer -> b ∉ (envOfC qual scope s0.heap.objs.size f cd :: outer).filterMap (·.frame):=fun b o hb hn z=>by
  rcases List.mem_cons.mp (show b ∈ s0.heap.objs.size :: frs outer from z) with z | z
  ·exact Nat.ne_of_lt (Heap.lt_size hb) z
  ·exact hn z
 have isin:∀ b,b ∈ frs outer -> b ∈ (envOfC qual scope s0.heap.objs.size f cd :: outer).filterMap (·.frame):=fun b hb=>show b ∈ s0.heap.objs.size :: frs outer from List.mem_cons_of_mem _ hb
 refine ⟨e,T,C,H,rfl,I.os,I.bare,⟨fun b o hb hn hf hx'=>?_,fun b o hb hn hf hx'=>?_,hU.free,fun b o hb hx'=>?_,hU.tups,hU.frzs,hU.tbls⟩,Ya I.hok l hfr he0 ht0,l.trc,he0,?_,?_,?_,q⟩
 ·obtain ⟨n1,n2⟩:=new b o hb
  exact l.keep b o (nin b o hb hf) n1 n2 (hU.keep b o hb hn hf hx')
 ·obtain ⟨n1,n2⟩:=new b o hb
  obtain ⟨sl,h1⟩:=hU.slot b o hb hn hf hx'
  obtain ⟨sl',h2⟩:=l.slot b _ (isin b hf) n1 n2 h1
  exact ⟨sl',h2⟩
 ·obtain ⟨n1,n2⟩:=new b o hb
  obtain ⟨o',h1⟩:=hU.there b o hb hx'
  by_cases z:b ∈ (envOfC qual scope s0.heap.objs.size f cd :: outer).filterMap (·.frame)
  ·obtain ⟨sl,h2⟩:=l.slot b o' z n1 n2 h1
   exact ⟨_,h2⟩
  ·exact ⟨o',l.keep b o' z n1 n2 h1⟩
 ·cases r:H T with
  | none=>rfl
  | some o =>
   obtain ⟨ob,z⟩:=ye.at (I.hok T o r)
   rw [l.new] at z; cases z
 ·cases r:s0.heap.get? e with
  | none=>rfl
  | some o=>exact absurd rfl (new e o r).1
 ·cases r:s0.heap.get? T with
  | none=>rfl
  | some o=>exact absurd rfl (newT T o r)
theorem Xa {h':Heap} {e C:Addr} {args:List Value} (I:Inv (cxOf (CX1 P w) P w K mg base N qual scope f cd A outer s0 H0 E) pins σ H s) (hx:Heap.MadeExcOf s.heap h' e (.ref C) args) (q:E (.ref e) (some C) H) :
  (cxOf (CX1 P w) P w K mg base N qual scope f cd A outer s0 H0 E).xe (.ref e) { s with heap:=h' }:=by
 obtain ⟨t,he,ht,_⟩:=hx.there
 have he0:H e = none:=by
  cases r:H e with
  | none=>rfl
  | some o =>
   obtain ⟨ob,z⟩:=ye.at (I.hok e o r)
   rw [hx.new] at z; cases z
 have I1:Inv (cxOf (CX1 P w) P w K mg base N qual scope f cd A outer s0 H0 E) pins σ H { s with heap:=h' }:=I.kept (t':=s.toks) hx.keeps
 have new:∀ b o,s0.heap.get? b = some o -> b ≠ e:=fun b o hb z=>by
  have hU:Un (frs outer) [] H0 H s0.heap s.heap:=I.base
  obtain ⟨o',ho'⟩:=hU.there b o hb (by simp)
  rw [z,hx.new] at ho'; cases ho'
 refine rC (base:=base) (outer:=outer) (L:=s0.heap.objs.size) I.ok.frames I1.stack rfl he rfl rfl rfl fun h2 T l=>?_
 exact Ze I1 l (fun b o hb=>⟨new b o hb,new b o hb⟩) he0 he0 q
theorem zE {E':XK} (hE:∀ e C H',E' e (some C) H' -> E e (some C) H'):vI (CX1 P w) (cxOf (CX1 P w) P w K mg base N qual scope f cd A outer s0 H0 E) E':=by
 intro pins σ H s ex s' I hc
 obtain ⟨e,T0,C,H',rfl,os,bare,un,hok,trc,e0,t0,ne,nt,q⟩:=hc
 have I1:Inv (cxOf (CX1 P w) P w K mg base N qual scope f cd A outer s0 H0 E) pins σ H' s':=I.call' (ch:=[]) os un hok bare (fun b z=>absurd z (by simp))
 have new:∀ b o,s0.heap.get? b = some o -> b ≠ e /\ b ≠ T0:=fun b o hb=>by
  have hU:Un (frs outer) [] H0 H s0.heap s.heap:=I.base
  obtain ⟨o',ho'⟩:=hU.there b o hb (by simp)
  refine ⟨fun z=>?_,fun z=>?_⟩
  ·rw [z,ne] at ho'; cases ho'
  ·rw [z,nt] at ho'; cases ho'
 refine jb (base:=base) (outer:=outer) (L:=s0.heap.objs.size) I.ok.frames I1.stack rfl trc fun h2 T l=>?_
 exact Ze I1 l new e0 t0 (hE _ _ _ q)
end
abbrev veM:List Value:=[.type "ValueError",.type "Exception",.type "BaseException",.type "object"]
def ExcC (K:FG7) (mg:Str -> Option Value) (x:Str) (C:Addr):Prop:=∀ h:Heap,K.In h -> OwnCls x C veM "ValueError.__new__" mg h
def Yx (X:Cx) (E:XK):Prop:=∀ (pins:List (Addr × Obj)) (σ:L2.St) (H:Hp) (s:Shared) (h':Heap) (e C:Addr) (args:List Value),Inv X pins σ H s -> Heap.MadeExcOf s.heap h' e (.ref C) args -> E (.ref e) (some C) H -> X.xe (.ref e) { s with heap:=h' }
def XU (C:Addr) (E:XK) (te:TE):TS:=fun _ σ H=>te σ H fun _ H1=>∀ e,E (.ref e) (some C) H1
section
variable {X:Cx} {x:Str} {C:Addr} {np cpos pos:Pos} {e₀:Expr} {te:TE} {E:XK}
theorem y9 (hc:X.calm = true) (O:ExcC X.K X.mg x C) (hg:Gl X x) (hr:Yx X E) (he:PE X e₀ te) (hdb:(x == ("__debug__":Str)) = false:=by decide)
  (hst:starEach [e₀] X.env = [(false,eval e₀ X.env)]:=by rfl):PS X (.Raise (some (.Call (.Name x np) [e₀] [] cpos)) none pos) (XU C E te):=by
 intro pins s σ H D I h
 obtain ⟨tl,N,nm,q,bs,hdct,sn,sub,ab,col,dd,k0,k1,k2,k3,k5,mN,hC,hN,hni,T⟩:=(O X.base I.mod.kin).obj
 refine wpAny_Raise_call_subT (C:=C) (nm:=nm) (q:=q) (N:=N) (bs:=bs) (bm:=tl) (hdct:=hdct) (sn:=sn) (sub:=sub) (ab:=ab) (col:=col) (dd:=dd) (k0:=k0) (k1:=k1) (k2:=k2) (k3:=k3) (k5:=k5)
  PySem.F.excBase_ValueError (mN:=mN) (T.hasType PySem.F.excBase_ValueError.hasBase) (I.ok.hd hc) (by rw [hst]; rfl) hni (u4 I hg (O s.heap I.kIn).bound ⟨rfl,?_⟩ hdb)
 rw [hst]
 refine Calls.evalArgs_plain ?_
 show wpAny _ _ (spliced [(false,eval e₀ X.env)]) _ _ s
 refine Calls.spliced_cons (thn (he pins s σ H _ I h) fun v s1 ⟨y,H1,I1,r1,q1⟩=>Calls.spliced_nil ?_)
 exact ⟨rfl,szl rfl,I1.bk _ _ hC,hN.keeps I1.bk,T.keeps I1.bk,fun h' e hm=>hr pins σ H1 s1 h' e C _ I1 hm (q1 e)⟩
end
section
variable {P:Program} {w:World} {K:FG7} {mg:Str -> Option Value} {base:Heap} {N:List Str} {qual:Str} {scope:Scope} {f:Addr} {cd:Value} {A:Around} {outer:List Env} {s0:Shared} {H0:Hp} {E:XK}
theorem yK:Yx (cxOf (CX1 P w) P w K mg base N qual scope f cd A outer s0 H0 E) E:=fun _ _ _ _ _ _ _ _ I hx q=>Xa I hx q
end
section
variable {M:Model} {A:Around} {E:VS7} {s:Shared}
theorem Zf {base:Heap} {env:Env} {outer:List Env} {L e T0:Addr} {cls:Value} {Q:Unit -> Shared -> Prop}
  (hfr:A.frames = some (env :: outer)) (hl:s.heap.FunFrames base (env :: outer)) (hf:env.frame = some L) (ht:Trc s.heap e T0 cls)
  (h:∀ h' T,Lft ((env :: outer).filterMap (·.frame)) e T0 T cls s.heap h' -> Q () { s with heap:=h' }):wpAny M A (noteFrame (.ref e) env) (fun _ s'=>wpAny M A (setFlight (.ref e) none) Q E s') E s:=by
 obtain ⟨oe,vs,oT,ts,he,hcls,hd,h1,hTe,hT,hdT,h3,hv2⟩:=ht
 subst hcls
 unfold noteFrame
 simp only [hf]
 refine wpAny_bind (wpAny_field he hd h1 ?_)
 rw [if_pos (show (Value.ref T0 != Value.none) = true from by simp)]
 refine wpAny_bind (wpAny_field hT hdT h3 ?_)
 rw [if_neg (show ¬ ((Value.none == rawInt L) = true) from by simp [rawInt])]
 refine wpAny_bind (wpAny_setField hT hdT (Array.getElem?_eq_some_iff.mp h3).1 ?_)
 have other:∀ b,b ≠ T0 -> (s.heap.update T0 (Obj.mapFields (·.setIfInBounds 3 Value.none))).get? b = s.heap.get? b:=fun b hb=>Heap.get?_update_other _ _ (Ne.symm hb)
 have nf:∀ b o,s.heap.get? b = some o -> (∀ vs,o.data ≠ .fields vs) -> b ≠ T0:=fun b o hb hnf q=>by
  rw [q,hT] at hb
  cases hb
  exact hnf ts hdT
 refine ww hfr (hl.of_keeps fun b o hb hnf=>⟨o,(other b (nf b o hb hnf)).trans hb,rfl⟩) hf ((other e (Ne.symm hTe)).trans he) hd (Array.getElem?_eq_some_iff.mp h1).1 hv2 fun h' T x=>h h' T ?_
 refine ⟨fun b o hb hbe hb0 ho=>x.keep b o hb hbe hbe ((other b hb0).trans ho),fun b o hb hbe hb0 ho=>x.slot b o hb hbe hbe ((other b hb0).trans ho),?_,x.trc⟩
 have:=x.new
 by_cases q:T = T0
 ·subst q
  have e5:=Heap.get?_update_self (Obj.mapFields (·.setIfInBounds 3 Value.none)) hT (Obj.isFreed_of_fields (Obj.data_mapFields hdT _))
  rw [show (s.heap.update T (Obj.mapFields (·.setIfInBounds 3 Value.none))).get? T = _ from e5] at this
  cases this
 ·rw [← other T q]; exact this
theorem jc {e T0:Addr} {cls:Value} {Q:Unit -> Shared -> Prop} (ht:Trc s.heap e T0 cls)
  (h:∀ h',(∀ b,b ≠ T0 -> h'.get? b = s.heap.get? b) -> Trc h' e T0 cls -> Q () { s with heap:=h' }):wpAny M A (setFlight (.ref e) none) Q E s:=by
 obtain ⟨oe,vs,oT,ts,he,hcls,hd,h1,hTe,hT,hdT,h3,hv2⟩:=ht
 unfold setFlight
 refine wpAny_bind (wpAny_field he hd h1 ?_)
 rw [if_pos (show (Value.ref T0 != Value.none) = true from by simp)]
 have other:∀ b,b ≠ T0 -> (s.heap.update T0 (Obj.mapFields (·.setIfInBounds 3 ((none:Option Addr).elim Value.none fun f=>rawInt f)))).get? b = s.heap.get? b:=fun b hb=>Heap.get?_update_other _ _ (Ne.symm hb)
 refine wpAny_setField hT hdT (Array.getElem?_eq_some_iff.mp h3).1 (h _ other ⟨oe,vs,_,_,(other e (Ne.symm hTe)).trans he,hcls,hd,h1,hTe,Heap.get?_update_self _ hT (Obj.isFreed_of_fields (Obj.data_mapFields hdT _)),Obj.data_mapFields hdT _,?_,hv2⟩)
 simp only [Array.getElem?_setIfInBounds,if_true]
 rw [if_pos (Array.getElem?_eq_some_iff.mp h3).1]
 rfl
end
structure ApX (X:Cx) (pins:List (Addr × Obj)) (H:Hp) (a T:Addr):Prop where
 s0:∀ b o,X.s₀.heap.get? b = some o -> b ≠ a /\ b ≠ T
 loc:X.env.locals ≠ a /\ X.env.locals ≠ T
 cel:∀ x c,X.env.cells.lookup x = some c -> c ≠ a /\ c ≠ T
 pin:∀ p ∈ X.pn ++ pins,p.1 ≠ a /\ p.1 ≠ T
 ha:H a = none
 hT:H T = none
theorem ApX.of {X:Cx} {pins:List (Addr × Obj)} {σ:L2.St} {H H':Hp} {s:Shared} {a T:Addr} (I:Inv X pins σ H s) (hx:X.ex = []) (na:s.heap.get? a = none) (nT:s.heap.get? T = none) (ha:H' a = none) (hT:H' T = none):ApX X pins H' a T:=by
 have ne:∀ b o,s.heap.get? b = some o -> b ≠ a /\ b ≠ T:=fun b o hb=>⟨fun z=>(by rw [z,na] at hb; cases hb),fun z=>(by rw [z,nT] at hb; cases hb)⟩
 refine ⟨fun b o hb=>?_,?_,fun x c hc=>?_,fun p hp=>ne _ _ (I.pin p hp).1,ha,hT⟩
 ·obtain ⟨o',h1⟩:=I.base.there b o hb (by rw [hx]; simp)
  exact ne b o' h1
 ·obtain ⟨m,⟨o,es,ep,ho,_⟩,_⟩:=I.loc
  exact ne _ _ ho
 ·obtain ⟨v,hv⟩:=I.cell x c hc
  obtain ⟨o,ho,_⟩:=hv
  exact ne _ _ ho
theorem Inv.leftK {X:Cx} {pins:List (Addr × Obj)} {σ:L2.St} {H:Hp} {s:Shared} {a T0:Addr} {h2:Heap} (I:Inv X pins σ H s) (hx:X.ex = []) (ap:ApX X pins H a T0)
  (lk:∀ b o,b ∉ frs X.stack -> b ≠ a -> b ≠ T0 -> s.heap.get? b = some o -> h2.get? b = some o) (ls:∀ b o,b ∈ frs X.stack -> b ≠ a -> b ≠ T0 -> s.heap.get? b = some o -> ∃ sl,h2.get? b = some { o with slots:=sl }):Inv X pins σ H { s with heap:=h2 }:=by
 have stk:∀ b,b ∈ frs X.stack -> b = X.env.locals \/ b ∈ X.fs:=fun b hb=>List.mem_cons.mp (I.stkSub b hb)
 have any:∀ b o,b ≠ a -> b ≠ T0 -> s.heap.get? b = some o -> ∃ sl,h2.get? b = some { o with slots:=sl }:=fun b o n1 n2 ho=>by
  by_cases z:b ∈ frs X.stack
  ·exact ls b o z n1 n2 ho
  ·exact ⟨o.slots,lk b o z n1 n2 ho⟩
 have cellK:∀ x c,X.env.cells.lookup x = some c -> ∀ v,s.heap.IsCell c v -> h2.IsCell c v:=fun x c e v ⟨o,ho,hd⟩=>by
  obtain ⟨n1,n2⟩:=ap.cel x c e
  obtain ⟨sl,h1⟩:=any c o n1 n2 ho
  exact ⟨_,h1,hd⟩
 refine ⟨I.ok,I.os,I.bare,⟨fun b o hb hn hf hx'=>?_,fun b o hb hn hf hx'=>?_,I.base.free,fun b o hb hx'=>?_,I.base.tups,I.base.frzs,I.base.tbls⟩,?_,fun x c hc=>?_,I.free,I.freeC,fun p hp=>?_,fun b u q=>?_,I.len⟩
 ·obtain ⟨n1,n2⟩:=ap.s0 b o hb
  refine lk b o (fun z=>?_) n1 n2 (I.base.keep b o hb hn hf hx')
  rcases stk b z with z | z
  ·exact absurd (Nat.lt_of_lt_of_le (Heap.lt_size hb) I.ok.above) (by rw [z]; exact Nat.lt_irrefl _)
  ·exact hf z
 ·obtain ⟨n1,n2⟩:=ap.s0 b o hb
  obtain ⟨sl,h1⟩:=I.base.slot b o hb hn hf hx'
  obtain ⟨sl',h3⟩:=any b _ n1 n2 h1
  exact ⟨sl',h3⟩
 ·obtain ⟨n1,n2⟩:=ap.s0 b o hb
  obtain ⟨o',h1⟩:=I.base.there b o hb hx'
  obtain ⟨sl,h3⟩:=any b o' n1 n2 h1
  exact ⟨_,h3⟩
 ·obtain ⟨m,⟨o,es,ep,ho,r⟩,hl⟩:=I.loc
  obtain ⟨sl,h1⟩:=any _ o ap.loc.1 ap.loc.2 ho
  refine ⟨m,⟨_,es,ep,h1,r⟩,fun i x v e1 e2 e3=>?_⟩
  obtain ⟨u,ru,lk⟩:=hl i x v e1 e2 e3
  refine ⟨u,ru,?_⟩
  rcases lk with lk | ⟨k1,c,k2,k3⟩
  ·exact .inl lk
  ·exact .inr ⟨k1,c,k2,cellK x c k2 _ k3⟩
 ·obtain ⟨v,hv⟩:=I.cell x c hc
  exact ⟨v,cellK x c hc v hv⟩
 ·obtain ⟨p1,p2,p3,p4,p5⟩:=I.pin p hp
  obtain ⟨n1,n2⟩:=ap.pin p hp
  refine ⟨lk _ _ (fun z=>?_) n1 n2 p1,p2,p3,p4,p5⟩
  rcases stk _ z with z | z
  ·exact p3 z
  ·exact p4 z
 ·refine (I.hok b u q).stay (fun c v hc r=>?_) (fun _ r=>r) fun _ _ r=>r
  have hn:H c ≠ none:=by
   rcases hc with rfl | hc
   ·rw [q]; exact fun z=>nomatch z
   ·rw [hc]; exact fun z=>nomatch z
  exact lk c v (fun z=>hn (I.stkFree c z)) (fun z=>hn (by rw [z]; exact ap.ha)) (fun z=>hn (by rw [z]; exact ap.hT)) r
theorem Inv.left {X:Cx} {pins:List (Addr × Obj)} {σ:L2.St} {H:Hp} {s:Shared} {a T0 T:Addr} {cls:Value} {h2:Heap} (I:Inv X pins σ H s) (hx:X.ex = []) (ap:ApX X pins H a T0)
  (l:Lft (frs X.stack) a T0 T cls s.heap h2):Inv X pins σ H { s with heap:=h2 }:=Inv.leftK I hx ap l.keep l.slot
abbrev pinX (X:Cx) (ps:List (Addr × Obj)) (E:VS7):Cx:={ X with pn:=X.pn ++ ps,xe:=E }
def Zg (X:Cx) (ps:List (Addr × Obj)) (E:XK):VS7:=fun e s'=>∃ (a T C:Addr) (σ:L2.St) (H:Hp),e = .ref a /\ Inv X ps σ H s' /\ Trc s'.heap a T (.ref C) /\ ApX X ps H a T /\ E e (some C) H
section
variable {X:Cx} {ps pins:List (Addr × Obj)} {E:VS7} {σ:L2.St} {H:Hp} {s:Shared}
theorem Inv.pinX (I:Inv X ps σ H s):Inv (pinX X ps E) [] σ H s :=
 ⟨⟨I.ok.mod,I.ok.kind,I.ok.glob,I.ok.blt,I.ok.above,I.ok.inj,I.ok.has,I.ok.cab,I.ok.hd,I.ok.frames,I.ok.stk,I.ok.exf,I.ok.bs,I.ok.bsz,I.ok.noex,I.ok.exfs,I.ok.funs,I.ok.frf⟩,I.os,I.bare,I.base,I.loc,I.cell,I.free,I.freeC,fun p hp=>I.pin p (by simpa using hp),I.hok,I.len⟩
theorem Inv.unpin (I:Inv (L3.pinX X ps E) pins σ H s):Inv X ps σ H s :=
 ⟨⟨I.ok.mod,I.ok.kind,I.ok.glob,I.ok.blt,I.ok.above,I.ok.inj,I.ok.has,I.ok.cab,I.ok.hd,I.ok.frames,I.ok.stk,I.ok.exf,I.ok.bs,I.ok.bsz,I.ok.noex,I.ok.exfs,I.ok.funs,I.ok.frf⟩,I.os,I.bare,I.base,I.loc,I.cell,I.free,I.freeC,fun p hp=>I.pin p (List.mem_append_left _ hp),I.hok,I.len⟩
end
theorem Yb {X:Cx} {ps:List (Addr × Obj)} {E:XK} (hx:X.ex = []):vI (CX1 X.prog X.w) (pinX X ps (Zg X ps E)) E:=by
 intro pins σ H s ex s' I hc
 obtain ⟨a,T0,C,H',rfl,os,bare,un,hok,trc,e0,t0,ne,nt,q⟩:=hc
 have I0:Inv X ps σ H s:=Inv.unpin I
 have I1:Inv X ps σ H' s':=I0.call' (ch:=[]) os un hok bare (fun b z=>absurd z (by simp))
 exact ⟨a,T0,C,σ,H',rfl,I1,trc,ApX.of I0 hx ne nt e0 t0,q⟩
abbrev handX (X:Cx) (e:Addr):Cx:={ X with A:=X.A.mark (some (.ref e)),calm:=false,xe:=fun _ _=>False }
section
variable {X:Cx} {pins:List (Addr × Obj)} {σ:L2.St} {H:Hp} {s:Shared} {e:Addr}
theorem Inv.handX (I:Inv X pins σ H s):Inv (handX X e) pins σ H s :=
 ⟨⟨I.ok.mod,I.ok.kind,I.ok.glob,I.ok.blt,I.ok.above,I.ok.inj,I.ok.has,I.ok.cab,fun z=>(nomatch z),I.ok.frames,I.ok.stk,I.ok.exf,I.ok.bs,I.ok.bsz,I.ok.noex,I.ok.exfs,I.ok.funs,I.ok.frf⟩,I.os,I.bare,I.base,I.loc,I.cell,I.free,I.freeC,I.pin,I.hok,I.len⟩
theorem Inv.unhand (ok:X.Ok) (I:Inv (L3.handX X e) pins σ H s):Inv X pins σ H s:=⟨ok,I.os,I.bare,I.base,I.loc,I.cell,I.free,I.freeC,I.pin,I.hok,I.len⟩
theorem SP.unhand (ok:X.Ok) {D:Ends} {f:Flow} (h:SP (L3.handX X e) pins D f s):SP X pins D f s:=by
 cases f with
 | next=>obtain ⟨σ',H',I,q⟩:=h; exact ⟨σ',H',Inv.unhand ok I,q⟩
 | brk=>obtain ⟨σ',H',I,q⟩:=h; exact ⟨σ',H',Inv.unhand ok I,q⟩
 | cont=>obtain ⟨σ',H',I,q⟩:=h; exact ⟨σ',H',Inv.unhand ok I,q⟩
 | ret u=>obtain ⟨v,σ',H',I,r,q⟩:=h; exact ⟨v,σ',H',Inv.unhand ok I,r,q⟩
theorem SP.unpin {ps:List (Addr × Obj)} {E:VS7} {D:Ends} {f:Flow} (h:SP (L3.pinX X ps E) [] D f s):SP X ps D f s:=by
 cases f with
 | next=>obtain ⟨σ',H',I,q⟩:=h; exact ⟨σ',H',Inv.unpin I,q⟩
 | brk=>obtain ⟨σ',H',I,q⟩:=h; exact ⟨σ',H',Inv.unpin I,q⟩
 | cont=>obtain ⟨σ',H',I,q⟩:=h; exact ⟨σ',H',Inv.unpin I,q⟩
 | ret u=>obtain ⟨v,σ',H',I,r,q⟩:=h; exact ⟨v,σ',H',Inv.unpin I,r,q⟩
end
open PySem.W in
/-- an exception class as the text's constants show it -/
theorem excC_of {K:FG7} {mg:Str -> Option Value} {x:Str} {C:Addr} (b:mg x = some (.ref C)) (q:PySem.W.excIn K C veM "ValueError.__new__" = true):ExcC K mg x C:=by
 intro h X
 refine ⟨b,?_⟩
 unfold PySem.W.excIn at q
 cases ho:K.lookup C with
 | none=>rw [ho] at q; cases q
 | some ob =>
  rw [ho] at q
  obtain ⟨oc,od,oda,osl⟩:=ob
  split at q
  ·rename_i dd cd sl e
   obtain ⟨rfl,rfl,rfl,rfl⟩:=Obj.mk.inj (Option.some.inj e)
   split at q
   ·rename_i C' bm k0 k1 k2 k3 n k5 hm hs
    simp only [Bool.and_eq_true,beq_iff_eq,Bool.not_eq_true'] at q
    obtain ⟨⟨⟨⟨⟨rfl,rfl⟩,hdel⟩,ht⟩,hok⟩,hni⟩:=q
    obtain ⟨nm,bs,mro,ns,qn,hd,sn,sub,ab,col,del⟩:=cd
    dsimp only at hm hdel hok hni
    subst hm hdel
    obtain ⟨l⟩:=osl
    have hl:l = [k0,k1,k2,k3,some (.builtin "ValueError.__new__"),k5]:=hs
    subst hl
    exact ⟨bm,ns,nm,qn,bs,hd,sn,sub,ab,col,od,k0,k1,k2,k3,k5,_,X _ _ ho,.of_isNs (PySem.W.isNs_of_in X hok),PySem.W.nsMap_none_of_in X hok hni,PySem.W.tail_of_in X ht⟩
   ·cases q
  ·cases q
theorem XV {X:Cx}:vI (CX1 X.prog X.w) X E0:=fun _ _ _ _ _ _ _ h=>by
 obtain ⟨_,_,_,_,_,_,_,_,_,_,_,_,_,_,q⟩:=h
 exact q.elim
section
variable {P:Program} {w:World} {K:FG7} {mg:Str -> Option Value} {base:Heap}
theorem Fun.okX {x qual:Str} {st:Stmt} {f:Addr} {fd:FuncData} {N ps:List Str} {k:Nat} {sp:Sp} (F:Fun K x qual st f fd) (S:FnScope N ps (zh st)) (len:∀ vs H Q E,sp vs H Q E -> vs.length = ps.length)
  (hbody:∀ (cdv:Value) (A:Around) (outer:List Env) (s:Shared) (H:Hp) (vs:List V) (Q:VK) (E:XK),Room k (A.deeper (envOfC qual (zh st) s.heap.objs.size f cdv)) -> sp vs H Q E →
   ∃ t,PSs (cxOf (CX1 P w) P w K mg base N qual (zh st) f cdv A outer s H E) (wq st) t /\ t { nx:=fun _ H'=>Q .non H',rt:=Q } (u5 N vs) H):FnOk P w K mg base (CX1 P w) (k + 1) f fd ps sp:=by
 obtain ⟨oc,od,kV,doc,pm,an,cdv,ct,osl,rfl,lk,hcd⟩:=F.ex
 exact Xu lk hcd S len fun A outer s H vs Q E hr hsp=>hbody cdv A outer s H vs Q E hr hsp
end
def tD (P:Program) (w:World) (K:FG7) (mg:Str -> Option Value) (base:Heap) (C:Addr) (k:Nat) (m:Str) (ps:List Str) (sp:Sp):Prop :=
 ∃ (f:Addr) (fd:FuncData),FnOk P w K mg base (CX1 P w) k f fd ps sp /\ vm K fd ps [] /\ Meth K C m f
def zq (P:Program) (w:World) (K:FG7) (mg:Str -> Option Value) (base:Heap) (k:Nat) (x:Str) (ps:List Str) (sp:Sp):Prop :=
 ∃ (f:Addr) (fd:FuncData),FnOk P w K mg base (CX1 P w) k f fd ps sp /\ vm K fd ps [] /\ PySem.W.keepIn K (.ref f) = true /\ mg x = some (.ref f)
section
variable {P:Program} {w:World} {K:FG7} {mg:Str -> Option Value} {base:Heap} {C:Addr} {j k:Nat} {m x:Str} {ps:List Str} {sp:Sp}
theorem tD.mono (c:tD P w K mg base C j m ps sp) (h:j <= k):tD P w K mg base C k m ps sp:=by
 obtain ⟨f,fd,F,b,mt⟩:=c
 exact ⟨f,fd,F.mono h,b,mt⟩
theorem zq.mono (c:zq P w K mg base j x ps sp) (h:j <= k):zq P w K mg base k x ps sp:=by
 obtain ⟨f,fd,F,b,mt⟩:=c
 exact ⟨f,fd,F.mono h,b,mt⟩
end
section
variable {X:Cx} {C:Addr} {k:Nat} {m x:Str} {ps:List Str} {sp:Sp} {o e:Expr} {es:List Expr} {ta:TE} {t:TA} {apos pos p:Pos} {E:XK}
theorem zw (c:zq X.prog X.w X.K X.mg X.base k x ps sp) (hx:vI (CX1 X.prog X.w) X E) (hr:Room k X.A) (hg:Gl X x)
  (ha:PA X (e :: es) t) (hdb:(x == ("__debug__":Str)) = false:=by decide) (he:starEach (e :: es) X.env = (false,eval e X.env) :: starEach es X.env:=by rfl) (hpl:(backTo pos (starEach es X.env)).any (·.1) = false:=by rfl) :
  PE X (.Call (.Name x p) (e :: es) [] pos) (YQ sp [] E t):=by
 obtain ⟨f,fd,F,b,kp,m⟩:=c
 exact jE F hr hg m kp b .nil hx ha hdb he hpl
end
open PySem PySem.Spec PyProof.Rows L2 PySem.W
open PySem.Builtin PySem.Builtin.ObjectAttr PySem.Builtin.Getset_descriptor in
theorem exc_class_get {prog:Program} {w:World} {A:Around} {s:Shared} {K:FG7} {a C:Addr} {o:Obj} {R:Result -> Shared -> Prop} {tp:Value} (X:K.In s.heap) (hx:s.heap.get? a = some o) (hc:o.cls = .ref C) (hm:PySem.W.mroIn K C (.type "object") = some true)
  (h:R (.ok (.ret (.ref C))) s):codeAny (model prog w) A (.call (.builtin "getset_descriptor.__get__") ⟨[.builtin "object.__class__",.ref a,tp],[]⟩) R s:=by
 obtain ⟨hh,g,dr,t,os⟩:=s
 have L0:Looks (model prog w) hh (typeOf (.ref a)) (.ref C):=hc ▸ (Looks.ld hx).andThen .now
 have L1:=looks_mroIn (M:=model prog w) X hm
 refine codeAny_call_builtin KF.slot_gs.plain KF.entry_gs (KF.slot_gs.check _ _ _ _ _ _ _ _ KF.type_class (KF.args_gs _ _ _) ?_)
 unfold Builtin.«getset_descriptor.__get__» descrGet
 rw [dga_obj]
 refine wpAny_bind (wpAny_pure ?_)
 unfold descrGetter descrCheckInstance descrNameAndClass isInstance
 simp only [KF.owner_class]
 repeat lk
 refine ⟨Code.quiet_builtin _ (by decide +kernel),codeAny_builtin KF.entry_class ?_⟩
 unfold Builtin.«object.__class__» shownTypeOf
 repeat lk
 exact h
section
variable {prog:Program} {w:World} {A:Around} {E:VS7} {K:FG7} {a C:Addr} {o:Obj} {h:Heap} {g:Array GenState} {d:Drawn} {t:Nat} {os:OsState}
theorem vZ {tk:Tok} {Q:PySem.Fin -> Shared -> Prop} (X:K.In h) (hx:h.get? a = some o) (hc:o.cls = .ref C) (ha:findIn K (.ref C) "__class__" = some (some (.builtin "object.__class__"))) (hm:PySem.W.mroIn K C (.type "object") = some true)
  (hq:Q (.done (.ret (.ref C))) ⟨h,g,d,t,os⟩):wpAny (model prog w) A (Builtin.«object.__getattribute__» ⟨[.ref a,.str "__class__" tk],[]⟩) Q E ⟨h,g,d,t,os⟩:=by
 have L0:Looks (model prog w) h (typeOf (.ref a)) (.ref C):=hc ▸ (Looks.ld hx).andThen .now
 have L1:=looks_findIn (M:=model prog w) X ha
 have f5:=PySem.F.typeOf_object_class
 have f6:=PySem.F.slot_gs_get.lookup
 have f7:=PySem.F.slot_gs_set.lookup
 repeat (any_goals (first | assumption | with_reducible refine L0.at ?_ | with_reducible refine L1.at ?_ | (with_reducible refine wpAny_loadPart_at hx ?_; rw [hc]) | wp_step))
 refine exc_class_get X hx hc hm ?_
 repeat (any_goals (first | assumption | wp_step))
theorem sy {M:Model} {nameV:Value} {Q:Unit -> Shared -> Prop} (X:K.In h) (hx:h.get? a = some o) (hc:o.cls = .ref C) (hb:PySem.W.mroIn K C (.type "BaseException") = some true) (hq:Q () ⟨h,g,d,t,os⟩) :
  wpAny M A (checkBuiltinCall "BaseException.__getattribute__" ⟨[.ref a,nameV],[]⟩) Q E ⟨h,g,d,t,os⟩:=by
 have hk:builtinKind "BaseException.__getattribute__" = some .slot:=by decide +kernel
 have hsplit:splitId "BaseException.__getattribute__" = some ("BaseException","__getattribute__"):=by decide +kernel
 have L0:Looks M h (typeOf (.ref a)) (.ref C):=hc ▸ (Looks.ld hx).andThen .now
 have L1:=looks_mroIn (M:=M) X hb
 have ha:=PySem.F.args_bexc_ga (.ref a) nameV
 simp only [checkBuiltinCall,hk,hsplit]
 refine wpAny_bind ?_
 unfold isInstance
 repeat (first | with_reducible refine L0.at ?_ | with_reducible refine L1.at ?_ | wp_step)
 exact hq
theorem uk {tk:Tok} {R:Result -> Shared -> Prop} (X:K.In h) (hx:h.get? a = some o) (hc:o.cls = .ref C) (ha:findIn K (.ref C) "__class__" = some (some (.builtin "object.__class__"))) (hm:PySem.W.mroIn K C (.type "object") = some true) (hb:PySem.W.mroIn K C (.type "BaseException") = some true)
  (hq:R (.ok (.ret (.ref C))) ⟨h,g,d,t,os⟩):codeAny (model prog w) A (.call (.builtin "BaseException.__getattribute__") ⟨[.ref a,.str "__class__" tk],[]⟩) R ⟨h,g,d,t,os⟩ :=
 codeAny_call_builtin (by decide +kernel) PySem.F.entry_bexc_ga (sy X hx hc hb (vZ X hx hc ha hm hq))
theorem sA {tk:Tok} {Q:VS7} (X:K.In h) (hx:h.get? a = some o) (hc:o.cls = .ref C) (hga:findIn K (.ref C) "__getattribute__" = some (some (.builtin "BaseException.__getattribute__"))) (hgt:findIn K (.ref C) "__getattr__" = some none)
  (ha:findIn K (.ref C) "__class__" = some (some (.builtin "object.__class__"))) (hm:PySem.W.mroIn K C (.type "object") = some true) (hb:PySem.W.mroIn K C (.type "BaseException") = some true)
  (hq:Q (.ref C) ⟨h,g,d,t,os⟩):wpAny (model prog w) A (getAttrBy (.ref a) (.str "__class__" tk) false) Q E ⟨h,g,d,t,os⟩:=by
 have L0:Looks (model prog w) h (typeOf (.ref a)) (.ref C):=hc ▸ (Looks.ld hx).andThen .now
 have L1:=looks_findIn (M:=model prog w) X hga
 have L2:=looks_findIn (M:=model prog w) X hgt
 have f3:=PySem.F.attr_ValueError.ga.bind (.ref a)
 have hx2:(Value.builtin "BaseException.__getattribute__" == Value.builtin "object.__getattribute__") = false:=by decide +kernel
 have hx1:(onTheHeap (Value.ref C) && Value.builtin "BaseException.__getattribute__" == Value.builtin "object.__getattribute__") = false:=by rw [hx2]; rfl
 repeat (any_goals (first | assumption | with_reducible refine L0.at ?_ | with_reducible refine L1.at ?_ | with_reducible refine L2.at ?_ | (with_reducible refine wpAny_loadPart_at hx ?_; rw [hc]) | wp_step))
 refine uk X hx hc ha hm hb ?_
 repeat (any_goals (first | assumption | wp_step))
theorem um {Q:Option Value -> Shared -> Prop} (X:K.In h) (hx:h.get? a = some o) (hc:o.cls = .ref C) (hga:findIn K (.ref C) "__getattribute__" = some (some (.builtin "BaseException.__getattribute__"))) (hgt:findIn K (.ref C) "__getattr__" = some none)
  (ha:findIn K (.ref C) "__class__" = some (some (.builtin "object.__class__"))) (hm:PySem.W.mroIn K C (.type "object") = some true) (hb:PySem.W.mroIn K C (.type "BaseException") = some true)
  (hq:Q (some (.ref C)) ⟨h,g,d,t + 1,os⟩):wpAny (model prog w) A (getAttr? (.ref a) "__class__") Q E ⟨h,g,d,t,os⟩:=by
 unfold getAttr? getAttrBy?
 repeat (any_goals (first | assumption | with_reducible apply sA X hx hc hga hgt ha hm hb | wp_step))
end
structure ExcK (K:FG7) (C:Addr):Prop where
 ga:findIn K (.ref C) "__getattribute__" = some (some (.builtin "BaseException.__getattribute__"))
 gt:findIn K (.ref C) "__getattr__" = some none
 cl:findIn K (.ref C) "__class__" = some (some (.builtin "object.__class__"))
 ob:mroIn K C (.type "object") = some true
 be:mroIn K C (.type "BaseException") = some true
theorem Zh {K:FG7} {C:Addr} {b:Value} {r:Bool} (e:mroIn K C b = some r):∃ cd,clsIn K C = some cd:=by
 obtain ⟨cd,a,_⟩:=Option.bind_eq_some_iff.mp e
 exact ⟨cd,a⟩
theorem Yc {K:FG7} {a C:Addr} (F:ExcK K C):KitX K (.ref a) (.ref C) (fun h=>∃ o,h.get? a = some o /\ o.cls = .ref C) where
 ty:=fun M h _ p=>by
  obtain ⟨o,h1,h2⟩:=p
  exact h2 ▸ (Looks.ld h1).andThen .now
 it:=fun _ _ X _=>by
  obtain ⟨cdD,hcD⟩:=Zh F.ob
  unfold clsIn at hcD
  split at hcD
  ·rename_i c' d' cd' sl' ho
   intro A' Q' E' s' k q
   unfold isType loadHead
   exact wpAny_bind (wpAny_loadPart (k _ _ (X _ _ ho)) (wpAny_pure q))
  ·cases hcD
 ne:=fun h tp dd its n sl X htp=>by
  obtain ⟨cdD,hcD⟩:=Zh F.ob
  refine Bool.eq_false_iff.mpr fun q=>?_
  have e:C = tp:=Value.ref.inj (beq_iff_eq.mp q)
  subst e
  unfold clsIn at hcD
  split at hcD
  ·rename_i c' d' cd' sl' ho
   have z:=(X _ _ ho).symm.trans htp
   cases z
  ·cases hcD
 ca:=fun {_ _ _ _ _ s} X p k=>by
  obtain ⟨h,g,d,t,os⟩:=s
  obtain ⟨o,h1,h2⟩:=p
  exact um X h1 h2 F.ga F.gt F.cl F.ob F.be k
def ExO (a C:Addr):HO:=.ext fun h=>∃ o,h.get? a = some o /\ o.cls = .ref C /\ ∃ vs,o.data = .fields vs /\ vs[2]? = some .none
theorem ExO.cl {h:Heap} {a C:Addr} (p:∃ o,h.get? a = some o /\ o.cls = .ref C /\ ∃ vs,o.data = .fields vs /\ vs[2]? = some .none):∃ o,h.get? a = some o /\ o.cls = .ref C:=p.imp fun _ z=>⟨z.1,z.2.1⟩
def WE (K:FG7):List V -> Hp -> VK -> Prop:=fun xs H Q=>∃ (a C:Addr) (y:V) (c:Value) (b:Bool),xs = [.ref a,y] /\ H a = some (ExO a C) /\ (∀ u,RelV y u -> u = c) /\ ExcK K C /\ kitOne K (.ref C) c = some b /\ Q (.bl b) H
theorem yv {X:Cx} {K:FG7} (hK:X.K = K):xD X (.builtin "isinstance") (WE K):=by
 subst hK
 intro pins s σ H xs us Q I r h
 obtain ⟨a,C,y,c,b,rfl,hH,hy,F,e,q⟩:=h
 obtain ⟨u,w',rfl,rx,ry⟩:=qP r
 cases (show u = Value.ref a from rx)
 have:=hy w' ry
 subst this
 exact kia_one (Yc F) I.kIn (ExO.cl (I.hok a _ hH).1) e (fun z=>nomatch z) fun tk=>⟨.bl b,H,I.tok _,rfl,q⟩
theorem tE {M:Model} {A:Around} {E:VS7} {K:FG7} {h:Heap} {g:Array GenState} {d:Drawn} {t:Nat} {os:OsState} {e C' C N:Addr} {oe:Obj} {Q:Bool -> Shared -> Prop} {nm q:Str} {bs bm:List Value} {hdct:Bool} {sn:List Str} {sub:List Value} {ab:Bool} {col:Option Bool} {dd:Option Addr} {k0 k1 k2 k3 k5:Option Value} {newId:String}
  (X:K.In h) (hC:h.get? C = some (excClassObj nm q C N bs bm hdct sn sub ab col dd k0 k1 k2 k3 k5 newId)) (he:h.get? e = some oe) (hcls:oe.cls = .ref C') (hbase:bm.contains (.type "BaseException") = true) (hup:mroIn K C' (.ref C) = some true)
  (hq:Q true ⟨h,g,d,t,os⟩):wpAny M A (excMatches (.ref e) (.ref C)) Q E ⟨h,g,d,t,os⟩:=by
 have hcB:(Value.ref C :: bm).contains (.type "BaseException") = true:=by rw [List.contains_cons,hbase,Bool.or_true]
 have L1:=looks_mroIn (M:=M) X hup
 have f:=tc_notTuple
 unfold excMatches
 repeat (first | (with_reducible refine wpAny_loadPart_at he ?_; rw [hcls]) | with_reducible refine L1.at ?_ | with_reducible refine wpAny_loadPart_at hC ?_ | (with_reducible refine wpAny_isSubtype_exc hC ?_; rw [hcB]) | wp_step)
 exact hq
section
variable {X:Cx} {pins:List (Addr × Obj)} {σ:L2.St} {H:Hp} {s:Shared}
theorem wG {M:Model} {A:Around} {E:VS7} {i:Nat} {x:Str} {pos:Pos} {Q:Unit -> Shared -> Prop} (I:Inv X pins σ H s) (hN:X.N.Nodup) (hi:X.N[i]? = some x) (hx:X.env.kindOf x = some .local) (hx2:X.env.scope.names.lookup x = some .local)
  (h:∀ s',Inv X pins (σ.set i none) H s' -> Q () s'):wpAny M A (do bindName X.env x .none; unbindBehindTheSuite X.env x pos) Q E s:=by
 have hcls:(X.env.scope.kind == .class || (X.env.scope.kind == .module && X.env.locals != X.env.globals)) = false:=by rw [I.ok.kind]; rfl
 refine wpAny_bind (wpAny_bindName (xW (v:=.non) I hN hi (.inl hx2) rfl (fun s1 I1=>?_) (.inr hx2)))
 unfold unbindBehindTheSuite
 refine wpAny_onRaise ?_
 unfold unbindName
 refine wpAny_bind (wpAny_point (wpAny_bind ?_))
 unfold deleteName
 simp only [hx,hcls]
 rw [if_neg (by decide)]
 obtain ⟨m,hn,hl⟩:=id I1.loc
 refine wpAny_bind (wpAny_nsDel_keeps hn fun h' v hn' hs=>?_)
 have hiσ:i < σ.length:=by rw [I.len]; exact (List.getElem?_eq_some_iff.mp hi).1
 have hm:(m x).isSome = true:=by
  obtain ⟨u,_,l⟩:=hl i x .non hi (List.getElem?_set_self hiσ) (.inl hx2)
  rcases l with ⟨_,e⟩ | ⟨k,_⟩
  ·rw [e]; rfl
  ·rcases k with k | k <;> (rw [hx] at k; cases k)
 simp only [hm,if_true,Bool.not_true,Bool.false_eq_true,if_false]
 refine wpAny_pure (wpAny_point (h _ ?_))
 obtain ⟨oL,_,_,hoL,_⟩:=id hn
 have cne:=I1.cne
 have tracked:HOk X.prog X.w H h':=fun b ob e=>by
  refine (I1.hok b ob e).stay (fun c w' hc q=>(hs.2 c ?_).trans q) (fun _ q=>q) fun _ _ q=>q
  rintro rfl
  have hfree:=I1.free
  rcases hc with hc | hc
  ·rw [← hc] at e; rw [hfree] at e; cases e
  ·rw [hfree] at hc; cases hc
 refine ⟨I1.ok,I1.os,I1.bare,⟨fun b o e n hb hx=>?_,fun b o e n hb hx=>?_,I1.base.free,fun b o e hx=>?_,I1.base.tups,I1.base.frzs,I1.base.tbls⟩,⟨_,hn',fun j y v' e1 e2 e3=>?_⟩,fun y c e=>?_,I1.free,I1.freeC,fun p hp=>?_,tracked,by rw [List.length_set]; exact I.len⟩
 ·exact (hs.2 b (Nat.ne_of_lt (Nat.lt_of_lt_of_le (Heap.lt_size e) I1.ok.above))).trans (I1.base.keep b o e n hb hx)
 ·obtain ⟨sl,e1⟩:=I1.base.slot b o e n hb hx
  exact ⟨sl,(hs.2 b (Nat.ne_of_lt (Nat.lt_of_lt_of_le (Heap.lt_size e) I1.ok.above))).trans e1⟩
 ·obtain ⟨o',e1⟩:=I1.base.there b o e hx
  exact ⟨o',(hs.2 b (Nat.ne_of_lt (Nat.lt_of_lt_of_le (Heap.lt_size e) I1.ok.above))).trans e1⟩
 ·have hj:j ≠ i:=fun z=>by
   subst z
   rw [List.getElem?_set_self hiσ] at e2
   cases e2
  rw [List.getElem?_set_ne (Ne.symm hj)] at e2
  obtain ⟨u',r',q⟩:=hl j y v' e1 (by rw [List.getElem?_set_ne (Ne.symm hj)]; exact e2) e3
  refine ⟨u',r',?_⟩
  rcases q with ⟨k,e⟩ | ⟨k,c,e,z⟩
  ·refine .inl ⟨k,?_⟩
   have:y ≠ x:=fun e=>hj (uZ hN e1 (e ▸ hi))
   simp [this,e]
  ·exact .inr ⟨k,c,e,z.sameBut hs (cne y c e)⟩
 ·obtain ⟨w',z⟩:=I1.cell y c e
  exact ⟨w',z.sameBut hs (cne y c e)⟩
 ·obtain ⟨e,n,ne,nf,d⟩:=I1.pin p hp
  exact ⟨(hs.2 p.1 ne).trans e,n,ne,nf,d⟩
end
theorem Inv.trackX {X:Cx} {pins:List (Addr × Obj)} {σ:L2.St} {H:Hp} {s:Shared} {a T C:Addr} {o:Obj} (I:L2.Inv X pins σ H s) (ap:ApX X pins H a T) {vs:Array Value} (he:s.heap.get? a = some o) (hc:o.cls = .ref C) (hd:o.data = .fields vs) (h2:vs[2]? = some .none):L2.Inv X pins σ (upd H a (ExO a C)) s:=by
 refine ⟨I.ok,I.os,I.bare,⟨I.base.keep,I.base.slot,fun b o' e n hx=>?_,I.base.there,fun b xs e=>?_,fun b o' u e=>?_,fun b ps e=>?_⟩,I.loc,I.cell,?_,fun x c e=>?_,fun p hp=>?_,?_,I.len⟩
 ·rw [zu (ap.s0 b o' e).1]; exact I.base.free b o' e n hx
 ·have z:=I.base.tups b xs e
  rw [zu (zr z ap.ha)]; exact z
 ·have z:=I.base.frzs b o' u e
  rw [zu (zr z ap.ha)]; exact z
 ·obtain ⟨more,z⟩:=I.base.tbls b ps e
  exact ⟨more,by rw [zu (zr z ap.ha)]; exact z⟩
 ·rw [zu ap.loc.1]; exact I.free
 ·rw [zu (ap.cel x c e).1]; exact I.freeC x c e
 ·obtain ⟨p1,p2,p3,p4,p5⟩:=I.pin p hp
  exact ⟨p1,by rw [zu (ap.pin p hp).1]; exact p2,p3,p4,p5⟩
 ·refine HOk.track I.hok ap.ha ⟨⟨o,he,hc,vs,hd,h2⟩,⟨o,he⟩,fun h1 h2 φ k=>?_⟩
  obtain ⟨o',e1,e2⟩:=φ
  exact ⟨o',k _ e1,e2⟩
def Yy (i:Nat) (D:Ends):Ends:={ nx:=fun σ H=>D.nx (σ.set i none) H,rt:=D.rt,bk:=fun σ H=>D.bk (σ.set i none) H,ct:=fun σ H=>D.ct (σ.set i none) H }
def XW (n i:Nat) (K:FG7) (B:Addr) (E:XK) (tb:TS) (th:Addr -> TS):TS:=fun D σ H=>tb D σ H /\ ∀ (e C':Addr) (σ':L2.St) (H':Hp),σ'.length = n -> H' e = none -> E (.ref e) (some C') H' -> mroIn K C' (.ref B) = some true /\ th e (Yy i D) (σ'.set i (some (.ref e))) (upd H' e (ExO e C'))
section
variable {X:Cx} {x y:Str} {C:Addr} {np hpos pos:Pos} {body suite:List Stmt} {b₀:Stmt} {tb:TS} {th:Addr -> TS} {E:XK} {i:Nat} {K:FG7}
theorem Yd (hK:X.K = K) (hx:X.ex = []) (hstk:X.stack = X.env :: X.outer) (hf:X.env.frame = some X.env.locals) (O:ExcC X.K X.mg x C) (hg:Gl X x) (hN:X.N.Nodup) (hi:X.N[i]? = some y) (hy:X.env.kindOf y = some .local) (hy2:X.env.scope.names.lookup y = some .local)
  (hB:∀ ps,PSs (pinX X ps (Zg X ps E)) body tb) (hS:∀ e,PSs (handX X e) (b₀ :: suite) (th e)) (hdb:(x == ("__debug__":Str)) = false:=by decide) :
  PS X (.Try body [.ExceptHandler (some (.Name x np)) (some y) (b₀ :: suite) hpos] [] [] pos) (XW X.N.length i K C E tb th):=by
 subst hK
 intro pins s σ H D I ⟨hb,hh⟩
 refine wpAny_Try_except (wpAny_mono (hB pins [] s σ H D (Inv.pinX I) hb) (fun f s1 h1=>?_) (fun ex s1 h1=>?_))
 ·have h2:=SP.unpin h1
  cases f with
  | next=>exact wpAny_execs_nil h2
  | brk=>exact h2
  | cont=>exact h2
  | ret u=>exact h2
 ·obtain ⟨a,T,C',σ',H',rfl,I1,trc,ap,q⟩:=h1
  have hfr:X.A.frames = some (X.env :: X.outer):=by rw [← hstk]; exact I.ok.frames
  have hst:s1.heap.FunFrames X.base (X.env :: X.outer):=by rw [← hstk]; exact I1.stack
  refine Zf (base:=X.base) (outer:=X.outer) hfr hst hf trc fun h2 T2 l=>?_
  have l':Lft (frs X.stack) a T T2 (.ref C') s1.heap h2:=by rw [hstk]; exact l
  have I2:=Inv.left I1 hx ap l'
  have I3:Inv (handX X a) pins σ' H' { s1 with heap:=h2 }:=Inv.handX I2
  obtain ⟨tl,N,nm,q0,bs,hdct,sn,sub,ab,col,dd,k0,k1,k2,k3,k5,mN,hC,hNs,hni,TL⟩:=(O X.base I.mod.kin).obj
  obtain ⟨oe,vs,oT,ts,he,hcls,_⟩:=id l.trc
  have hn:H' a = none:=ap.ha
  obtain ⟨hup,q2⟩:=hh a C' σ' H' I1.len hn q
  refine wpAny_handleBy_cons (codeAny_handlers_test (u4 (X:=handX X a) I3 hg (O X.base I.mod.kin).bound ?_ hdb)) (by intro q; cases q)
  refine tE I2.kIn (I2.bk _ _ hC) he hcls (TL.hasType PySem.F.excBase_ValueError.hasBase) hup (codeAny_handlers_suite_as ?_)
  refine jc (s:={ s1 with heap:=h2 }) l.trc fun h3 hk trc3=>?_
  have hT2:H' T2 = none:=by
   cases r:H' T2 with
   | none=>rfl
   | some o =>
    obtain ⟨ob,z⟩:=ye.at (I1.hok T2 o r)
    rw [l.new] at z; cases z
  have ap2:ApX X pins H' T2 T2:=ApX.of I1 hx l.new l.new hT2 hT2
  have I4:=Inv.leftK I2 hx ap2 (h2:=h3) (fun b o _ n1 _ ho=>(hk b n1).trans ho) (fun b o _ n1 _ ho=>⟨o.slots,(hk b n1).trans ho⟩)
  obtain ⟨oe3,vs3,oT3,ts3,he3,hcls3,hd3,_,_,_,_,_,hv3⟩:=id trc3
  have I5:=Inv.trackX (C:=C') I4 ap he3 hcls3 hd3 hv3
  have I6:L2.Inv (handX X a) pins σ' (upd H' a (ExO a C')) { s1 with heap:=h3 }:=Inv.handX I5
  refine xW (X:=handX X a) (v:=.ref a) I6 hN hi (.inl hy2) rfl (fun s5 I7=>?_) (.inr hy2)
  refine wpAny_mono (hS a pins s5 _ _ (Yy i D) I7 q2) (fun f s2 h=>?_) (fun _ _ z=>False.elim z)
  cases f with
  | next =>
   obtain ⟨σ2,H2,J,q3⟩:=h
   exact wG (Inv.unhand I.ok J) hN hi hy hy2 fun s' J'=>⟨_,H2,J',q3⟩
  | brk =>
   obtain ⟨σ2,H2,J,q3⟩:=h
   exact wG (Inv.unhand I.ok J) hN hi hy hy2 fun s' J'=>⟨_,H2,J',q3⟩
  | cont =>
   obtain ⟨σ2,H2,J,q3⟩:=h
   exact wG (Inv.unhand I.ok J) hN hi hy hy2 fun s' J'=>⟨_,H2,J',q3⟩
  | ret u =>
   obtain ⟨v,σ2,H2,J,r,q3⟩:=h
   exact wG (Inv.unhand I.ok J) hN hi hy hy2 fun s' J'=>⟨v,_,H2,J',r,q3⟩
end
theorem sB:bootBuiltins "ValueError" = some (.type "ValueError"):=by kernel_rfl
end L3
namespace L2
open PySem PySem.Spec PyProof.Rows
end L2
namespace L2
open PySem PySem.Spec PyProof.Rows
end L2
namespace L2
open PySem PySem.Spec PyProof.Rows
end L2
namespace L2
open PySem PySem.Spec PyProof.Rows
end L2
namespace L2
open PySem PySem.Spec PyProof.Rows
end L2
namespace L2
open PySem PySem.Spec PyProof.Rows
end L2
namespace L2
open PySem PySem.Spec PyProof.Rows
section
variable {κ:Type} [DecidableEq κ]
def valV (kvs:List (κ × V)) (k:κ):Option V:=(kvs.find? fun kv=>decide (kv.1 = k)).map (·.2)
def putK (kvs:List (κ × V)) (k:κ) (v:V):List (κ × V) :=
 if (kvs.any fun kv=>decide (kv.1 = k)) = true then kvs.map (fun kv=>if kv.1 = k then (kv.1,v) else kv) else kvs ++ [(k,v)]
def XX (kvs:List (κ × V)) (k:κ):List (κ × V):=kvs.filter fun kv=>decide (kv.1 ≠ k)
theorem qu {p:κ × V} {r:List (κ × V)} {k:κ} (e:p.1 = k):valV (p :: r) k = some p.2:=by simp [valV,List.find?_cons,e]
theorem qv {p:κ × V} {r:List (κ × V)} {k:κ} (e:¬ p.1 = k):valV (p :: r) k = valV r k:=by simp [valV,List.find?_cons,e]
theorem RelO.getD {o:Option V} {u:Option Value} {d:V} {d':Value} (r:RelO o u) (rd:RelV d d'):RelV (o.getD d) (u.getD d'):=by
 cases o with
 | none=>cases u with
  | none=>exact rd
  | some _=>exact (show False from r).elim
 | some _=>cases u with
  | none=>exact (show False from r).elim
  | some _=>exact r
theorem KV.val {kvs:List (κ × V)} {vs:List (κ × Value)} (r:KV kvs vs) (k:κ):RelO (valV kvs k) (valueAt vs k):=by
 unfold KV at r
 induction r with
 | nil=>exact True.intro
 | @cons p q ps qs h t ih =>
  obtain ⟨h1,h2⟩:=h
  by_cases e:p.1 = k
  ·have e':q.1 = k:=h1.symm.trans e
   have b:valueAt (q :: qs) k = some q.2:=by simp [valueAt,List.find?_cons,e']
   rw [qu e,b]; exact h2
  ·have e':¬ q.1 = k:=fun z=>e (h1.trans z)
   have b:valueAt (q :: qs) k = valueAt qs k:=by simp [valueAt,List.find?_cons,e']
   rw [qv e,b]; exact ih
theorem KV.any {kvs:List (κ × V)} {vs:List (κ × Value)} (r:KV kvs vs) (k:κ):(kvs.any fun kv=>decide (kv.1 = k)) = vs.any fun kv=>decide (kv.1 = k):=by
 unfold KV at r
 induction r with
 | nil=>rfl
 | cons h t ih=>rw [List.any_cons,List.any_cons,ih,h.1]
theorem KV.drop {kvs:List (κ × V)} {vs:List (κ × Value)} (r:KV kvs vs) (k:κ):KV (XX kvs k) (without vs k):=by
 unfold KV at r ⊢
 unfold XX without
 induction r with
 | nil=>exact .nil
 | @cons p q ps qs h t ih =>
  obtain ⟨h1,h2⟩:=h
  rw [List.filter_cons,List.filter_cons]
  by_cases e:p.1 = k
  ·have a:¬ decide (p.1 ≠ k) = true:=by simp [e]
   have b:¬ decide (q.1 ≠ k) = true:=by simp [h1.symm.trans e]
   rw [if_neg a,if_neg b]; exact ih
  ·have e':¬ q.1 = k:=fun z=>e (h1.trans z)
   have a:decide (p.1 ≠ k) = true:=by simp [e]
   have b:decide (q.1 ≠ k) = true:=by simp [e']
   rw [if_pos a,if_pos b]; exact .cons ⟨h1,h2⟩ ih
theorem KV.keys {kvs:List (κ × V)} {vs:List (κ × Value)} (r:KV kvs vs):kvs.map (·.1) = vs.map (·.1):=by
 unfold KV at r
 induction r with
 | nil=>rfl
 | cons h t ih=>rw [List.map_cons,List.map_cons,ih,h.1]
theorem KV.length {kvs:List (κ × V)} {vs:List (κ × Value)} (r:KV kvs vs):kvs.length = vs.length:=Paired.length r
end
abbrev KT (H:Hp):List (List Key × V) -> List (List Key × Addr × Value) -> Prop:=Paired fun p q=>p.1 = q.1 /\ H q.2.1 = some (.tup (p.1.map kV)) /\ RelV p.2 q.2.2
theorem KT.val {H:Hp} {kvs:List (List Key × V)} {xs:List (List Key × Addr × Value)} (r:KT H kvs xs) (k:List Key):RelO (valV kvs k) ((atKey xs k).map (·.2)):=by
 induction r with
 | nil=>exact True.intro
 | @cons p q ps qs h t ih =>
  obtain ⟨h1,_,h2⟩:=h
  by_cases e:p.1 = k
  ·have e':q.1 = k:=h1.symm.trans e
   have b:atKey (q :: qs) k = some q.2:=by simp [atKey,List.find?_cons,e']
   rw [qu e,b]; exact h2
  ·have e':¬ q.1 = k:=fun z=>e (h1.trans z)
   have b:atKey (q :: qs) k = atKey qs k:=by simp [atKey,List.find?_cons,e']
   rw [qv e,b]; exact ih
theorem KT.keeps {H H':Hp} {kvs:List (List Key × V)} {xs:List (List Key × Addr × Value)} (r:KT H kvs xs) (ht:∀ b ys,H b = some (.tup ys) -> H' b = some (.tup ys)):KT H' kvs xs :=
 Paired.mapP r fun _ _ z=>⟨z.1,ht _ _ z.2.1,z.2.2⟩
def DGet (H:Hp) (a:Addr) (y:V) (r:Option V):Prop :=
 (∃ kvs k,Rd H a (.dK kvs) /\ y = kV k /\ r = valV kvs k) \/ ∃ kvs k b,Rd H a (.dT kvs) /\ y = .ref b /\ H b = some (.tup (k.map kV)) /\ r = valV kvs k
def DPut (H:Hp) (a:Addr) (y v:V) (H':Hp):Prop :=
 (∃ kvs k,H a = some (.dK kvs) /\ y = kV k /\ kvs.length < sizeLine /\ H' = upd H a (.dK (putK kvs k v))) ∨
 ∃ kvs k b,H a = some (.dT kvs) /\ y = .ref b /\ H b = some (.tup (k.map kV)) /\ kvs.length < sizeLine /\ H' = upd H a (.dT (putK kvs k v))
theorem DGet.k {H:Hp} {a:Addr} {kvs:List (Key × V)} {k:Key} (e:H a = some (.dK kvs)):DGet H a (kV k) (valV kvs k):=.inl ⟨kvs,k,.inl e,rfl,rfl⟩
theorem DGet.t {H:Hp} {a b:Addr} {kvs:List (List Key × V)} {k:List Key} (e:H a = some (.dT kvs)) (eb:H b = some (.tup (k.map kV))):DGet H a (.ref b) (valV kvs k):=.inr ⟨kvs,k,b,.inl e,rfl,eb,rfl⟩
theorem DPut.k {H:Hp} {a:Addr} {kvs:List (Key × V)} {k:Key} {v:V} (e:H a = some (.dK kvs)) (hl:kvs.length < sizeLine):DPut H a (kV k) v (upd H a (.dK (putK kvs k v))):=.inl ⟨kvs,k,e,rfl,hl,rfl⟩
theorem DPut.t {H:Hp} {a b:Addr} {kvs:List (List Key × V)} {k:List Key} {v:V} (e:H a = some (.dT kvs)) (eb:H b = some (.tup (k.map kV))) (hl:kvs.length < sizeLine) :
  DPut H a (.ref b) v (upd H a (.dT (putK kvs k v))):=.inr ⟨kvs,k,b,e,rfl,eb,hl,rfl⟩
structure M1 (X:Cx) (o:Expr) (m:Str) (apos:Pos) (e:Expr) (cpos:Pos):Prop where
 base:attributeBase o m X.env (eval o X.env) = eval o X.env
 few:((backTo cpos (starEach [e] X.env)).all (fun x=>!x.1) && (backToKw cpos (keywordEach [] X.env)).all (fun x=>x.1.isSome)
  && decide (([e]:List Expr).length + ([]:List Keyword).length + (if ([]:List Keyword).isEmpty then 0 else 1) < 30)) = true
 line:(apos.endLine == cpos.line) = true
 trees:backTo cpos (starEach [e] X.env) = [(false,eval e X.env)]
structure M2 (X:Cx) (o:Expr) (m:Str) (apos:Pos) (e f:Expr) (cpos:Pos):Prop where
 base:attributeBase o m X.env (eval o X.env) = eval o X.env
 few:((backTo cpos (starEach [e,f] X.env)).all (fun x=>!x.1) && (backToKw cpos (keywordEach [] X.env)).all (fun x=>x.1.isSome)
  && decide (([e,f]:List Expr).length + ([]:List Keyword).length + (if ([]:List Keyword).isEmpty then 0 else 1) < 30)) = true
 line:(apos.endLine == cpos.line) = true
 trees:backTo cpos (starEach [e,f] X.env) = [(false,eval e X.env),(false,eval f X.env)]
end L2
namespace Att
open PySem PySem.W PySem.Calls PyProof.Rows
end Att
namespace L2
open PySem PySem.Spec PyProof.Rows
end L2
namespace L3
open PySem PySem.Spec PyProof.Rows L2
open PySem PySem.Spec PyProof.Rows L2 PySem.W
def Zi (es:Array DictEntry) (d:Addr) (ep:Nat) (h:Heap):Prop:=∃ o,h.get? d = some o /\ o.ExactDict /\ o.data = .dict es ep
section
variable {prog:Program} {w:World} {A:Around} {E:VS7} {s:Shared} {es:Array DictEntry} {d it:Addr} {ep i:Nat}
theorem Zi.typeIs (h:Zi es d ep s.heap):s.TypeIs (.ref d) "dict":=let ⟨o,ho,hc,_⟩:=h; ⟨o,ho,hc.1⟩
theorem Zi.keep {h h':Heap} (x:Zi es d ep h) (e:∀ o,h.get? d = some o -> h'.get? d = some o):Zi es d ep h':=let ⟨o,ho,r⟩:=x; ⟨o,e o ho,r⟩
end
open PySem PySem.Spec PyProof.Rows L2 HT
theorem vp:fillsNumberSlot (.type "tuple") "mul" = pure false :=
 PySem.fillsNumberSlot_seq (id:="tuple.__mul__") (r:=some (.builtin "tuple.__rmul__")) PySem.F.slot_tuple_mul.lookup (by decide +kernel) (by rw [typeLookup_type,builtinLookup_eq_fast]; kernel_rfl) (by decide +kernel)
theorem sC:seqRepeat? (.type "tuple") = pure (some (.builtin "tuple.__mul__")):=by
 unfold seqRepeat?
 rw [PySem.seqSlot_of (T:="tuple") (name:="__mul__") (id:="tuple.__mul__") PySem.F.slot_tuple_mul.lookup (by decide +kernel),PySem.seqSlot_of (T:="tuple") (name:="__rmul__") (id:="tuple.__rmul__") (by rw [typeLookup_type,builtinLookup_eq_fast]; kernel_rfl) (by decide +kernel)]
 rfl
theorem uo (a:Int) (t:Tok) (l:Addr) (us:Array Value) (n:Nat) (d1:Option Addr) (e1:Array (Option Value)) :
  Meets (Builtin.«int.__rmul__» ⟨[.int a t,.ref l],[]⟩) (fun _ R s=>s.heap.get? l = some ⟨.type "tuple",d1,.seq us n,e1⟩ /\ R (.ok (.ret Value.notImplemented)) s) :=
 .of_wp fun prog w A R s h=>by obtain ⟨hp,g,d,tk,os⟩:=s; obtain ⟨hl,h⟩:=h; wp_walk; exact ⟨_,rfl,h⟩
theorem Zj (l:Addr) (us:Array Value) (n:Nat) (d1:Option Addr) (e1:Array (Option Value)) (x:Int) (u:Tok) (h1:¬ x < -(2 ^ 63)) (h2:¬ x >= 2 ^ 63) (h0:us.isEmpty = false) (h3:(x == 1) = false) (h4:¬ x <= 0) (h5:¬ (us.size:Int) * x > (2 ^ 63 - 1) / 8) (h6:Builtin.Tuple.tupleTooMany ((us.size:Int) * x) = false) (h7:(List.foldl (fun x1 x2=>x1 ++ x2) #[] (List.replicate x.toNat us)).size <= sizeLine) :
  Meets (Builtin.«tuple.__mul__» ⟨[.ref l,.int x u],[]⟩) (fun _ R s=>s.heap.get? l = some ⟨.type "tuple",d1,.seq us n,e1⟩ /\ R (.ok (.ret (Value.ref s.heap.objs.size))) { s with heap:=s.heap.push { cls:=Value.type "tuple",data:=Data.seq (List.foldl (fun x1 x2=>x1 ++ x2) #[] (List.replicate x.toNat us)) },toks:=s.toks }) :=
 .of_wp fun prog w A R s h=>by
  obtain ⟨hp,g,d,tk,os⟩:=s; obtain ⟨hl,h⟩:=h
  wp_walk using PySem.AutoSeq1.wpAny_loadPart' hl
  rw [if_neg (by simp only [Bool.or_eq_true,decide_eq_true_eq]; omega)]
  wp_walk using PySem.AutoSeq1.wpAny_loadPart' hl
  rw [if_neg h5]
  rw [if_neg (by rw [h6]; decide)]
  unfold Builtin.Tuple.tupleExact
  refine wpAny_bind (wpAny_newObj_type ?_ h7)
  exact wpAny_pure ⟨_,rfl,h⟩
theorem jd (l:Addr) (us:Array Value) (n:Nat) (d1:Option Addr) (e1:Array (Option Value)) (u:Tok) :
  Meets (Builtin.«tuple.__mul__» ⟨[.ref l,.int 1 u],[]⟩) (fun _ R s=>s.heap.get? l = some ⟨.type "tuple",d1,.seq us n,e1⟩ /\ R (.ok (.ret (Value.ref l))) s) :=
 .of_wp fun prog w A R s h=>by
  obtain ⟨hp,g,d,tk,os⟩:=s; obtain ⟨hl,h⟩:=h
  wp_walk using PySem.AutoSeq1.wpAny_loadPart' hl
  exact ⟨_,rfl,h⟩
theorem je (l:Addr) (us:Array Value) (n:Nat) (d1:Option Addr) (e1:Array (Option Value)) (u:Tok) (h0:us.isEmpty = false) :
  Meets (Builtin.«tuple.__mul__» ⟨[.ref l,.int 0 u],[]⟩) (fun _ R s=>s.heap.get? l = some ⟨.type "tuple",d1,.seq us n,e1⟩ /\ R (.ok (.ret (Value.ref s.heap.objs.size))) { s with heap:=s.heap.push { cls:=Value.type "tuple",data:=Data.seq #[] },toks:=s.toks }) :=
 .of_wp fun prog w A R s h=>by
  obtain ⟨hp,g,d,tk,os⟩:=s; obtain ⟨hl,h⟩:=h
  wp_walk using PySem.AutoSeq1.wpAny_loadPart' hl
  exact ⟨_,rfl,h⟩
section
variable {X:Cx} {K:FG7}
def WF (K:FG7):R2:=fun x y H Q=>∃ (a:Addr) (k:Nat) (xs:List V),x = .ref a /\ y = .int k /\ SqT K H a xs /\ xs ≠ [] /\ xs.length * k <= sizeLine /\ ∀ p H',Grow [] H H' -> SqT K H' p (List.replicate k xs).flatten -> Q (.ref p) H'
theorem rD (hK:X.K = K):OpR X (binaryOp .Mult) (WF K):=by
 subst hK
 intro pins s σ H x y v u Q I rx ry h
 obtain ⟨a,k,xs,rfl,rfl,ha,hne,hz,q⟩:=h
 cases rx
 obtain ⟨t,rfl⟩:=ry
 obtain ⟨its,r,ht,hzz⟩:=I.tuple ha
 obtain ⟨⟨c1,d1,x1,l1⟩,ho,hc,n,hd⟩:=id ht
 cases hc
 cases hd
 have hl:=r.length
 have he:its.toArray.isEmpty = false:=by
  cases its with
  | nil=>exact absurd (r.nil_iff.mp rfl) hne
  | cons _ _=>rfl
 have hsl:(sizeLine:Nat) <= (2 ^ 63 - 1) / 8:=by decide
 have hpos:0 < xs.length:=List.length_pos_iff.mpr hne
 have hk:k <= xs.length * k:=Nat.le_mul_of_pos_left k hpos
 refine wpAny_binaryOp_repeat_ref (T:="tuple") (U:="int") (by decide) ⟨_,ho,rfl⟩ (fun s'=>typeIs_int s' k t) vp PySem.F.fills_int_mul PySem.F.slot_int_rmul sC PySem.F.slot_int_index.lookup
  (call_meets PySem.F.slot_int_rmul (typeIs_int s k t) PySem.F.entry_int_rmul (PySem.F.args_int_rmul_2 _ _) (uo k t a its.toArray n d1 l1)
   ⟨ho,rfl,⟨_,ho,rfl⟩,?_⟩)
 by_cases k1:k = 1
 ·subst k1
  refine call_meets PySem.F.slot_tuple_mul ⟨_,ho,rfl⟩ PySem.F.entry_tuple_mul (PySem.F.args_tuple_mul_2 _ _) (jd a its.toArray n d1 l1 t) ⟨ho,?_⟩
  exact ⟨.ref a,H,I,rfl,q a H (Grow.refl _ _) (by simpa using ha)⟩
 by_cases k0:k = 0
 ·subst k0
  refine call_meets PySem.F.slot_tuple_mul ⟨_,ho,rfl⟩ PySem.F.entry_tuple_mul (PySem.F.args_tuple_mul_2 _ _) (je a its.toArray n d1 l1 t he) ⟨ho,?_⟩
  refine ⟨.ref s.heap.objs.size,_,I.laid (t':=s.toks) (o:=.tup []) (fun b ob q=>Heap.get?_push_of_some _ q) (Nat.le_refl _) ⟨Nat.zero_le _,[],.nil,IsTup.new _ _⟩,rfl,q _ _ (Grow.new (I.hok.fresh (Nat.le_refl _)) _) (by simpa using SqT.of zb)⟩
 have hnew:List.foldl (fun x1 x2=>x1 ++ x2) #[] (List.replicate (k:Int).toNat its.toArray) = (List.replicate k its).flatten.toArray:=by
  have:=vL its k []
  rw [List.nil_append] at this
  exact this
 have hsz:(List.replicate k its).flatten.length <= sizeLine:=by rw [s8,← hl,Nat.mul_comm]; exact hz
 refine call_meets PySem.F.slot_tuple_mul ⟨_,ho,rfl⟩ PySem.F.entry_tuple_mul (PySem.F.args_tuple_mul_2 _ _) (Zj a its.toArray n d1 l1 k t (by omega) (by omega) he (beq_false_of_ne (by omega)) (by omega) ?_ ?_ (by rw [hnew,List.size_toArray]; exact hsz)) ⟨ho,?_⟩
 ·rw [List.size_toArray,← hl]
  have:((xs.length:Nat):Int) * (k:Int) = ((xs.length * k:Nat):Int):=by rw [Int.natCast_mul]
  rw [this]; omega
 ·rw [List.size_toArray,← hl]
  have:((xs.length:Nat):Int) * (k:Int) = ((xs.length * k:Nat):Int):=by rw [Int.natCast_mul]
  rw [this]
  exact decide_eq_false (by omega)
 ·rw [hnew]
  refine ⟨.ref s.heap.objs.size,_,I.laid (t':=s.toks) (o:=.tup (List.replicate k xs).flatten) (fun b ob q=>Heap.get?_push_of_some _ q) (Nat.le_refl _) ⟨by rw [s8,Nat.mul_comm]; exact hz,_,r.rep k,IsTup.new _ _⟩,rfl,q _ _ (Grow.new (I.hok.fresh (Nat.le_refl _)) _) (SqT.of zb)⟩
end
theorem sD:typeLookup (.type "list") "keys" = pure none:=by rw [typeLookup_type,builtinLookup_eq_fast]; kernel_rfl
theorem wg:typeLookup (.type "list") "__getattr__" = pure none:=by rw [typeLookup_type,builtinLookup_eq_fast]; kernel_rfl
section
variable {prog:Program} {w:World} {A:Around} {E:VS7}
theorem jf (a:Addr) (u:Tok):MeetsIn prog w (Builtin.«object.__getattribute__» ⟨[.ref a,.str "keys" u],[]⟩)
  (fun A R s=>A.handled = none /\ (∃ its n,s.heap.get? a = some { cls:=.type "list",data:=.seq its n }) /\ ∀ h' tk e,Heap.NewAttrErr s.heap h' e (.ref a) "keys" -> R (.error (.ref e)) { s with heap:=h',toks:=tk }) :=
 .of_wp fun A R s ⟨hh,⟨its,n,hx⟩,hR⟩=>by
  obtain ⟨h,g,d,t,os⟩:=s
  have hT:(⟨h,g,d,t,os⟩:Shared).TypeIs (.ref a) "list":=⟨_,hx,rfl⟩
  have f4:=sD
  unfold Builtin.«object.__getattribute__»
  repeat (any_goals (first | assumption | wp_step))
  exact wpAny_raiseAttrError hh hR (attrMsg_fits (by decide +kernel) (by size_fits))
theorem up {s:Shared} {a:Addr} {its:Array Value} {n:Nat} {Q:Option Value -> Shared -> Prop} (hx:s.heap.get? a = some { cls:=.type "list",data:=.seq its n }) (hA:A.handled = none)
  (hq:∀ h' tk,(∀ b o,s.heap.get? b = some o -> h'.get? b = some o) -> Q none { s with heap:=h',toks:=tk }) :
  wpAny (model prog w) A (getAttr? (.ref a) "keys") Q E s:=by
 obtain ⟨h,g,d,t,os⟩:=s
 have hT:∀ t',(⟨h,g,d,t',os⟩:Shared).TypeIs (.ref a) "list":=fun _=>⟨_,hx,rfl⟩
 have f1:=sub_AttributeError
 have f3:=F.slot_list_getattribute.lookup
 have f4:=F.slot_list_getattribute.bind (.ref a)
 have f5:=wg
 unfold getAttr? getAttrBy? getAttrBy
 repeat (any_goals (first | assumption | exact hT _ | ((with_reducible show wpAny _ _ (call (Value.builtin "list.__getattribute__") _ _) _ _ _); refine call_meetsIn F.slot_list_getattribute (hT _) F.entry_list_ga (F.args_list_getattribute_2 _ _) (jf a _) ⟨hA,⟨_,_,hx⟩,fun h' tk' e hxx=>?_⟩) | wp_step))
 obtain ⟨t',u',he⟩:=hxx.there
 show wpAny _ _ (getattributeRaised _ _ _ _ _ _ _) _ _ _
 unfold getattributeRaised
 have hE:∀ t2,(⟨h',g,d,t2,os⟩:Shared).TypeIs (.ref e) "AttributeError":=fun _=>⟨_,he,rfl⟩
 repeat (any_goals (first | assumption | exact hE _ | wp_step))
 exact hq _ _ hxx.keeps
end
section
variable {c:TT} {e:TE} {i:Nat} {v v':V} {t u r:TS} {D:Ends} {σ:L2.St} {H:Hp} {rt:VK} {bk ct:L2.St -> Hp -> Prop}
theorem XY (h:t D (σ.set i (some v)) H):wP i v σ H ({ nx:=t D,rt:=rt,bk:=bk,ct:=ct }:Ends).nx:=h
theorem c_if (Good:L2.St -> Hp -> Prop) (hr:∀ σ' H',Good σ' H' -> r D σ' H') (hc:(∀ σ' H',Good σ' H' -> r D σ' H') -> tIfS c t u { D with nx:=r D } σ H):tSeq (tIfS c t u) r D σ H:=hc hr
theorem wx (Good:V -> Hp -> Prop) (hc:∀ K:VK,(∀ v H',Good v H' -> K v H') -> e σ H K) (hr:∀ v H',Good v H' -> t D (σ.set i (some v)) H'):tSeq (tAsg e (wP i)) t D σ H:=hc _ fun v H' g=>hr v H' g
theorem c_nx (h:t D σ H):({ nx:=t D,rt:=rt,bk:=bk,ct:=ct }:Ends).nx σ H:=h
end
theorem Zk {prog:Program} {w:World} {A:Around} {E:VS7} {s:Shared} {Q:Int -> Shared -> Prop} (h:Q 0xFCA86420 { s with toks:=s.toks + 1 }):wpAny (model prog w) A (pyHash .none) Q E s:=by
 unfold pyHash
 show wpAny _ _ (pyHashByItsType Value.none) Q E s
 unfold pyHashByItsType
 have hv:[Value.none].any Value.onHeap = false:=rfl
 have hT:s.TypeIs .none "NoneType":=rfl
 refine wpAny_bind ?_
 rw [cRoomFor,if_neg (by rw [hv]; exact Bool.false_ne_true)]; refine wpAny_pure ?_
 refine wpAny_bind (wpAny_specialOf hT PySem.F.slot_NoneType_hash.lookup ?_)
 show wpAny _ _ (if (some (Value.builtin "NoneType.__hash__") == some Value.none) = true then _ else _) Q E s
 rw [if_neg (by rw [beq_builtin_none]; exact Bool.false_ne_true)]
 refine wpAny_bind (wpAny_specialOf hT PySem.F.slot_NoneType_hash.lookup ?_)
 show wpAny _ _ (callSpecialIfBoundUnlessNone? .none "__hash__" _ >>= _) Q E s
 refine wpAny_bind (wpAny_callSpecialIfBoundUnlessNone?_slot hT PySem.F.slot_NoneType_hash
  (wpAny_call_entry PySem.F.slot_NoneType_hash hT PySem.F.entry_NoneType_hash
   (show wpAny _ _ (do ret (← mkInt 0xFCA86420)) _ _ s from wpAny_ret_mkInt ?_) (PySem.F.args_NoneType_hash_1 _)))
 exact wpAny_pure h
theorem rE {prog:Program} {w:World} {A:Around} {E:VS7} {s:Shared} {Q:Bool -> Shared -> Prop} (h:Q true s):wpAny (model prog w) A (eqBool .none .none) Q E s:=by
 unfold eqBool
 refine wpAny_holding ?_
 rw [if_pos (show (Value.none == Value.none) = true from rfl)]
 exact wpAny_bind (wpAny_rule (wpAny_pure h))
abbrev OKey:=Option Key
def okIs:OKey -> Value -> Bool
 | none,v=>v == .none
 | some k,v=>uY k v
theorem yp:∀ {k:OKey} {v:Value},okIs k v = true -> (k = none /\ v = .none) \/ ∃ q,k = some q /\ uY q v = true
 | none,v,h=>.inl ⟨rfl,eq_of_beq h⟩
 | some q,v,h=>.inr ⟨q,rfl,h⟩
theorem uR {q:Key} (h:uY q .none = true):False:=by
 rcases zG h with ⟨_,_,_,e⟩ | ⟨_,_,_,e⟩ <;> cases e
def v3 (prog:Program) (w:World):PySem.KeyKind prog w OKey where
 is:=okIs
 hash:=fun k=>match k with | none=>0xFCA86420 | some q=>keyH w q
 inj:=fun v a b ha hb=>by
  rcases yp ha with ⟨rfl,rfl⟩ | ⟨q,rfl,hq⟩ <;> rcases yp hb with ⟨rfl,e⟩ | ⟨r,rfl,hr⟩
  ·rfl
  ·exact (uR hr).elim
  ·subst e; exact (uR hq).elim
  ·exact congrArg some ((wp prog w).inj v q r hq hr)
 byValue:=fun k v h=>by
  rcases yp h with ⟨rfl,rfl⟩ | ⟨q,rfl,hq⟩
  ·rfl
  ·exact (wp prog w).byValue q v hq
 pyHash:=fun hv h=>by
  rcases yp hv with ⟨rfl,rfl⟩ | ⟨q,rfl,hq⟩
  ·exact Zk h
  ·exact (wp prog w).pyHash hq h
 eqBool:=fun hu hv h=>by
  rcases yp hu with ⟨rfl,rfl⟩ | ⟨q,rfl,hq⟩ <;> rcases yp hv with ⟨rfl,e⟩ | ⟨r,rfl,hr⟩
  ·subst e; exact rE (by simpa using h)
  ·rw [decide_eq_false (by simp)] at h
   rcases zG hr with ⟨i,t,_,rfl⟩ | ⟨x,t,_,rfl⟩
   ·exact SeqAt.EqAt.none_int i t _ _ _ _ h
   ·exact SeqAt.EqAt.none_str x t _ _ _ _ h
  ·rw [decide_eq_false (by simp)] at h
   subst e
   rcases zG hq with ⟨i,t,_,rfl⟩ | ⟨x,t,_,rfl⟩
   ·exact SeqAt.EqAt.int_none i t _ _ _ _ h
   ·exact SeqAt.EqAt.str_none x t _ _ _ _ h
  ·exact (wp prog w).eqBool hq hr (by simpa using h)
 «strs»:=fun k x t v h=>by
  rcases yp h with ⟨rfl,e⟩ | ⟨q,rfl,hq⟩
  ·cases e
  ·exact (wp prog w).strs q x t v hq
def okV:OKey -> V
 | none=>.non
 | some k=>kV k
theorem Xb {k:OKey} {v:Value} (r:RelV (okV k) v):okIs k v = true:=by
 cases k with
 | none=>cases (show v = Value.none from r); rfl
 | some q =>
  cases q with
  | inl i=>obtain ⟨t,rfl⟩:=r; exact tS i t
  | inr x=>obtain ⟨t,rfl⟩:=r; exact jp x t
theorem Ye {k:OKey} {v:Value} (h:okIs k v = true):RelV (okV k) v:=by
 rcases yp h with ⟨rfl,rfl⟩ | ⟨q,rfl,hq⟩
 ·rfl
 ·rcases zG hq with ⟨i,t,rfl,rfl⟩ | ⟨x,t,rfl,rfl⟩
  ·exact ⟨t,rfl⟩
  ·exact ⟨t,rfl⟩
def DcO (a:Addr) (kvs:List (V × V)):HO:=.ext fun h=>∃ o es n,h.get? a = some o /\ o.cls = .type "dict" /\ o.data = .dict es n /\ Vals (kvs.map (·.1)) (es.toList.map (·.key)) /\ Vals (kvs.map (·.2)) (es.toList.map (·.val))
mutual
/-- nested data,whose lists and dicts are none of m -/
inductive Od (K:FG7) (m:List Addr) (H:Hp):V -> PyData -> Prop
 | non:Od K m H .non .none
 | bl (b:Bool):Od K m H (.bl b) (.bool b)
 | int (i:Int):Od K m H (.int i) (.int i)
 | str (x:Str):Od K m H (.str x) (.str x)
 | tup {a:Addr} {xs:List V} {ds:List PyData}:SqT K H a xs -> Ods K m H xs ds -> Od K m H (.ref a) (.tuple ds)
 | lst {a:Addr} {xs:List V} {ds:List PyData}:H a = some (.lst xs) -> a ∉ m -> a ≠ sysModules -> Ods K m H xs ds -> Od K m H (.ref a) (.list ds)
 | dct {a:Addr} {kvs:List (V × V)} {ds:List (PyData × PyData)}:H a = some (DcO a kvs) -> a ∉ m -> a ≠ sysModules -> Ods K m H (kvs.map (·.1)) (ds.map (·.1)) -> Ods K m H (kvs.map (·.2)) (ds.map (·.2)) -> Od K m H (.ref a) (.dict ds)
inductive Ods (K:FG7) (m:List Addr) (H:Hp):List V -> List PyData -> Prop
 | nil:Ods K m H [] []
 | cons {x:V} {xs:List V} {d:PyData} {ds:List PyData}:Od K m H x d -> Ods K m H xs ds -> Ods K m H (x :: xs) (d :: ds)
end
section
variable {K:FG7} {m:List Addr} {H H':Hp}
mutual
theorem Od.grow (g:Grow m H H'):∀ {x:V} {d:PyData},Od K m H x d -> Od K m H' x d
 | _,_,.non=>.non
 | _,_,.bl b=>.bl b
 | _,_,.int i=>.int i
 | _,_,.str x=>.str x
 | _,_,.tup h t=>.tup (g.sqT h) (Ods.grow g t)
 | _,_,.lst h n b t=>.lst (g.keep _ _ n h) n b (Ods.grow g t)
 | _,_,.dct h n b t u=>.dct (g.keep _ _ n h) n b (Ods.grow g t) (Ods.grow g u)
theorem Ods.grow (g:Grow m H H'):∀ {xs:List V} {ds:List PyData},Ods K m H xs ds -> Ods K m H' xs ds
 | _,_,.nil=>.nil
 | _,_,.cons h t=>.cons (Od.grow g h) (Ods.grow g t)
end
theorem Ods.length:∀ {xs:List V} {ds:List PyData},Ods K m H xs ds -> xs.length = ds.length
 | _,_,.nil=>rfl
 | _,_,.cons _ t=>congrArg (· + 1) (Ods.length t)
theorem Ods.get:∀ {xs:List V} {ds:List PyData} {i:Nat} {x:V},Ods K m H xs ds -> xs[i]? = some x -> ∃ d,ds[i]? = some d /\ Od K m H x d
 | _,_,_,_,.nil,e=>by simp at e
 | _,_,0,_,.cons h _,e=>by simp at e; subst e; exact ⟨_,rfl,h⟩
 | _,_,i + 1,x,.cons _ t,e=>Ods.get (i:=i) t (by simpa using e)
theorem Ods.at:∀ {xs:List V} {ds:List PyData} {i:Nat} {d:PyData},Ods K m H xs ds -> ds[i]? = some d -> ∃ x,xs[i]? = some x /\ Od K m H x d
 | _,_,_,_,.nil,e=>by simp at e
 | _,_,0,_,.cons h _,e=>by simp at e; subst e; exact ⟨_,rfl,h⟩
 | _,_,i + 1,x,.cons _ t,e=>Ods.at (i:=i) t (by simpa using e)
theorem Ods.append:∀ {xs ys:List V} {ds es:List PyData},Ods K m H xs ds -> Ods K m H ys es -> Ods K m H (xs ++ ys) (ds ++ es)
 | _,_,_,_,.nil,s=>s
 | _,_,_,_,.cons r t,s=>.cons r (Ods.append t s)
theorem Ods.take:∀ {xs:List V} {ds:List PyData} (n:Nat),Ods K m H xs ds -> Ods K m H (xs.take n) (ds.take n)
 | _,_,0,_=>.nil
 | _,_,_ + 1,.nil=>.nil
 | _,_,n + 1,.cons r t=>.cons r (Ods.take n t)
theorem Ods.drop:∀ {xs:List V} {ds:List PyData} (n:Nat),Ods K m H xs ds -> Ods K m H (xs.drop n) (ds.drop n)
 | _,_,0,r=>r
 | _,_,_ + 1,.nil=>.nil
 | _,_,n + 1,.cons _ t=>Ods.drop n t
end
section
variable {X:Cx} {pins:List (Addr × Obj)} {σ:L2.St} {H:Hp} {s:Shared} {m:List Addr}
theorem v4 (I:Inv X pins σ H s):sysModules < s.heap.objs.size:=Nat.lt_trans (by decide) (show mainGlobals < s.heap.objs.size from (I.mod.glob.keeps I.bk).lt)
theorem DcO.at (I:Inv X pins σ H s) {a:Addr} {kvs:List (V × V)} (h:H a = some (DcO a kvs)):∃ o es n,s.heap.get? a = some o /\ o.cls = .type "dict" /\ o.data = .dict es n /\ Vals (kvs.map (·.1)) (es.toList.map (·.key)) /\ Vals (kvs.map (·.2)) (es.toList.map (·.val)):=(I.hok a _ h).1
mutual
theorem Od.reads (I:Inv X pins σ H s):∀ {x:V} {d:PyData} {u:Value},Od X.K m H x d -> RelV x u -> ∃ as,Reads s.heap u d as /\ sysModules ∉ as
 | _,_,u,.non,r=>by
  cases (show u = Value.none from r)
  exact ⟨_,.none,by simp⟩
 | _,_,u,.bl b,r=>by
  cases (show u = Value.bool b from r)
  exact ⟨_,.bool b,by simp⟩
 | _,_,u,.int i,r=>by
  obtain ⟨t,rfl⟩:=r
  exact ⟨_,.int i t,by simp⟩
 | _,_,u,.str x,r=>by
  obtain ⟨t,rfl⟩:=r
  exact ⟨_,.str x t,by simp⟩
 | _,_,u,.tup (a:=a) hs hd,r=>by
  cases (show u = Value.ref a from r)
  obtain ⟨its,r1,⟨o,e1,e2,n,e3⟩,_⟩:=I.tuple hs
  obtain ⟨as,q,ns⟩:=Ods.reads I hd r1
  exact ⟨_,.tuple e1 e2 e3 q,ns⟩
 | _,_,u,.lst (a:=a) hs _ hb hd,r=>by
  cases (show u = Value.ref a from r)
  obtain ⟨its,r1,⟨o,n,e1,e2,_,e3⟩,_⟩:=I.list (SqL.of hs)
  obtain ⟨as,q,ns⟩:=Ods.reads I hd r1
  exact ⟨_,.list e1 e2 e3 q,fun z=>(List.mem_cons.mp z).elim (fun e=>hb e.symm) ns⟩
 | _,_,u,.dct (a:=a) hs _ hb h1 h2,r=>by
  cases (show u = Value.ref a from r)
  obtain ⟨o,es,n,e1,e2,e3,v1,v2⟩:=DcO.at I hs
  obtain ⟨as,q1,n1⟩:=Ods.reads I h1 v1
  obtain ⟨bs,q2,n2⟩:=Ods.reads I h2 v2
  refine ⟨_,.dict e1 e2 e3 q1 q2,fun z=>?_⟩
  rcases List.mem_append.mp z with z | z
  ·exact (List.mem_cons.mp z).elim (fun e=>hb e.symm) n1
  ·exact n2 z
theorem Ods.reads (I:Inv X pins σ H s):∀ {xs:List V} {ds:List PyData} {us:List Value},Ods X.K m H xs ds -> Vals xs us -> ∃ as,ReadsAll s.heap us ds as /\ sysModules ∉ as
 | _,_,_,.nil,.nil=>⟨_,.nil,by simp⟩
 | _,_,_,.cons h t,.cons r rs=>by
  obtain ⟨as,q,n1⟩:=Od.reads I h r
  obtain ⟨bs,q2,n2⟩:=Ods.reads I t rs
  exact ⟨_,.cons q q2,fun z=>(List.mem_append.mp z).elim n1 n2⟩
end
end
section
variable {K:FG7} {m m':List Addr} {H:Hp}
mutual
theorem Od.more {a:Addr} (h:H a = none):∀ {x:V} {d:PyData},Od K m H x d -> Od K (a :: m) H x d
 | _,_,.non=>.non
 | _,_,.bl b=>.bl b
 | _,_,.int i=>.int i
 | _,_,.str x=>.str x
 | _,_,.tup q t=>.tup q (Ods.more h t)
 | _,_,.lst q n b t=>.lst q (fun z=>(List.mem_cons.mp z).elim (fun e=>by rw [e,h] at q; cases q) n) b (Ods.more h t)
 | _,_,.dct q n b t u=>.dct q (fun z=>(List.mem_cons.mp z).elim (fun e=>by rw [e,h] at q; cases q) n) b (Ods.more h t) (Ods.more h u)
theorem Ods.more {a:Addr} (h:H a = none):∀ {xs:List V} {ds:List PyData},Ods K m H xs ds -> Ods K (a :: m) H xs ds
 | _,_,.nil=>.nil
 | _,_,.cons q t=>.cons (Od.more h q) (Ods.more h t)
end
mutual
theorem Od.less (h:∀ b ∈ m',b ∈ m):∀ {x:V} {d:PyData},Od K m H x d -> Od K m' H x d
 | _,_,.non=>.non
 | _,_,.bl b=>.bl b
 | _,_,.int i=>.int i
 | _,_,.str x=>.str x
 | _,_,.tup q t=>.tup q (Ods.less h t)
 | _,_,.lst q n b t=>.lst q (fun z=>n (h _ z)) b (Ods.less h t)
 | _,_,.dct q n b t u=>.dct q (fun z=>n (h _ z)) b (Ods.less h t) (Ods.less h u)
theorem Ods.less (h:∀ b ∈ m',b ∈ m):∀ {xs:List V} {ds:List PyData},Ods K m H xs ds -> Ods K m' H xs ds
 | _,_,.nil=>.nil
 | _,_,.cons q t=>.cons (Od.less h q) (Ods.less h t)
end
end
theorem sE {ks:List (Option Expr)} {vs es:List Expr} {p:Pos} {env:Env}:starEach (.Dict ks vs p :: es) env = (false,eval (.Dict ks vs p) env) :: starEach es env:=by rfl
structure DR where
 p:List Addr -> L2.St -> Hp -> Prop
 mono:∀ {m σ H H'},Grow [] H H' -> p m σ H -> p m σ H'
 more:∀ {a m σ H},H a = none -> p m σ H -> p (a :: m) σ H
def DR.t:DR:=⟨fun _ _ _=>True,fun _ _=>trivial,fun _ _=>trivial⟩
def DR.and (a b:DR):DR:=⟨fun m σ H=>a.p m σ H /\ b.p m σ H,fun g h=>⟨a.mono g h.1,b.mono g h.2⟩,fun g h=>⟨a.more g h.1,b.more g h.2⟩⟩
def tOd (K:FG7) (R:DR) (D:PyData):TE:=fun σ H Q=>∃ m,R.p m σ H /\ (∀ b ∈ m,H b ≠ none) /\ ∀ x H',Grow [] H H' -> Od K m H' x D -> Q x H'
def tOds (K:FG7) (R:DR) (Ds:List PyData):TA:=fun σ H Q=>∃ m,R.p m σ H /\ (∀ b ∈ m,H b ≠ none) /\ ∀ xs H',Grow [] H H' -> Ods K m H' xs Ds -> Q xs H'
theorem zN {H H':Hp} {m:List Addr} (g:Grow [] H H') (h:∀ b ∈ m,H b ≠ none):∀ b ∈ m,H' b ≠ none:=fun b hb z=>by
 cases e:H b with
 | none=>exact h b hb e
 | some o=>rw [g.keep b o (by simp) e] at z; cases z
section
variable {X:Cx} {K:FG7} {R R':DR} {D:PyData} {Ds:List PyData} {e:Expr} {es:List Expr} {pos:Pos} {j}
theorem wm {i:Int}:PE X (.Constant (.int i) j pos) (tOd K .t (.int i)):=fun pins s σ H Q I ⟨m,_,_,q⟩=>ze pins s σ H Q I (q _ _ (Grow.refl _ _) (.int i))
theorem wy:PA X [] (tOds K .t []):=fun pos pins s σ H Q I ⟨m,_,_,q⟩=>zc pos pins s σ H Q I (q _ _ (Grow.refl _ _) .nil)
theorem Yf (h:PE X e (tOd K R D)) (t:PA X es (tOds K R' Ds)) (hs:starEach (e :: es) X.env = (false,eval e X.env) :: starEach es X.env:=by rfl):PA X (e :: es) (tOds K (.and R R') (D :: Ds)):=fun pos pins s σ H Q I ⟨m,⟨r1,r2⟩,b,q⟩ =>
 za h t hs pos pins s σ H Q I ⟨m,r1,b,fun x H1 g1 o1=>⟨m,R'.mono g1 r2,zN g1 b,fun xs H2 g2 o2=>q _ _ (g1.trans g2) (.cons (o1.grow (g2.mono (by simp))) o2)⟩⟩
theorem yL (h:PE X e (tOd K .t D)) (t:PA X es (tOds K R' Ds)) (hs:starEach (e :: es) X.env = (false,eval e X.env) :: starEach es X.env:=by rfl):PA X (e :: es) (tOds K R' (D :: Ds)):=fun pos pins s σ H Q I ⟨m,r2,b,q⟩ =>
 Yf h t hs pos pins s σ H Q I ⟨m,⟨trivial,r2⟩,b,q⟩
theorem sF {x1} (h:PA X es (tOds K R Ds)) (hl:Ds.length <= 1000:=by decide):PE X (.Tuple es x1 pos) (tOd K R (.tuple Ds)):=fun pins s σ H Q I ⟨m,r,b,q⟩ =>
 yg h pins s σ H Q I ⟨m,r,b,fun xs H' g o=>⟨by rw [o.length]; exact Nat.le_of_lt (zm hl),fun p hp =>
  have g2:=Grow.new (m:=[]) hp (.tup xs)
  q _ _ (g.trans g2) (.tup (SqT.of zb) (o.grow (g2.mono (by simp))))⟩⟩
def WG (t:TA):TE:=fun σ H Q=>t σ H fun xs H1=>xs.length <= sizeLine /\ ∀ p,H1 p = none -> p ≠ sysModules -> Q (.ref p) (upd H1 p (.lst xs))
theorem Xc {t:TA} (h:PA X es t):PE X (.List es pos) (WG t):=by
 intro pins s σ H Q I hq
 refine wpAny_List_spliced (thn (h pos pins s σ H _ I hq) fun us s1 ⟨xs,H1,I1,r,z,q⟩=>⟨by rw [← r.length]; exact z,?_⟩)
 have hf:H1 s1.heap.objs.size = none:=I1.hok.fresh (Nat.le_refl _)
 refine ⟨.ref s1.heap.objs.size,upd H1 s1.heap.objs.size (.lst xs),I1.laid (t':=s1.toks) (fun b u e=>Heap.get?_push_of_some _ e) (Nat.le_refl _) ?_,rfl,q _ hf (Nat.ne_of_gt (v4 I1))⟩
 exact ⟨z,us,0,r,Heap.get?_push_size _ rfl⟩
theorem Zl {m:List Addr} {H:Hp} {p:Addr} (b:∀ b ∈ m,H b ≠ none) (h:H p = none):p ∉ m:=fun z=>b p z h
theorem Yz (h:PA X es (tOds K R Ds)) (hl:Ds.length <= 1000:=by decide):PE X (.List es pos) (tOd K R (.list Ds)):=fun pins s σ H Q I ⟨m,r,b,q⟩ =>
 Xc h pins s σ H Q I ⟨m,r,b,fun xs H' g o=>⟨by rw [o.length]; exact Nat.le_of_lt (zm hl),fun p hp hn =>
  have g2:=Grow.new (m:=[]) hp (.lst xs)
  q _ _ (g.trans g2) (.lst zb (Zl (zN g b) hp) hn (o.grow (g2.mono (by simp))))⟩⟩
theorem jg (hK:X.K = K):xD X (.type "list") (fun xs H Q=>∃ p ys,xs = [.ref p] /\ (SqL K H p ys \/ SqT K H p ys) /\ ∀ l,H l = none -> l ≠ sysModules -> Q (.ref l) (upd H l (.lst ys))):=by
 subst hK
 intro pins s σ H xs us Q I r h
 obtain ⟨p,ys,rfl,hq,q⟩:=h
 obtain ⟨u,rfl,rx⟩:=we r
 cases rx
 have fin:∀ (its:List Value),Vals ys its -> ys.length <= sizeLine -> ∀ (h':Heap) (c':Nat),(∀ b o',s.heap.get? b = some o' -> h'.get? b = some o') →
   h'.get? s.heap.objs.size = some { cls:=.type "list",dict:=none,data:=.seq its.toArray c',slots:=#[] } -> EP X pins σ Q (.ref s.heap.objs.size) { s with heap:=h' }:=fun its r' hz h' c' kp e =>
  ⟨.ref s.heap.objs.size,_,I.laid (t':=s.toks) kp (Nat.le_refl _) (show ye X.prog X.w _ h' _ (.lst ys) from ⟨hz,its,c',r',e⟩),rfl,q _ (I.hok.fresh (Nat.le_refl _)) (Nat.ne_of_gt (v4 I))⟩
 rcases hq with hq | hq
 ·obtain ⟨its,r',pl,hz⟩:=I.list hq
  have hlen:=r'.length
  obtain ⟨o,ho,hc,n,hd⟩:=pl.isList
  exact call_list_seq p (.inl rfl) ho hc hd (fun h' c' kp e=>fin its r' hz h' c' kp e) (by simp only [List.size_toArray] <;> omega)
 ·obtain ⟨its,r',pl,hz⟩:=I.tuple hq
  have hlen:=r'.length
  obtain ⟨o,ho,hc,n,hd⟩:=pl
  exact call_list_seq p (.inr rfl) ho hc hd (fun h' c' kp e=>fin its r' hz h' c' kp e) (by simp only [List.size_toArray] <;> omega)
end
def okD:OKey -> PyData
 | none=>.none
 | some (.inl i)=>.int i
 | some (.inr x)=>.str x
theorem XZ {K:FG7} {m:List Addr} {H:Hp}:∀ {k:OKey},Od K m H (okV k) (okD k)
 | none=>.non
 | some (.inl i)=>.int i
 | some (.inr x)=>.str x
def KxR (p:OKey × V) (q:Value × Value):Prop:=RelV (okV p.1) q.1 /\ RelV p.2 q.2
structure PO2 (X:Cx) (ks:List (Option Expr)) (vs:List Expr) (R:DR) (kds:List (OKey × PyData)):Prop where
 run:∀ (pos:Pos) (pins:List (Addr × Obj)) (s:Shared) (σ:L2.St) (H:Hp) (m:List Addr) (Q:List (Value × Value) -> Shared -> Prop),Inv X pins σ H s -> R.p m σ H -> (∀ b ∈ m,H b ≠ none) →
  (∀ r s' H' (kxs:List (OKey × V)),Inv X pins σ H' s' -> Grow [] H H' -> Paired KxR kxs r -> kxs.map (·.1) = kds.map (·.1) -> Ods X.K m H' (kxs.map (·.2)) (kds.map (·.2)) -> Q r s') →
  wpAny (model X.prog X.w) X.A (evalPairs (pairTrees ks vs X.env pos)) Q X.xe s
section
variable {X:Cx} {K:FG7} {R R':DR} {D:PyData} {e k:Expr} {ks:List (Option Expr)} {vs:List Expr} {kds:List (OKey × PyData)} {pos:Pos}
theorem Xd:PO2 X [] [] .t []:=⟨fun pos pins s σ H m Q I _ _ q=>pairTrees_nil_walk (q [] s H [] I (Grow.refl _ _) .nil rfl .nil)⟩
theorem Yg (key:OKey) (hk:PE X k (tC (okV key))) (h:PE X e (tOd X.K R D)) (t:PO2 X ks vs R' kds):PO2 X (some k :: ks) (e :: vs) (.and R R') ((key,D) :: kds):=⟨fun pos pins s σ H m Q I ⟨r1,r2⟩ b q=>by
 refine pairTrees_cons_walk (thn (hk pins s σ H (fun x H1=>x = okV key /\ H1 = H) I ⟨rfl,rfl⟩) fun u s1 ⟨x,H1,I1,rx,ex,eH⟩=>?_)
 subst ex eH
 refine thn (h pins s1 σ H1 (fun y H2=>Grow [] H1 H2 /\ Od X.K m H2 y D) I1 ⟨m,r1,b,fun y H2 g o=>⟨g,o⟩⟩) fun v s2 ⟨y,H2,I2,ry,g2,o2⟩=>?_
 refine t.run pos pins s2 σ H2 m _ I2 (R'.mono g2 r2) (zN g2 b) fun r s' H3 kxs I3 g3 pr ek od=>?_
 exact q _ s' H3 ((key,y) :: kxs) I3 (g2.trans g3) (.cons ⟨rx,ry⟩ pr) (by rw [List.map_cons,List.map_cons,ek]) (.cons (o2.grow (g3.mono (by simp))) od)⟩
theorem Zm (key:OKey) (hk:PE X k (tC (okV key))) (h:PE X e (tOd X.K .t D)) (t:PO2 X ks vs R' kds):PO2 X (some k :: ks) (e :: vs) R' ((key,D) :: kds):=⟨fun pos pins s σ H m Q I r2 b q=>(Yg key hk h t).run pos pins s σ H m Q I ⟨trivial,r2⟩ b q⟩
theorem qw {i:Int} {j} {pk:Pos} (h:PE X e (tOd X.K .t D)) (t:PO2 X ks vs R' kds):PO2 X (some (.Constant (.int i) j pk) :: ks) (e :: vs) R' ((some (.inl i),D) :: kds):=Zm (some (.inl i)) ze h t
theorem YA {α β γ:Type} (f:α -> γ) (l:List (α × β)):l.map (fun p=>f p.1) = (l.map (·.1)).map f:=by rw [List.map_map]; rfl
theorem qz {α β γ:Type} (f:α -> γ) (l:List (α × β)):(l.map fun p=>(f p.1,p.2)).map (·.1) = (l.map (·.1)).map f:=by rw [List.map_map,List.map_map]; rfl
theorem qA {α β γ:Type} (f:α -> γ) (l:List (α × β)):(l.map fun p=>(f p.1,p.2)).map (·.2) = l.map (·.2):=by rw [List.map_map]; rfl
def E0D (a:Addr):HO:=.ext fun h=>h.get? a = some { cls:=.type "dict",data:=.dict #[] }
theorem Zn {prog:Program} {w:World}:∀ {kxs:List (OKey × V)} {r:List (Value × Value)},Paired KxR kxs r -> ∃ kvs:List (OKey × Value),Carries (v3 prog w) r kvs /\ kvs.map (·.1) = kxs.map (·.1) /\ Vals (kxs.map (·.2)) (kvs.map (·.2))
 | _,_,.nil=>⟨[],trivial,rfl,.nil⟩
 | _,_,.cons (a:=x) (b:=y) h t=>by
  obtain ⟨kvs,c,e,v⟩:=Zn (prog:=prog) (w:=w) t
  exact ⟨(x.1,y.2) :: kvs,⟨Xb h.1,rfl,c⟩,by rw [List.map_cons,List.map_cons,e],.cons h.2 v⟩
theorem sG {kvs:List (OKey × Value)}:∀ {acc:List (OKey × Value)},((acc ++ kvs).map (·.1)).Nodup -> merged acc kvs = acc ++ kvs:=by
 induction kvs with
 | nil=>intro acc _; simp [merged]
 | cons kv r ih =>
  intro acc h
  have h1:stored acc kv.1 kv.2 = acc ++ [kv]:=by
   unfold stored
   rw [if_neg]
   intro z
   obtain ⟨x,hx,e⟩:=List.any_eq_true.mp z
   rw [List.map_append,List.nodup_append] at h
   exact h.2.2 x.1 (List.mem_map_of_mem hx) kv.1 (by simp) (of_decide_eq_true e)
  show merged (stored acc kv.1 kv.2) r = _
  rw [h1,ih (by simpa using h)]
  simp
theorem wS {prog:Program} {w:World}:∀ {es:List DictEntry} {kvs:List (OKey × Value)},Pairs (v3 prog w) es kvs -> Vals (kvs.map fun p=>okV p.1) (es.map (·.key)) /\ es.map (·.val) = kvs.map (·.2)
 | _,_,.nil=>⟨.nil,rfl⟩
 | _,_,.cons h1 h2 t=>by
  obtain ⟨a,b⟩:=wS t
  exact ⟨.cons (Ye h1) a,by rw [List.map_cons,List.map_cons,b,h2]⟩
theorem X0 (h:PO2 X ks vs R kds) (hnd:(kds.map (·.1)).Nodup:=by decide) (hall:ks.all (·.isSome) = true:=by rfl) (hl:ks.length = vs.length:=by rfl) (h0:ks ≠ []:=by intro z; cases z) (hlen:ks.length <= 15:=by decide) :
  PE X (.Dict ks vs pos) (tOd X.K R (.dict (kds.map fun p=>(okD p.1,p.2)))):=by
 intro pins s σ H Q I ⟨m,hr,hb,q⟩
 have hf:H s.heap.objs.size = none:=I.hok.fresh (Nat.le_refl _)
 have I1:Inv X pins σ (upd H s.heap.objs.size (E0D s.heap.objs.size)) { s with heap:=s.heap.push { cls:=.type "dict",data:=.dict #[] } } :=
  I.laid (t':=s.toks) (fun b u e=>Heap.get?_push_of_some _ e) (Nat.le_refl _) ⟨Heap.get?_push_size _ rfl,⟨_,Heap.get?_push_size _ rfl⟩,fun h1 h2 a k=>k _ a⟩
 have g1:=Grow.new (m:=[]) hf (E0D s.heap.objs.size)
 refine wpAny_Dict_walk (knd:=v3 X.prog X.w) hall hl h0 hlen (h.run pos pins _ σ _ (s.heap.objs.size :: m) _ I1 (R.mono g1 (R.more hf hr)) ?_ fun r s1 H2 kxs I2 g2 pr ek od=>?_)
 ·intro b hb' z
  rcases List.mem_cons.mp hb' with e | e
  ·rw [e,zb] at z; cases z
  ·exact zN g1 hb b e z
 have h2a:H2 s.heap.objs.size = some (E0D s.heap.objs.size):=g2.keep _ _ (by simp) zb
 have hE:s1.heap.get? s.heap.objs.size = some { cls:=.type "dict",data:=.dict #[] }:=(I2.hok _ _ h2a).1
 obtain ⟨kvs,hc,ekv,vv⟩:=Zn (prog:=X.prog) (w:=X.w) pr
 refine ⟨kvs,hc,⟨_,#[],0,hE,⟨rfl,rfl,rfl⟩,rfl,fun e he=>by simp at he,.nil,List.nodup_nil⟩,fun h' hm hs=>?_⟩
 have hmk:merged [] kvs = kvs:=by
  have:=sG (kvs:=kvs) (acc:=[]) (by rw [List.nil_append,ekv,ek]; exact hnd)
  rw [this,List.nil_append]
 rw [hmk] at hm
 obtain ⟨o,es,ep,ho,hx,hd,_,prs,_⟩:=hm
 obtain ⟨v1,e2⟩:=wS prs
 have hk1:(kxs.map fun p=>(okV p.1,p.2)).map (·.1) = kvs.map fun p=>okV p.1:=by
  rw [qz,YA,ekv]
 have hk2:(kxs.map fun p=>(okV p.1,p.2)).map (·.2) = kxs.map (·.2):=qA okV kxs
 have new:ye X.prog X.w (upd H2 s.heap.objs.size (DcO s.heap.objs.size (kxs.map fun p=>(okV p.1,p.2)))) h' s.heap.objs.size (DcO s.heap.objs.size (kxs.map fun p=>(okV p.1,p.2))):=by
  refine ⟨⟨o,es,ep,ho,hx.1,hd,by rw [hk1]; exact v1,by rw [hk2,e2]; exact vv⟩,⟨o,ho⟩,fun h1 h2 hφ hk=>?_⟩
  obtain ⟨o',es',n',a1,a2⟩:=hφ
  exact ⟨o',es',n',hk _ a1,a2⟩
 have I3:=I2.write (t':=s1.toks + r.length) (h':=h') (x:=s.heap.objs.size) (e:=s.heap.objs.size) (by rw [h2a]; trivial) (.inl rfl) (fun b u hb e=>(hs.2 b hb).trans e) ⟨o,ho⟩ new
 have g3:Grow (s.heap.objs.size :: m) H2 (upd H2 s.heap.objs.size (DcO s.heap.objs.size (kxs.map fun p=>(okV p.1,p.2)))) :=
  ⟨fun b u hb e=>by rw [zu (fun z=>hb (by simp [z]))]; exact e,fun b u e=>by rw [zu (fun z=>by rw [z,h2a] at e; cases e)]; exact e,fun b u v e=>by rw [zu (fun z=>by rw [z,h2a] at e; cases e)]; exact e⟩
 have G:Grow [] H (upd H2 s.heap.objs.size (DcO s.heap.objs.size (kxs.map fun p=>(okV p.1,p.2)))):=by
  have ga:=g1.trans g2
  refine ⟨fun b u hb e=>?_,fun b u e=>?_,fun b u v e=>?_⟩
  ·rw [zu (zr e hf)]; exact ga.keep b u hb e
  ·rw [zu (zr e hf)]; exact ga.tup b u e
  ·rw [zu (zr e hf)]; exact ga.frz b u v e
 refine ⟨.ref s.heap.objs.size,_,I3,rfl,q _ _ G (.dct zb (Zl hb hf) (Nat.ne_of_gt (v4 I)) ?_ ?_)⟩
 ·rw [hk1]
  have:∀ {l:List OKey} {H:Hp},Ods X.K m H (l.map okV) (l.map okD):=fun {l H}=>by
   induction l with
   | nil=>exact .nil
   | cons a r ih=>exact .cons XZ ih
  rw [YA,ekv,ek,qz]
  exact this
 ·rw [hk2,qA]
  exact (od.grow g3).less fun b hb=>List.mem_cons_of_mem _ hb
theorem Xe:PE X (.Dict [] [] pos) (tOd K .t (.dict [])):=by
 intro pins s σ H Q I ⟨m,_,hb,q⟩
 have hf:H s.heap.objs.size = none:=I.hok.fresh (Nat.le_refl _)
 refine wpAny_Dict_empty ?_
 have I1:Inv X pins σ (upd H s.heap.objs.size (DcO s.heap.objs.size [])) { s with heap:=s.heap.push { cls:=.type "dict",data:=.dict #[] } } :=
  I.laid (t':=s.toks) (fun b u e=>Heap.get?_push_of_some _ e) (Nat.le_refl _) ⟨⟨_,_,_,Heap.get?_push_size _ rfl,rfl,rfl,.nil,.nil⟩,⟨_,Heap.get?_push_size _ rfl⟩,fun h1 h2 hφ hk=>by
   obtain ⟨o',es',n',a1,a2⟩:=hφ
   exact ⟨o',es',n',hk _ a1,a2⟩⟩
 exact ⟨.ref s.heap.objs.size,_,I1,rfl,q _ _ (Grow.new hf _) (.dct (kvs:=[]) (ds:=[]) zb (Zl hb hf) (Nat.ne_of_gt (v4 I)) .nil .nil)⟩
end
def tyD:PyData -> String
 | .none=>"NoneType"
 | .bool _=>"bool"
 | .int _=>"int"
 | .str _=>"str"
 | .list _=>"list"
 | .tuple _=>"tuple"
 | .dict _=>"dict"
def WH (K:FG7):List V -> Hp -> VK -> Prop:=fun xs H Q=>∃ x d m T k,xs = [x,.ty T] /\ Od K m H x d /\ PySem.W.kitOne K (.type (tyD d)) (.type T) = some k /\ Q (.bl k) H
theorem zU {X:Cx} {K:FG7} (hK:X.K = K):xD X (.builtin "isinstance") (WH K):=by
 subst hK
 intro pins s σ H xs us Q I r h
 obtain ⟨x,d,m,T,k,rfl,hd,e,q⟩:=h
 cases hd with
 | non=>exact xY pins s σ H _ us Q I r ⟨_,T,_,k,rfl,rfl,e,q⟩
 | bl b=>exact xY pins s σ H _ us Q I r ⟨_,T,_,k,rfl,rfl,e,q⟩
 | int i=>exact xY pins s σ H _ us Q I r ⟨_,T,_,k,rfl,rfl,e,q⟩
 | str y=>exact xY pins s σ H _ us Q I r ⟨_,T,_,k,rfl,rfl,e,q⟩
 | tup hs _=>exact xY pins s σ H _ us Q I r ⟨_,T,_,k,rfl,.inl ⟨rfl,_,hs⟩,e,q⟩
 | lst hs _ _ _=>exact xY pins s σ H _ us Q I r ⟨_,T,_,k,rfl,.inr (.inl ⟨rfl,_,SqL.of hs⟩),e,q⟩
 | @dct a kvs ds hs _ _ _ _ =>
  obtain ⟨u,w',rfl,rx,rt⟩:=qP r
  cases (show w' = Value.type T from rt)
  cases (show u = Value.ref a from rx)
  obtain ⟨o,es,n,e1,e2,_⟩:=DcO.at I hs
  exact PySem.W.kia_one PySem.W.kitx_dict I.kIn ⟨o,e1,e2⟩ e (fun z=>nomatch z) fun tk=>⟨.bl k,H,I.tok _,rfl,q⟩
def intD:PyData -> Bool
 | .int _=>true
 | .bool _=>true
 | _=>false
def WI:PyData -> Bool
 | .bool _=>true
 | _=>false
def X1:PyData -> Bool
 | .int _=>true
 | _=>false
theorem Zo {K:FG7}:∀ {d:PyData},PySem.W.kitOne K (.type (tyD d)) (.type "int") = some (intD d)
 | .none=>rfl
 | .bool _=>rfl
 | .int _=>rfl
 | .str _=>rfl
 | .list _=>rfl
 | .tuple _=>rfl
 | .dict _=>rfl
theorem vB {K:FG7}:∀ {d:PyData},PySem.W.kitOne K (.type (tyD d)) (.type "bool") = some (WI d)
 | .none=>rfl
 | .bool _=>rfl
 | .int _=>rfl
 | .str _=>rfl
 | .list _=>rfl
 | .tuple _=>rfl
 | .dict _=>rfl
def yM (K:FG7):Sp:=sp1 fun x H Q=>∃ d m,Od K m H x d /\ Q (.bl (X1 d)) H
mutual
def leD (B:Int):PyData -> Bool
 | .int i=>decide (-B <= i) && decide (i <= B)
 | .list xs | .tuple xs=>leDs B xs
 | .dict kvs=>leDk B kvs
 | .none | .bool _ | .str _=>true
def leDs (B:Int):List PyData -> Bool
 | []=>true
 | x :: xs=>leD B x && leDs B xs
def leDk (B:Int):List (PyData × PyData) -> Bool
 | []=>true
 | (k,v) :: r=>leD B k && leD B v && leDk B r
end
mutual
def wtO:PyData -> Nat
 | .list xs | .tuple xs=>wtOs xs + 3
 | .dict kvs=>wtOk kvs + 3
 | .int _=>1921
 | .none | .bool _=>5
 | .str x=>(reprText x).length
def wtOs:List PyData -> Nat
 | []=>0
 | x :: xs=>wtO x + 2 + wtOs xs
def wtOk:List (PyData × PyData) -> Nat
 | []=>0
 | (k,v) :: r=>wtO k + wtO v + 4 + wtOk r
end
mutual
theorem leD_mono {B B':Int} (h:B <= B'):∀ {d:PyData},leD B d = true -> leD B' d = true
 | .int i,z=>by
  simp only [leD,Bool.and_eq_true,decide_eq_true_eq] at z ⊢
  omega
 | .list xs,z=>leDs_mono h (xs:=xs) z
 | .tuple xs,z=>leDs_mono h (xs:=xs) z
 | .dict kvs,z=>leDk_mono h (kvs:=kvs) z
 | .none,_=>rfl
 | .bool _,_=>rfl
 | .str _,_=>rfl
theorem leDs_mono {B B':Int} (h:B <= B'):∀ {xs:List PyData},leDs B xs = true -> leDs B' xs = true
 | [],_=>rfl
 | x :: xs,z=>by
  have z':=Bool.and_eq_true_iff.mp (show (leD B x && leDs B xs) = true from z)
  show (leD B' x && leDs B' xs) = true
  rw [leD_mono h z'.1,leDs_mono h z'.2]; rfl
theorem leDk_mono {B B':Int} (h:B <= B'):∀ {kvs:List (PyData × PyData)},leDk B kvs = true -> leDk B' kvs = true
 | [],_=>rfl
 | (k,v) :: r,z=>by
  have z':=Bool.and_eq_true_iff.mp (show (leD B k && leD B v && leDk B r) = true from z)
  have z'':=Bool.and_eq_true_iff.mp z'.1
  show (leD B' k && leD B' v && leDk B' r) = true
  rw [leD_mono h z''.1,leD_mono h z''.2,leDk_mono h z'.2]; rfl
end
theorem wa {B:Int}:∀ {xs:List PyData},leDs B xs = true ↔ ∀ x ∈ xs,leD B x = true
 | []=>by simp [leDs]
 | x :: xs=>by simp [leDs,wa (xs:=xs)]
theorem v5:∀ {xs ys:List PyData},wtOs (xs ++ ys) = wtOs xs + wtOs ys
 | [],ys=>by simp [wtOs]
 | x :: xs,ys=>by
  show wtO x + 2 + wtOs (xs ++ ys) = wtO x + 2 + wtOs xs + wtOs ys
  rw [v5]; omega
def Bg:Int:=2 ^ 1000
mutual
theorem showable_le {B:Int} (hB:B <= Bg):∀ {d:PyData},leD B d = true -> d.showable = true
 | .int i,z=>by
  simp only [leD,Bool.and_eq_true,decide_eq_true_eq] at z
  have hb:Bg = 2 ^ 1000:=rfl
  show decide (i.natAbs.log2 < 1920) = true
  refine decide_eq_true ?_
  by_cases h0:i.natAbs = 0
  ·rw [h0]; decide
  ·rw [Nat.log2_lt h0]
   have h1:(i.natAbs:Int) <= Bg:=by omega
   have h2:i.natAbs <= 2 ^ 1000:=by rw [hb] at h1; exact_mod_cast h1
   exact Nat.lt_of_le_of_lt h2 (Nat.pow_lt_pow_right (by decide) (by decide))
 | .list xs,z=>showableAll_le hB (xs:=xs) z
 | .tuple xs,z=>showableAll_le hB (xs:=xs) z
 | .dict kvs,z=>showableKv_le hB (kvs:=kvs) z
 | .none,_=>rfl
 | .bool _,_=>rfl
 | .str _,_=>rfl
theorem showableAll_le {B:Int} (hB:B <= Bg):∀ {xs:List PyData},leDs B xs = true -> PyData.showableAll xs = true
 | [],_=>rfl
 | x :: xs,z=>by
  have z':=Bool.and_eq_true_iff.mp (show (leD B x && leDs B xs) = true from z)
  show (x.showable && PyData.showableAll xs) = true
  rw [showable_le hB z'.1,showableAll_le hB z'.2]; rfl
theorem showableKv_le {B:Int} (hB:B <= Bg):∀ {kvs:List (PyData × PyData)},leDk B kvs = true -> PyData.showableKv kvs = true
 | [],_=>rfl
 | (k,v) :: r,z=>by
  have z':=Bool.and_eq_true_iff.mp (show (leD B k && leD B v && leDk B r) = true from z)
  have z'':=Bool.and_eq_true_iff.mp z'.1
  show (k.showable && v.showable && PyData.showableKv r) = true
  rw [showable_le hB z''.1,showable_le hB z''.2,showableKv_le hB z'.2]; rfl
end
mutual
theorem shown_le:∀ {d:PyData},d.showable = true -> d.shown.length <= wtO d
 | .none,_=>by decide
 | .bool b,_=>by cases b <;> decide
 | .int i,h=>int_text_len_1921 (of_decide_eq_true h)
 | .str x,_=>Nat.le_refl _
 | .list xs,h=>by
  have q:=shown_les (xs:=xs) h
  have l:=listText_len_le (PyData.shownAll xs)
  show (listText (PyData.shownAll xs)).length <= wtOs xs + 3
  omega
 | .tuple xs,h=>by
  have q:=shown_les (xs:=xs) h
  have l:=tupleText_len_le (PyData.shownAll xs)
  show (tupleText (PyData.shownAll xs)).length <= wtOs xs + 3
  omega
 | .dict kvs,h=>by
  have q:=shown_lek (kvs:=kvs) h
  have l:=dictText_len_le (PyData.shownKv kvs)
  show (dictText (PyData.shownKv kvs)).length <= wtOk kvs + 3
  omega
theorem shown_les:∀ {xs:List PyData},PyData.showableAll xs = true -> ((PyData.shownAll xs).map (·.length)).sum + 2 * (PyData.shownAll xs).length <= wtOs xs
 | [],_=>by decide
 | x :: xs,h=>by
  have h':(x.showable && PyData.showableAll xs) = true:=h
  rw [Bool.and_eq_true] at h'
  have q1:=shown_le (d:=x) h'.1
  have q2:=shown_les (xs:=xs) h'.2
  show (((x.shown :: PyData.shownAll xs).map (·.length)).sum + 2 * (x.shown :: PyData.shownAll xs).length) <= wtO x + 2 + wtOs xs
  rw [List.map_cons,List.sum_cons,List.length_cons]
  omega
theorem shown_lek:∀ {kvs:List (PyData × PyData)},PyData.showableKv kvs = true -> ((PyData.shownKv kvs).map (·.length)).sum + 2 * (PyData.shownKv kvs).length <= wtOk kvs
 | [],_=>by decide
 | (k,v) :: r,h=>by
  have h':(k.showable && v.showable && PyData.showableKv r) = true:=h
  rw [Bool.and_eq_true,Bool.and_eq_true] at h'
  have q1:=shown_le (d:=k) h'.1.1
  have q2:=shown_le (d:=v) h'.1.2
  have q3:=shown_lek (kvs:=r) h'.2
  have e:(k.shown ++ ": " ++ v.shown).length = k.shown.length + 2 + v.shown.length:=by
   rw [strLen_append,strLen_append]; rfl
  show ((((k.shown ++ ": " ++ v.shown) :: PyData.shownKv r).map (·.length)).sum + 2 * ((k.shown ++ ": " ++ v.shown) :: PyData.shownKv r).length) <= wtO k + wtO v + 4 + wtOk r
  rw [List.map_cons,List.sum_cons,List.length_cons,e]
  omega
end
structure GdS (n k w:Nat) (ds:List PyData):Prop where
 le:leDs (10 ^ 30 + n) ds = true
 dp:PyData.depthAll ds <= k
 wt:wtOs ds <= w
structure GdD (n k w:Nat) (d:PyData):Prop where
 le:leD (10 ^ 30 + n) d = true
 dp:d.depth <= k
 wt:wtO d <= w
theorem rF {B:Int} {a b:List PyData} (ha:leDs B a = true) (hb:leDs B b = true):leDs B (a ++ b) = true:=wa.mpr fun x hx=>(List.mem_append.mp hx).elim (wa.mp ha x) (wa.mp hb x)
theorem yy {k:Nat}:∀ {xs:List PyData},PyData.depthAll xs <= k ↔ ∀ x ∈ xs,x.depth <= k
 | []=>by simp [PyData.depthAll]
 | x :: xs=>by
  show max x.depth (PyData.depthAll xs) <= k ↔ _
  rw [Nat.max_le,yy (xs:=xs)]
  simp
theorem GdS.append {n k w w':Nat} {a b:List PyData} (ha:GdS n k w a) (hb:GdS n k w' b):GdS n k (w + w') (a ++ b) :=
 ⟨rF ha.le hb.le,yy.mpr fun x hx=>(List.mem_append.mp hx).elim (yy.mp ha.dp x) (yy.mp hb.dp x),by rw [v5]; have:=ha.wt; have:=hb.wt; omega⟩
theorem GdS.sub {n k w:Nat} {a b:List PyData} (ha:GdS n k w a) (h:∀ x ∈ b,x ∈ a) (hw:wtOs b <= wtOs a):GdS n k w b :=
 ⟨wa.mpr fun x hx=>wa.mp ha.le x (h x hx),yy.mpr fun x hx=>yy.mp ha.dp x (h x hx),Nat.le_trans hw ha.wt⟩
theorem GdD.one {n k w:Nat} {d:PyData} (h:GdD n k w d):GdS n k (w + 2) [d]:=⟨by show (leD _ d && true) = true; rw [h.le]; rfl,by show max d.depth 0 <= k; have:=h.dp; omega,by show wtO d + 2 + 0 <= w + 2; have:=h.wt; omega⟩
theorem GdS.tup {n k w:Nat} {ds:List PyData} (h:GdS n k w ds):GdD n (k + 1) (w + 3) (.tuple ds):=⟨h.le,Nat.succ_le_succ h.dp,Nat.add_le_add_right h.wt 3⟩
theorem GdS.lst {n k w:Nat} {ds:List PyData} (h:GdS n k w ds):GdD n (k + 1) (w + 3) (.list ds):=⟨h.le,Nat.succ_le_succ h.dp,Nat.add_le_add_right h.wt 3⟩
theorem GdS.mono {n n' k k' w w':Nat} {ds:List PyData} (h:GdS n k w ds) (h1:n <= n') (h2:k <= k') (h3:w <= w'):GdS n' k' w' ds:=⟨leDs_mono (by omega) h.le,Nat.le_trans h.dp h2,Nat.le_trans h.wt h3⟩
theorem GdD.mono {n n' k k' w w':Nat} {d:PyData} (h:GdD n k w d) (h1:n <= n') (h2:k <= k') (h3:w <= w'):GdD n' k' w' d:=⟨leD_mono (by omega) h.le,Nat.le_trans h.dp h2,Nat.le_trans h.wt h3⟩
section
variable {K:FG7} {m:List Addr} {H:Hp} {x:V}
theorem Od.inv_tup {ds:List PyData} (h:Od K m H x (.tuple ds)):∃ a xs,x = .ref a /\ SqT K H a xs /\ Ods K m H xs ds:=by
 cases h with
 | tup h1 h2=>exact ⟨_,_,rfl,h1,h2⟩
theorem Od.inv_int {i:Int} (h:Od K m H x (.int i)):x = .int i:=by cases h; rfl
end
def spX1 (f:V -> Hp -> VK -> XK -> Prop):Sp:=fun vs H Q E=>∃ x,vs = [x] /\ f x H Q E
def spX2 (f:V -> V -> Hp -> VK -> XK -> Prop):Sp:=fun vs H Q E=>∃ x y,vs = [x,y] /\ f x y H Q E
def spX3 (f:V -> V -> V -> Hp -> VK -> XK -> Prop):Sp:=fun vs H Q E=>∃ x y z,vs = [x,y,z] /\ f x y z H Q E
theorem qB {f:V -> Hp -> VK -> XK -> Prop} {p:Str}:∀ vs H Q E,spX1 f vs H Q E -> vs.length = [p].length:=by rintro vs H Q E ⟨x,rfl,_⟩; rfl
theorem yC {f:V -> V -> Hp -> VK -> XK -> Prop} {p q:Str}:∀ vs H Q E,spX2 f vs H Q E -> vs.length = [p,q].length:=by rintro vs H Q E ⟨x,y,rfl,_⟩; rfl
theorem vC {f:V -> V -> V -> Hp -> VK -> XK -> Prop} {p q r:Str}:∀ vs H Q E,spX3 f vs H Q E -> vs.length = [p,q,r].length:=by rintro vs H Q E ⟨x,y,z,rfl,_⟩; rfl
def v6 (P:Program) (w:World) (K:FG7) (mg:Str -> Option Value) (base:Heap) (C:Addr) (k:Nat) (ps:List Str) (sp:Sp):Prop :=
 ∃ (j:Nat) (f:Addr) (fd:FuncData),j + 1 = k /\ FnOk P w K mg base (CX1 P w) j f fd ps sp /\ vm K fd ps [] /\ Mk K C f
section
variable {P:Program} {w:World} {K:FG7} {mg:Str -> Option Value} {base:Heap} {C:Addr} {j k:Nat} {m:Str} {ps:List Str} {sp:Sp}
theorem v6.mono (c:v6 P w K mg base C j ps sp) (h:j <= k):v6 P w K mg base C k ps sp:=by
 obtain ⟨i,f,fd,e,F,b,mt⟩:=c
 exact ⟨k - 1,f,fd,by omega,F.mono (by omega),b,mt⟩
end
def zk (l u:Int):PyData -> Bool
 | .int i=>decide (l <= i) && decide (i <= u)
 | _=>false
theorem wT {l u:Int} {d:PyData} (h:zk l u d = true):∃ i,d = .int i /\ l <= i /\ i <= u:=by
 cases d with
 | int i =>
  simp only [zk,Bool.and_eq_true,decide_eq_true_eq] at h
  exact ⟨i,rfl,h.1,h.2⟩
 | _=>cases h
def wb (K:FG7):Sp:=sp3 fun x y z H Q=>∃ (d:PyData) (m:List Addr) (l u:Int),Od K m H x d /\ y = .int l /\ z = .int u /\ Q (.bl (zk l u d)) H
def yR (K:FG7):Sp:=sp2 fun x y H Q=>∃ (k:Nat) (d:PyData) (m:List Addr),x = .int k /\ k <= 4 /\ Od K m H y d /\ Q (.bl (zk 0 ((2 ^ k:Nat) - 1) d)) H
def xv (A:Addr) (K:FG7):Sp:=spX1 fun x H Q E=>∃ (d:PyData) (m:List Addr),Od K m H x d /\ if zk 0 4 d = true then Q .non H else ∀ e,E (.ref e) (some A) H
def yD (A:Addr) (K:FG7):Sp:=spX2 fun x y H Q E=>∃ (k:Nat) (d:PyData) (m:List Addr),x = .int k /\ k <= 4 /\ Od K m H y d /\ if zk 0 ((2 ^ k:Nat) - 1) d = true then Q .non H else ∀ e,E (.ref e) (some A) H
theorem uS:entryFor table "dict.update.loop" = some Builtin.«dict.update.loop»:=entryFor_of_tree (by kernel_rfl)
theorem wc:plainId "dict.update.loop" = true:=by decide +kernel
def kvU:Nat -> List Value -> List (OKey × Value)
 | _,[]=>[]
 | n,u :: us=>(some (.inl (n:Int)),u) :: kvU (n + 1) us
def kvI:Nat -> List V -> List (V × V)
 | _,[]=>[]
 | n,v :: vs=>(V.int (n:Int),v) :: kvI (n + 1) vs
theorem Zp:∀ (n:Nat) (a b:List Value),kvU n (a ++ b) = kvU n a ++ kvU (n + a.length) b
 | n,[],b=>by rw [List.nil_append,List.length_nil,Nat.add_zero]; rfl
 | n,u :: a,b=>by
  show (some (.inl (n:Int)),u) :: kvU (n + 1) (a ++ b) = (some (.inl (n:Int)),u) :: (kvU (n + 1) a ++ kvU (n + (a.length + 1)) b)
  rw [Zp,show n + 1 + a.length = n + (a.length + 1) by omega]
theorem Zq:∀ (n:Nat) (a:List Value),(kvU n a).length = a.length
 | _,[]=>rfl
 | n,_ :: a=>congrArg (· + 1) (Zq (n + 1) a)
theorem YB:∀ (n:Nat) (a:List Value) (k:Nat),n + a.length <= k -> ∀ x ∈ kvU n a,x.1 ≠ some (.inl (k:Int))
 | n,[],k,h,x,hx=>absurd hx (by simp [kvU])
 | n,u :: a,k,h,x,hx=>by
  rw [List.length_cons] at h
  rcases List.mem_cons.mp hx with rfl | hx
  ·intro z
   have z':(n:Int) = k:=Sum.inl.inj (Option.some.inj z)
   omega
  ·exact YB (n + 1) a k (by omega) x hx
theorem Xf {a:List Value} {u:Value}:stored (kvU 0 a) (some (.inl ((a.length:Nat):Int))) u = kvU 0 (a ++ [u]):=by
 unfold stored
 rw [if_neg,Zp,Nat.zero_add]
 ·rfl
 ·intro z
  obtain ⟨x,hx,e⟩:=List.any_eq_true.mp z
  exact YB 0 a a.length (by omega) x hx (of_decide_eq_true e)
theorem qC:∀ (n:Nat) {vs:List V} {us:List Value},Vals vs us -> (kvI n vs).map (·.1) = (kvU n us).map fun p=>okV p.1
 | _,_,_,.nil=>rfl
 | n,_,_,.cons _ t=>by
  show V.int (n:Int) :: _ = V.int (n:Int) :: _
  rw [qC (n + 1) t]
theorem tF:∀ (n:Nat) (vs:List V),(kvI n vs).map (·.2) = vs
 | _,[]=>rfl
 | n,v :: vs=>congrArg (v :: ·) (tF (n + 1) vs)
theorem qD:∀ (n:Nat) (us:List Value),(kvU n us).map (·.2) = us
 | _,[]=>rfl
 | n,u :: us=>congrArg (u :: ·) (qD (n + 1) us)
def qE:Nat -> Nat -> List PyData
 | _,0=>[]
 | n,k + 1=>.int n :: qE (n + 1) k
theorem Zr {K:FG7} {m:List Addr} {H:Hp}:∀ (n:Nat) (vs:List V),Ods K m H ((kvI n vs).map (·.1)) (qE n vs.length)
 | _,[]=>.nil
 | n,v :: vs=>.cons (.int _) (Zr (n + 1) vs)
def PrsI (H:Hp) (zs vs:List V):Prop:=zs.length = vs.length /\ ∀ (i:Nat) (v:V),vs[i]? = some v -> ∃ t,zs[i]? = some (.ref t) /\ H t = some (.tup [.int i,v])
theorem sH:∀ {zs:List V} {us:List Value} {i:Nat} {u:Value},Vals zs us -> us[i]? = some u -> ∃ z,zs[i]? = some z /\ RelV z u
 | _,_,_,_,.nil,h=>by cases h
 | _,_,0,_,.cons r _,h=>by cases h; exact ⟨_,rfl,r⟩
 | _,_,i + 1,_,.cons _ t,h=>sH (i:=i) t h
section
variable {prog:Program} {w:World} {A:Around} {E:VS7} {R:Result -> Shared -> Prop} {I D:Addr} {fp wr:List Addr} {n:Nat} {P:Nat -> Value -> Prop} {St:Nat -> Heap -> Prop} {H:Hp} {s₀:Shared}
theorem jh {zs vs:List V} (ok:HOk prog w H s₀.heap) (W:Walks prog w A.in1 I fp wr n P St) (hDf:D ∉ fp) (hD:s₀.heap.objs.size <= D) (hwr:∀ b ∈ wr,s₀.heap.objs.size <= b)
  (hn:n <= sizeLine) (hpl:vs.length = n) (ha:PrsI H zs vs) (hP:∀ i v,P i v -> ∃ z,zs[i]? = some z /\ RelV z v) :
  ∀ (k i:Nat) (s:Shared),n - i = k -> i <= n -> St i s.heap -> (∀ b o,b ≠ D -> b ∉ wr -> s₀.heap.get? b = some o -> s.heap.get? b = some o) -> (∃ us,Vals (vs.take i) us /\ s.heap.DictOf (v3 prog w) D (kvU 0 us)) →
   (∀ h' tk,(∀ b o,b ≠ D -> b ∉ wr -> s₀.heap.get? b = some o -> h'.get? b = some o) -> (∃ us,Vals vs us /\ h'.DictOf (v3 prog w) D (kvU 0 us)) -> R (.ok (.ret .none)) { s with heap:=h',toks:=tk }) →
   codeAny (model prog w) A (.builtin "dict.update.loop" ⟨[.ref D,.ref I,rawInt i,.none],[]⟩) R s:=by
 have hDw:D ∉ wr:=fun h=>hDf (W.sub _ h)
 have old:∀ b o,s₀.heap.get? b = some o -> b ≠ D /\ b ∉ wr:=fun b o e=>⟨Nat.ne_of_lt (Nat.lt_of_lt_of_le (Heap.lt_size e) hD),fun z=>absurd (Heap.lt_size e) (Nat.not_lt.mpr (hwr b z))⟩
 intro k
 induction k with
 | zero =>
  intro i s hk hi hst kp hS hR
  have hin:i = n:=by omega
  subst hin
  refine codeAny_builtin uS ?_
  rw [Around.under_plainId wc _]
  show wpAny _ A.in1 (pyNext (.ref I) >>= _) _ _ s
  refine wpAny_bind (W.done s _ _ hst fun h' tk hm=>?_)
  show wpAny _ A.in1 (Builtin.Dict.addKeywords D [] >>= fun _=>ret Value.none) _ _ _
  unfold Builtin.Dict.addKeywords
  refine wpAny_bind (wpAny_pure (wpAny_pure (hR h' tk (fun b o h1 h2 e=>hm b o h2 (kp b o h1 h2 e)) ?_)))
  obtain ⟨us,v1,o,es,ep,ho,r⟩:=hS
  rw [← hpl,List.take_length] at v1
  exact ⟨us,v1,o,es,ep,hm D o hDw ho,r⟩
 | succ k ih =>
  intro i s hk hi hst kp hS hR
  have hlt:i < n:=by omega
  refine codeAny_builtin uS ?_
  rw [Around.under_plainId wc _]
  show wpAny _ A.in1 (pyNext (.ref I) >>= _) _ _ s
  refine wpAny_bind (W.item i s _ _ hlt hst fun v h1 tk1 hPv hst1 hk1=>?_)
  obtain ⟨z,hz,rz⟩:=hP i v hPv
  obtain ⟨x,hx⟩:∃ x,vs[i]? = some x:=⟨_,List.getElem?_eq_getElem (by omega)⟩
  obtain ⟨t,hzt,ht⟩:=ha.2 i x hx
  rw [hz] at hzt
  obtain rfl:=Option.some.inj hzt
  cases (show v = Value.ref t from rz)
  have kp1:∀ b o,b ≠ D -> b ∉ wr -> s₀.heap.get? b = some o -> h1.get? b = some o:=fun b o h1 h2 e=>hk1 b o h2 (kp b o h1 h2 e)
  have kps:∀ b o,s₀.heap.get? b = some o -> h1.get? b = some o:=fun b o e=>kp1 b o (old b o e).1 (old b o e).2 e
  obtain ⟨_,its,rits,hit⟩:=(show ye prog w H s₀.heap t (.tup [.int i,x]) from ok t _ ht)
  obtain ⟨u1,uv,rfl,r1,rv⟩:∃ u1 uv,its = [u1,uv] /\ RelV (.int i) u1 /\ RelV x uv:=by
   cases rits with
   | cons a c=>cases c with | cons b d=>cases d; exact ⟨_,_,rfl,a,b⟩
  obtain ⟨tk,rfl⟩:=r1
  obtain ⟨ot,hot,hct,m,hdt⟩:=hit
  have hot1:=kps t ot hot
  obtain ⟨us,v1,o,es,ep,ho,r⟩:=hS
  have ul:us.length = i:=by have:=v1.length; rw [List.length_take] at this; omega
  have dd:h1.DictOf (v3 prog w) D (kvU 0 us):=⟨o,es,ep,hk1 D o hDw ho,r⟩
  have tkS:vs.take (i + 1) = vs.take i ++ [x]:=by rw [List.take_succ,hx]; rfl
  refine wpAny_bind (wpAny_holding ?_)
  show wpAny _ A.in1 ((Builtin.Dict.pairItems (.ref t)).tryCatch _ >>= _) _ _ _
  refine wpAny_bind (wpAny_tryCatch ?_)
  unfold Builtin.Dict.pairItems
  refine wpAny_bind (wpAny_typeOf (T:="tuple") ⟨ot,hot1,hct⟩ ?_)
  show wpAny _ _ (if (Value.type "tuple" == Value.type "list" || Value.type "tuple" == Value.type "tuple") = true then _ else _) _ _ _
  rw [if_pos (by decide)]
  refine wpAny_bind (wpAny_seqItems hot1 hdt (wpAny_pure ?_))
  show wpAny _ _ (holding [Value.int i tk,uv] (dictSet D (.int i tk) uv)) _ _ _
  refine wpAny_holding ?_
  refine wpAny_dictSet_pairs (knd:=v3 prog w) (k:=some (.inl (i:Int))) (hsz:=by rw [Zq]; omega) (show okIs (some (.inl (i:Int))) (.int i tk) = true from tS i tk) dd fun h2 dd2 sb=>?_
  refine wpAny_pure ⟨plainId_quiet wc _,?_⟩
  have e1:((i:Int) + 1) = ((i + 1:Nat):Int):=by omega
  have kp2:∀ b o,b ≠ D -> b ∉ wr -> s₀.heap.get? b = some o -> h2.get? b = some o:=fun b o hb hw e=>sb.extBut b o hb (kp1 b o hb hw e)
  show codeAny (model prog w) A (.builtin "dict.update.loop" ⟨[.ref D,.ref I,rawInt ((i:Int) + 1),.none],[]⟩) R _
  rw [e1]
  refine ih (i + 1) _ (by omega) hlt (W.frame _ _ _ hst1 fun b hb o e=>sb.extBut b o (fun h=>hDf (h ▸ hb)) e) kp2 ⟨us ++ [uv],by rw [tkS]; exact v1.append (.cons rv .nil),?_⟩ fun h' tk k' d'=>hR h' tk k' d'
  have e2:((i:Nat):Int) = ((us.length:Nat):Int):=by rw [ul]
  rw [e2,Xf] at dd2
  exact dd2
end
section
variable {X:Cx}
theorem ji {k:Nat} (hr:Room k X.A):xD X (.type "dict") (fun xs H Q=>∃ a zs vs,xs = [V.ref a] /\ H a = some (.lst zs) /\ PrsI H zs vs /\ ∀ l,H l = none -> l ≠ sysModules -> Q (.ref l) (upd H l (DcO l (kvI 0 vs)))):=by
 intro pins s σ H xs us Q I r h
 obtain ⟨a,zs,vs,rfl,ha,hall,q⟩:=h
 obtain ⟨u,rfl,ru⟩:=we r
 cases ru
 obtain ⟨z,its,m,rits,ea⟩:=(show ye X.prog X.w H s.heap a (.lst zs) from I.hok a _ ha)
 have zl:=hall.1
 have il:=rits.length
 refine callType_codes (Q₁:=fun obj s₁=>obj = .ref s.heap.objs.size /\ s₁ = { s with heap:=s.heap.push { cls:=.type "dict",data:=.dict #[] } }) F.kt_called_dict (F.kt_typeCall_dict_1 _) F.entry_dict_init (kt_code_dict_new _ ⟨rfl,rfl⟩) ?_
 rintro obj s₁ ⟨rfl,rfl⟩
 have hT:(s.heap.push { cls:=.type "dict",data:=.dict #[] }).get? s.heap.objs.size = some { cls:=.type "dict",data:=.dict #[] }:=Heap.get?_push_size _ rfl
 refine ⟨⟨_,hT,rfl⟩,F.args_dict_init_2 _ _,?_⟩
 unfold Builtin.«dict.__init__»
 refine wpAny_bind ?_
 unfold Builtin.Dict.selfAndRest
 refine wpAny_bind (wpAny_notOrdered_dict ⟨_,hT,rfl⟩ (show wpAny _ _ (pure (s.heap.objs.size,[Value.ref a])) _ _ _ from wpAny_pure ?_))
 show wpAny _ _ (Builtin.Dict.updateFrom "dict.__init__" s.heap.objs.size (.ref a) [] .none) _ _ _
 unfold Builtin.Dict.updateFrom
 have ea1:(s.heap.push { cls:=.type "dict",data:=.dict #[] }).get? a = some { cls:=.type "list",data:=.seq its.toArray m }:=Heap.get?_push_of_some _ ea
 refine wpAny_bind (wpAny_typeOf (T:="list") ⟨_,ea1,rfl⟩ ?_)
 rw [if_pos (by decide)]
 refine wpAny_bind (up ea1 hr.hd fun h1 tk1 k1=>?_)
 rw [if_pos (by rfl)]
 refine wpAny_bind (wpAny_rule ?_)
 have eah:h1.get? a = some { cls:=.type "list",data:=.seq its.toArray m }:=k1 _ _ ea1
 have hla:h1.IsList a its.toArray:=⟨_,eah,rfl,_,rfl⟩
 have hsz:s.heap.objs.size < h1.objs.size:=Heap.lt_size (k1 _ _ hT)
 have ks:∀ b o,s.heap.get? b = some o -> h1.get? b = some o:=fun b o e=>k1 b o (Heap.get?_push_of_some _ e)
 have alt:a < h1.objs.size:=Heap.lt_size eah
 refine wpAny_bind (wpAny_pyIter_list (l:=a) (items:=its.toArray) hla ?_)
 refine wpAny_pure ⟨plainId_quiet wc _,?_⟩
 refine jh (A:=X.A.in1) (H:=H) (s₀:=s) (D:=s.heap.objs.size) (I:=h1.objs.size) I.hok (Walks.list (A:=X.A.in1.in1) hr.hd h1.objs.size a (Nat.ne_of_lt alt) its.toArray) ?_ (Nat.le_refl _) ?_ (by rw [List.size_toArray,← il]; exact z) (by rw [List.size_toArray,← il,zl]) hall ?_ _ 0 _ rfl (Nat.zero_le _) ⟨⟨_,Heap.get?_push_size _ rfl,rfl,rfl⟩,hla.push _⟩ (fun b o _ _ e=>Heap.get?_push_of_some _ (ks b o e)) ⟨[],.nil,_,#[],0,Heap.get?_push_of_some _ (k1 _ _ hT),⟨rfl,rfl,rfl⟩,rfl,fun e he=>by simp at he,.nil,List.nodup_nil⟩ ?_
 ·intro hm
  simp only [List.mem_cons,List.mem_nil_iff,or_false] at hm
  rcases hm with e | e
  ·exact absurd e (Nat.ne_of_lt hsz)
  ·rw [← e] at ea; exact absurd (Heap.lt_size ea) (Nat.lt_irrefl _)
 ·intro b hb
  rw [List.mem_singleton.mp hb]; exact Nat.le_of_lt hsz
 ·intro i v hv
  exact sH rits (show its[i]? = some v by simpa using hv)
 ·rintro h' tk kp' ⟨us,vv,o,es,ep,ho,hx,hd,_,prs,_⟩
  obtain ⟨v1,e2⟩:=wS prs
  have hf:H s.heap.objs.size = none:=I.hok.fresh (Nat.le_refl _)
  refine ⟨rfl,.ref s.heap.objs.size,_,I.laid (t':=tk) (o:=DcO s.heap.objs.size (kvI 0 vs)) (fun b ob e=>kp' b ob (Nat.ne_of_lt (Heap.lt_size e)) (fun w=>?_) e) (Nat.le_refl _) ⟨⟨o,es,ep,ho,hx.1,hd,by rw [qC 0 vv]; exact v1,by rw [tF,e2,qD]; exact vv⟩,⟨o,ho⟩,fun h1 h2 hφ hk=>?_⟩,rfl,q _ hf (Nat.ne_of_gt (v4 I))⟩
  ·have:=Heap.lt_size e
   rw [List.mem_singleton.mp w] at this; exact absurd hsz (Nat.not_lt.mpr (Nat.le_of_lt this))
  ·obtain ⟨o',es',n',a1,a2⟩:=hφ
   exact ⟨o',es',n',hk _ a1,a2⟩
end
section
variable {X:Cx} {K:FG7}
theorem Xg:OpR X (binaryOp .Mult) (fun x y H Q=>∃ (z:Str) (n:Nat),x = .str z /\ y = .int n /\ z.length = 1 /\ n <= 100 /\ ∀ z',Q (.str z') H):=by
 intro pins s σ H x y v u Q I rx ry h
 obtain ⟨z,n,rfl,rfl,hz,hn,q⟩:=h
 obtain ⟨t1,rfl⟩:=rx
 obtain ⟨t2,rfl⟩:=ry
 refine SB.mul ⟨?_,fun _ _=>?_,fun _ _=>?_⟩ fun t' k=>⟨.str _,H,I.kept (t':=k) fun b o e=>e,⟨t',rfl⟩,q _⟩
 ·have h1:¬ ((n:Int) < -(2 ^ 63:Int)):=by omega
  have h2:¬ ((n:Int) >= 2 ^ 63):=by omega
  rw [decide_eq_false h1,decide_eq_false h2]; rfl
 ·rw [hz]
  intro c
  have:(0:Int) < n:=by omega
  have h3:((2:Int) ^ 63 - 1) / n >= 1:=Int.le_ediv_of_mul_le this (by omega)
  omega
 ·rw [hz,Nat.one_mul,Int.toNat_natCast]
  have h4:100 < sizeLine:=by decide
  exact decide_eq_false (by omega)
theorem Yh {k:Nat} (hK:X.K = K) (hr:Room k X.A):OpR X (compareOp .Eq) (fun x y H Q=>∃ a b xs,x = .ref a /\ y = .ref b /\ SqL K H a xs /\ SqL K H b [] /\ Q (.bl xs.isEmpty) H):=by
 subst hK
 intro pins s σ H x y v u Q I rx ry h
 obtain ⟨a,b,xs,rfl,rfl,ha,hb,q⟩:=h
 cases rx; cases ry
 obtain ⟨us,r1,t1,_⟩:=I.list ha
 obtain ⟨ws,r2,t2,_⟩:=I.list hb
 have hw:ws.length = 0:=r2.length.symm
 by_cases hl:us.length = ws.length
 ·refine SeqAt.RcAt.lists (e:=fun _=>true) t1.isList t2.isList (by simpa using hl) hr.units0 (fun j h1 h2=>absurd h2 (by simp; omega)) _ _ _ _ ?_
  have e:xs = []:=List.length_eq_zero_iff.mp (by rw [r1.length]; omega)
  subst e
  have e2:us = []:=List.length_eq_zero_iff.mp (by omega)
  subst e2
  exact ⟨.bl _,H,I,rfl,q⟩
 ·refine SeqAt.RcAt.lists_lengths t1.isList t2.isList (by simpa using hl) hr.units0 _ _ _ _ ?_
  have e:xs.isEmpty = false:=by
   cases xs with
   | nil=>exact absurd (by rw [← r1.length]; exact hw.symm) hl
   | cons _ _=>rfl
  rw [e] at q
  exact ⟨.bl _,H,I,rfl,q⟩
end
theorem PS.noxF {X:Cx} {st:Stmt} {t:TS} (h:PS X.nox st t):PS X st t:=fun pins s σ H D I hw =>
 wpAny_mono (h pins s σ H D (I.wish _) hw) (fun _ _ q=>q.unwish) fun _ _ z=>False.elim z
def yP (k:Nat):PyData -> Bool
 | .tuple ds=>decide (ds.length = 2 ^ k / 2) && ds.all (zk 0 1)
 | _=>false
def setP (k:Nat):PyData -> Bool
 | .tuple ds=>decide (ds.length = k) && ds.all (yP k)
 | _=>false
section
variable {K:FG7} {m:List Addr} {H:Hp}
theorem qF:∀ {xs:List V} {ds:List PyData},Ods K m H xs ds -> ds.all (zk 0 1) = true -> ∃ row:List Int,xs = row.map V.int /\ ds = row.map .int /\ ∀ b ∈ row,b = 0 \/ b = 1
 | _,_,.nil,_=>⟨[],rfl,rfl,fun b h=>absurd h (by simp)⟩
 | _,_,.cons o t,h=>by
  rw [List.all_cons,Bool.and_eq_true] at h
  obtain ⟨i,rfl,i0,i1⟩:=wT h.1
  obtain rfl:=o.inv_int
  obtain ⟨row,rfl,rfl,hb⟩:=qF t h.2
  exact ⟨i :: row,rfl,rfl,fun b hb'=>by
   rcases List.mem_cons.mp hb' with rfl | hb'
   ·omega
   ·exact hb b hb'⟩
theorem Zs {k:Nat} {x:V} {d:PyData} (o:Od K m H x d) (h:yP k d = true):∃ row:List Int,zS K H x row /\ d = rowD row /\ row.length = 2 ^ k / 2 /\ ∀ b ∈ row,b = 0 \/ b = 1:=by
 cases d with
 | tuple ds =>
  obtain ⟨a,xs,rfl,hs,ha⟩:=o.inv_tup
  have h':(decide (ds.length = 2 ^ k / 2) && ds.all (zk 0 1)) = true:=h
  rw [Bool.and_eq_true,decide_eq_true_eq] at h'
  obtain ⟨row,rfl,rfl,hb⟩:=qF ha h'.2
  exact ⟨row,⟨a,rfl,hs⟩,rfl,by have:=h'.1; rwa [List.length_map] at this,hb⟩
 | _=>cases h
theorem uT {k:Nat}:∀ {xs:List V} {ds:List PyData},Ods K m H xs ds -> ds.all (yP k) = true -> ∃ rows:List (List Int),AllR (zS K H) xs rows /\ ds = rows.map rowD /\ ∀ r ∈ rows,r.length = 2 ^ k / 2 /\ ∀ b ∈ r,b = 0 \/ b = 1
 | _,_,.nil,_=>⟨[],trivial,rfl,fun r h=>absurd h (by simp)⟩
 | _,_,.cons o t,h=>by
  rw [List.all_cons,Bool.and_eq_true] at h
  obtain ⟨row,b1,e1,l1,h1⟩:=Zs o h.1
  obtain ⟨rows,b2,e2,h2⟩:=uT t h.2
  exact ⟨row :: rows,⟨b1,b2⟩,by rw [List.map_cons,e1,e2],fun r hr=>by
   rcases List.mem_cons.mp hr with rfl | hr
   ·exact ⟨l1,h1⟩
   ·exact h2 r hr⟩
theorem Yi {k:Nat} {x:V} {d:PyData} (o:Od K m H x d) (h:setP k d = true):∃ rows,vg K H x rows /\ j5 k rows /\ d = rn rows:=by
 cases d with
 | tuple ds =>
  obtain ⟨a,xs,rfl,hs,ha⟩:=o.inv_tup
  have h':(decide (ds.length = k) && ds.all (yP k)) = true:=h
  rw [Bool.and_eq_true,decide_eq_true_eq] at h'
  obtain ⟨rows,b,e,hr⟩:=uT ha h'.2
  have hl:rows.length = k:=by have:=h'.1; rw [e,List.length_map] at this; exact this
  refine ⟨rows,⟨a,xs,rfl,hs,b⟩,⟨hl,fun r hm=>?_⟩,by rw [e]; rfl⟩
  have k1:1 <= k:=by have:=List.length_pos_of_mem hm; omega
  rw [← rm k1]
  exact hr r hm
 | _=>cases h
theorem Xh {row:List Int} {x:V} (h:zS K H x row):Od K m H x (rowD row):=by
 obtain ⟨r,rfl,hs⟩:=h
 exact .tup hs (by
  clear hs
  induction row with
  | nil=>exact .nil
  | cons i row ih=>exact .cons (.int _) ih)
theorem tG:∀ {xs:List V} {rows:List (List Int)},AllR (zS K H) xs rows -> Ods K m H xs (rows.map rowD)
 | [],[],_=>.nil
 | _ :: _,_ :: _,⟨h,t⟩=>.cons (Xh h) (tG t)
 | [],_ :: _,h=>h.elim
 | _ :: _,[],h=>h.elim
theorem qG {rows:List (List Int)} {x:V} (h:vg K H x rows):Od K m H x (rn rows):=by
 obtain ⟨r,xs,rfl,hs,ha⟩:=h
 exact .tup hs (tG ha)
end
def sI (K:FG7):Sp:=sp2 fun x y H Q=>∃ (k:Nat) (d:PyData) (m:List Addr),x = .int k /\ k <= 4 /\ Od K m H y d /\ ∀ H',Grow [] H H' -> Q (.bl (yP k d)) H'
def Zt (K:FG7):Sp:=sp2 fun x y H Q=>∃ (k:Nat) (d:PyData) (m:List Addr),x = .int k /\ k <= 4 /\ Od K m H y d /\ ∀ H',Grow [] H H' -> Q (.bl (setP k d)) H'
def Zu (K:FG7):Sp:=sp3 fun x y z H Q=>∃ (a:Addr) (xs:List V) (i:Nat),x = .ref a /\ SqT K H a xs /\ y = .int i /\ i < xs.length /\ xs.length <= 100 /\ ∀ p H',Grow [] H H' -> SqT K H' p ((xs.take i ++ [z]) ++ xs.drop (i + 1)) -> Q (.ref p) H'
theorem xh {K:FG7}:∀ {d:PyData},PySem.W.kitOne K (.type (tyD d)) (.type "tuple") = some (match d with | .tuple _=>true | _=>false)
 | .none=>rfl
 | .bool _=>rfl
 | .int _=>rfl
 | .str _=>rfl
 | .list _=>rfl
 | .tuple _=>rfl
 | .dict _=>rfl
theorem wH {α:Type} {p:α -> Bool}:∀ {l:List α},(l.map p).all id = l.all p
 | []=>rfl
 | a :: l=>by rw [List.map_cons,List.all_cons,List.all_cons,wH]; rfl
theorem sJ {α β:Type} {f:α -> β} {l:List α} {i:Nat} {a:α} (h:l[i]? = some a):(l.take (i + 1)).map f = (l.take i).map f ++ [f a]:=by
 rw [List.take_succ,h,List.map_append]; rfl
theorem sK {vs es:List Expr} {p:Pos} {env:Env}:starEach (.List vs p :: es) env = (false,eval (.List vs p) env) :: starEach es env:=by rfl
section
variable {K:FG7} {a:Addr} {xs:List V} {k:Nat} {te:TE} {Q:VK} {σ:L2.St} {H:Hp}
theorem xn (Pv:Nat -> List V -> Hp -> Prop) (h0:Pv 0 [] H) (hl:∀ i ys H',Pv i ys H' -> SqT K H' a xs)
  (hs:∀ i x ys H',xs[i]? = some x -> Pv i ys H' -> te (σ.set k (some x)) H' fun y H5=>ys.length < sizeLine /\ Pv (i + 1) (ys ++ [y]) H5)
  (hd:∀ ys H',Pv xs.length ys H' -> ∀ l,H' l = none -> Q (.ref l) (upd H' l (.lst ys))):vn (Itt K a) σ H (wP k) qU te Q :=
 qW (fun _=>true) Pv h0 hl (fun _ _ _ _ h=>h) (fun i x ys H' hx p _=>hs i x ys H' hx p) (fun _ _ _ _ _ _ z=>nomatch z) hd
end
theorem Zv {α:Type} {p:α -> Bool}:∀ {l:List α},(l.filter fun a=>!(p a)).isEmpty = l.all p
 | []=>rfl
 | a :: l=>by
  rw [List.filter_cons,List.all_cons]
  cases p a with
  | true=>exact Zv
  | false=>rfl
theorem X2 {α:Type} {p:α -> Bool} {l:List α} {i:Nat} {a:α} (h:l[i]? = some a):(l.take (i + 1)).filter p = (l.take i).filter p ++ if p a = true then [a] else []:=by
 rw [List.take_succ,h,List.filter_append]
 show _ ++ ([a].filter p) = _
 rw [List.filter_cons]
 cases p a <;> rfl
theorem YC {α:Type} {x:α}:∀ n:Nat,(List.replicate n [x]).flatten = List.replicate n x
 | 0=>rfl
 | n + 1=>by rw [List.replicate_succ,List.flatten_cons,YC n]; rfl
theorem X3 {xs:List V} {i:Nat} (h:i <= xs.length):cutV xs none (some (i:Int)) = xs.take i:=by
 unfold cutV; rw [HT.sIx_none,HT.sIx_nat,Nat.sub_zero,List.drop_zero,Nat.min_eq_left h]
theorem X4 {xs:List V} {i:Nat} (h:i <= xs.length):cutV xs (some (i:Int)) none = xs.drop i:=by
 unfold cutV; rw [HT.sIx_none,HT.sIx_nat,Nat.min_eq_left h,List.take_of_length_le (by rw [List.length_drop]; omega)]
theorem occF {H H':Hp} {p:Addr} {m:List Addr} (g:Grow [p] H H') (pp:zB H' p) (h:∀ b ∈ m,H b ≠ none):∀ b ∈ m,H' b ≠ none:=fun b hb z=>by
 by_cases e:b = p
 ·subst e
  obtain ⟨x,y,w,hz,_⟩:=pp
  rw [hz] at z; cases z
 ·exact h b hb (g.free (by simpa using e) z)
theorem Xi {K:FG7} {m:List Addr} {H:Hp}:∀ {row:List Int},Ods K m H (row.map V.int) (row.map .int)
 | []=>.nil
 | _ :: _=>.cons (.int _) Xi
theorem wU:∀ (n k:Nat),(qE n k).length = k
 | _,0=>rfl
 | n,k + 1=>congrArg (· + 1) (wU (n + 1) k)
theorem Yj {K:FG7} {m:List Addr} {H:Hp} {l:Addr} {vs:List V} {dv:List PyData} (h:H l = some (DcO l (kvI 0 vs))) (n1:l ∉ m) (n2:l ≠ sysModules) (o:Ods K m H vs dv):Od K m H (.ref l) (.dict ((qE 0 vs.length).zip dv)):=by
 have hl:=o.length
 refine .dct h n1 n2 ?_ ?_
 ·rw [List.map_fst_zip (by rw [wU]; omega)]; exact Zr 0 vs
 ·rw [List.map_snd_zip (by rw [wU]; omega),tF]; exact o
theorem YD {K:FG7} {m:List Addr} {H:Hp}:∀ {n:Nat},Ods K m H (List.replicate n (V.int 0)) (List.replicate n (.int 0))
 | 0=>.nil
 | n + 1=>.cons (.int _) YD
theorem Yk:∀ {a b:List Int},rowD a = rowD b -> a = b:=by
 have go:∀ {a b:List Int},a.map PyData.int = b.map PyData.int -> a = b:=by
  intro a
  induction a with
  | nil=>intro b h; cases b with | nil=>rfl | cons _ _=>cases h
  | cons x a ih =>
   intro b h
   cases b with
   | nil=>cases h
   | cons y b =>
    rw [List.map_cons,List.map_cons] at h
    injection h with h1 h2
    injection h1 with h1
    rw [h1,ih h2]
 intro a b h
 exact go (PyData.tuple.inj h)
theorem Zw:∀ {a b:List (List Int)},rn a = rn b -> a = b:=by
 have go:∀ {a b:List (List Int)},a.map rowD = b.map rowD -> a = b:=by
  intro a
  induction a with
  | nil=>intro b h; cases b with | nil=>rfl | cons _ _=>cases h
  | cons x a ih =>
   intro b h
   cases b with
   | nil=>cases h
   | cons y b =>
    rw [List.map_cons,List.map_cons] at h
    injection h with h1 h2
    rw [Yk h1,ih h2]
 intro a b h
 exact go (PyData.tuple.inj h)
section
variable {prog:Program} {w:World} {A:Around} {E:VS7} {s:Shared}
theorem v7 {it t:Addr} {items:Array Value} (hne:t ≠ it):∀ (n i:Nat) (s:Shared) (Q:List Value -> Shared -> Prop),s.heap.IsListIter it t i -> s.heap.IsList t items -> i + n <= items.size →
  (∀ h',h'.IsListIter it t (i + n) -> Heap.SameBut it s.heap h' -> Q ((items.toList.drop i).take n) { s with heap:=h' }) -> wpAny (model prog w) A (draw (.ref it) n) Q E s
 | 0,i,s,Q,hit,_,_,hQ=>by
  show wpAny _ _ (pure []) Q E s
  exact wpAny_pure (by simpa using hQ s.heap hit (Heap.SameBut.refl ..))
 | n + 1,i,s,Q,hit,ht,hle,hQ=>by
  have hlt:i < items.size:=by omega
  show wpAny _ _ (pyNext (.ref it) >>= _) Q E s
  refine wpAny_bind (wpAny_pyNext_list_item hit ht (x:=items[i]) (by simp [hlt]) fun h₁ hit₁ hs₁=>?_)
  refine wpAny_bind (wpAny_holding (v7 hne n (i + 1) _ _ hit₁ (ht.extBut hs₁.extBut hne) (by omega) fun h₂ hit₂ hs₂=>wpAny_pure ?_))
  have hd:items.toList.drop i = items[i] :: items.toList.drop (i + 1):=by simp [List.drop_eq_getElem_cons,hlt]
  have:=hQ h₂ (by rw [show i + (n + 1) = i + 1 + n by omega]; exact hit₂) (hs₁.trans hs₂)
  rw [hd,List.take_succ_cons] at this
  exact this
theorem wI {t:Addr} {items:Array Value} {Q:List Value -> Shared -> Prop} (hh:A.handled = none) (ht:s.heap.IsList t items)
  (hQ:∀ h',Heap.ExtBut s.heap.objs.size s.heap h' -> Q items.toList { s with heap:=h' }):wpAny (model prog w) A (unpackItems (.ref t) items.size none) Q E s:=by
 have hlt:t ≠ s.heap.objs.size:=by obtain ⟨o,ho,_⟩:=ht; exact Nat.ne_of_lt (Heap.lt_size ho)
 unfold unpackItems
 refine wpAny_bind ?_
 ·unfold notIterableAtAll
  refine wpAny_bind (wpAny_specialOf ht.typeIs F.slot_list_iter.lookup ?_)
  refine wpAny_pure ?_
  simp only [Bool.false_eq_true,if_false]
  refine wpAny_bind (wpAny_holding (wpAny_pyIter_list ht ?_))
  refine wpAny_bind (wpAny_holding (v7 hlt items.size 0 _ _ ⟨_,Heap.get?_push_size _ rfl,rfl,rfl⟩ (ht.push _) (by omega) fun h₁ hit₁ hs₁=>?_))
  have hall:List.take items.size (List.drop 0 items.toList) = items.toList:=by
   rw [List.drop_zero]; exact List.take_of_length_le (by simp)
  rw [hall]
  rw [if_neg (by simp)]
  have ht₁:h₁.IsList t items:=(ht.push _).extBut hs₁.extBut hlt
  refine wpAny_bind (wpAny_holding (wpAny_pyNext_list_end hh hit₁ ht₁ (by simp) fun h₂ he₂=>?_))
  simp only [Option.isSome_none,Bool.false_eq_true,if_false]
  refine wpAny_pure (hQ h₂ fun b o hb e=>he₂ b o hb (hs₁.extBut b o hb (Heap.get?_push_of_some _ e)))
theorem wz {env:Env} {elts:List Expr} {x1} {pos:Pos} {t:Addr} {items:Array Value} {Q:Unit -> Shared -> Prop} (hh:A.handled = none) (ht:s.heap.IsList t items)
  (hn:(assignEach elts env).length = items.size) (hstar:(assignEach elts env).findIdx? (·.1) = none)
  (h:∀ h',Heap.ExtBut s.heap.objs.size s.heap h' -> wpAny (model prog w) A (assignInOrder ((assignEach elts env).map (·.2)) items.toList) Q E { s with heap:=h' }) :
  wpAny (model prog w) A (assign (.Tuple elts x1 pos) env (.ref t)) Q E s:=by
 rw [assign_Tuple]
 refine wpAny_bind (wpAny_standAt ?_)
 unfold unpack
 rw [hn,hstar]
 exact wpAny_bind (wpAny_holding (wI hh ht h))
end
section
variable {X:Cx} {pos:Pos}
def X5 (K:FG7) (n:Nat) (t:TGs):TG:=fun v σ H Q=>∃ a xs,v = .ref a /\ SqL K H a xs /\ xs.length = n /\ t xs σ H Q
theorem vD {es:List Expr} {k:Nat} {t:TGs} {n:Nat} (hc:X.calm = true) (h:PGs X es t)
  (hn:(assignEach es X.env).length = n:=by rfl) (hst:(assignEach es X.env).findIdx? (·.1) = none:=by rfl):PG X (.Tuple es k pos) (X5 X.K n t):=by
 intro pins s σ H v u Q I r hw
 obtain ⟨a,xs,e1,hq,hl,hw⟩:=hw
 subst e1
 cases r
 obtain ⟨its,rv,ht,hz⟩:=I.list hq
 refine wz (I.ok.hd hc) ht.isList (by simp [hn,← hl,rv.length]) hst fun h' hx=>?_
 have I1:Inv X pins σ H { s with heap:=h' }:=I.kept (t':=s.toks) fun b o e=>hx b o (Nat.ne_of_lt (Heap.lt_size e)) e
 exact h pins _ σ H xs _ Q I1 (by simpa using rv) hw
end
inductive Cl37 where
 | net | hand | side | sett
def clsA (AN AH AS AT:Addr):Cl37 -> Addr
 | .net=>AN | .hand=>AH | .side=>AS | .sett=>AT
def zF (k:Nat) (d:PyData):Bool:=zk 0 ((2 ^ k:Nat) - 1) d
def kOf:PyData -> Nat
 | .int i=>i.toNat
 | _=>0
theorem zW {k:Nat}:kOf (.int (k:Int)) = k:=Int.toNat_natCast k
theorem xi {d:PyData} (h:zk 0 4 d = true):∃ k:Nat,d = .int k /\ k <= 4:=by
 obtain ⟨i,rfl,h0,h1⟩:=wT h
 exact ⟨i.toNat,by congr 1; omega,by omega⟩
theorem yb {k:Nat} {d:PyData} (h:zF k d = true):∃ n:Nat,d = .int n /\ n < 2 ^ k:=by
 obtain ⟨i,rfl,h0,h1⟩:=wT h
 exact ⟨i.toNat,by congr 1; omega,by omega⟩
def yw (d0:PyData) (o:Option Cl37):Option Cl37:=if zk 0 4 d0 = true then o else some .net
theorem yE {d0:PyData} (h:zk 0 4 d0 = true) (o:Option Cl37):yw d0 o = o:=if_pos h
theorem yF {d0:PyData} (h:zk 0 4 d0 = false) (o:Option Cl37):yw d0 o = some .net:=if_neg (by rw [h]; decide)
def xo (k:Nat) (d1 d3:PyData):Option Cl37:=if zF k d1 = true then (if zF k d3 = true then none else some .side) else some .hand
def wn (c:Cl37) (k:Nat) (d1 d2:PyData):Option Cl37:=if (zF k d1 && zF k d2 && !(decide (kOf d1 = kOf d2))) = true then none else some c
def xj:PyData -> Bool
 | .tuple [_,_]=>true
 | _=>false
def fstD:PyData -> PyData
 | .tuple (a :: _)=>a
 | _=>.none
def sndD:PyData -> PyData
 | .tuple (_ :: b :: _)=>b
 | _=>.none
def uU:PyData -> Bool
 | .tuple ds=>ds.all xj
 | _=>false
def xB:PyData -> List PyData
 | .tuple ds=>ds
 | _=>[]
def xQ (k:Nat) (ds:List PyData):Bool:=ds.all fun p=>zF k (fstD p)
def xR (k:Nat) (ds:List PyData):Bool:=ds.all fun p=>zF k (sndD p)
def xS (k:Nat) (d:PyData):Option Cl37:=if (uU d && xQ k (xB d)) = true then (if xR k (xB d) = true then none else some .side) else some .hand
def xC (k:Nat):PyData -> Bool
 | .tuple ds=>decide (ds.length = 2 ^ k) && ds.all (zF k)
 | _=>false
def wd (k:Nat) (d:PyData):Option Cl37:=if xC k d = true then none else some .side
def wo (k:Nat) (d:PyData):Option Cl37:=if setP k d = true then none else some .sett
def Zx (w:Nat) (d0 d1 d2 d3 d4 dp ds dt:PyData):Option Cl37:=yw d0 (match w with
 | 0=>xo (kOf d0) d1 d3
 | 1=>xo (kOf d0) d1 d3
 | 2=>wn .hand (kOf d0) d1 d2
 | 3=>wn .side (kOf d0) d3 d4
 | 4=>xS (kOf d0) dp
 | 5=>wd (kOf d0) ds
 | 6=>wo (kOf d0) dt
 | _=>none)
def XE37 (A:Cl37 -> Addr) (due:Option Cl37) (H:Hp) (E:XK):Prop:=∀ c,due = some c -> ∀ e H',Grow [] H H' -> E (.ref e) (some (A c)) H'
def XQ37 (due:Option Cl37) (H:Hp) (Q:VK):Prop:=due = none -> ∀ r H',Grow [] H H' -> Q r H'
def xT (d:PyData):Prop:=∀ ds,d = .tuple ds -> ds.length <= 40
def v8 (A:Cl37 -> Addr) (K:FG7):Sp:=spX3 fun x y z H Q E=>∃ (d0 d1 d3:PyData) (m:List Addr),Od K m H x d0 /\ Od K m H y d1 /\ Od K m H z d3 /\ (yw d0 (xo (kOf d0) d1 d3) = none -> ∀ r H',Grow [] H H' -> zS K H' r (yu (kOf d0) (kOf d1) (kOf d3)) -> Q r H') /\ XE37 A (yw d0 (xo (kOf d0) d1 d3)) H E
def Zy (A:Cl37 -> Addr) (K:FG7):Sp:=spX3 fun x y z H Q E=>∃ (d0 d1 d3:PyData) (m:List Addr),Od K m H x d0 /\ Od K m H y d1 /\ Od K m H z d3 /\ XQ37 (yw d0 (xo (kOf d0) d1 d3)) H Q /\ XE37 A (yw d0 (xo (kOf d0) d1 d3)) H E
def wV (A:Cl37 -> Addr) (c:Cl37) (K:FG7):Sp:=spX3 fun x y z H Q E=>∃ (d0 d1 d3:PyData) (m:List Addr),Od K m H x d0 /\ Od K m H y d1 /\ Od K m H z d3 /\ XQ37 (yw d0 (wn c (kOf d0) d1 d3)) H Q /\ XE37 A (yw d0 (wn c (kOf d0) d1 d3)) H E
def v9 (A:Cl37 -> Addr) (K:FG7):Sp:=spX2 fun x y H Q E=>∃ (k:Nat) (d:PyData) (m:List Addr),x = .int k /\ k <= 4 /\ Od K m H y d /\ xT d /\ (xS k d = none -> ∀ H',Grow [] H H' -> Q .non H') /\ XE37 A (xS k d) H E
def Zz (A:Cl37 -> Addr) (K:FG7):Sp:=spX2 fun x y H Q E=>∃ (d0 d:PyData) (m:List Addr),Od K m H x d0 /\ Od K m H y d /\ xT d /\ XQ37 (yw d0 (xS (kOf d0) d)) H Q /\ XE37 A (yw d0 (xS (kOf d0) d)) H E
def wW (A:Addr) (K:FG7):Sp:=spX2 fun x y H Q E=>∃ (k:Nat) (d:PyData) (m:List Addr),x = .int k /\ k <= 4 /\ Od K m H y d /\ (xC k d = true -> ∀ H',Grow [] H H' -> Q .non H') /\ (xC k d = false -> ∀ e H',Grow [] H H' -> E (.ref e) (some A) H')
def ZA (A:Cl37 -> Addr) (K:FG7):Sp:=spX2 fun x y H Q E=>∃ (d0 d:PyData) (m:List Addr),Od K m H x d0 /\ Od K m H y d /\ XQ37 (yw d0 (wd (kOf d0) d)) H Q /\ XE37 A (yw d0 (wd (kOf d0) d)) H E
def tH (A:Addr) (K:FG7):Sp:=spX2 fun x y H Q E=>∃ (d0 d:PyData) (m:List Addr),Od K m H x d0 /\ Od K m H y d /\ (zk 0 4 d0 = true -> ∀ H',Grow [] H H' -> Q (.bl (setP (kOf d0) d)) H') /\ (zk 0 4 d0 = false -> ∀ e H',Grow [] H H' -> E (.ref e) (some A) H')
def wX (A:Cl37 -> Addr) (K:FG7):Sp:=spX2 fun x y H Q E=>∃ (d0 d:PyData) (m:List Addr),Od K m H x d0 /\ Od K m H y d /\ (yw d0 (wo (kOf d0) d) = none -> ∀ H',Grow [] H H' -> Q .non H') /\ XE37 A (yw d0 (wo (kOf d0) d)) H E
def vE (A:Cl37 -> Addr) (K:FG7):Sp:=spX2 fun x y H Q E=>∃ (d0 d:PyData) (m:List Addr),Od K m H x d0 /\ Od K m H y d /\ (yw d0 (wo (kOf d0) d) = none -> ∀ rows,d = rn rows -> j5 (kOf d0) rows -> ∀ r H',Grow [] H H' -> zS K H' r (ledL (kOf d0) rows) -> Q r H') /\ XE37 A (yw d0 (wo (kOf d0) d)) H E
def rG (A:Addr) (K:FG7):Sp:=spX1 fun x H Q E=>∃ (d0:PyData) (m:List Addr),Od K m H x d0 /\ (zk 0 4 d0 = true -> ∀ r H',Grow [] H H' -> Q r H') /\ (zk 0 4 d0 = false -> ∀ e H',Grow [] H H' -> E (.ref e) (some A) H')
section
variable {K:FG7} {m:List Addr} {H:Hp}
theorem wJ {ds:List PyData} (h:xT (.tuple ds)):ds.length <= 40:=h ds rfl
theorem ZB {xs:List V} {d e:PyData} (h:Ods K m H xs [d,e]):∃ x y,xs = [x,y] /\ Od K m H x d /\ Od K m H y e:=by
 cases h with
 | cons a t=>cases t with
  | cons b u=>cases u; exact ⟨_,_,rfl,a,b⟩
theorem xU {x:V} {d:PyData} (o:Od K m H x d) (h:xj d = true):∃ (a:Addr) (u v:V) (e f:PyData),x = .ref a /\ d = .tuple [e,f] /\ SqT K H a [u,v] /\ Od K m H u e /\ Od K m H v f:=by
 match d,h with
 | .tuple [e,f],_ =>
  obtain ⟨a,xs,rfl,hs,ha⟩:=o.inv_tup
  obtain ⟨u,v,rfl,o1,o2⟩:=ZB ha
  exact ⟨a,u,v,e,f,rfl,rfl,hs,o1,o2⟩
theorem YE {k:Nat}:∀ {xs:List V} {ds:List PyData},Ods K m H xs ds -> ds.all xj = true -> xQ k ds = true -> xR k ds = true -> ∃ pl:List (Nat × Nat),AllR (PrAt K H) xs pl /\ Z4 k pl
 | _,_,.nil,_,_,_=>⟨[],trivial,nofun⟩
 | _,_,.cons (d:=d) (ds:=ds) o os,hp,hh,hg=>by
  unfold xQ at hh
  unfold xR at hg
  rw [List.all_cons,Bool.and_eq_true] at hp hh hg
  obtain ⟨pl,ha,hok⟩:=YE os hp.2 hh.2 hg.2
  obtain ⟨a,u,v,e,f,rfl,rfl,hs,o1,o2⟩:=xU o hp.1
  obtain ⟨n,hn,h1⟩:=yb (show zF k e = true from hh.1)
  obtain ⟨g,hg',h2⟩:=yb (show zF k f = true from hg.1)
  subst hn hg'
  obtain rfl:=o1.inv_int
  obtain rfl:=o2.inv_int
  refine ⟨(n,g) :: pl,⟨⟨a,rfl,hs⟩,ha⟩,fun p hp'=>?_⟩
  rcases List.mem_cons.mp hp' with z | z
  ·rw [z]; exact ⟨h1,h2⟩
  ·exact hok p z
theorem WJ {k:Nat} {x:V} {d:PyData} (o:Od K m H x d) (few:xT d) (h:xS k d = none):∃ pl:List (Nat × Nat),PrsT K H x pl /\ pl.length <= 40 /\ Z4 k pl:=by
 unfold xS at h
 cases c:uU d && xQ k (xB d) with
 | false=>rw [c] at h; cases h
 | true =>
  rw [c,if_pos rfl] at h
  cases c2:xR k (xB d) with
  | false=>rw [c2] at h; cases h
  | true =>
   rw [Bool.and_eq_true] at c
   match d,c with
   | .tuple ds,c =>
    obtain ⟨a,xs,rfl,hs,ha⟩:=o.inv_tup
    obtain ⟨pl,hal,hok⟩:=YE ha c.1 c.2 c2
    have l1:=hal.len
    have l2:=ha.length
    have l3:=wJ few
    exact ⟨pl,⟨a,xs,rfl,hs,hal⟩,by omega,hok⟩
theorem qH {k:Nat}:∀ {xs:List V} {ds:List PyData},Ods K m H xs ds -> ds.all (zF k) = true -> ∃ gs:List Nat,xs = vU gs /\ ∀ g ∈ gs,g < 2 ^ k
 | _,_,.nil,_=>⟨[],rfl,nofun⟩
 | _,_,.cons (d:=d) (ds:=ds) o os,hp=>by
  rw [List.all_cons,Bool.and_eq_true] at hp
  obtain ⟨gs,rfl,hok⟩:=qH os hp.2
  obtain ⟨n,hn,h1⟩:=yb hp.1
  subst hn
  obtain rfl:=o.inv_int
  refine ⟨n :: gs,rfl,fun g hg=>?_⟩
  rcases List.mem_cons.mp hg with z | z
  ·rw [z]; exact h1
  ·exact hok g z
theorem Xj {k:Nat} {x:V} {d:PyData} (o:Od K m H x d) (h:xC k d = true):∃ (gs:List Nat) (r:Addr),x = .ref r /\ SqT K H r (vU gs) /\ xu k gs:=by
 match d,h with
 | .tuple ds,h =>
  obtain ⟨a,xs,rfl,hs,ha⟩:=o.inv_tup
  unfold xC at h
  rw [Bool.and_eq_true] at h
  obtain ⟨gs,rfl,hok⟩:=qH ha h.2
  have l:=ha.length
  unfold vU at l
  rw [List.length_map] at l
  exact ⟨gs,a,rfl,hs,by have:=of_decide_eq_true h.1; omega,hok⟩
end
theorem wY {α:Type} {p:α -> Bool} {l:List α} {i:Nat} {a:α} (h:l[i]? = some a):(l.take (i + 1)).all p = ((l.take i).all p && p a):=by
 rw [List.take_add_one,h,List.all_append]; simp
theorem tI {α:Type} {p:α -> Bool} {l:List α} {i:Nat} {a:α} (h:l[i]? = some a) (n:p a = false):l.all p = false:=by
 rw [List.all_eq_false]; exact ⟨a,List.mem_of_getElem? h,by rw [n]; decide⟩
theorem rH {X:Cx} {K:FG7} (hK:X.K = K):MtR X "list.count" (fun x vs H Q=>∃ (l:Addr) (bs:List Bool),x = .ref l /\ vs = [.bl true] /\ SqL K H l (bs.map V.bl) /\ Q (.int ((bs.countP fun i=>i == true:Nat):Int)) H):=by
 subst hK
 intro pins s σ H x vs v us Q I rx rv h
 obtain ⟨l,bs,rfl,rfl,hq,q⟩:=h
 cases rx
 obtain ⟨u,rfl,ru⟩:=we rv
 obtain rfl:u = .bool true:=ru
 obtain ⟨its,r,⟨o,n,ho,hc,hdi,hd⟩,hz⟩:=I.list hq
 obtain ⟨oc,od,oda,osl⟩:=o
 cases hc
 cases hd
 have key:∀ {ms:List Bool} {ws:List Value},Vals (ms.map V.bl) ws -> (ws.countP fun v=>match v with | .bool a=>a == true | _=>false) = ms.countP fun i=>i == true:=by
  intro ms
  induction ms with
  | nil=>intro ws r; cases r; rfl
  | cons a ms ih =>
   intro ws r
   cases r with
   | cons r1 r2 =>
    cases r1
    rw [List.countP_cons,List.countP_cons,ih r2]
 refine call_meets F.slot_list_count ⟨_,ho,rfl⟩ F.entry_list_count (F.args_list_count_2 _ _)
  (SeqAt.list_countAt l its.toArray n od osl (.bool true) (fun v=>match v with | .bool a=>a == true | _=>false)) ⟨ho,fun y hy=>?_,?_⟩
 ·obtain ⟨m,hm,rfl⟩:=List.getElem_of_mem (by simpa using hy:y ∈ its)
  have hm':m < bs.length:=by have:=r.length; rw [List.length_map] at this; omega
  have e1:(bs.map V.bl)[m]? = some (.bl bs[m]):=by rw [List.getElem?_map,List.getElem?_eq_getElem hm']; rfl
  obtain ⟨u,hu,ru⟩:=r.get e1
  obtain rfl:u = .bool bs[m]:=ru
  rw [List.getElem?_eq_getElem hm] at hu
  rw [Option.some.inj hu]
  exact SeqAt.EqAt.bool_bool _ _
 ·have:its.toArray.toList = its:=List.toList_toArray
  rw [this,key r]
  exact ⟨.int _,H,I.tok _,⟨_,rfl⟩,q⟩
theorem rJ {X:Cx} {K:FG7} (hK:X.K = K):MtR X "list.index" (fun x vs H Q=>∃ (l:Addr) (bs:List Bool),x = .ref l /\ vs = [.bl true] /\ SqL K H l (bs.map V.bl) /\ true ∈ bs /\ bs.length <= 1000 /\ Q (.int (bs.idxOf true:Nat)) H):=by
 subst hK
 intro pins s σ H x vs v us Q I rx rv h
 obtain ⟨l,bs,rfl,rfl,hq,hj,hl,q⟩:=h
 cases rx
 obtain ⟨u,rfl,ru⟩:=we rv
 obtain rfl:u = .bool true:=ru
 obtain ⟨its,r,⟨o,n,ho,hc,hdi,hd⟩,hz⟩:=I.list hq
 obtain ⟨oc,od,oda,osl⟩:=o
 cases hc
 cases hd
 have hlen:=r.length
 rw [List.length_map] at hlen
 have hp:=List.idxOf_lt_length_of_mem hj
 have hjj:∀ m (hm:m < its.toArray.size),its.toArray[m] = .bool (bs.getD m false):=fun m hm=>by
  have hm':m < its.length:=by simpa using hm
  have hb:m < bs.length:=by omega
  have e1:(bs.map V.bl)[m]? = some (.bl (bs.getD m false)):=by rw [List.getElem?_map,List.getD_eq_getElem?_getD,List.getElem?_eq_getElem hb]; rfl
  obtain ⟨u,hu,ru⟩:=r.get e1
  obtain rfl:u = .bool (bs.getD m false):=ru
  rw [List.getElem?_eq_getElem hm'] at hu
  simpa using Option.some.inj hu
 have key:∀ (p:Nat),p = bs.idxOf true -> wpAny (model X.prog X.w) X.A (call (.builtin "list.index") (.ref l :: [.bool true])) (EP X pins σ Q) X.xe s:=by
  intro p hpp
  have hp':p < its.toArray.size:=by simp; omega
  refine call_meets F.slot_list_index ⟨_,ho,rfl⟩ F.entry_list_index (F.args_list_index_2 _ _)
   (SeqAt.list_indexAt l its.toArray n od osl (.bool true) (fun v=>match v with | .bool a=>a == true | _=>false) p hp' (by have:=hp'; simp at this; omega) ?_ ?_) ⟨ho,?_,?_⟩
  ·rw [hjj p hp']
   show (bs.getD p false == true) = true
   have:bs.getD p false = true:=by
    rw [hpp,List.getD_eq_getElem?_getD,List.getElem?_eq_getElem hp]
    exact List.getElem_idxOf hp
   rw [this]; rfl
  ·intro m hm hlt
   rw [hjj m hm]
   show (bs.getD m false == true) = false
   have hm':m < bs.length:=by rw [hlen]; simpa using hm
   have:=List.not_of_lt_findIdx (p:=(· == true)) (xs:=bs) (i:=m) (by rw [hpp] at hlt; exact hlt)
   rw [List.getD_eq_getElem?_getD,List.getElem?_eq_getElem hm']
   simpa using this
  ·intro y hy
   obtain ⟨m,hm,rfl⟩:=List.getElem_of_mem (by simpa using hy:y ∈ its)
   have e:=hjj m (by simpa using hm)
   have e':its[m] = .bool (bs.getD m false):=by simpa using e
   rw [e']
   exact SeqAt.EqAt.bool_bool _ _
  ·exact ⟨.int (bs.idxOf true:Nat),H,I.tok _,⟨_,by rw [hpp]⟩,q⟩
 exact key _ rfl
def nm37:Cl37 -> Str
 | .net=>"NoNet" | .hand=>"NoHand" | .side=>"NoSide" | .sett=>"NoSettings"
def sayV:Option Cl37 -> V
 | none=>.non
 | some c=>.str (nm37 c)
def dueL (w:Nat):List PyData -> Option Cl37
 | [d0,d1,d2,d3,d4,dp,ds,dt]=>Zx w d0 d1 d2 d3 d4 dp ds dt
 | _=>none
structure Drw37 (K:FG7) (m:List Addr) (H:Hp) (l:Addr) (xs:List V) (ds:List PyData):Prop where
 sq:SqL K H l xs
 od:Ods K m H xs ds
 len:ds.length = 8
 few:xT (ds.getD 5 .none)
def tJ (K:FG7):Sp:=sp2 fun x y H Q=>∃ (p:Addr) (M:Int) (m:List Addr),x = .ref p /\ zB H p /\ y = .int M /\ p ∈ m /\ (∀ b ∈ m,H b ≠ none) /\ ∀ v d H',Grow [p] H H' -> zB H' p -> Od K m H' v d -> Q v H'
def wZ (K:FG7):Sp:=sp3 fun x y z H Q=>∃ (p:Addr) (M:Int) (d:PyData) (m:List Addr),x = .ref p /\ zB H p /\ Od K m H y d /\ z = .int M /\ p ∈ m /\ (∀ b ∈ m,H b ≠ none) /\ ∀ v d H',Grow [p] H H' -> zB H' p -> Od K m H' v d -> Q v H'
def tK (K:FG7):Sp:=sp3 fun x y z H Q=>∃ (p a:Addr) (xs:List V) (ds:List PyData) (d:PyData) (m:List Addr),x = .ref p /\ zB H p /\ y = .ref a /\ SqT K H a xs /\ Ods K m H xs ds /\ xs.length <= 16 /\ Od K m H z d /\ p ∈ m /\ (∀ b ∈ m,H b ≠ none) /\ ∀ v d H',xT d -> Grow [p] H H' -> zB H' p -> Od K m H' v d -> Q v H'
def uV (K:FG7):Sp:=sp2 fun x y H Q=>∃ (p:Addr) (k:Nat) (m:List Addr),x = .ref p /\ zB H p /\ y = .int k /\ k <= 4 /\ p ∈ m /\ (∀ b ∈ m,H b ≠ none) /\ ∀ v d H',xT d -> Grow [p] H H' -> zB H' p -> Od K m H' v d -> Q v H'
def uW (K:FG7):Sp:=sp1 fun x H Q=>∃ (p:Addr) (m:List Addr),x = .ref p /\ zB H p /\ p ∈ m /\ (∀ b ∈ m,H b ≠ none) /\ ∀ l xs ds H',Grow [p] H H' -> zB H' p -> H' l = some (.lst xs) -> l ∉ [p] -> Drw37 K m H' l xs ds -> Q (.ref l) H'
def wK (K:FG7):Sp:=sp1 fun x H Q=>∃ (d:PyData) (m:List Addr),Od K m H x d /\ xT d /\ ∀ H',Grow [] H H' -> Q (.bl (uU d)) H'
def ua (K:FG7):Sp:=sp2 fun x y H Q=>∃ (k:Nat) (d:PyData) (m:List Addr),x = .int k /\ k <= 4 /\ Od K m H y d /\ xT d /\ ∀ H',Grow [] H H' -> Q (sayV (xS k d)) H'
def wL (K:FG7):Sp:=sp2 fun x y H Q=>∃ (k:Nat) (d:PyData) (m:List Addr),x = .int k /\ k <= 4 /\ Od K m H y d /\ ∀ H',Grow [] H H' -> Q (.bl (xC k d)) H'
def vF (K:FG7):Sp:=sp2 fun x y H Q=>∃ (w:Nat) (l:Addr) (xs:List V) (ds:List PyData) (m:List Addr),x = .int w /\ w < 8 /\ y = .ref l /\ Drw37 K m H l xs ds /\ ∀ H',Grow [] H H' -> Q (sayV (dueL w ds)) H'
def w4 (A:Cl37 -> Addr) (K:FG7):Sp:=spX2 fun x y H Q E=>∃ (w:Nat) (l:Addr) (xs:List V) (ds:List PyData) (m:List Addr),x = .int w /\ w < 8 /\ y = .ref l /\ Drw37 K m H l xs ds /\ XQ37 (dueL w ds) H Q /\ XE37 A (dueL w ds) H E
theorem qI {K:FG7} {m:List Addr} {H:Hp} {xs:List V} {ds:List PyData} (h:Ods K m H xs ds) (hl:ds.length = 8):∃ x0 x1 x2 x3 x4 x5 x6 x7 d0 d1 d2 d3 d4 d5 d6 d7,xs = [x0,x1,x2,x3,x4,x5,x6,x7] /\ ds = [d0,d1,d2,d3,d4,d5,d6,d7] ∧
  Od K m H x0 d0 /\ Od K m H x1 d1 /\ Od K m H x2 d2 /\ Od K m H x3 d3 /\ Od K m H x4 d4 /\ Od K m H x5 d5 /\ Od K m H x6 d6 /\ Od K m H x7 d7:=by
 match ds,hl,h with
 | [_,_,_,_,_,_,_,_],_,.cons a (.cons b (.cons c (.cons d (.cons e (.cons f (.cons g (.cons h .nil)))))))=>exact ⟨_,_,_,_,_,_,_,_,_,_,_,_,_,_,_,_,rfl,rfl,a,b,c,d,e,f,g,h⟩
theorem Drw37.grow {K:FG7} {m:List Addr} {H H':Hp} {l:Addr} {xs:List V} {ds:List PyData} (h:Drw37 K m H l xs ds) (g:Grow [] H H'):Drw37 K m H' l xs ds:=⟨g.sqL h.sq,h.od.grow g.wk,h.len,h.few⟩
theorem ub {K:FG7} {a:Addr} {xs:List V} {g:TG} {te:TE} {Q:VK} {σ:L2.St} {H:Hp} (Pv:Nat -> List V -> L2.St -> Hp -> Prop) (h0:Pv 0 [] σ H) (hl:∀ i ys σ H,i <= xs.length -> Pv i ys σ H -> SqT K H a xs)
  (hs:∀ i x ys σ H,xs[i]? = some x -> Pv i ys σ H -> g x σ H fun σ2 H3=>te σ2 H3 fun y H5=>ys.length < sizeLine /\ Pv (i + 1) (ys ++ [y]) σ2 H5)
  (hd:∀ ys σ H,Pv xs.length ys σ H -> ∀ l,H l = none -> Q (.ref l) (upd H l (.lst ys))):vn (Itt K a) σ H g qU te Q:=vz Pv h0 hl (fun i x ys σ H hx hp=>hs i x ys σ H hx hp) hd
theorem xV {ds:List PyData} (h:ds.length <= 40):xT (.tuple ds):=fun es e=>by cases e; exact h
theorem ZC {ds:List PyData}:xT (.list ds):=nofun
theorem rK {X:Cx} {K:FG7} {k:Nat} (hK:X.K = K) (hr:Room k X.A):OpR X (compareOp .NotEq) (fun x y H Q=>∃ a b xs,x = .ref a /\ y = .ref b /\ SqT K H a xs /\ SqT K H b [] /\ Q (.bl (!xs.isEmpty)) H):=by
 subst hK
 intro pins s σ H x y v u Q I rx ry h
 obtain ⟨a,b,xs,rfl,rfl,ha,hb,q⟩:=h
 cases rx; cases ry
 obtain ⟨us,r1,t1,_⟩:=I.tuple ha
 obtain ⟨ws,r2,t2,_⟩:=I.tuple hb
 have hw:ws.length = 0:=r2.length.symm
 refine SeqAt.RcNeAt.tuples (e:=fun _=>true) (yT t1) (yT t2) hr.units0 (fun j h1 h2=>absurd h2 (by simp; omega)) _ _ _ _ ?_
 rw [tq,Bool.true_and,List.size_toArray,List.size_toArray,hw,← r1.length]
 have e:(xs.length == 0) = xs.isEmpty:=by cases xs <;> rfl
 rw [e]
 exact ⟨.bl (!xs.isEmpty),H,I,rfl,q⟩
theorem qJ {K:FG7} {H:Hp} {ln:Addr} {s:Str} {b:Bool} {Q:VK} (h:H ln = some (.lst [.non,.str s])) (q:Q (if b = true then .non else .str s) H):rIxL K (.ref ln) (.int (if (!b) = true then 1 else 0)) H Q:=by
 cases b with
 | true=>exact ⟨ln,_,0,_,rfl,rfl,SqL.of h,zR (j:=0) rfl,q⟩
 | false=>exact ⟨ln,_,1,_,rfl,rfl,SqL.of h,zR (j:=1) rfl,q⟩
theorem wA {K:FG7} {H:Hp} {ln:Addr} {s:Str} {b:Bool} {Q:VK} (h:H ln = some (.lst [.non,.str s])) (q:Q (if b = true then .str s else .non) H):rIxL K (.ref ln) (.int (if b = true then 1 else 0)) H Q:=by
 cases b with
 | false=>exact ⟨ln,_,0,_,rfl,rfl,SqL.of h,zR (j:=0) rfl,q⟩
 | true=>exact ⟨ln,_,1,_,rfl,rfl,SqL.of h,zR (j:=1) rfl,q⟩
theorem Grow.put37 {m:List Addr} {H0 H:Hp} {r:Addr} (g:Grow m H0 H) (h:H0 r = none) (o:HO):Grow m H0 (upd H r o) :=
 ⟨fun b u hb q=>by rw [zu (zr q h)]; exact g.keep b u hb q,fun b u q=>by rw [zu (zr q h)]; exact g.tup b u q,fun b u v q=>by rw [zu (zr q h)]; exact g.frz b u v q⟩
theorem Ods.more37 {K:FG7} {m:List Addr} {H:Hp} {a:Addr} (h:H a = none):∀ {xs:List V} {ds:List PyData},Ods K m H xs ds -> Ods K (a :: m) H xs ds
 | _,_,.nil=>.nil
 | _,_,.cons o os=>.cons (o.more h) (Ods.more37 h os)
theorem Ods.less37 {K:FG7} {m m':List Addr} {H:Hp} (h:∀ b ∈ m',b ∈ m):∀ {xs:List V} {ds:List PyData},Ods K m H xs ds -> Ods K m' H xs ds
 | _,_,.nil=>.nil
 | _,_,.cons o os=>.cons (o.less h) (Ods.less37 h os)
theorem ZD (o:Option Cl37):scal (sayV o) (sayV o) = true:=by
 cases o with
 | none=>rfl
 | some c=>cases c <;> rfl
theorem YF {m:List Addr} {H:Hp} {l:Addr} {o:HO} (h:∀ b ∈ m,H b ≠ none):∀ b ∈ m,upd H l o b ≠ none:=fun b hb z=>by
 by_cases e:b = l
 ·rw [e,zb] at z; cases z
 ·rw [zu e] at z; exact h b hb z
theorem qK {H:Hp} {p l:Addr} {o:HO} (h:zB H p) (n:l ∉ [p]):zB (upd H l o) p:=by
 obtain ⟨z1,z2,z3,hz,z0⟩:=h
 exact ⟨z1,z2,z3,by rw [zu (show p ≠ l from fun z=>n (by rw [z]; simp))]; exact hz,z0⟩
theorem qL {K:FG7} {m:List Addr} {H:Hp} {i:Int}:∀ n:Nat,Ods K m H (List.replicate n (V.int i)) (List.replicate n (.int i))
 | 0=>.nil
 | n + 1=>.cons (.int i) (qL n)
end L3
namespace My
open PySem PySem.Spec PyProof.Rows L2 L3
def top (i:Nat):Stmt:=PySem.Challenge.pw_joinedasks_k37_refused_in_order.main.body.getD i (.Pass ⟨0,0,0,0⟩)
section
variable {P:Program} {w:World} {K:FG7} {mg:Str -> Option Value} {base:Heap} {n:Nat} {f:Addr} {fd:FuncData}
theorem ZE:FnScope ["k","stage","line"] ["k","stage","line"] (zh (top 20)):=⟨rfl,rfl,rfl,by decide +kernel,rfl,by decide +kernel,by decide +kernel⟩
theorem ZF (F:Fun K "figure" "figure" (top 20) f fd) (B:Blt mg)     :
  FnOk P w K mg base CX0 (n + 1) f fd ["k","stage","line"] (xm K):=by
 refine F.ok ZE xq (fun cdv A outer s H vs Q E hr h=>?_)
 obtain ⟨x,y,z,rfl,k,st,l,rfl,rfl,rfl,hs,q⟩:=h
 refine ⟨_,(zg (zo (zv Ym (zv jw (pv 2) (zv y0 (pv 0) (pv 1))) ze))),?_⟩
 exact ⟨_,rfl,_,rfl,_,rfl,_,_,rfl,rfl,_,_,rfl,rfl,(by show (0:Int) <= (k:Int) - st; omega),_,_,rfl,rfl,q⟩
theorem uq:FnScope ["k","stage","line","wanted"] ["k","stage","line","wanted"] (zh (top 21)):=⟨rfl,rfl,rfl,by decide +kernel,rfl,by decide +kernel,by decide +kernel⟩
theorem ur (F:Fun K "with_figure" "with_figure" (top 21) f fd) (B:Blt mg) (qc0:zi P w K mg base n "figure" ["k","stage","line"] (xm K))    :
  FnOk P w K mg base CX0 (n + 1) f fd ["k","stage","line","wanted"] (xf K):=by
 refine F.ok uq rc (fun cdv A outer s H vs Q E hr h=>?_)
 obtain ⟨x,y,z,u,rfl,k,st,l,w,rfl,rfl,rfl,rfl,k4,hs,l0,l1,hw,q⟩:=h
 refine ⟨_,(zg (zo (zv qc (pv 2) (zv y4 (zv qc (zf qc0 hr rfl (za (pv 0) (za (pv 1) (za (pv 2) zc)))) (pv 3)) (zv y0 (pv 0) (pv 1)))))),?_⟩
 have F:=figF k4 hs l0 l1
 refine ⟨_,rfl,_,rfl,_,rfl,_,rfl,_,_,_,rfl,k,st,l,rfl,rfl,rfl,hs,_,rfl,_,_,rfl,rfl,_,rfl,_,rfl,_,_,rfl,rfl,_,_,rfl,rfl,⟨by show (0:Int) <= (k:Int) - st; omega,by show (k:Int) - st <= 1000000; omega,F.2 w hw⟩,_,_,rfl,rfl,q⟩
theorem vi:FnScope ["k","stage","line","behind"] ["k","stage","line"] (zh (top 23)):=⟨rfl,rfl,rfl,by decide +kernel,rfl,by decide +kernel,by decide +kernel⟩
theorem sL (F:Fun K "switch_at" "switch_at" (top 23) f fd) (B:Blt mg)     :
  FnOk P w K mg base CX0 (n + 1) f fd ["k","stage","line"] (y8 K):=by
 refine F.ok vi xq (fun cdv A outer s H vs Q E hr h=>?_)
 obtain ⟨x,y,z,rfl,k,st,l,rfl,rfl,rfl,k4,hs,l0,l1,q⟩:=h
 refine ⟨_,(zd (zD (i:=3) vi.nd rfl (Or.inl rfl) (zv y0 (pv 0) (pv 1))) (zg (zo (zv Wl (zv y4 (zv jw (pv 2) (zv yH (pv 3) ze)) (pv 3)) (zv Ym (pv 2) (zv y0 (zv y4 ze (pv 3)) ze)))))),?_⟩
 have e1:(0:Int) <= l / 2 ^ ((k:Int) - st + 1).toNat:=Int.ediv_nonneg l0 (Int.le_of_lt (Int.pow_pos (by decide)))
 have e2:l / 2 ^ ((k:Int) - st + 1).toNat <= l:=Int.ediv_le_self _ l0
 refine ⟨_,rfl,_,rfl,_,_,rfl,rfl,_,rfl,_,rfl,_,_,rfl,rfl,_,_,rfl,rfl,(by show (0:Int) <= (k:Int) - st + 1; omega),_,rfl,_,_,rfl,rfl,⟨by show (0:Int) <= (k:Int) - st; omega,by show (k:Int) - st <= 1000000; omega,by show (l / 2 ^ ((k:Int) - st + 1).toNat).natAbs < 2 ^ 64; omega⟩,?_⟩
 exact ⟨_,rfl,_,rfl,_,_,rfl,rfl,⟨by show (0:Int) <= (k:Int) - st; omega,by show (k:Int) - st <= 1000000; omega,by decide⟩,_,_,rfl,rfl,_,_,rfl,rfl,_,_,rfl,rfl,q⟩
theorem uc:FnScope ["k","stage","line","marks","crossed"] ["k","stage","line","marks"] (zh (top 39)):=⟨rfl,rfl,rfl,by decide +kernel,rfl,by decide +kernel,by decide +kernel⟩
theorem rL (F:Fun K "out_line" "out_line" (top 39) f fd) (B:Blt mg) (qc0:zi P w K mg base n "with_figure" ["k","stage","line","wanted"] (xf K)) (qc1:zi P w K mg base n "figure" ["k","stage","line"] (xm K)) (qc2:zi P w K mg base n "switch_at" ["k","stage","line"] (y8 K))    :
  FnOk P w K mg base CX0 (n + 1) f fd ["k","stage","line","marks"] (vT K):=by
 refine F.ok uc rc (fun cdv A outer s H vs Q E hr h=>?_)
 obtain ⟨x,y,z,u,rfl,k,st,a,row,rfl,rfl,rfl,⟨r,rfl,hs⟩,k4,s1,s2,ha,hl,hb,q⟩:=h
 refine ⟨_,(zd (zD (i:=4) uc.nd rfl (Or.inl rfl) (yj uH (pv 3) (zf qc2 hr rfl (za (pv 0) (za (pv 1) (za (pv 2) zc)))) (fun _ _=>rfl))) (zg (zo (zf qc0 hr rfl (za (pv 0) (za (pv 1) (za (pv 2) (za (zv qc (zf qc1 hr rfl (za (pv 0) (za (pv 1) (za (pv 2) zc)))) (pv 4)) zc)))))))),?_⟩
 have O:=oneF k4 s1 s2 ha
 have p:=xr k4
 have hlt:=O.lt
 refine ⟨_,rfl,_,rfl,_,rfl,_,rfl,_,_,_,rfl,k,st,a,rfl,rfl,rfl,k4,s2,by omega,by omega,?_⟩
 rw [O.sw,O.num]
 have hg:=getI (xs:=row) (i:=(nN k st a:Int)) (by omega) (by rw [hl]; omega)
 rw [Int.toNat_natCast] at hg
 have hin:nN k st a < row.length:=by rw [hl]; exact hlt
 have hv:=hb _ (List.mem_of_getElem? (jP hin))
 refine ⟨r,_,_,_,rfl,rfl,hs,hg,?_⟩
 refine ⟨_,rfl,_,rfl,_,rfl,_,rfl,_,rfl,_,rfl,_,_,_,rfl,k,st,a,rfl,rfl,rfl,s2,_,rfl,_,_,rfl,rfl,?_⟩
 unfold stR at q
 rcases hv with hv | hv
 ·rw [if_neg (by rw [hv]; decide)] at q
  rw [hv]
  refine ⟨_,_,_,_,rfl,k,st,a,_,rfl,rfl,rfl,rfl,k4,s2,by omega,by omega,O.b0,?_⟩
  rw [O.w0]; exact q
 ·rw [if_pos hv] at q
  rw [hv]
  refine ⟨_,_,_,_,rfl,k,st,a,_,rfl,rfl,rfl,rfl,k4,s2,by omega,by omega,O.b1,?_⟩
  rw [O.w1]; exact q
theorem rM:FnScope ["thing"] ["thing"] (zh (top 11)):=⟨rfl,rfl,rfl,by decide +kernel,rfl,by decide +kernel,by decide +kernel⟩
theorem rN (F:Fun K "is_whole" "is_whole" (top 11) f fd) (B:Blt mg)     :
  FnOk P w K mg base CX0 (n + 1) f fd ["thing"] (yM K):=by
 refine F.ok rM wQ (fun cdv A outer s H vs Q E hr h=>?_)
 obtain ⟨x,rfl,d,m,hd,q⟩:=h
 refine ⟨_,(zg (zo (xJ (zj (zU (K:=K) rfl) rfl B.isinstance zp (za (pv 0) (za (yV rfl B.int u7) zc))) (xz (vf (zj (zU (K:=K) rfl) rfl B.isinstance zp (za (pv 0) (za (yV rfl B.bool Yp) zc)))))))),?_⟩
 refine ⟨_,rfl,_,d,m,_,_,rfl,hd,Zo,_,rfl,?_⟩
 cases d with
 | int i=>exact iteT ⟨_,rfl,_,_,m,_,_,rfl,hd,vB,_,rfl,q⟩
 | bool b=>exact iteT ⟨_,rfl,_,_,m,_,_,rfl,hd,vB,_,rfl,q⟩
 | _=>exact iteF q
theorem sM:FnScope ["thing","least","greatest"] ["thing","least","greatest"] (zh (top 12)):=⟨rfl,rfl,rfl,by decide +kernel,rfl,by decide +kernel,by decide +kernel⟩
theorem sN (F:Fun K "is_within" "is_within" (top 12) f fd) (B:Blt mg) (qc0:zi P w K mg base n "is_whole" ["thing"] (yM K))    :
  FnOk P w K mg base CX0 (n + 1) f fd ["thing","least","greatest"] (wb K):=by
 refine F.ok sM xq (fun cdv A outer s H vs Q E hr h=>?_)
 obtain ⟨x,y,z,rfl,d,m,l,u,hd,rfl,rfl,q⟩:=h
 refine ⟨_,(zg (zo (xJ (zf qc0 hr rfl (za (pv 0) zc)) (xz (qd ZM ZM (pv 1) (pv 0) (pv 2)))))),?_⟩
 refine ⟨_,rfl,_,rfl,d,m,hd,_,rfl,?_⟩
 cases d with
 | int i =>
  obtain rfl:=hd.inv_int
  refine iteT ⟨_,rfl,_,rfl,_,_,rfl,rfl,_,rfl,?_⟩
  have q':Q (.bl (decide (l <= i) && decide (i <= u))) H:=q
  by_cases c:l <= i
  ·refine yd (decide_eq_true c) ⟨_,rfl,_,_,rfl,rfl,?_⟩
   rw [decide_eq_true c] at q'; exact q'
  ·refine zy (decide_eq_false c) ?_
   rw [decide_eq_false c] at q'; exact q'
 | _=>exact iteF q
theorem xE:FnScope ["k"] ["k"] (zh (top 34)):=⟨rfl,rfl,rfl,by decide +kernel,rfl,by decide +kernel,by decide +kernel⟩
theorem xF (F:Fun K "switches_in_a_stage" "switches_in_a_stage" (top 34) f fd) (B:Blt mg)     :
  FnOk P w K mg base CX0 (n + 1) f fd ["k"] (yB K):=by
 refine F.ok xE wQ (fun cdv A outer s H vs Q E hr h=>?_)
 obtain ⟨x,rfl,k,rfl,k4,q⟩:=h
 refine ⟨_,(zg (zo (zv jw (zv y4 ze (pv 0)) ze))),?_⟩
 refine ⟨_,rfl,_,_,rfl,rfl,vh k4,_,_,rfl,rfl,(by show (0:Int) <= 1; decide),?_⟩
 show Q (V.int (1 * 2 ^ ((k:Int)).toNat / 2 ^ (1:Int).toNat)) H
 rw [Y8 k4]
 exact q
theorem sO:FnScope ["k","thing"] ["k","thing"] (zh (top 35)):=⟨rfl,rfl,rfl,by decide +kernel,rfl,by decide +kernel,by decide +kernel⟩
theorem sP (F:Fun K "are_marks" "are_marks" (top 35) f fd) (B:Blt mg) (qc0:zi P w K mg base n "is_within" ["thing","least","greatest"] (wb K)) (qc1:zi P w K mg base n "switches_in_a_stage" ["k"] (yB K))    :
  FnOk P w K mg base CX0 (n + 1) f fd ["k","thing"] (sI K):=by
 refine F.ok sO yk (fun cdv A outer s H vs Q E hr h=>?_)
 obtain ⟨x,y,rfl,k,d,m,rfl,k4,hd,q⟩:=h
 refine ⟨_,(zd (zY (PW.pt (vk (yt (yr (zj (zU (K:=K) rfl) rfl B.isinstance zp (za (pv 1) (za (yV rfl B.tuple z9) zc))))) (xI (zz tT (zj zC rfl B.len wu (za (pv 1) zc)) (zf qc1 hr rfl (za (pv 0) zc)) (zA _))))) (zg (zo wO)) zx) (zg (zo (zj (yi rfl) rfl B.all uj (za (ya (CSc.of (N':=["mark"]) (sub:=[none]) (zh (top 35)) ["k","thing"] rfl rfl (by decide +kernel) rfl) rfl (xk (pv 1)) (fun _ _ _ _ _ _=>zn (i:=0) (show (["mark"]:List Str).Nodup by decide +kernel) rfl (Or.inl rfl)) (fun _ _ _ _ _ _=>zP) (fun _ _ _ _ _ _=>(zf qc0 hr rfl (za (pv 0) (za ze (za ze zc)))))) zc))))),?_⟩
 have p:=xr k4
 refine ⟨_,rfl,_,d,m,_,_,rfl,hd,xh,_,rfl,?_⟩
 cases d with
 | tuple ds =>
  obtain ⟨a,xs,rfl,hs,ha⟩:=hd.inv_tup
  have hl:=ha.length
  refine iteF ⟨_,rfl,a,_,rfl,.inr hs,_,rfl,_,rfl,k,rfl,k4,rfl,_,rfl,?_⟩
  by_cases c:ds.length = 2 ^ k / 2
  ·refine zy (by rw [decide_eq_true (congrArg V.int (by omega))]; rfl) ?_
   refine ⟨_,rfl,a,rfl,⟨_,hs⟩,xn (xs:=xs) (fun i ys H'=>ys = ((ds.take i).map (zk 0 1)).map V.bl /\ Grow [] H H') ⟨rfl,Grow.refl _ _⟩ (fun i ys H' p=>p.2.sqT hs) ?_ ?_⟩
   ·rintro i x ys H' hx ⟨rfl,g⟩
    obtain ⟨e,he,oe⟩:=ha.get hx
    refine ⟨_,rfl,_,_,_,rfl,e,m,0,1,oe.grow g.wk,rfl,rfl,zm (by rw [List.length_map,List.length_map,List.length_take]; omega),?_,g⟩
    rw [sJ he,List.map_append]; rfl
   ·rintro ys H' ⟨rfl,g⟩ l hl'
    rw [hl,List.take_length]
    refine ⟨l,ds.map (zk 0 1),rfl,SqL.of zb,?_⟩
    have q':=q _ (g.trans (Grow.new hl' (.lst ((ds.map (zk 0 1)).map V.bl))))
    have e:yP k (.tuple ds) = (ds.map (zk 0 1)).all id:=by show (decide (ds.length = 2 ^ k / 2) && _) = _; rw [decide_eq_true c,wH]; rfl
    rw [e] at q'
    exact q'
  ·refine yd (by rw [decide_eq_false fun z=>c (by have:=V.int.inj z; omega)]; rfl) ?_
   have q':=q _ (Grow.refl _ _)
   have e:yP k (.tuple ds) = false:=by show (decide (ds.length = 2 ^ k / 2) && _) = _; rw [decide_eq_false c]; rfl
   rw [e] at q'
   exact q'
 | _=>exact iteT (q _ (Grow.refl _ _))
theorem rO:FnScope ["thing"] ["thing"] (zh (top 16)):=⟨rfl,rfl,rfl,by decide +kernel,rfl,by decide +kernel,by decide +kernel⟩
theorem rP (F:Fun K "need_net" "need_net" (top 16) f fd) (B:Blt mg) {A_NoNet:Addr} (x_NoNet:ExcC K mg "NoNet" A_NoNet) (qc0:zi P w K mg base n "is_within" ["thing","least","greatest"] (wb K))  {t_DEEPEST:Tok} (g_DEEPEST:mg "DEEPEST" = some (.int 4 t_DEEPEST))  :
  FnOk P w K mg base (CX1 P w) (n + 1) f fd ["thing"] (xv A_NoNet K):=by
 refine Fun.okX F rO qB (fun cdv A outer s H vs Q E hr h=>?_)
 obtain ⟨x,rfl,d,m,hd,q⟩:=h
 refine ⟨_,(zg (zY (yt (yr (zf qc0 hr rfl (za (pv 0) (za ze (za (xc rfl g_DEEPEST (show RelV (.int 4) (.int 4 t_DEEPEST) from ⟨_,rfl⟩)) zc)))))) (zg (y9 rfl x_NoNet rfl yK zX)) zx)),?_⟩
 refine ⟨_,rfl,_,_,_,rfl,d,m,0,4,hd,rfl,rfl,_,rfl,?_⟩
 cases hw:zk 0 4 d with
 | true=>rw [if_pos hw] at q; exact iteF q
 | false=>rw [hw,if_neg (by decide)] at q; exact iteT q
theorem ut:FnScope ["k","thing"] ["k","thing"] (zh (top 36)):=⟨rfl,rfl,rfl,by decide +kernel,rfl,by decide +kernel,by decide +kernel⟩
theorem uu (F:Fun K "is_settings" "is_settings" (top 36) f fd) (B:Blt mg) {A_NoNet:Addr} (x_NoNet:ExcC K mg "NoNet" A_NoNet) (qc0:zi P w K mg base n "are_marks" ["k","thing"] (sI K)) (qc1:zq P w K mg base n "need_net" ["thing"] (xv A_NoNet K))    :
  FnOk P w K mg base (CX1 P w) (n + 1) f fd ["k","thing"] (tH A_NoNet K):=by
 refine Fun.okX F ut yC (fun cdv A outer s H vs Q E hr h=>?_)
 obtain ⟨x,y,rfl,d0,d,m,h0,hd,q,qe⟩:=h
 refine ⟨_,(zd (zV (zw qc1 (zE fun _ _ _ z=>z) hr rfl (za (pv 0) zc))) (zd (zY (PW.pt (vk (yt (yr (zj (zU (K:=K) rfl) rfl B.isinstance zp (za (pv 1) (za (yV rfl B.tuple z9) zc))))) (xI (zz tT (zj zC rfl B.len wu (za (pv 1) zc)) (pv 0) (zA _))))) (zg (zo wO)) zx) (zg (zo (zj (yi rfl) rfl B.all uj (za (ya (CSc.of (N':=["marks","k"]) (sub:=[none,some 0]) (zh (top 36)) ["k","thing"] rfl rfl (by decide +kernel) rfl) rfl (xk (pv 1)) (fun _ _ _ _ _ _=>zn (i:=0) (show (["marks","k"]:List Str).Nodup by decide +kernel) rfl (Or.inl rfl)) (fun _ _ _ _ _ _=>zP) (fun _ _ _ _ _ _=>(zf qc0 hr rfl (za (pv 1) (za (pv 0) zc))))) zc)))))),?_⟩
 refine ⟨_,rfl,_,rfl,d0,m,h0,?_⟩
 cases hw:zk 0 4 d0 with
 | false =>
  rw [if_neg (by decide)]
  exact fun e=>qe hw e _ (Grow.refl _ _)
 | true =>
 rw [if_pos rfl]
 have q:=q hw
 obtain ⟨k,rfl,k4⟩:=xi hw
 obtain rfl:=h0.inv_int
 rw [zW] at q
 refine ⟨_,rfl,_,d,m,_,_,rfl,hd,xh,_,rfl,?_⟩
 cases d with
 | tuple ds =>
  obtain ⟨a,xs,rfl,hs,ha⟩:=hd.inv_tup
  have hl:=ha.length
  refine iteF ⟨_,rfl,a,_,rfl,.inr hs,_,rfl,rfl,_,rfl,?_⟩
  by_cases c:ds.length = k
  ·refine zy (by rw [decide_eq_true (congrArg V.int (by omega))]; rfl) ?_
   refine ⟨_,rfl,a,rfl,⟨_,hs⟩,xn (xs:=xs) (fun i ys H'=>ys = ((ds.take i).map (yP k)).map V.bl /\ Grow [] H H') ⟨rfl,Grow.refl _ _⟩ (fun i ys H' p=>p.2.sqT hs) ?_ ?_⟩
   ·rintro i x ys H' hx ⟨rfl,g⟩
    obtain ⟨e,he,oe⟩:=ha.get hx
    refine ⟨_,rfl,_,rfl,_,_,rfl,k,e,m,rfl,k4,oe.grow g.wk,fun H3 g3=>⟨zm (by rw [List.length_map,List.length_map,List.length_take]; omega),?_,g.trans g3⟩⟩
    rw [sJ he,List.map_append]; rfl
   ·rintro ys H' ⟨rfl,g⟩ l hl'
    rw [hl,List.take_length]
    refine ⟨l,ds.map (yP k),rfl,SqL.of zb,?_⟩
    have q':=q _ (g.trans (Grow.new hl' (.lst ((ds.map (yP k)).map V.bl))))
    have e:setP k (.tuple ds) = (ds.map (yP k)).all id:=by show (decide (ds.length = k) && _) = _; rw [decide_eq_true c,wH]; rfl
    rw [e] at q'
    exact q'
  ·refine yd (by rw [decide_eq_false fun z=>c (by have:=V.int.inj z; omega)]; rfl) ?_
   have q':=q _ (Grow.refl _ _)
   have e:setP k (.tuple ds) = false:=by show (decide (ds.length = k) && _) = _; rw [decide_eq_false c]; rfl
   rw [e] at q'
   exact q'
 | _=>exact iteT (q _ (Grow.refl _ _))
theorem vq:FnScope ["k","thing"] ["k","thing"] (zh (top 37)):=⟨rfl,rfl,rfl,by decide +kernel,rfl,by decide +kernel,by decide +kernel⟩
theorem vt (F:Fun K "need_settings" "need_settings" (top 37) f fd) (B:Blt mg) {A_NoNet:Addr} {A_NoSettings:Addr} (x_NoNet:ExcC K mg "NoNet" A_NoNet) (x_NoSettings:ExcC K mg "NoSettings" A_NoSettings) (qc0:zq P w K mg base n "is_settings" ["k","thing"] (tH A_NoNet K))    :
  FnOk P w K mg base (CX1 P w) (n + 1) f fd ["k","thing"] (wX (clsA A_NoNet A_NoHand A_NoSide A_NoSettings) K):=by
 refine Fun.okX F vq yC (fun cdv A outer s H vs Q E hr h=>?_)
 obtain ⟨x,y,rfl,d0,d,m,h0,hd,q,qe⟩:=h
 refine ⟨_,(zg (zY (yt (yr (zw qc0 (zE fun _ _ _ z=>z) hr rfl (za (pv 0) (za (pv 1) zc))))) (zg (y9 rfl x_NoSettings rfl yK zX)) zx)),?_⟩
 refine ⟨_,rfl,_,rfl,_,_,rfl,d0,d,m,h0,hd,fun hw H1 g1=>⟨_,rfl,?_⟩,fun hw e H' g=>qe .net (yF hw _) e _ g⟩
 rw [yE hw] at q qe
 unfold wo at q qe
 cases c:setP (kOf d0) d with
 | true=>rw [c] at q; exact iteF (q rfl _ g1)
 | false=>rw [c] at qe; exact iteT fun e=>qe .sett rfl e _ g1
theorem sQ:FnScope ["k","settings","lines","stage","marks"] ["k","settings"] (zh (top 40)):=⟨rfl,rfl,rfl,by decide +kernel,rfl,by decide +kernel,by decide +kernel⟩
theorem X6 (F:Fun K "led" "led" (top 40) f fd) (B:Blt mg) {A_NoNet:Addr} {A_NoHand:Addr} {A_NoSide:Addr} {A_NoSettings:Addr} (x_NoNet:ExcC K mg "NoNet" A_NoNet) (x_NoHand:ExcC K mg "NoHand" A_NoHand) (x_NoSide:ExcC K mg "NoSide" A_NoSide) (x_NoSettings:ExcC K mg "NoSettings" A_NoSettings) (qc0:zi P w K mg base n "out_line" ["k","stage","line","marks"] (vT K)) (qc1:zq P w K mg base n "need_settings" ["k","thing"] (wX (clsA A_NoNet A_NoHand A_NoSide A_NoSettings) K))    :
  FnOk P w K mg base (CX1 P w) (n + 1) f fd ["k","settings"] (vE (clsA A_NoNet A_NoHand A_NoSide A_NoSettings) K):=by
 refine Fun.okX F sQ yC (fun cdv A outer s H vs Q E hr h=>?_)
 obtain ⟨x,y,rfl,d0,d,m,h0,hd,q1,qe⟩:=h
 refine ⟨_,(zd (zV (zw qc1 (zE fun _ _ _ z=>z) hr rfl (za (pv 0) (za (pv 1) zc)))) (zd (zD (i:=2) sQ.nd rfl (Or.inl rfl) (sx rfl rfl B.list rfl B.range (za (zv y4 ze (pv 0)) zc))) (zd (PS.noxF (yZ PassesOwn.never rfl (xK rfl B.range (za ze (za (zv yH (pv 0) ze) zc))) (zn (i:=3) sQ.nd rfl (Or.inr rfl)) (zd (zD (i:=4) sQ.nd rfl (Or.inr rfl) (yj uH (pv 1) (zv y0 (pv 3) ze) (fun _ _=>rfl))) (zg (qp (i:=2) sQ.nd rfl rfl (CSc.of (N':=["line","k","stage","marks"]) (sub:=[none,some 0,some 3,some 4]) (zh (top 40)) ["k","settings","lines","stage","marks"] rfl rfl (by decide +kernel) rfl) rfl (sY (pv 2)) (fun _ _ _ _ _ _=>zn (i:=0) (show (["line","k","stage","marks"]:List Str).Nodup by decide +kernel) rfl (Or.inl rfl)) (fun _ _ _ _ _ _=>zP) (fun _ _ _ _ _ _=>(zf qc0 hr rfl (za (pv 1) (za (pv 2) (za (pv 0) (za (pv 3) zc))))))))))) (zg (zo (zH zT rfl B.tuple z9 (za (pv 2) zc))))))),?_⟩
 refine ⟨_,rfl,_,rfl,_,_,rfl,d0,d,m,h0,hd,fun hdue H1 g1=>?_,qe⟩
 have q2:=q1 hdue
 have hw:zk 0 4 d0 = true:=by
  cases c:zk 0 4 d0 with
  | true=>rfl
  | false=>rw [yF c] at hdue; cases hdue
 rw [yE hw] at hdue
 obtain ⟨k,rfl,k4⟩:=xi hw
 obtain rfl:=h0.inv_int
 rw [zW] at hdue q2
 have hg:setP k d = true:=by
  unfold wo at hdue
  cases c:setP k d with
  | true=>rfl
  | false=>rw [c] at hdue; cases hdue
 obtain ⟨W,hW⟩:∃ W:Nat,W = 2 ^ k:=⟨_,rfl⟩
 have pw:W <= 16:=by rw [hW]; exact xr k4
 have pw1:1 <= W:=by rw [hW]; exact Nat.one_le_two_pow
 have e1k:(1:Int) * 2 ^ ((k:Int)).toNat = W:=by rw [yW,hW]
 obtain ⟨rows,hR,hset,ed⟩:=Yi hd hg
 have q:=q2 rows ed hset
 refine ⟨_,rfl,_,_,rfl,rfl,vh k4,W,congrArg (fun z=>[V.int z]) e1k,by omega,fun l hl=>?_⟩
 have gl:=Grow.new (m:=[]) hl (.lst ((List.range W).map fun i:Nat=>V.int i))
 refine ⟨_,rfl,_,_,rfl,rfl,_,_,rfl,⟨by omega,by omega,by omega,by omega⟩,yG (fun i σ H'=>∃ (l:Addr) (e3 e4:Option V),σ = [some (.int k),some y,some (.ref l),e3,e4] /\ Grow [] H H' /\ H' l = some (.lst ((List.range W).map fun h:Nat=>V.int (ledN k rows h i)))) ⟨l,_,_,rfl,g1.trans gl,zb⟩ ?_ ?_⟩
 ·rintro i σ H2 hi ⟨l,e3,e4,rfl,g2,hl2⟩
  have hik:i + 1 <= k:=by omega
  obtain ⟨rs,xs,rfl,hs,hall⟩:=g2.rows hR
  obtain ⟨ra,hra,hsa⟩:=XF hall (i:=1 + (i:Int) - 1) (by omega) (by rw [hset.1]; omega)
  rw [show (1 + (i:Int) - 1).toNat = i by omega] at hsa
  have hb:=hset.bits (show i < k by omega)
  refine ⟨_,rfl,_,rfl,_,_,rfl,rfl,rs,_,_,_,rfl,rfl,hs,hra,?_⟩
  refine ⟨_,rfl,l,rfl,⟨_,SqL.of hl2⟩,uL (xs:=(List.range W).map fun h:Nat=>V.int (ledN k rows h i)) (fun j ys H'=>H' = H2 /\ ys = (List.range j).map fun h:Nat=>V.int (ledN k rows h (i + 1))) ⟨rfl,rfl⟩ (fun j ys H' h=>by rw [h.1]; exact SqL.of hl2) ?_ ?_⟩
  ·rintro j x ys H' hx ⟨rfl,rfl⟩
   have hj:j < W:=by have:=(List.getElem?_eq_some_iff.mp hx).1; rw [List.length_map,List.length_range] at this; exact this
   rw [List.getElem?_map,List.getElem?_range hj] at hx
   cases hx
   refine ⟨_,rfl,_,rfl,_,rfl,_,rfl,_,_,_,_,rfl,k,i + 1,ledN k rows j i,rows.getD i [],rfl,congrArg V.int (by omega),rfl,⟨ra,rfl,hsa⟩,k4,by omega,hik,j6 k4 (by rw [← hW]; exact hj) i (by omega),hb.1,hb.2,zm (by rw [List.length_map,List.length_range]; omega),rfl,?_⟩
   rw [List.range_succ,List.map_append]; rfl
  rintro ys H' ⟨rfl,rfl⟩ l3 hl3
  rw [List.length_map,List.length_range]
  exact ⟨l3,_,_,rfl,g2.trans (Grow.new hl3 _),zb⟩
 ·rintro σ H2 ⟨l,e3,e4,rfl,g2,hl2⟩
  rw [show ((k:Int) + 1 - 1).toNat = k by omega] at hl2
  refine ⟨_,rfl,l,_,rfl,.inl ⟨SqL.of hl2,fun r hr=>q _ _ (g2.trans (Grow.new hr _)) ⟨r,rfl,SqT.of ?_⟩⟩⟩
  rw [zb]
  unfold ledL
  rw [List.map_map,hW]; rfl
theorem ZG:FnScope ["k","stage","line","side"] ["k","stage","line","side"] (zh (top 22)):=⟨rfl,rfl,rfl,by decide +kernel,rfl,by decide +kernel,by decide +kernel⟩
theorem ZH (F:Fun K "onward" "onward" (top 22) f fd) (B:Blt mg) (qc0:zi P w K mg base n "with_figure" ["k","stage","line","wanted"] (xf K)) (qc1:zi P w K mg base n "figure" ["k","stage","line"] (xm K))    :
  FnOk P w K mg base CX0 (n + 1) f fd ["k","stage","line","side"] (sh K):=by
 refine F.ok ZG rc (fun cdv A outer s H vs Q E hr h=>?_)
 obtain ⟨x,y,z,u,rfl,k,st,l,s,rfl,rfl,rfl,rfl,k4,hs,l0,l1,s0,s1,q⟩:=h
 refine ⟨_,(zg (zo (zf qc0 hr rfl (za (pv 0) (za (pv 1) (za (pv 2) (za (zf qc1 hr rfl (za (pv 0) (za (pv 1) (za (pv 3) zc)))) zc))))))),?_⟩
 have F:=figF k4 hs s0 s1
 exact ⟨_,rfl,_,rfl,_,rfl,_,rfl,_,rfl,_,rfl,_,_,_,rfl,k,st,s,rfl,rfl,rfl,hs,_,_,_,_,rfl,k,st,l,_,rfl,rfl,rfl,rfl,k4,hs,l0,l1,F.1,q⟩
theorem ud:FnScope ["k","hand","side","lines","stage"] ["k","hand","side"] (zh (top 24)):=⟨rfl,rfl,rfl,by decide +kernel,rfl,by decide +kernel,by decide +kernel⟩
theorem ZI (F:Fun K "way_of" "way_of" (top 24) f fd) (B:Blt mg) (qc0:zi P w K mg base n "onward" ["k","stage","line","side"] (sh K))    :
  FnOk P w K mg base CX0 (n + 1) f fd ["k","hand","side"] (qo K):=by
 refine F.ok ud xq (fun cdv A outer s H vs Q E hr h=>?_)
 obtain ⟨x,y,z,rfl,k,h0,g0,rfl,rfl,rfl,k4,hh,hg,q⟩:=h
 refine ⟨_,(zd (zD (i:=3) ud.nd rfl (Or.inl rfl) (zZ (za (pv 1) zc))) (zd (yZ PassesOwn.never rfl (xK rfl B.range (za ze (za (zv yH (pv 0) ze) zc))) (zn (i:=4) ud.nd rfl (Or.inl rfl)) (zg (zV (ZP PySem.F.plainAttrs_list PySem.F.slot_list_append PySem.F.type_list_append t5 (pv 3) (za (zf qc0 hr rfl (za (pv 0) (za (pv 4) (za (yj zJ (pv 3) (YM jx ze) (fun _ _=>rfl)) (za (pv 2) zc))))) zc))))) (zg (zo (zH zT rfl B.tuple z9 (za (pv 3) zc)))))),?_⟩
 have p:=xr k4
 refine ⟨_,rfl,szl rfl,fun l hl=>?_⟩
 have gl:Grow [l] H (upd H l (.lst [.int h0])):=Grow.new hl _
 refine ⟨_,rfl,_,_,rfl,rfl,_,_,rfl,⟨by omega,by omega,by omega,by omega⟩,yG (fun i σ H'=>∃ (ys:List Int) (e:Option V),σ = [some (.int k),some (.int h0),some (.int g0),some (.ref l),e] /\ Grow [l] H H' /\ H' l = some (.lst ((ys ++ [ym k h0 g0 i]).map V.int)) /\ ys ++ [ym k h0 g0 i] = (List.range (i + 1)).map fun n=>ym k h0 g0 n) ?_ ?_ ?_⟩
 ·have e0:ym k h0 g0 0 = h0:=(ZZ k4 hh hg (n:=0) (by omega)).1.symm
  exact ⟨[],_,rfl,gl,by rw [zb,e0]; rfl,rfl⟩
 ·rintro i σ H1 hi ⟨ys,e,rfl,g,hl1,hy⟩
  have hik:i + 1 <= k:=by omega
  have F0:=ZZ k4 hh hg (n:=i) (by omega)
  have F1:=ZZ k4 hh hg (n:=i + 1) hik
  have hlen:(ys ++ [ym k h0 g0 i]).length = i + 1:=by rw [hy,List.length_map,List.length_range]
  refine ⟨_,rfl,.inl ⟨rfl,_,SqL.of hl1⟩,_,rfl,_,rfl,_,rfl,_,rfl,l,_,_,_,rfl,rfl,SqL.of hl1,Wy,_,rfl,_,_,_,_,rfl,k,i + 1,ym k h0 g0 i,g0,rfl,congrArg V.int (by omega),rfl,rfl,k4,hik,F0.2.1,F0.2.2,by omega,by omega,?_⟩
  have ew:wfI k ((i + 1:Nat):Int) (ym k h0 g0 i) (figI k ((i + 1:Nat):Int) g0) = ym k h0 g0 (i + 1):=by
   rw [← F1.1,← F0.1,show ((i + 1:Nat):Int) = 1 + (i:Int) by omega]; rfl
  rw [ew]
  refine ⟨l,_,_,rfl,rfl,hl1,zm (by rw [List.length_map,hlen]; omega),ys ++ [ym k h0 g0 i],_,rfl,g.trans (Grow.set hl1 (by simp) _),?_,?_⟩
  ·rw [zb,List.map_append (l₂:=[ym k h0 g0 (i + 1)])]; rfl
  ·rw [List.range_succ (n:=i + 1),List.map_append,← hy]; rfl
 ·rintro σ H1 ⟨ys,e,rfl,g,hl1,hy⟩
  refine ⟨_,rfl,l,_,rfl,.inl ⟨SqL.of hl1,fun r hr=>q _ _ ((g.shrink hl).trans (Grow.new hr _)) ⟨r,rfl,SqT.of ?_⟩⟩⟩
  rw [zb,hy,show ((k:Int) + 1 - 1).toNat = k by omega]; rfl
theorem jj:FnScope ["k","thing"] ["k","thing"] (zh (top 17)):=⟨rfl,rfl,rfl,by decide +kernel,rfl,by decide +kernel,by decide +kernel⟩
theorem jk (F:Fun K "is_line" "is_line" (top 17) f fd) (B:Blt mg) (qc0:zi P w K mg base n "is_within" ["thing","least","greatest"] (wb K))    :
  FnOk P w K mg base CX0 (n + 1) f fd ["k","thing"] (yR K):=by
 refine F.ok jj yk (fun cdv A outer s H vs Q E hr h=>?_)
 obtain ⟨x,y,rfl,k,d,m,rfl,k4,hd,q⟩:=h
 refine ⟨_,(zg (zo (zf qc0 hr rfl (za (pv 1) (za ze (za (zv y0 (zv y4 ze (pv 0)) ze) zc)))))),?_⟩
 refine ⟨_,rfl,_,rfl,_,_,rfl,rfl,vh k4,_,_,rfl,rfl,_,_,_,rfl,d,m,0,_,hd,rfl,congrArg V.int (by rw [yW]),q⟩
theorem sR:FnScope ["k","thing"] ["k","thing"] (zh (top 19)):=⟨rfl,rfl,rfl,by decide +kernel,rfl,by decide +kernel,by decide +kernel⟩
theorem sS (F:Fun K "need_side" "need_side" (top 19) f fd) (B:Blt mg) {A_NoSide:Addr} (x_NoSide:ExcC K mg "NoSide" A_NoSide) (qc0:zi P w K mg base n "is_line" ["k","thing"] (yR K))    :
  FnOk P w K mg base (CX1 P w) (n + 1) f fd ["k","thing"] (yD A_NoSide K):=by
 refine Fun.okX F sR yC (fun cdv A outer s H vs Q E hr h=>?_)
 obtain ⟨x,y,rfl,k,d,m,rfl,k4,hd,q⟩:=h
 refine ⟨_,(zg (zY (yt (yr (zf qc0 hr rfl (za (pv 0) (za (pv 1) zc))))) (zg (y9 rfl x_NoSide rfl yK zX)) zx)),?_⟩
 refine ⟨_,rfl,_,rfl,_,_,rfl,k,d,m,rfl,k4,hd,_,rfl,?_⟩
 cases hw:zk 0 ((2 ^ k:Nat) - 1) d with
 | true=>rw [if_pos hw] at q; exact iteF q
 | false=>rw [hw,if_neg (by decide)] at q; exact iteT q
theorem sT:FnScope ["k","thing"] ["k","thing"] (zh (top 18)):=⟨rfl,rfl,rfl,by decide +kernel,rfl,by decide +kernel,by decide +kernel⟩
theorem sU (F:Fun K "need_hand" "need_hand" (top 18) f fd) (B:Blt mg) {A_NoHand:Addr} (x_NoHand:ExcC K mg "NoHand" A_NoHand) (qc0:zi P w K mg base n "is_line" ["k","thing"] (yR K))    :
  FnOk P w K mg base (CX1 P w) (n + 1) f fd ["k","thing"] (yD A_NoHand K):=by
 refine Fun.okX F sT yC (fun cdv A outer s H vs Q E hr h=>?_)
 obtain ⟨x,y,rfl,k,d,m,rfl,k4,hd,q⟩:=h
 refine ⟨_,(zg (zY (yt (yr (zf qc0 hr rfl (za (pv 0) (za (pv 1) zc))))) (zg (y9 rfl x_NoHand rfl yK zX)) zx)),?_⟩
 refine ⟨_,rfl,_,rfl,_,_,rfl,k,d,m,rfl,k4,hd,_,rfl,?_⟩
 cases hw:zk 0 ((2 ^ k:Nat) - 1) d with
 | true=>rw [if_pos hw] at q; exact iteF q
 | false=>rw [hw,if_neg (by decide)] at q; exact iteT q
theorem X7:FnScope ["k","hand","side"] ["k","hand","side"] (zh (top 25)):=⟨rfl,rfl,rfl,by decide +kernel,rfl,by decide +kernel,by decide +kernel⟩
theorem X8 (F:Fun K "way" "way" (top 25) f fd) (B:Blt mg) {A_NoSide:Addr} {A_NoHand:Addr} {A_NoNet:Addr} (x_NoSide:ExcC K mg "NoSide" A_NoSide) (x_NoHand:ExcC K mg "NoHand" A_NoHand) (x_NoNet:ExcC K mg "NoNet" A_NoNet) (qc0:zi P w K mg base n "way_of" ["k","hand","side"] (qo K)) (qc1:zq P w K mg base n "need_side" ["k","thing"] (yD A_NoSide K)) (qc2:zq P w K mg base n "need_hand" ["k","thing"] (yD A_NoHand K)) (qc3:zq P w K mg base n "need_net" ["thing"] (xv A_NoNet K))    :
  FnOk P w K mg base (CX1 P w) (n + 1) f fd ["k","hand","side"] (v8 (clsA A_NoNet A_NoHand A_NoSide A_NoSettings) K):=by
 refine Fun.okX F X7 vC (fun cdv A outer s H vs Q E hr h=>?_)
 obtain ⟨x,y,z,rfl,d0,d1,d3,m,h0,h1,h3,q,qe⟩:=h
 refine ⟨_,(zd (zV (zw qc3 (zE fun _ _ _ z=>z) hr rfl (za (pv 0) zc))) (zd (zV (zw qc2 (zE fun _ _ _ z=>z) hr rfl (za (pv 0) (za (pv 1) zc)))) (zd (zV (zw qc1 (zE fun _ _ _ z=>z) hr rfl (za (pv 0) (za (pv 2) zc)))) (zg (zo (zf qc0 hr rfl (za (pv 0) (za (pv 1) (za (pv 2) zc))))))))),?_⟩
 refine ⟨_,rfl,_,rfl,d0,m,h0,?_⟩
 cases hw:zk 0 4 d0 with
 | false =>
  rw [if_neg (by decide)]
  exact fun e=>qe .net (yF hw _) e _ (Grow.refl _ _)
 | true =>
  rw [if_pos rfl]
  rw [yE hw] at q qe
  obtain ⟨k,rfl,k4⟩:=xi hw
  obtain rfl:=h0.inv_int
  rw [zW] at q qe
  unfold xo at q qe
  refine ⟨_,rfl,_,rfl,_,_,rfl,k,d1,m,rfl,k4,h1,?_⟩
  cases hh:zF k d1 with
  | false =>
   rw [show zk 0 ((2 ^ k:Nat) - 1) d1 = false from hh,if_neg (by decide)]
   rw [hh] at qe
   exact fun e=>qe .hand rfl e _ (Grow.refl _ _)
  | true =>
   rw [show zk 0 ((2 ^ k:Nat) - 1) d1 = true from hh,if_pos rfl]
   rw [hh,if_pos rfl] at q qe
   obtain ⟨n,rfl,hn⟩:=yb hh
   obtain rfl:=h1.inv_int
   refine ⟨_,rfl,_,rfl,_,_,rfl,k,d3,m,rfl,k4,h3,?_⟩
   cases hg:zF k d3 with
   | false =>
    rw [show zk 0 ((2 ^ k:Nat) - 1) d3 = false from hg,if_neg (by decide)]
    rw [hg] at qe
    exact fun e=>qe .side rfl e _ (Grow.refl _ _)
   | true =>
    rw [show zk 0 ((2 ^ k:Nat) - 1) d3 = true from hg,if_pos rfl]
    rw [hg,if_pos rfl] at q
    obtain ⟨g,rfl,hg'⟩:=yb hg
    obtain rfl:=h3.inv_int
    rw [zW,zW] at q
    exact ⟨_,rfl,_,rfl,_,rfl,_,_,_,rfl,k,n,g,rfl,rfl,rfl,k4,hn,hg',q rfl⟩
theorem rQ:FnScope ["k"] ["k"] (zh (top 38)):=⟨rfl,rfl,rfl,by decide +kernel,rfl,by decide +kernel,by decide +kernel⟩
theorem rR (F:Fun K "straight" "straight" (top 38) f fd) (B:Blt mg) {A_NoNet:Addr} (x_NoNet:ExcC K mg "NoNet" A_NoNet) (qc0:zi P w K mg base n "switches_in_a_stage" ["k"] (yB K)) (qc1:zq P w K mg base n "need_net" ["thing"] (xv A_NoNet K))    :
  FnOk P w K mg base (CX1 P w) (n + 1) f fd ["k"] (rG A_NoNet K):=by
 refine Fun.okX F rQ qB (fun cdv A outer s H vs Q E hr h=>?_)
 obtain ⟨x,rfl,d0,m,h0,q,qe⟩:=h
 refine ⟨_,(zd (zV (zw qc1 (zE fun _ _ _ z=>z) hr rfl (za (pv 0) zc))) (zg (zo (zv (rD (K:=K) rfl) (yg (za (zv (rD (K:=K) rfl) (yg (za ze zc)) (zf qc0 hr rfl (za (pv 0) zc))) zc)) (pv 0))))),?_⟩
 refine ⟨_,rfl,_,rfl,d0,m,h0,?_⟩
 cases hw:zk 0 4 d0 with
 | false =>
  rw [if_neg (by decide)]
  exact fun e=>qe hw e _ (Grow.refl _ _)
 | true =>
 rw [if_pos rfl]
 have q2:=q hw
 obtain ⟨k,rfl,k4⟩:=xi hw
 obtain rfl:=h0.inv_int
 have p:=xr k4
 refine ⟨szl rfl,fun t1 ht1=>⟨_,rfl,_,rfl,k,rfl,k4,t1,2 ^ k / 2,[.int 0],rfl,rfl,SqT.of zb,by simp,Nat.le_of_lt (zm (by show 1 * _ <= 1000; omega)),fun p1 H1 g1 h1=>⟨szl rfl,fun t2 ht2=>⟨_,rfl,t2,k,[.ref p1],rfl,rfl,SqT.of zb,by simp,Nat.le_of_lt (zm (by show 1 * k <= 1000; omega)),fun p2 H2 g2 h2=>?_⟩⟩⟩⟩
 exact q2 _ _ ((Grow.new ht1 _).trans (g1.trans ((Grow.new ht2 _).trans g2)))
theorem xw:FnScope ["k","stage","ways","marks","lines","crossed"] ["k","stage","ways"] (zh (top 42)):=⟨rfl,rfl,rfl,by decide +kernel,rfl,by decide +kernel,by decide +kernel⟩
theorem rS (F:Fun K "marks_by" "marks_by" (top 42) f fd) (B:Blt mg) (qc0:zi P w K mg base n "switch_at" ["k","stage","line"] (y8 K)) (qc1:zi P w K mg base n "figure" ["k","stage","line"] (xm K)) (qc2:zi P w K mg base n "switches_in_a_stage" ["k"] (yB K))    :
  FnOk P w K mg base CX0 (n + 1) f fd ["k","stage","ways"] (vV K):=by
 refine F.ok xw xq (fun cdv A outer s H vs Q E hr h=>?_)
 obtain ⟨x,y,z,rfl,k,st,gs,lw,ws,rfl,rfl,rfl,hlw,hall,k4,s1,s2,hok,q⟩:=h
 refine ⟨_,(zd (zD (i:=3) xw.nd rfl (Or.inl rfl) (zv Yo (zZ (za ze zc)) (zf qc2 hr rfl (za (pv 0) zc)))) (zd (yZ PassesOwn.never rfl (sY (pv 2)) (zn (i:=4) xw.nd rfl (Or.inl rfl)) (zd (zD (i:=5) xw.nd rfl (Or.inl rfl) (zv qc (zf qc1 hr rfl (za (pv 0) (za (pv 1) (za (yj uH (pv 4) (zv y0 (pv 1) ze) (fun _ _=>rfl)) zc)))) (zf qc1 hr rfl (za (pv 0) (za (pv 1) (za (yj uH (pv 4) (pv 1) (fun _ _=>rfl)) zc)))))) (zg (wC (pv 5) (uE (pv 3) (zf qc0 hr rfl (za (pv 0) (za (pv 1) (za (yj uH (pv 4) (pv 1) (fun _ _=>rfl)) zc)))) xX))))) (zg (zo (zH zT rfl B.tuple z9 (za (pv 3) zc)))))),?_⟩
 have p:=xr k4
 have hpl:(plOf gs).length = 2 ^ k:=qt.trans hok.1
 have hwl:(yo k (plOf gs)).length = 2 ^ k:=by unfold yo; rw [List.length_map,hpl]
 have hwsl:ws.length = 2 ^ k:=hall.len.trans hwl
 refine ⟨szl rfl,fun l0 hl0=>?_⟩
 have g0:=Grow.new (m:=[]) hl0 (.lst [V.int 0])
 refine ⟨_,rfl,_,rfl,k,rfl,k4,l0,_,_,rfl,rfl,zb,by omega,by omega,?_,fun lm hlm=>?_⟩
 ·show 1 * _ <= _
  rw [Int.toNat_natCast]; exact Nat.le_of_lt (zm (by omega))
 have gm:=g0.trans (Grow.new (m:=[]) hlm (.lst (List.replicate ((2 ^ k / 2:Nat):Int).toNat [V.int 0]).flatten))
 have hlmH:H lm = none:=g0.free (by simp) hlm
 have em:(List.replicate ((2 ^ k / 2:Nat):Int).toNat [V.int 0]).flatten = (List.replicate (2 ^ k / 2) (0:Int)).map V.int:=by
  rw [Int.toNat_natCast]
  generalize 2 ^ k / 2 = n
  induction n with
  | zero=>rfl
  | succ n ih=>rw [List.replicate_succ,List.flatten_cons,ih,List.replicate_succ]; rfl
 have nlw:lw ≠ lm:=fun e=>by rw [e,hlmH] at hlw; cases hlw
 rw [em] at gm
 rw [em]
 refine ⟨_,rfl,lw,rfl,⟨_,SqL.of (gm.keep _ _ (by simp) hlw)⟩,ZL (xs:=ws) (fun i σ H'=>∃ (e4 e5:Option V),σ = [some (.int k),some (.int st),some (.ref lw),some (.ref lm),e4,e5] /\ Grow [lm] H H' /\ H' lm = some (.lst ((((plOf gs).take i).foldl (uP k st) (List.replicate (2 ^ k / 2) 0)).map V.int))) ⟨_,_,rfl,gm.wk,zb⟩ ?_ ?_ ?_⟩
 ·rintro i σ H' _ ⟨_,_,_,g,_⟩
  exact SqL.of (g.keep _ _ (by simpa using nlw) hlw)
 ·rintro i x σ H' hx ⟨e4,e5,rfl,g,hm⟩
  obtain ⟨row,hrow,rr,rfl,hrr⟩:=hall.get hx
  have hi:i < 2 ^ k:=by rw [← hwsl]; exact (List.getElem?_eq_some_iff.mp hx).1
  have epl:(plOf gs)[i]? = some (i,gs.getD i 0):=by
   unfold plOf
   rw [List.getElem?_map,List.getElem?_range (by rw [hok.1]; exact hi)]; rfl
  have er:row = yu k i (gs.getD i 0):=by
   unfold yo at hrow
   rw [List.getElem?_map,epl] at hrow
   exact (Option.some.inj hrow).symm
  subst er
  have hg:=hok.get hi
  obtain ⟨_,_,Wf⟩:=wayF k4 hi hg
  have w1:=(Wf st s2).1
  have hwr:(yu k i (gs.getD i 0)).length = k + 1:=by unfold yu; rw [List.length_map,List.length_range]
  have hrr':=g.sqT hrr
  have O:=oneF k4 s1 s2 w1.2
  have gi1:=getI (xs:=yu k i (gs.getD i 0)) (i:=(st:Int) - 1) (by omega) (by rw [hwr]; omega)
  rw [show ((st:Int) - 1).toNat = st - 1 by omega,wR (by omega)] at gi1
  have gi2:=getI (xs:=yu k i (gs.getD i 0)) (i:=(st:Int)) (by omega) (by rw [hwr]; omega)
  rw [Int.toNat_natCast,wR s2] at gi2
  refine ⟨_,rfl,_,rfl,_,rfl,_,rfl,_,_,rfl,rfl,rr,_,_,_,rfl,rfl,hrr',gi1,_,_,_,rfl,k,st,_,rfl,rfl,rfl,s2,?_⟩
  refine ⟨_,rfl,_,rfl,_,rfl,_,rfl,rr,_,_,_,rfl,rfl,hrr',gi2,_,_,_,rfl,k,st,_,rfl,rfl,rfl,s2,_,_,rfl,rfl,?_⟩
  refine ⟨_,rfl,_,rfl,_,rfl,_,rfl,_,rfl,_,rfl,rr,_,_,_,rfl,rfl,hrr',gi2,_,_,_,rfl,k,st,_,rfl,rfl,rfl,k4,s2,by rw [w1.1]; omega,by rw [w1.1]; have:=w1.2; omega,?_⟩
  rw [w1.1,O.sw,O.num]
  have hn:=O.lt
  have hml:((plOf gs).take i).foldl (uP k st) (List.replicate (2 ^ k / 2) 0) = vS k st ((plOf gs).take i):=rfl
  rw [hml] at hm
  have hlen:=j9 (k:=k) (st:=st) (pl:=(plOf gs).take i)
  rw [rm (by omega)] at hlen
  refine ⟨lm,_,_,nN k st (lN k i (gs.getD i 0) st),rfl,rfl,hm,?_,?_⟩
  ·have:=u8 (n:=((vS k st ((plOf gs).take i)).map V.int).length) (i:=(nN k st (lN k i (gs.getD i 0) st):Int)) (by omega) (by rw [List.length_map,hlen]; omega)
   rw [Int.toNat_natCast] at this
   exact this
  refine ⟨_,_,rfl,g.trans (Grow.set hm (by simp) _),?_⟩
  rw [zb,List.take_add_one,epl,List.foldl_append]
  show _ = some (HO.lst ((uP k st (vS k st ((plOf gs).take i)) (i,gs.getD i 0)).map V.int))
  unfold uP
  rw [List.map_set]
  unfold Yw
  rw [w1.1]
 ·rintro σ H' ⟨e4,e5,rfl,g,hm⟩
  rw [hwsl,List.take_of_length_le (by omega)] at hm
  refine ⟨_,rfl,lm,_,rfl,.inl ⟨SqL.of hm,fun r hr=>q _ _ ((g.shrink hlmH).trans (Grow.new hr _)) ⟨r,rfl,SqT.of ?_⟩⟩⟩
  rw [zb]; rfl
theorem yc:FnScope ["k","pairs","ways","level","level_lines","line","following"] ["k","pairs"] (zh (top 31)):=⟨rfl,rfl,rfl,by decide +kernel,rfl,by decide +kernel,by decide +kernel⟩
theorem uw (F:Fun K "shared_line" "shared_line" (top 31) f fd) (B:Blt mg) (qc0:zi P w K mg base n "way_of" ["k","hand","side"] (qo K)) (g_zip:mg "zip" = none) (g_sorted:mg "sorted" = none)   :
  FnOk P w K mg base CX0 (n + 1) f fd ["k","pairs"] (xg K):=by
 refine F.ok yc yk (fun cdv A outer s H vs Q E hr h=>?_)
 obtain ⟨x,y,rfl,k,pl,rfl,k4,⟨r,xs,rfl,hs,hall⟩,hl40,hok,q⟩:=h
 refine ⟨_,(zd (qp (i:=2) yc.nd rfl rfl (CSc.of (N':=["hand","side","k"]) (sub:=[none,none,some 0]) (zh (top 31)) ["k","pairs","ways","level","level_lines","line","following"] rfl rfl (by decide +kernel) rfl) rfl (xk (pv 1)) (fun _ _ _ _ _ _=>tf (K:=K) 2 rfl rfl (zt (zn (i:=0) (show (["hand","side","k"]:List Str).Nodup by decide +kernel) rfl (Or.inl rfl) (Or.inr rfl)) (zt (zn (i:=1) (show (["hand","side","k"]:List Str).Nodup by decide +kernel) rfl (Or.inl rfl) (Or.inr rfl)) yx)) rfl rfl) (fun _ _ _ _ _ _=>zP) (fun _ _ _ _ _ _=>(zf qc0 hr rfl (za (pv 2) (za (pv 0) (za (pv 1) zc)))))) (zd (yZ PassesOwn.never rfl (yh rfl B.range (za (zv yH (pv 0) ze) zc)) (zn (i:=3) yc.nd rfl (Or.inr rfl)) (zd (zD (i:=4) yc.nd rfl (Or.inl rfl) (zj (sj (K:=K) rfl) rfl g_sorted ZT (za (ya (CSc.of (N':=["lines","level"]) (sub:=[none,some 3]) (zh (top 31)) ["k","pairs","ways","level","level_lines","line","following"] rfl rfl (by decide +kernel) rfl) rfl (sY (pv 2)) (fun _ _ _ _ _ _=>zn (i:=0) (show (["lines","level"]:List Str).Nodup by decide +kernel) rfl (Or.inl rfl)) (fun _ _ _ _ _ _=>zP) (fun _ _ _ _ _ _=>(yj (jO (K:=K) rfl) (pv 0) (pv 1) (fun _ _=>rfl)))) zc))) (zg (yZ PassesOwn.never rfl (XJ (K:=K) rfl rfl g_zip (za (pv 4) (za (y6 vK (pv 4) (xO ze) xM) zc))) (uD rfl (zt (zn (i:=5) yc.nd rfl (Or.inl rfl)) (zt (zn (i:=6) yc.nd rfl (Or.inl rfl)) yx))) (zg (zY (zz yI (pv 5) (pv 6) (zA _)) (zg (zo (yg (za (pv 3) (za (pv 5) zc))))) zx)))))) (zg (zo xG)))),?_⟩
 have hl:=hall.len
 refine ⟨_,rfl,r,rfl,⟨_,hs⟩,vz (xs:=xs) (fun i ws σ H'=>∃ (e0 e1:Option V),σ = [e0,e1,some (.int k)] /\ AllR (zS K H') ws ((yo k pl).take i) /\ Grow [] H H') ⟨_,_,rfl,trivial,Grow.refl _ _⟩ (fun i ws σ H' _ ⟨_,_,_,_,g⟩=>g.sqT hs) ?_ ?_⟩
 ·rintro i x ws σ H1 hx ⟨e0,e1,rfl,ha,g1⟩
  obtain ⟨pq,hpq,rp,rfl,hrp⟩:=hall.get hx
  have o:=hok pq (List.mem_of_getElem? hpq)
  have hi:i < pl.length:=(List.getElem?_eq_some_iff.mp hpq).1
  refine ⟨rp,_,rfl,g1.sqT hrp,rfl,_,_,rfl,_,_,rfl,rfl,jM ?_⟩
  refine ⟨_,rfl,_,rfl,_,rfl,_,_,_,rfl,k,pq.1,pq.2,rfl,rfl,rfl,k4,o.1,o.2,fun y2 H2 g2 h2=>⟨zm (by rw [ha.len,List.length_take]; omega),_,_,rfl,?_,g1.trans g2⟩⟩
  have e:(yo k pl)[i]? = some (yu k pq.1 pq.2):=by unfold yo; rw [List.getElem?_map,hpq]; rfl
  rw [List.take_add_one,e]
  exact (g2.boardsR ha).app (.one h2)
 rintro ws σ H2 ⟨_,_,rfl,ha2,g2⟩ lw hlw
 rw [hl,List.take_of_length_le (by unfold yo; rw [List.length_map]; omega)] at ha2
 have g3:=Grow.new (m:=[]) hlw (.lst ws)
 have hall3:=g3.boardsR ha2
 have hlw3:upd H2 lw (.lst ws) lw = some (.lst ws):=zb
 have gB:=g2.trans g3
 revert hall3 hlw3 gB
 clear g3
 generalize upd H2 lw (.lst ws) = HB
 intro hall3 hlw3 gB
 have hrl:(yo k pl).length = pl.length:=by unfold yo; rw [List.length_map]
 refine ⟨_,rfl,_,_,rfl,rfl,_,rfl,by omega,by omega,yG (fun i σ H'=>∃ (e3 e4 e5 e6:Option V),σ = [some (.int k),some (.ref r),some (.ref lw),e3,e4,e5,e6] /\ Grow [] HB H' /\ ∀ j,j < i -> x9 (yo k pl) j = none) ⟨_,_,_,_,rfl,Grow.refl _ _,fun j hj=>absurd hj (Nat.not_lt_zero j)⟩ ?_ ?_⟩
 ·rintro i σ H4 hi ⟨e3,e4,e5,e6,rfl,g4,hno⟩
  have hik:i <= k:=by omega
  have hall4:=g4.boardsR hall3
  have hlw4:=g4.keep _ _ (by simp) hlw3
  refine ⟨_,rfl,lw,rfl,⟨_,SqL.of hlw4⟩,uL (xs:=ws) (fun j ys H'=>H' = H4 /\ ys = ((yJ (yo k pl) i).take j).map V.int) ⟨rfl,rfl⟩ (fun j ys H' h=>by rw [h.1]; exact SqL.of hlw4) ?_ ?_⟩
  ·rintro j x ys H' hx ⟨rfl,rfl⟩
   obtain ⟨row,hrow,rr,rfl,hrr⟩:=hall4.get hx
   have hj:j < (yo k pl).length:=(List.getElem?_eq_some_iff.mp hrow).1
   obtain ⟨pq,hpq,rfl⟩:∃ pq,pl[j]? = some pq /\ row = yu k pq.1 pq.2:=by
    unfold yo at hrow
    rw [List.getElem?_map] at hrow
    cases e:pl[j]? with
    | none=>rw [e] at hrow; cases hrow
    | some pq=>rw [e] at hrow; exact ⟨pq,rfl,(Option.some.inj hrow).symm⟩
   have hwl:(yu k pq.1 pq.2).length = k + 1:=by unfold yu; rw [List.length_map,List.length_range]
   refine ⟨_,rfl,_,rfl,rr,_,_,_,rfl,rfl,hrr,getI (by omega) (by rw [hwl]; omega),zm ?_,rfl,?_⟩
   ·rw [List.length_map,List.length_take]
    have:(yJ (yo k pl) i).length = pl.length:=by unfold yJ; rw [List.length_map,hrl]
    omega
   ·have e1:(yJ (yo k pl) i)[j]? = some ((yu k pq.1 pq.2).getD i 0):=by unfold yJ; rw [List.getElem?_map,hrow]; rfl
    rw [List.take_add_one,e1,List.map_append,show (0 + (i:Int)).toNat = i by omega]; rfl
  rintro ys H' ⟨rfl,rfl⟩ l5 hl5
  have hall4l:=hall4.len
  have elen:(yJ (yo k pl) i).length = pl.length:=by unfold yJ; rw [List.length_map,hrl]
  have e5:((yJ (yo k pl) i).take ws.length).map V.int = (yJ (yo k pl) i).map V.int:=by rw [List.take_of_length_le (by omega)]
  rw [e5]
  have g5:=Grow.new (m:=[]) hl5 (.lst ((yJ (yo k pl) i).map V.int))
  refine ⟨l5,yJ (yo k pl) i,rfl,SqL.of zb,by omega,fun p6 ms hp6 pm po=>?_⟩
  have ems:=Z6 pm po
  have lms:=pm.length_eq
  have g6:=Grow.new (m:=[]) hp6 (.lst (ms.map V.int))
  refine ⟨_,rfl,_,rfl,_,rfl,p6,_,rfl,SqL.of zb,fun p7 hp7=>?_⟩
  have ec:cutV (ms.map V.int) (some 1) none = (ms.drop 1).map V.int:=by
   unfold cutV
   rw [List.length_map,show (1:Int) = ((1:Nat):Int) from rfl,HT.sIx_none,HT.sIx_nat,← List.map_drop,← List.map_take]
   by_cases c:1 <= ms.length
   ·rw [Nat.min_eq_left c,List.take_of_length_le (by rw [List.length_drop]; exact Nat.le_refl _)]
   ·rw [Nat.min_eq_right (by omega),List.drop_eq_nil_of_le (by omega),List.drop_eq_nil_of_le (by omega)]; simp
  rw [ec]
  have g7:=Grow.new (m:=[]) hp7 (.lst ((ms.drop 1).map V.int))
  have gE:Grow [] H' _:=g5.trans (g6.trans g7)
  have hp6':(upd (upd (upd H' l5 (.lst ((yJ (yo k pl) i).map V.int))) p6 (.lst (ms.map V.int))) p7 (.lst ((ms.drop 1).map V.int))) p6 = some (.lst (ms.map V.int)):=g7.keep _ _ (by simp) zb
  have hp7':(upd (upd (upd H' l5 (.lst ((yJ (yo k pl) i).map V.int))) p6 (.lst (ms.map V.int))) p7 (.lst ((ms.drop 1).map V.int))) p7 = some (.lst ((ms.drop 1).map V.int)):=zb
  revert gE hp6' hp7'
  clear g5 g6 g7
  generalize upd (upd (upd H' l5 (.lst ((yJ (yo k pl) i).map V.int))) p6 (.lst (ms.map V.int))) p7 (.lst ((ms.drop 1).map V.int)) = H7
  intro gE hp6' hp7'
  refine ⟨false,false,p6,p7,rfl,⟨_,SqL.of hp6'⟩,⟨_,SqL.of hp7'⟩,Y0 (xs:=ms.map V.int) (ys:=(ms.drop 1).map V.int) (fun j σ H'=>∃ (e5 e6:Option V),σ = [some (.int k),some (.ref r),some (.ref lw),some (.int (0 + (i:Int))),some (.ref p6),e5,e6] /\ Grow [] H7 H' /\ dupS ms = dupS (ms.drop j)) ⟨_,_,rfl,Grow.refl _ _,rfl⟩ (fun j σ H' ⟨_,_,_,g,_⟩=>⟨SqL.of (g.keep _ _ (by simp) hp6'),SqL.of (g.keep _ _ (by simp) hp7')⟩) ?_ ?_⟩
  ·rintro j xa xb σ H8 T hxa hxb ⟨e5,e6,rfl,g8,hd⟩ hT
   rw [List.getElem?_map] at hxa hxb
   obtain ⟨va,hva,rfl⟩:∃ va,ms[j]? = some va /\ xa = V.int va:=by
    cases e:ms[j]? with
    | none=>rw [e] at hxa; cases hxa
    | some va=>rw [e] at hxa; exact ⟨va,rfl,(Option.some.inj hxa).symm⟩
   obtain ⟨vb,hvb,rfl⟩:∃ vb,ms[j + 1]? = some vb /\ xb = V.int vb:=by
    rw [List.getElem?_drop,Nat.add_comm 1 j] at hxb
    cases e:ms[j + 1]? with
    | none=>rw [e] at hxb; cases hxb
    | some vb=>rw [e] at hxb; exact ⟨vb,rfl,(Option.some.inj hxb).symm⟩
   have gT:=Grow.new (m:=[]) hT (.tup [.int va,.int vb])
   refine ⟨T,_,rfl,SqT.of zb,rfl,_,_,rfl,_,_,rfl,rfl,_,rfl,_,rfl,rfl,_,rfl,?_⟩
   by_cases c:va = vb
   ·subst c
    refine yd (decide_eq_true rfl) ⟨_,rfl,_,rfl,szl rfl,fun t9 ht9=>?_⟩
    refine q (some (i,va)) _ _ (gB.trans (g4.trans (gE.trans (g8.trans (gT.trans (Grow.new ht9 _)))))) ⟨t9,rfl,SqT.of (by rw [zb,Int.zero_add])⟩ ⟨hik,?_,hno⟩
    show dupS (Z5 (yJ (yo k pl) i)) = some va
    rw [← ems,hd,XQ hva hvb]
   ·exact zy (decide_eq_false fun z=>c (V.int.inj z)) ⟨_,_,rfl,g8.trans gT,by rw [hd,XR hva hvb c]⟩
  ·rintro σ H8 ⟨e5,e6,rfl,g8,hd⟩
   refine ⟨_,_,_,_,rfl,g4.trans (gE.trans g8),fun j hj=>?_⟩
   by_cases c:j < i
   ·exact hno j c
   ·have:j = i:=by omega
    subst this
    show dupS (Z5 (yJ (yo k pl) j)) = none
    rw [← ems,hd]
    exact Y4 (by rw [List.length_map,List.length_map,List.length_drop]; omega)
 ·rintro σ H4 ⟨e3,e4,e5,e6,rfl,g4,hno⟩
  exact q none _ _ (gB.trans g4) rfl fun l hl=>hno l (by omega)
theorem wM:FnScope ["k","thing","row"] ["k","thing"] (zh (top 41)):=⟨rfl,rfl,rfl,by decide +kernel,rfl,by decide +kernel,by decide +kernel⟩
theorem tL (F:Fun K "need_sides" "need_sides" (top 41) f fd) (B:Blt mg) {A_NoSide:Addr} (x_NoSide:ExcC K mg "NoSide" A_NoSide) (qc0:zi P w K mg base n "is_line" ["k","thing"] (yR K))    :
  FnOk P w K mg base (CX1 P w) (n + 1) f fd ["k","thing"] (wW A_NoSide K):=by
 refine Fun.okX F wM yC (fun cdv A outer s H vs Q E hr h=>?_)
 obtain ⟨x,y,rfl,k,d,m,rfl,k4,hd,q,qe⟩:=h
 refine ⟨_,(zd (zD (i:=2) wM.nd rfl (Or.inl rfl) (xJ (zj (zU (K:=K) rfl) rfl B.isinstance zp (za (pv 1) (za (yV rfl B.tuple z9) zc))) (xz (xp yI (zj zC rfl B.len wu (za (pv 1) zc)) (zv y4 ze (pv 0)) (zA _))))) (zg (zY (PW.pt (vk (yt (yr (pv 2))) (xI (yt (yr (zj (yi rfl) rfl B.all uj (za (ya (CSc.of (N':=["side","k"]) (sub:=[none,some 0]) (zh (top 41)) ["k","thing","row"] rfl rfl (by decide +kernel) rfl) rfl (xk (pv 1)) (fun _ _ _ _ _ _=>zn (i:=0) (show (["side","k"]:List Str).Nodup by decide +kernel) rfl (Or.inl rfl)) (fun _ _ _ _ _ _=>zP) (fun _ _ _ _ _ _=>(zf qc0 hr rfl (za (pv 1) (za (pv 0) zc))))) zc))))))) (zg (y9 rfl x_NoSide rfl yK zX)) zx))),?_⟩
 have p:=xr k4
 have e1k:(1:Int) * 2 ^ ((k:Int)).toNat = ((2 ^ k:Nat):Int):=yW
 refine ⟨_,rfl,_,d,m,_,_,rfl,hd,xh,_,rfl,?_⟩
 cases d with
 | tuple ds =>
  obtain ⟨a,xs,rfl,hs,ha⟩:=hd.inv_tup
  have hl:=ha.length
  refine iteT ⟨_,rfl,a,_,rfl,.inr hs,_,rfl,_,_,rfl,rfl,vh k4,rfl,?_⟩
  by_cases c:ds.length = 2 ^ k
  ·have ec:decide (V.int (xs.length:Int) = V.int (1 * 2 ^ ((k:Int)).toNat)) = true:=decide_eq_true (congrArg V.int (by rw [e1k]; omega))
   refine ⟨_,rfl,_,rfl,zy (by show (!decide (V.int _ = V.int (1 * 2 ^ ((k:Int)).toNat))) = false; rw [ec]; rfl) ?_⟩
   refine ⟨_,rfl,a,rfl,⟨_,hs⟩,xn (xs:=xs) (fun i ys H'=>ys = ((ds.take i).map (zF k)).map V.bl /\ Grow [] H H') ⟨rfl,Grow.refl _ _⟩ (fun i ys H' p=>p.2.sqT hs) ?_ ?_⟩
   ·rintro i x ys H' hx ⟨rfl,g⟩
    obtain ⟨e,he,oe⟩:=ha.get hx
    refine ⟨_,rfl,_,rfl,_,_,rfl,k,e,m,rfl,k4,oe.grow g.wk,zm (by rw [List.length_map,List.length_map,List.length_take]; omega),?_,g⟩
    rw [sJ he,List.map_append]; rfl
   ·rintro ys H' ⟨rfl,g⟩ l hl'
    rw [hl,List.take_length]
    have es:xC k (.tuple ds) = (ds.map (zF k)).all id:=by show (decide (ds.length = 2 ^ k) && _) = _; rw [decide_eq_true c,wH]; rfl
    have g2:=g.trans (Grow.new hl' (.lst ((ds.map (zF k)).map V.bl)))
    refine ⟨l,ds.map (zF k),rfl,SqL.of zb,_,rfl,?_⟩
    rw [← es]
    cases cs:xC k (.tuple ds) with
    | true=>exact iteF (q cs _ g2)
    | false=>exact iteT fun e=>qe cs e _ g2
  ·have ec:decide (V.int (xs.length:Int) = V.int (1 * 2 ^ ((k:Int)).toNat)) = false:=decide_eq_false fun z=>c (by have:=V.int.inj z; rw [e1k] at this; omega)
   have es:xC k (.tuple ds) = false:=by show (decide (ds.length = 2 ^ k) && _) = _; rw [decide_eq_false c]; rfl
   exact ⟨_,rfl,_,rfl,yd (by show (!decide (V.int _ = V.int (1 * 2 ^ ((k:Int)).toNat))) = true; rw [ec]; rfl) fun e=>qe es e _ (Grow.refl _ _)⟩
 | _=>exact iteF ⟨_,rfl,_,rfl,iteT fun e=>qe rfl e _ (Grow.refl _ _)⟩
theorem yX:FnScope ["k","sides","clash","ways"] ["k","sides"] (zh (top 43)):=⟨rfl,rfl,rfl,by decide +kernel,rfl,by decide +kernel,by decide +kernel⟩
theorem ue (F:Fun K "settings_for" "settings_for" (top 43) f fd) (B:Blt mg) {A_NoSide:Addr} {A_NoNet:Addr} (x_NoSide:ExcC K mg "NoSide" A_NoSide) (x_NoNet:ExcC K mg "NoNet" A_NoNet) (qc0:zi P w K mg base n "marks_by" ["k","stage","ways"] (vV K)) (qc1:zi P w K mg base n "way_of" ["k","hand","side"] (qo K)) (qc2:zi P w K mg base n "shared_line" ["k","pairs"] (xg K)) (qc3:zq P w K mg base n "need_sides" ["k","thing"] (wW A_NoSide K)) (qc4:zq P w K mg base n "need_net" ["thing"] (xv A_NoNet K)) (g_enumerate:mg "enumerate" = none)   :
  FnOk P w K mg base (CX1 P w) (n + 1) f fd ["k","sides"] (ZA (clsA A_NoNet A_NoHand A_NoSide A_NoSettings) K):=by
 refine Fun.okX F yX yC (fun cdv A outer s H vs Q E hr h=>?_)
 obtain ⟨x,y,rfl,d0,d,m,h0,hd,q0,qe⟩:=h
 refine ⟨_,(zd (zV (zw qc4 (zE fun _ _ _ z=>z) hr rfl (za (pv 0) zc))) (zd (zV (zw qc3 (zE fun _ _ _ z=>z) hr rfl (za (pv 0) (za (pv 1) zc)))) (zd (zD (i:=2) yX.nd rfl (Or.inl rfl) (zf qc2 hr rfl (za (pv 0) (za (ss true (K:=K) rfl rfl rfl B.tuple rfl g_enumerate (za (pv 1) zc)) zc)))) (zd (zY (Xp (YJ (pv 2))) (zg (zo (yg (za zX (za (pv 2) zc))))) zx) (zd (zD (i:=3) yX.nd rfl (Or.inr rfl) (ya (CSc.of (N':=["hand","side","k"]) (sub:=[none,none,some 0]) (zh (top 43)) ["k","sides","clash","ways"] rfl rfl (by decide +kernel) rfl) rfl (qq true (K:=K) rfl rfl g_enumerate (za (pv 1) zc)) (fun _ _ _ _ _ _=>tf (K:=K) 2 rfl rfl (zt (zn (i:=0) (show (["hand","side","k"]:List Str).Nodup by decide +kernel) rfl (Or.inl rfl) (Or.inr rfl)) (zt (zn (i:=1) (show (["hand","side","k"]:List Str).Nodup by decide +kernel) rfl (Or.inl rfl) (Or.inr rfl)) yx)) rfl rfl) (fun _ _ _ _ _ _=>zP) (fun _ _ _ _ _ _=>(zf qc1 hr rfl (za (pv 2) (za (pv 0) (za (pv 1) zc))))))) (zg (zo (yg (za zX (za (zH zT rfl B.tuple z9 (za (ya (CSc.of (N':=["stage","k","ways"]) (sub:=[none,some 0,some 3]) (zh (top 43)) ["k","sides","clash","ways"] rfl rfl (by decide +kernel) rfl) rfl (xK rfl B.range (za ze (za (zv yH (pv 0) ze) zc))) (fun _ _ _ _ _ _=>zn (i:=0) (show (["stage","k","ways"]:List Str).Nodup by decide +kernel) rfl (Or.inl rfl)) (fun _ _ _ _ _ _=>zP) (fun _ _ _ _ _ _=>(zf qc0 hr rfl (za (pv 1) (za (pv 0) (za (pv 2) zc)))))) zc)) zc)))))))))),?_⟩
 refine ⟨_,rfl,_,rfl,d0,m,h0,?_⟩
 cases hw:zk 0 4 d0 with
 | false =>
  rw [if_neg (by decide)]
  exact fun e=>qe .net (yF hw _) e _ (Grow.refl _ _)
 | true =>
 rw [if_pos rfl]
 unfold XQ37 at q0
 rw [yE hw] at q0 qe
 obtain ⟨k,rfl,k4⟩:=xi hw
 obtain rfl:=h0.inv_int
 rw [zW] at q0 qe
 unfold wd at q0 qe
 refine ⟨_,rfl,_,rfl,_,_,rfl,k,d,m,rfl,k4,hd,fun hsd H1 g1=>?_,fun hsd e H' g=>qe .side (by rw [hsd]; rfl) e _ g⟩
 have q1:=q0 (by rw [hsd]; rfl)
 have q:∀ (o:Option (Nat × Int)) r H',Grow [] H H' -> Q r H':=fun _ r H' g=>q1 r H' g
 obtain ⟨gs,r,rfl,hs,hok⟩:=Xj hd hsd
 obtain ⟨W,hW⟩:∃ W:Nat,W = 2 ^ k:=⟨_,rfl⟩
 have pw:W <= 16:=by rw [hW]; exact xr k4
 have pw1:1 <= W:=by rw [hW]; exact Nat.one_le_two_pow
 have e1k:(1:Int) * 2 ^ ((k:Int)).toNat = W:=by rw [yW,hW]
 have hl:(vU gs).length = W:=by rw [Za hok,hW]
 have hpl:(plOf gs).length = W:=by rw [qt,hok.1,hW]
 refine ⟨_,rfl,_,rfl,r,_,rfl,g1.sqT hs,by omega,fun r2 Ts H2 g2 hn2 h2 hT2 hTs=>?_⟩
 rw [hl] at hT2
 have hprs:AllR (PrAt K H2) (Ts.map V.ref) (plOf gs):=by
  refine AllR.of_get (by rw [List.length_map,hT2,hpl]) fun i x hx=>?_
  have hi:i < W:=by have:=(List.getElem?_eq_some_iff.mp hx).1; rw [List.length_map,hT2] at this; exact this
  have epl:(plOf gs)[i]? = some (i,gs.getD i 0):=by
   unfold plOf
   rw [List.getElem?_map,List.getElem?_range (by rw [hok.1,← hW]; exact hi)]; rfl
  have hgi:(vU gs)[i]? = some (V.int (gs.getD i 0:Nat)):=by
   unfold vU
   rw [List.getElem?_map,List.getD_eq_getElem?_getD,List.getElem?_eq_getElem (by rw [hok.1,← hW]; exact hi)]; rfl
  obtain ⟨T,hT,hTo⟩:=hTs i _ hgi
  rw [List.getElem?_map,hT] at hx
  cases hx
  exact ⟨_,epl,T,rfl,SqT.of hTo⟩
 refine ⟨_,_,rfl,k,plOf gs,rfl,k4,⟨r2,_,rfl,SqT.of h2,hprs⟩,by omega,Y7 hok,fun o y3 H3 g3 h3 s3=>?_⟩
 have g13:=g1.trans (g2.trans g3)
 cases o with
 | some pv =>
  obtain ⟨lv,v⟩:=pv
  obtain ⟨c,rfl,hc⟩:=h3
  refine ⟨_,rfl,_,rfl,iteT ⟨_,rfl,szl rfl,fun t ht=>?_⟩⟩
  have gt:=Grow.new (m:=[]) ht (.tup [.str "clash",.ref c])
  exact q (some (lv,v)) _ _ (g13.trans gt)
 | none =>
  cases (show y3 = V.non from h3)
  refine ⟨_,rfl,_,rfl,iteF ?_⟩
  refine ⟨_,rfl,r,_,rfl,g13.sqT hs,qZ (xs:=vU gs) (fun i ws σ H'=>∃ (e0 e1:Option V),σ = [e0,e1,some (.int k)] /\ AllR (zS K H') ws ((yo k (plOf gs)).take i) /\ Grow [] H3 H') ⟨_,_,rfl,trivial,Grow.refl _ _⟩ (fun i ws σ H' ⟨_,_,_,_,g⟩=>g.sqT (g13.sqT hs)) ?_ ?_⟩
  ·rintro i x ws σ H4 T hx ⟨e0,e1,rfl,ha,g4⟩ hT
   obtain ⟨hi,rfl⟩:=Zb hx
   have hi':i < 2 ^ k:=by rw [← hok.1]; exact hi
   have gT:=Grow.new (m:=[]) hT (.tup [.int i,.int (gs.getD i 0:Nat)])
   refine ⟨T,_,rfl,SqT.of zb,rfl,_,_,rfl,_,_,rfl,rfl,jM ?_⟩
   refine ⟨_,rfl,_,rfl,_,rfl,_,_,_,rfl,k,i,gs.getD i 0,rfl,rfl,rfl,k4,hi',hok.get hi',fun y5 H5 g5 h5=>⟨zm (by rw [ha.len,List.length_take]; omega),_,_,rfl,?_,g4.trans (gT.trans g5)⟩⟩
   have epl:(plOf gs)[i]? = some (i,gs.getD i 0):=by
    unfold plOf
    rw [List.getElem?_map,List.getElem?_range hi]; rfl
   have e:(yo k (plOf gs))[i]? = some (yu k i (gs.getD i 0)):=by unfold yo; rw [List.getElem?_map,epl]; rfl
   rw [List.take_add_one,e]
   exact ((gT.trans g5).boardsR ha).app (.one h5)
  rintro ws σ H4 ⟨_,_,rfl,ha4,g4⟩ lw hlw
  rw [hl,List.take_of_length_le (by unfold yo; rw [List.length_map]; omega)] at ha4
  have gw:=Grow.new (m:=[]) hlw (.lst ws)
  have ha5:=gw.boardsR ha4
  have hlw5:upd H4 lw (.lst ws) lw = some (.lst ws):=zb
  have g15:=g13.trans (g4.trans gw)
  revert ha5 hlw5 g15
  clear gw
  generalize upd H4 lw (.lst ws) = H5
  intro ha5 hlw5 g15
  refine ⟨_,rfl,_,_,rfl,rfl,_,_,rfl,⟨by omega,by omega,by omega,by omega⟩,xZ (fun i ys H'=>AllR (zS K H') ys ((List.range i).map fun n=>vS k (n + 1) (plOf gs)) /\ Grow [] H5 H') ⟨trivial,Grow.refl _ _⟩ ?_ ?_⟩
  ·rintro i ys H6 hi ⟨ha,g6⟩
   have hik:i + 1 <= k:=by omega
   refine ⟨_,rfl,_,rfl,_,rfl,_,_,_,rfl,k,i + 1,gs,lw,ws,rfl,congrArg V.int (by omega),rfl,g6.keep _ _ (by simp) hlw5,g6.boardsR ha5,k4,by omega,hik,hok,fun y7 H7 g7 h7=>⟨zm (by rw [ha.len,List.length_map,List.length_range]; omega),?_,g6.trans g7⟩⟩
   rw [List.range_succ,List.map_append]
   exact (g7.boardsR ha).app (.one h7)
  ·rintro ys H6 ⟨ha,g6⟩ l7 hl7
   have g7:=Grow.new (m:=[]) hl7 (.lst ys)
   rw [show ((k:Int) + 1 - 1).toNat = k by omega] at ha
   refine ⟨l7,_,rfl,.inl ⟨SqL.of zb,fun r8 hr8=>⟨szl rfl,fun t ht=>?_⟩⟩⟩
   have g8:=Grow.new (m:=[]) hr8 (.tup ys)
   have gt:=Grow.new (m:=[]) ht (.tup [.str "settings",.ref r8])
   exact q none _ _ (g15.trans (g6.trans (g7.trans (g8.trans gt))))
theorem yf:FnScope ["k","thing","row","hand","side"] ["k","thing"] (zh (top 30)):=⟨rfl,rfl,rfl,by decide +kernel,rfl,by decide +kernel,by decide +kernel⟩
theorem tM (F:Fun K "need_pairs" "need_pairs" (top 30) f fd) (B:Blt mg) {A_NoSide:Addr} {A_NoHand:Addr} (x_NoSide:ExcC K mg "NoSide" A_NoSide) (x_NoHand:ExcC K mg "NoHand" A_NoHand) (qc0:zq P w K mg base n "need_side" ["k","thing"] (yD A_NoSide K)) (qc1:zq P w K mg base n "need_hand" ["k","thing"] (yD A_NoHand K))  {t_MOST_PAIRS:Tok} (g_MOST_PAIRS:mg "MOST_PAIRS" = some (.int 40 t_MOST_PAIRS))  :
  FnOk P w K mg base (CX1 P w) (n + 1) f fd ["k","thing"] (v9 (clsA A_NoNet A_NoHand A_NoSide A_NoSettings) K):=by
 refine Fun.okX F yf yC (fun cdv A outer s H vs Q E hr h=>?_)
 obtain ⟨x,y,rfl,k,d,m,rfl,k4,hd,few,q,qe⟩:=h
 refine ⟨_,(zd (zD (i:=2) yf.nd rfl (Or.inl rfl) (xJ (zj (zU (K:=K) rfl) rfl B.isinstance zp (za (pv 1) (za (yV rfl B.tuple z9) zc))) (xz (xp ZM (zj zC rfl B.len wu (za (pv 1) zc)) (xc rfl g_MOST_PAIRS (show RelV (.int 40) (.int 40 t_MOST_PAIRS) from ⟨_,rfl⟩)) (zA _))))) (zd (zY (PW.pt (vk (yt (yr (pv 2))) (xI (yt (yr (zj (yi rfl) rfl B.all uj (za (ya (CSc.of (N':=["pair"]) (sub:=[none]) (zh (top 30)) ["k","thing","row","hand","side"] rfl rfl (by decide +kernel) rfl) rfl (xk (pv 1)) (fun _ _ _ _ _ _=>zn (i:=0) (show (["pair"]:List Str).Nodup by decide +kernel) rfl (Or.inl rfl)) (fun _ _ _ _ _ _=>zP) (fun _ _ _ _ _ _=>(xJ (zj (zU (K:=K) rfl) rfl B.isinstance zp (za (pv 0) (za (yV rfl B.tuple z9) zc))) (xz (xp yI (zj (sg (K:=K) rfl) rfl B.len wu (za (pv 0) zc)) ze (zA _)))))) zc))))))) (zg (y9 rfl x_NoHand rfl yK zX)) zx) (zd (yZ PassesOwn.leaving rfl (xk (pv 1)) (uD rfl (zt (zn (i:=3) yf.nd rfl (Or.inl rfl)) (zt (zn (i:=4) yf.nd rfl (Or.inl rfl)) yx))) (zg (zV (zw qc1 (zE fun _ _ _ z=>z) hr rfl (za (pv 0) (za (pv 3) zc)))))) (zg (yZ PassesOwn.leaving rfl (xk (pv 1)) (uD rfl (zt (zn (i:=3) yf.nd rfl (Or.inl rfl)) (zt (zn (i:=4) yf.nd rfl (Or.inl rfl)) yx))) (zg (zV (zw qc0 (zE fun _ _ _ z=>z) hr rfl (za (pv 0) (za (pv 4) zc)))))))))),?_⟩
 refine ⟨_,rfl,_,d,m,_,_,rfl,hd,xh,_,rfl,?_⟩
 cases d with
 | tuple ds =>
  obtain ⟨a,xs,rfl,hs,ha⟩:=hd.inv_tup
  have hl:=ha.length
  have l40:=wJ few
  unfold xS at q qe
  refine iteT ⟨_,rfl,a,_,rfl,.inr hs,_,_,rfl,rfl,?_⟩
  have ec:decide ((xs.length:Int) <= 40) = true:=decide_eq_true (by omega)
  show tSeq _ _ _ _ _
  refine ⟨_,rfl,_,rfl,zy (by rw [ec]; rfl) ?_⟩
  refine ⟨_,rfl,a,rfl,⟨_,hs⟩,xn (xs:=xs) (fun i ys H'=>ys = ((ds.take i).map xj).map V.bl /\ Grow [] H H') ⟨rfl,Grow.refl _ _⟩ (fun i ys H' p=>p.2.sqT hs) ?_ ?_⟩
  ·rintro i x ys H' hx ⟨rfl,g⟩
   obtain ⟨e,he,oe⟩:=ha.get hx
   have hi:=(List.getElem?_eq_some_iff.mp he).1
   have fin:((ds.take i).map xj).map V.bl ++ [V.bl (xj e)] = ((ds.take (i + 1)).map xj).map V.bl:=by rw [sJ he,List.map_append]; rfl
   have sz:(((ds.take i).map xj).map V.bl).length < sizeLine:=zm (by rw [List.length_map,List.length_map,List.length_take]; omega)
   refine ⟨_,rfl,_,e,m,_,_,rfl,oe.grow g.wk,xh,_,rfl,?_⟩
   match e,oe,fin with
   | .tuple es,oe,fin =>
    obtain ⟨b,zs,rfl,hz,hza⟩:=oe.inv_tup
    have zl:=hza.length
    refine iteT ⟨_,rfl,b,_,rfl,.inr (g.sqT hz),rfl,sz,?_,g⟩
    rw [← fin]
    congr 3
    match es,zl with
    | [],zl=>exact decide_eq_false fun z=>by have:=V.int.inj z; simp only [List.length_cons,List.length_nil] at zl; omega
    | [_],zl=>exact decide_eq_false fun z=>by have:=V.int.inj z; simp only [List.length_cons,List.length_nil] at zl; omega
    | [_,_],zl=>exact decide_eq_true (congrArg V.int (by simp only [List.length_cons,List.length_nil] at zl; omega))
    | _ :: _ :: _ :: _,zl=>exact decide_eq_false fun z=>by have:=V.int.inj z; simp only [List.length_cons,List.length_nil] at zl; omega
   | .none,_,fin=>exact iteF ⟨sz,fin,g⟩
   | .bool _,_,fin=>exact iteF ⟨sz,fin,g⟩
   | .int _,_,fin=>exact iteF ⟨sz,fin,g⟩
   | .str _,_,fin=>exact iteF ⟨sz,fin,g⟩
   | .list _,_,fin=>exact iteF ⟨sz,fin,g⟩
   | .dict _,_,fin=>exact iteF ⟨sz,fin,g⟩
  rintro ys H1 ⟨rfl,g1⟩ l hl'
  rw [hl,List.take_length]
  have g2:=g1.trans (Grow.new (m:=[]) hl' (.lst ((ds.map xj).map V.bl)))
  refine ⟨l,ds.map xj,rfl,SqL.of zb,_,rfl,?_⟩
  rw [wH]
  generalize upd H1 l _ = H2 at g2 ⊢
  cases hp:ds.all xj with
  | false =>
   refine iteT fun e=>qe .hand ?_ e _ g2
   rw [show uU (.tuple ds) = false from hp]; rfl
  | true =>
  rw [show uU (.tuple ds) = true from hp,Bool.true_and] at q qe
  refine iteF ?_
  refine ⟨_,rfl,a,rfl,⟨_,g2.sqT hs⟩,sZ (xs:=xs) (fun i σ H'=>∃ (e2 e3 e4:Option V),σ = [some (.int k),some (.ref a),e2,e3,e4] /\ H' = H2 /\ xQ k (ds.take i) = true) ⟨_,_,_,rfl,rfl,rfl⟩ (fun i σ H' _ ⟨_,_,_,_,e,_⟩=>by rw [e]; exact g2.sqT hs) ?_ ?_⟩
  ·rintro i x σ H3 hx ⟨e2,e3,e4,rfl,rfl,hb⟩
   obtain ⟨e,he,oe⟩:=ha.get hx
   have pe:xj e = true:=List.all_eq_true.mp hp e (List.mem_of_getElem? he)
   obtain ⟨b,u,v,ee,ff,rfl,rfl,hb',o1,o2⟩:=xU oe pe
   refine ⟨b,_,rfl,g2.sqT hb',rfl,_,_,rfl,_,_,rfl,rfl,_,rfl,_,rfl,_,_,rfl,k,ee,m,rfl,k4,o1.grow g2.wk,?_⟩
   cases hh:zF k ee with
   | false =>
    rw [show zk 0 ((2 ^ k:Nat) - 1) ee = false from hh,if_neg (by decide)]
    refine fun e=>qe .hand ?_ e _ g2
    rw [show xQ k (xB (.tuple ds)) = false from tI he hh]; rfl
   | true =>
    rw [show zk 0 ((2 ^ k:Nat) - 1) ee = true from hh,if_pos rfl]
    refine ⟨_,_,_,rfl,rfl,?_⟩
    unfold xQ at hb ⊢
    rw [wY he,hb,Bool.true_and]; exact hh
  rintro σ H3 ⟨e2,e3,e4,rfl,rfl,hb⟩
  rw [hl,List.take_length] at hb
  rw [show xQ k (xB (.tuple ds)) = true from hb,if_pos rfl] at q qe
  refine ⟨_,rfl,a,rfl,⟨_,g2.sqT hs⟩,sZ (xs:=xs) (fun i σ H'=>∃ (e2 e3 e4:Option V),σ = [some (.int k),some (.ref a),e2,e3,e4] /\ H' = H3 /\ xR k (ds.take i) = true) ⟨_,_,_,rfl,rfl,rfl⟩ (fun i σ H' _ ⟨_,_,_,_,e,_⟩=>by rw [e]; exact g2.sqT hs) ?_ ?_⟩
  ·rintro i x σ H3 hx ⟨e2,e3,e4,rfl,rfl,hb⟩
   obtain ⟨e,he,oe⟩:=ha.get hx
   have pe:xj e = true:=List.all_eq_true.mp hp e (List.mem_of_getElem? he)
   obtain ⟨b,u,v,ee,ff,rfl,rfl,hb',o1,o2⟩:=xU oe pe
   refine ⟨b,_,rfl,g2.sqT hb',rfl,_,_,rfl,_,_,rfl,rfl,_,rfl,_,rfl,_,_,rfl,k,ff,m,rfl,k4,o2.grow g2.wk,?_⟩
   cases hh:zF k ff with
   | false =>
    rw [show zk 0 ((2 ^ k:Nat) - 1) ff = false from hh,if_neg (by decide)]
    refine fun e=>qe .side ?_ e _ g2
    rw [show xR k (xB (.tuple ds)) = false from tI he hh]; rfl
   | true =>
    rw [show zk 0 ((2 ^ k:Nat) - 1) ff = true from hh,if_pos rfl]
    refine ⟨_,_,_,rfl,rfl,?_⟩
    unfold xR at hb ⊢
    rw [wY he,hb,Bool.true_and]; exact hh
  rintro σ H4 ⟨e2,e3,e4,rfl,rfl,hb2⟩
  rw [hl,List.take_length] at hb2
  exact q (by rw [show xR k (xB (.tuple ds)) = true from hb2]; rfl) _ g2
 | _=>exact iteF ⟨_,rfl,_,rfl,iteT fun e=>qe .hand rfl e _ (Grow.refl _ _)⟩
theorem uf:FnScope ["k","pairs"] ["k","pairs"] (zh (top 32)):=⟨rfl,rfl,rfl,by decide +kernel,rfl,by decide +kernel,by decide +kernel⟩
theorem ug (F:Fun K "first_shared" "first_shared" (top 32) f fd) (B:Blt mg) {A_NoNet:Addr} {A_NoHand:Addr} {A_NoSide:Addr} {A_NoSettings:Addr} (x_NoNet:ExcC K mg "NoNet" A_NoNet) (x_NoHand:ExcC K mg "NoHand" A_NoHand) (x_NoSide:ExcC K mg "NoSide" A_NoSide) (x_NoSettings:ExcC K mg "NoSettings" A_NoSettings) (qc0:zi P w K mg base n "shared_line" ["k","pairs"] (xg K)) (qc1:zq P w K mg base n "need_pairs" ["k","thing"] (v9 (clsA A_NoNet A_NoHand A_NoSide A_NoSettings) K)) (qc2:zq P w K mg base n "need_net" ["thing"] (xv A_NoNet K))    :
  FnOk P w K mg base (CX1 P w) (n + 1) f fd ["k","pairs"] (Zz (clsA A_NoNet A_NoHand A_NoSide A_NoSettings) K):=by
 refine Fun.okX F uf yC (fun cdv A outer s H vs Q E hr h=>?_)
 obtain ⟨x,y,rfl,d0,d,m,h0,hd,few,q,qe⟩:=h
 refine ⟨_,(zd (zV (zw qc2 (zE fun _ _ _ z=>z) hr rfl (za (pv 0) zc))) (zd (zV (zw qc1 (zE fun _ _ _ z=>z) hr rfl (za (pv 0) (za (pv 1) zc)))) (zg (zo (zf qc0 hr rfl (za (pv 0) (za (pv 1) zc))))))),?_⟩
 refine ⟨_,rfl,_,rfl,d0,m,h0,?_⟩
 cases hw:zk 0 4 d0 with
 | false =>
  rw [if_neg (by decide)]
  exact fun e=>qe .net (yF hw _) e _ (Grow.refl _ _)
 | true =>
  rw [if_pos rfl]
  unfold XQ37 at q
  rw [yE hw] at q qe
  obtain ⟨k,rfl,k4⟩:=xi hw
  obtain rfl:=h0.inv_int
  rw [zW] at q qe
  refine ⟨_,rfl,_,rfl,_,_,rfl,k,d,m,rfl,k4,hd,few,fun hdue H1 g1=>?_,qe⟩
  obtain ⟨pl,hp,hl40,hok⟩:=WJ hd few hdue
  exact ⟨_,rfl,_,rfl,_,_,rfl,k,pl,rfl,k4,g1.prsT hp,hl40,hok,fun o y2 H2 g2 h2 s2=>q hdue _ _ (g1.trans g2)⟩
theorem vw:FnScope ["k","one","other"] ["k","one","other"] (zh (top 27)):=⟨rfl,rfl,rfl,by decide +kernel,rfl,by decide +kernel,by decide +kernel⟩
theorem vx (F:Fun K "unlike_stages" "unlike_stages" (top 27) f fd) (B:Blt mg) (qc0:zi P w K mg base n "figure" ["k","stage","line"] (xm K))    :
  FnOk P w K mg base CX0 (n + 1) f fd ["k","one","other"] (vW K):=by
 refine F.ok vw xq (fun cdv A outer s H vs Q E hr h=>?_)
 obtain ⟨x,y,z,rfl,k,a,b,rfl,rfl,rfl,k4,ha,hb,q⟩:=h
 refine ⟨_,(zg (zo (ya (CSc.of (N':=["stage","k","one","other"]) (sub:=[none,some 0,some 1,some 2]) (zh (top 27)) ["k","one","other"] rfl rfl (by decide +kernel) rfl) rfl (xK rfl B.range (za ze (za (zv yH (pv 0) ze) zc))) (fun _ _ _ _ _ _=>zn (i:=0) (show (["stage","k","one","other"]:List Str).Nodup by decide +kernel) rfl (Or.inl rfl)) (fun _ _ _ _ _ _=>(qi (zz tT (zf qc0 hr rfl (za (pv 1) (za (pv 0) (za (pv 2) zc)))) (zf qc0 hr rfl (za (pv 1) (za (pv 0) (za (pv 3) zc)))) (zA _)))) (fun _ _ _ _ _ _=>(pv 0))))),?_⟩
 refine ⟨_,rfl,_,_,rfl,rfl,_,_,rfl,⟨by omega,by omega,by omega,by omega⟩,Zc (fun i=>!decide (V.int (figI k ((i + 1:Nat):Int) a) = V.int (figI k ((i + 1:Nat):Int) b))) (fun i ys H'=>H' = H /\ ys = (((List.range i).filter fun i=>decide (figI k ((i + 1:Nat):Int) a ≠ figI k ((i + 1:Nat):Int) b)).map fun i:Nat=>((i + 1:Nat):Int)).map V.int) ⟨rfl,rfl⟩ ?_ ?_ ?_ ?_⟩
 ·rintro i ys H' R hi ⟨rfl,_⟩ r
  have e:(1:Int) + i = ((i + 1:Nat):Int):=by omega
  refine ⟨_,rfl,_,rfl,_,rfl,_,_,_,rfl,k,i + 1,a,rfl,congrArg V.int e,rfl,by omega,?_⟩
  exact ⟨_,rfl,_,rfl,_,rfl,_,_,_,rfl,k,i + 1,b,rfl,congrArg V.int e,rfl,by omega,rfl,_,rfl,r⟩
 ·rintro i ys H' hi ⟨rfl,rfl⟩ hp
  refine ⟨_,rfl,zm ?_,rfl,?_⟩
  ·rw [List.length_map,List.length_map]
   have:=List.length_filter_le (fun i=>decide (figI k ((i + 1:Nat):Int) a ≠ figI k ((i + 1:Nat):Int) b)) (List.range i)
   rw [List.length_range] at this
   omega
  ·have hd:figI k ((i + 1:Nat):Int) a ≠ figI k ((i + 1:Nat):Int) b:=by simpa using hp
   rw [List.range_succ,List.filter_append,List.map_append,List.map_append,List.filter_cons,if_pos (decide_eq_true hd)]
   show _ ++ [V.int (1 + (i:Int))] = _ ++ [V.int ((i + 1:Nat):Int)]
   rw [show (1:Int) + i = ((i + 1:Nat):Int) by omega]
 ·rintro i ys H' hi ⟨rfl,rfl⟩ hp
  refine ⟨rfl,?_⟩
  have hd:¬ figI k ((i + 1:Nat):Int) a ≠ figI k ((i + 1:Nat):Int) b:=by simpa using hp
  rw [List.range_succ,List.filter_append,List.filter_cons,if_neg (by simpa using hd),List.filter_nil,List.append_nil]
 rintro ys H' ⟨rfl,rfl⟩ l hl
 refine q l _ (Grow.new hl _) ?_
 rw [zb,show ((k:Int) + 1 - 1).toNat = k by omega]; rfl
theorem jl:FnScope ["k","one","other"] ["k","one","other"] (zh (top 29)):=⟨rfl,rfl,rfl,by decide +kernel,rfl,by decide +kernel,by decide +kernel⟩
theorem jm (F:Fun K "parting" "parting" (top 29) f fd) (B:Blt mg) {A_NoSide:Addr} {A_NoNet:Addr} (x_NoSide:ExcC K mg "NoSide" A_NoSide) (x_NoNet:ExcC K mg "NoNet" A_NoNet) (qc0:zi P w K mg base n "unlike_stages" ["k","one","other"] (vW K)) (qc1:zq P w K mg base n "need_side" ["k","thing"] (yD A_NoSide K)) (qc2:zq P w K mg base n "need_net" ["thing"] (xv A_NoNet K))    :
  FnOk P w K mg base (CX1 P w) (n + 1) f fd ["k","one","other"] (wV (clsA A_NoNet A_NoHand A_NoSide A_NoSettings) .side K):=by
 refine Fun.okX F jl vC (fun cdv A outer s H vs Q E hr h=>?_)
 obtain ⟨x,y,z,rfl,d0,d1,d3,m,h0,h1,h3,q,qe⟩:=h
 refine ⟨_,(zd (zV (zw qc2 (zE fun _ _ _ z=>z) hr rfl (za (pv 0) zc))) (zd (zV (zw qc1 (zE fun _ _ _ z=>z) hr rfl (za (pv 0) (za (pv 1) zc)))) (zd (zV (zw qc1 (zE fun _ _ _ z=>z) hr rfl (za (pv 0) (za (pv 2) zc)))) (zd (zY (zz yI (pv 1) (pv 2) (zA _)) (zg (y9 rfl x_NoSide rfl yK zX)) zx) (zg (zo (zj (jV rfl) rfl B.min Xz (za (zf qc0 hr rfl (za (pv 0) (za (pv 1) (za (pv 2) zc)))) zc)))))))),?_⟩
 refine ⟨_,rfl,_,rfl,d0,m,h0,?_⟩
 cases hw:zk 0 4 d0 with
 | false =>
  rw [if_neg (by decide)]
  exact fun e=>qe .net (yF hw _) e _ (Grow.refl _ _)
 | true =>
  rw [if_pos rfl]
  unfold XQ37 at q
  rw [yE hw] at q qe
  obtain ⟨k,rfl,k4⟩:=xi hw
  obtain rfl:=h0.inv_int
  rw [zW] at q qe
  unfold wn at q qe
  refine ⟨_,rfl,_,rfl,_,_,rfl,k,d1,m,rfl,k4,h1,?_⟩
  cases hh:zF k d1 with
  | false =>
   rw [show zk 0 ((2 ^ k:Nat) - 1) d1 = false from hh,if_neg (by decide)]
   rw [hh] at qe
   exact fun e=>qe .side rfl e _ (Grow.refl _ _)
  | true =>
   rw [show zk 0 ((2 ^ k:Nat) - 1) d1 = true from hh,if_pos rfl]
   rw [hh,Bool.true_and] at q qe
   obtain ⟨a,rfl,ha⟩:=yb hh
   obtain rfl:=h1.inv_int
   refine ⟨_,rfl,_,rfl,_,_,rfl,k,d3,m,rfl,k4,h3,?_⟩
   cases hg:zF k d3 with
   | false =>
    rw [show zk 0 ((2 ^ k:Nat) - 1) d3 = false from hg,if_neg (by decide)]
    rw [hg] at qe
    exact fun e=>qe .side rfl e _ (Grow.refl _ _)
   | true =>
    rw [show zk 0 ((2 ^ k:Nat) - 1) d3 = true from hg,if_pos rfl]
    rw [hg,Bool.true_and] at q qe
    obtain ⟨b,rfl,hb⟩:=yb hg
    obtain rfl:=h3.inv_int
    rw [zW,zW] at q qe
    refine ⟨_,rfl,_,rfl,rfl,_,rfl,?_⟩
    by_cases c:a = b
    ·rw [decide_eq_true c] at qe
     refine yd (decide_eq_true (congrArg V.int (by omega))) ?_
     exact fun e=>qe .side rfl e _ (Grow.refl _ _)
    ·rw [decide_eq_false c] at q
     refine zy (decide_eq_false fun z=>c (by have:=V.int.inj z; omega)) ?_
     refine ⟨_,rfl,_,rfl,_,rfl,_,_,_,rfl,k,a,b,rfl,rfl,rfl,k4,ha,hb,fun l H1 g1 hl=>?_⟩
     exact ⟨l,_,rfl,SqL.of hl,uQ k4 ha hb c,fun M hM hm=>q rfl _ _ g1⟩
theorem jn:FnScope ["k","one","other"] ["k","one","other"] (zh (top 28)):=⟨rfl,rfl,rfl,by decide +kernel,rfl,by decide +kernel,by decide +kernel⟩
theorem jo (F:Fun K "meeting" "meeting" (top 28) f fd) (B:Blt mg) {A_NoHand:Addr} {A_NoNet:Addr} (x_NoHand:ExcC K mg "NoHand" A_NoHand) (x_NoNet:ExcC K mg "NoNet" A_NoNet) (qc0:zi P w K mg base n "unlike_stages" ["k","one","other"] (vW K)) (qc1:zq P w K mg base n "need_hand" ["k","thing"] (yD A_NoHand K)) (qc2:zq P w K mg base n "need_net" ["thing"] (xv A_NoNet K))    :
  FnOk P w K mg base (CX1 P w) (n + 1) f fd ["k","one","other"] (wV (clsA A_NoNet A_NoHand A_NoSide A_NoSettings) .hand K):=by
 refine Fun.okX F jn vC (fun cdv A outer s H vs Q E hr h=>?_)
 obtain ⟨x,y,z,rfl,d0,d1,d3,m,h0,h1,h3,q,qe⟩:=h
 refine ⟨_,(zd (zV (zw qc2 (zE fun _ _ _ z=>z) hr rfl (za (pv 0) zc))) (zd (zV (zw qc1 (zE fun _ _ _ z=>z) hr rfl (za (pv 0) (za (pv 1) zc)))) (zd (zV (zw qc1 (zE fun _ _ _ z=>z) hr rfl (za (pv 0) (za (pv 2) zc)))) (zd (zY (zz yI (pv 1) (pv 2) (zA _)) (zg (y9 rfl x_NoHand rfl yK zX)) zx) (zg (zo (zj (jU rfl) rfl B.max ZS (za (zf qc0 hr rfl (za (pv 0) (za (pv 1) (za (pv 2) zc)))) zc)))))))),?_⟩
 refine ⟨_,rfl,_,rfl,d0,m,h0,?_⟩
 cases hw:zk 0 4 d0 with
 | false =>
  rw [if_neg (by decide)]
  exact fun e=>qe .net (yF hw _) e _ (Grow.refl _ _)
 | true =>
  rw [if_pos rfl]
  unfold XQ37 at q
  rw [yE hw] at q qe
  obtain ⟨k,rfl,k4⟩:=xi hw
  obtain rfl:=h0.inv_int
  rw [zW] at q qe
  unfold wn at q qe
  refine ⟨_,rfl,_,rfl,_,_,rfl,k,d1,m,rfl,k4,h1,?_⟩
  cases hh:zF k d1 with
  | false =>
   rw [show zk 0 ((2 ^ k:Nat) - 1) d1 = false from hh,if_neg (by decide)]
   rw [hh] at qe
   exact fun e=>qe .hand rfl e _ (Grow.refl _ _)
  | true =>
   rw [show zk 0 ((2 ^ k:Nat) - 1) d1 = true from hh,if_pos rfl]
   rw [hh,Bool.true_and] at q qe
   obtain ⟨a,rfl,ha⟩:=yb hh
   obtain rfl:=h1.inv_int
   refine ⟨_,rfl,_,rfl,_,_,rfl,k,d3,m,rfl,k4,h3,?_⟩
   cases hg:zF k d3 with
   | false =>
    rw [show zk 0 ((2 ^ k:Nat) - 1) d3 = false from hg,if_neg (by decide)]
    rw [hg] at qe
    exact fun e=>qe .hand rfl e _ (Grow.refl _ _)
   | true =>
    rw [show zk 0 ((2 ^ k:Nat) - 1) d3 = true from hg,if_pos rfl]
    rw [hg,Bool.true_and] at q qe
    obtain ⟨b,rfl,hb⟩:=yb hg
    obtain rfl:=h3.inv_int
    rw [zW,zW] at q qe
    refine ⟨_,rfl,_,rfl,rfl,_,rfl,?_⟩
    by_cases c:a = b
    ·rw [decide_eq_true c] at qe
     refine yd (decide_eq_true (congrArg V.int (by omega))) ?_
     exact fun e=>qe .hand rfl e _ (Grow.refl _ _)
    ·rw [decide_eq_false c] at q
     refine zy (decide_eq_false fun z=>c (by have:=V.int.inj z; omega)) ?_
     refine ⟨_,rfl,_,rfl,_,rfl,_,_,_,rfl,k,a,b,rfl,rfl,rfl,k4,ha,hb,fun l H1 g1 hl=>?_⟩
     exact ⟨l,_,rfl,SqL.of hl,uQ k4 ha hb c,fun M hM hm=>q rfl _ _ g1⟩
theorem uh:FnScope ["k","hand","side","lines"] ["k","hand","side"] (zh (top 26)):=⟨rfl,rfl,rfl,by decide +kernel,rfl,by decide +kernel,by decide +kernel⟩
theorem rT (F:Fun K "switches" "switches" (top 26) f fd) (B:Blt mg) {A_NoNet:Addr} {A_NoHand:Addr} {A_NoSide:Addr} {A_NoSettings:Addr} (x_NoNet:ExcC K mg "NoNet" A_NoNet) (x_NoHand:ExcC K mg "NoHand" A_NoHand) (x_NoSide:ExcC K mg "NoSide" A_NoSide) (x_NoSettings:ExcC K mg "NoSettings" A_NoSettings) (qc0:zi P w K mg base n "switch_at" ["k","stage","line"] (y8 K)) (qc1:zq P w K mg base n "way" ["k","hand","side"] (v8 (clsA A_NoNet A_NoHand A_NoSide A_NoSettings) K))    :
  FnOk P w K mg base (CX1 P w) (n + 1) f fd ["k","hand","side"] (Zy (clsA A_NoNet A_NoHand A_NoSide A_NoSettings) K):=by
 refine Fun.okX F uh vC (fun cdv A outer s H vs Q E hr h=>?_)
 obtain ⟨x,y,z,rfl,d0,d1,d3,m,h0,h1,h3,q,qe⟩:=h
 refine ⟨_,(zd (zD (i:=3) uh.nd rfl (Or.inr rfl) (zw qc1 (zE fun _ _ _ z=>z) hr rfl (za (pv 0) (za (pv 1) (za (pv 2) zc))))) (zg (zo (zH zT rfl B.tuple z9 (za (ya (CSc.of (N':=["stage","k","lines"]) (sub:=[none,some 0,some 3]) (zh (top 26)) ["k","hand","side","lines"] rfl rfl (by decide +kernel) rfl) rfl (xK rfl B.range (za ze (za (zv yH (pv 0) ze) zc))) (fun _ _ _ _ _ _=>zn (i:=0) (show (["stage","k","lines"]:List Str).Nodup by decide +kernel) rfl (Or.inl rfl)) (fun _ _ _ _ _ _=>zP) (fun _ _ _ _ _ _=>(yg (za (pv 0) (za (zf qc0 hr rfl (za (pv 1) (za (pv 0) (za (yj (jO (K:=K) rfl) (pv 2) (pv 0) (fun _ _=>rfl)) zc)))) zc))))) zc))))),?_⟩
 refine ⟨_,rfl,_,rfl,_,rfl,_,_,_,rfl,d0,d1,d3,m,h0,h1,h3,fun hdue y1 H1 g1 hy1=>?_,qe⟩
 have q':=q hdue
 have hw:zk 0 4 d0 = true:=by
  cases c:zk 0 4 d0 with
  | true=>rfl
  | false=>rw [yF c] at hdue; cases hdue
 rw [yE hw] at hdue
 obtain ⟨k,rfl,k4⟩:=xi hw
 obtain rfl:=h0.inv_int
 rw [zW] at hdue hy1
 unfold xo at hdue
 have hh:zF k d1 = true:=by
  cases c:zF k d1 with
  | true=>rfl
  | false=>rw [c] at hdue; cases hdue
 rw [hh,if_pos rfl] at hdue
 have hg:zF k d3 = true:=by
  cases c:zF k d3 with
  | true=>rfl
  | false=>rw [c] at hdue; cases hdue
 obtain ⟨h0',rfl,hh2⟩:=yb hh
 obtain ⟨g0,rfl,hg2⟩:=yb hg
 rw [zW,zW] at hy1
 obtain ⟨rw1,rfl,hs1⟩:=hy1
 refine ⟨_,rfl,_,_,rfl,rfl,_,_,rfl,⟨by omega,by omega,by omega,by omega⟩,xZ (fun i ys H'=>ys.length = i /\ Grow [] H1 H') ⟨rfl,Grow.refl _ _⟩ ?_ ?_⟩
 ·rintro i ys H2 hi ⟨ha,g2⟩
  have hik:i + 1 <= k:=by omega
  have F1:=ZZ k4 hh2 hg2 (n:=i + 1) hik
  have hwl:(yu k h0' g0).length = k + 1:=by unfold yu; rw [List.length_map,List.length_range]
  refine ⟨_,rfl,_,rfl,_,rfl,_,rfl,_,rfl,rw1,_,_,_,rfl,rfl,g2.sqT hs1,getI (by omega) (by rw [hwl]; omega),?_⟩
  rw [show (1 + (i:Int)).toNat = i + 1 by omega,wR hik]
  exact ⟨_,_,_,rfl,k,i + 1,ym k h0' g0 (i + 1),rfl,congrArg V.int (by omega),rfl,k4,hik,F1.2.1,F1.2.2,szl rfl,fun t ht=>⟨zm (by omega),by rw [List.length_append,ha]; rfl,g2.trans (Grow.new ht _)⟩⟩
 ·rintro ys H2 ⟨ha,g2⟩ l hl
  exact ⟨l,_,rfl,.inl ⟨SqL.of zb,fun r hr=>q' _ _ (g1.trans (g2.trans ((Grow.new hl _).trans (Grow.new hr _))))⟩⟩
theorem zK:FnScope ["_law_way_of","_law_drawn_here","_law_k","_law_one","_law_other","_law_goal","_law_last","_law_pairs_here","_law_sides","_law_settings_here"] ["_law_way_of","_law_drawn_here"] (zh (top 62)):=⟨rfl,rfl,rfl,by decide +kernel,rfl,by decide +kernel,by decide +kernel⟩
theorem tN (F:Fun K "_law_asked" "_law_asked" (top 62) f fd) (B:Blt mg) {A_NoNet:Addr} {A_NoHand:Addr} {A_NoSide:Addr} {A_NoSettings:Addr} (x_NoNet:ExcC K mg "NoNet" A_NoNet) (x_NoHand:ExcC K mg "NoHand" A_NoHand) (x_NoSide:ExcC K mg "NoSide" A_NoSide) (x_NoSettings:ExcC K mg "NoSettings" A_NoSettings) (qc0:zq P w K mg base n "is_settings" ["k","thing"] (tH A_NoNet K)) (qc1:zq P w K mg base n "straight" ["k"] (rG A_NoNet K)) (qc2:zq P w K mg base n "led" ["k","settings"] (vE (clsA A_NoNet A_NoHand A_NoSide A_NoSettings) K)) (qc3:zq P w K mg base n "settings_for" ["k","sides"] (ZA (clsA A_NoNet A_NoHand A_NoSide A_NoSettings) K)) (qc4:zq P w K mg base n "first_shared" ["k","pairs"] (Zz (clsA A_NoNet A_NoHand A_NoSide A_NoSettings) K)) (qc5:zq P w K mg base n "parting" ["k","one","other"] (wV (clsA A_NoNet A_NoHand A_NoSide A_NoSettings) .side K)) (qc6:zq P w K mg base n "meeting" ["k","one","other"] (wV (clsA A_NoNet A_NoHand A_NoSide A_NoSettings) .hand K)) (qc7:zq P w K mg base n "switches" ["k","hand","side"] (Zy (clsA A_NoNet A_NoHand A_NoSide A_NoSettings) K)) (qc8:zq P w K mg base n "way" ["k","hand","side"] (v8 (clsA A_NoNet A_NoHand A_NoSide A_NoSettings) K))    :
  FnOk P w K mg base (CX1 P w) (n + 1) f fd ["_law_way_of","_law_drawn_here"] (w4 (clsA A_NoNet A_NoHand A_NoSide A_NoSettings) K):=by
 refine Fun.okX F zK yC (fun cdv A outer s H vs Q E hr h=>?_)
 obtain ⟨x,y,rfl,w,l,xs,ds,m,rfl,w8,rfl,hD,q,qe⟩:=h
 refine ⟨_,(zd (wC (y6 vK (pv 1) xM (xO ze)) (vD rfl (zt (zn (i:=2) zK.nd rfl (Or.inl rfl)) (zt (zn (i:=3) zK.nd rfl (Or.inl rfl)) (zt (zn (i:=4) zK.nd rfl (Or.inl rfl)) (zt (zn (i:=5) zK.nd rfl (Or.inl rfl)) (zt (zn (i:=6) zK.nd rfl (Or.inl rfl)) yx))))))) (zd (wC (y6 vK (pv 1) (xO ze) xM) (vD rfl (zt (zn (i:=7) zK.nd rfl (Or.inl rfl)) (zt (zn (i:=8) zK.nd rfl (Or.inl rfl)) (zt (zn (i:=9) zK.nd rfl (Or.inl rfl)) yx))))) (zd (zY (zz yI (pv 0) ze (zA _)) (zg (zo (zw qc8 (zE fun _ _ _ z=>z) hr rfl (za (pv 2) (za (pv 3) (za (pv 5) zc)))))) zx) (zd (zY (zz yI (pv 0) ze (zA _)) (zg (zo (zw qc7 (zE fun _ _ _ z=>z) hr rfl (za (pv 2) (za (pv 3) (za (pv 5) zc)))))) zx) (zd (zY (zz yI (pv 0) ze (zA _)) (zg (zo (zw qc6 (zE fun _ _ _ z=>z) hr rfl (za (pv 2) (za (pv 3) (za (pv 4) zc)))))) zx) (zd (zY (zz yI (pv 0) ze (zA _)) (zg (zo (zw qc5 (zE fun _ _ _ z=>z) hr rfl (za (pv 2) (za (pv 5) (za (pv 6) zc)))))) zx) (zd (zY (zz yI (pv 0) ze (zA _)) (zg (zo (zw qc4 (zE fun _ _ _ z=>z) hr rfl (za (pv 2) (za (pv 7) zc))))) zx) (zd (zY (zz yI (pv 0) ze (zA _)) (zg (zo (zw qc3 (zE fun _ _ _ z=>z) hr rfl (za (pv 2) (za (pv 8) zc))))) zx) (zd (zY (zz yI (pv 0) ze (zA _)) (zg (zo (zw qc2 (zE fun _ _ _ z=>z) hr rfl (za (pv 2) (za (pv 9) zc))))) zx) (zg (zo (zZ (za (zw qc1 (zE fun _ _ _ z=>z) hr rfl (za (pv 2) zc)) (za (zw qc0 (zE fun _ _ _ z=>z) hr rfl (za (pv 2) (za (pv 9) zc))) zc)))))))))))))),?_⟩
 obtain ⟨hq,ho,hlen,few⟩:=hD
 obtain ⟨x0,x1,x2,x3,x4,x5,x6,x7,d0,d1,d2,d3,d4,d5,d6,d7,rfl,rfl,o0,o1,o2,o3,o4,o5,o6,o7⟩:=qI ho hlen
 have few5:xT d5:=few
 refine ⟨_,rfl,5,rfl,l,_,rfl,hq,fun p1 hp1=>?_⟩
 have g1:=Grow.new (m:=[]) hp1 (.lst (cutV [x0,x1,x2,x3,x4,x5,x6,x7] none (some 5)))
 refine ⟨p1,[x0,x1,x2,x3,x4],rfl,SqL.of zb,rfl,_,_,rfl,_,_,rfl,_,_,rfl,_,_,rfl,_,_,rfl,rfl,?_⟩
 refine ⟨_,rfl,5,rfl,l,_,rfl,g1.sqL hq,fun p2 hp2=>?_⟩
 refine ⟨p2,[x5,x6,x7],rfl,SqL.of zb,rfl,_,_,rfl,_,_,rfl,_,_,rfl,rfl,?_⟩
 have G:Grow [] H _:=g1.trans (Grow.new (m:=[]) hp2 (.lst (cutV [x0,x1,x2,x3,x4,x5,x6,x7] (some 5) none)))
 generalize upd (upd H p1 _) p2 _ = H2 at G ⊢
 replace o0:=o0.grow (G.wk (m:=m))
 replace o1:=o1.grow (G.wk (m:=m))
 replace o2:=o2.grow (G.wk (m:=m))
 replace o3:=o3.grow (G.wk (m:=m))
 replace o4:=o4.grow (G.wk (m:=m))
 replace o5:=o5.grow (G.wk (m:=m))
 replace o6:=o6.grow (G.wk (m:=m))
 replace o7:=o7.grow (G.wk (m:=m))
 rcases (by omega:w = 0 \/ w = 1 \/ w = 2 \/ w = 3 \/ w = 4 \/ w = 5 \/ w = 6 \/ w = 7) with rfl | rfl | rfl | rfl | rfl | rfl | rfl | rfl
 ·exact ⟨_,rfl,rfl,_,rfl,yd (decide_eq_true rfl) ⟨_,rfl,_,rfl,_,rfl,_,_,_,rfl,d0,d1,d3,m,o0,o1,o3,fun h r H' g _=>q h r H' (G.trans g),fun c h e H' g=>qe c h e H' (G.trans g)⟩⟩
 ·exact ⟨_,rfl,rfl,_,rfl,zy (decide_eq_false fun z=>absurd (V.int.inj z) (by decide)) ⟨_,rfl,rfl,_,rfl,yd (decide_eq_true rfl) ⟨_,rfl,_,rfl,_,rfl,_,_,_,rfl,d0,d1,d3,m,o0,o1,o3,fun h r H' g=>q h r H' (G.trans g),fun c h e H' g=>qe c h e H' (G.trans g)⟩⟩⟩
 ·exact ⟨_,rfl,rfl,_,rfl,zy (decide_eq_false fun z=>absurd (V.int.inj z) (by decide)) ⟨_,rfl,rfl,_,rfl,zy (decide_eq_false fun z=>absurd (V.int.inj z) (by decide)) ⟨_,rfl,rfl,_,rfl,yd (decide_eq_true rfl) ⟨_,rfl,_,rfl,_,rfl,_,_,_,rfl,d0,d1,d2,m,o0,o1,o2,fun h r H' g=>q h r H' (G.trans g),fun c h e H' g=>qe c h e H' (G.trans g)⟩⟩⟩⟩
 ·exact ⟨_,rfl,rfl,_,rfl,zy (decide_eq_false fun z=>absurd (V.int.inj z) (by decide)) ⟨_,rfl,rfl,_,rfl,zy (decide_eq_false fun z=>absurd (V.int.inj z) (by decide)) ⟨_,rfl,rfl,_,rfl,zy (decide_eq_false fun z=>absurd (V.int.inj z) (by decide)) ⟨_,rfl,rfl,_,rfl,yd (decide_eq_true rfl) ⟨_,rfl,_,rfl,_,rfl,_,_,_,rfl,d0,d3,d4,m,o0,o3,o4,fun h r H' g=>q h r H' (G.trans g),fun c h e H' g=>qe c h e H' (G.trans g)⟩⟩⟩⟩⟩
 ·exact ⟨_,rfl,rfl,_,rfl,zy (decide_eq_false fun z=>absurd (V.int.inj z) (by decide)) ⟨_,rfl,rfl,_,rfl,zy (decide_eq_false fun z=>absurd (V.int.inj z) (by decide)) ⟨_,rfl,rfl,_,rfl,zy (decide_eq_false fun z=>absurd (V.int.inj z) (by decide)) ⟨_,rfl,rfl,_,rfl,zy (decide_eq_false fun z=>absurd (V.int.inj z) (by decide)) ⟨_,rfl,rfl,_,rfl,yd (decide_eq_true rfl) ⟨_,rfl,_,rfl,_,_,rfl,d0,d5,m,o0,o5,few5,fun h r H' g=>q h r H' (G.trans g),fun c h e H' g=>qe c h e H' (G.trans g)⟩⟩⟩⟩⟩⟩
 ·exact ⟨_,rfl,rfl,_,rfl,zy (decide_eq_false fun z=>absurd (V.int.inj z) (by decide)) ⟨_,rfl,rfl,_,rfl,zy (decide_eq_false fun z=>absurd (V.int.inj z) (by decide)) ⟨_,rfl,rfl,_,rfl,zy (decide_eq_false fun z=>absurd (V.int.inj z) (by decide)) ⟨_,rfl,rfl,_,rfl,zy (decide_eq_false fun z=>absurd (V.int.inj z) (by decide)) ⟨_,rfl,rfl,_,rfl,zy (decide_eq_false fun z=>absurd (V.int.inj z) (by decide)) ⟨_,rfl,rfl,_,rfl,yd (decide_eq_true rfl) ⟨_,rfl,_,rfl,_,_,rfl,d0,d6,m,o0,o6,fun h r H' g=>q h r H' (G.trans g),fun c h e H' g=>qe c h e H' (G.trans g)⟩⟩⟩⟩⟩⟩⟩
 ·exact ⟨_,rfl,rfl,_,rfl,zy (decide_eq_false fun z=>absurd (V.int.inj z) (by decide)) ⟨_,rfl,rfl,_,rfl,zy (decide_eq_false fun z=>absurd (V.int.inj z) (by decide)) ⟨_,rfl,rfl,_,rfl,zy (decide_eq_false fun z=>absurd (V.int.inj z) (by decide)) ⟨_,rfl,rfl,_,rfl,zy (decide_eq_false fun z=>absurd (V.int.inj z) (by decide)) ⟨_,rfl,rfl,_,rfl,zy (decide_eq_false fun z=>absurd (V.int.inj z) (by decide)) ⟨_,rfl,rfl,_,rfl,zy (decide_eq_false fun z=>absurd (V.int.inj z) (by decide)) ⟨_,rfl,rfl,_,rfl,yd (decide_eq_true rfl) ⟨_,rfl,_,rfl,_,_,rfl,d0,d7,m,o0,o7,fun h rows ed hs r H' g _=>q h r H' (G.trans g),fun c h e H' g=>qe c h e H' (G.trans g)⟩⟩⟩⟩⟩⟩⟩⟩
 ·exact ⟨_,rfl,rfl,_,rfl,zy (decide_eq_false fun z=>absurd (V.int.inj z) (by decide)) ⟨_,rfl,rfl,_,rfl,zy (decide_eq_false fun z=>absurd (V.int.inj z) (by decide)) ⟨_,rfl,rfl,_,rfl,zy (decide_eq_false fun z=>absurd (V.int.inj z) (by decide)) ⟨_,rfl,rfl,_,rfl,zy (decide_eq_false fun z=>absurd (V.int.inj z) (by decide)) ⟨_,rfl,rfl,_,rfl,zy (decide_eq_false fun z=>absurd (V.int.inj z) (by decide)) ⟨_,rfl,rfl,_,rfl,zy (decide_eq_false fun z=>absurd (V.int.inj z) (by decide)) ⟨_,rfl,rfl,_,rfl,zy (decide_eq_false fun z=>absurd (V.int.inj z) (by decide)) ⟨_,rfl,_,rfl,d0,m,o0,fun hw r H' g=>⟨_,rfl,_,rfl,_,_,rfl,d0,d7,m,o0.grow (g.wk (m:=m)),o7.grow (g.wk (m:=m)),fun _ H'' g'=>⟨szl rfl,fun l' hl'=>q (yE hw _) _ _ (G.trans (g.trans (g'.trans (Grow.new hl' _))))⟩,fun hw'=>absurd (hw.symm.trans hw') (by decide)⟩,fun hw e H' g=>qe .net (yF hw _) e H' (G.trans g)⟩⟩⟩⟩⟩⟩⟩⟩
theorem yN:FnScope ["_law_way_of","_law_drawn_here","e","_law_some"] ["_law_way_of","_law_drawn_here"] (zh (top 63)):=⟨rfl,rfl,rfl,by decide +kernel,rfl,by decide +kernel,by decide +kernel⟩
theorem sV (F:Fun K "_law_said" "_law_said" (top 63) f fd) (B:Blt mg) {A_AskError:Addr} {A_NoNet:Addr} {A_NoHand:Addr} {A_NoSide:Addr} {A_NoSettings:Addr} {A_TooMany:Addr} {A_NoAsk:Addr} {A_NoBoard:Addr} {A_NoNumber:Addr} (x_AskError:ExcC K mg "AskError" A_AskError) (x_NoNet:ExcC K mg "NoNet" A_NoNet) (x_NoHand:ExcC K mg "NoHand" A_NoHand) (x_NoSide:ExcC K mg "NoSide" A_NoSide) (x_NoSettings:ExcC K mg "NoSettings" A_NoSettings) (v_TooMany:mg "TooMany" = some (.ref A_TooMany)) (v_NoAsk:mg "NoAsk" = some (.ref A_NoAsk)) (v_NoBoard:mg "NoBoard" = some (.ref A_NoBoard)) (v_NoNumber:mg "NoNumber" = some (.ref A_NoNumber)) (v_NoSettings:mg "NoSettings" = some (.ref A_NoSettings)) (v_NoSide:mg "NoSide" = some (.ref A_NoSide)) (v_NoHand:mg "NoHand" = some (.ref A_NoHand)) (v_NoNet:mg "NoNet" = some (.ref A_NoNet)) (u_NoNet:PySem.W.mroIn K A_NoNet (.ref A_AskError) = some true) (k_NoNet:ExcK K A_NoNet) (q_NoNet_NoNet:PySem.W.kitOne K (.ref A_NoNet) (.ref A_NoNet) = some true) (q_NoNet_NoHand:PySem.W.kitOne K (.ref A_NoNet) (.ref A_NoHand) = some false) (q_NoNet_NoSide:PySem.W.kitOne K (.ref A_NoNet) (.ref A_NoSide) = some false) (q_NoNet_NoSettings:PySem.W.kitOne K (.ref A_NoNet) (.ref A_NoSettings) = some false) (q_NoNet_NoNumber:PySem.W.kitOne K (.ref A_NoNet) (.ref A_NoNumber) = some false) (q_NoNet_NoBoard:PySem.W.kitOne K (.ref A_NoNet) (.ref A_NoBoard) = some false) (q_NoNet_NoAsk:PySem.W.kitOne K (.ref A_NoNet) (.ref A_NoAsk) = some false) (q_NoNet_TooMany:PySem.W.kitOne K (.ref A_NoNet) (.ref A_TooMany) = some false) (q_NoNet_ValueError:PySem.W.kitOne K (.ref A_NoNet) (.type "ValueError") = some true) (u_NoHand:PySem.W.mroIn K A_NoHand (.ref A_AskError) = some true) (k_NoHand:ExcK K A_NoHand) (q_NoHand_NoNet:PySem.W.kitOne K (.ref A_NoHand) (.ref A_NoNet) = some false) (q_NoHand_NoHand:PySem.W.kitOne K (.ref A_NoHand) (.ref A_NoHand) = some true) (q_NoHand_NoSide:PySem.W.kitOne K (.ref A_NoHand) (.ref A_NoSide) = some false) (q_NoHand_NoSettings:PySem.W.kitOne K (.ref A_NoHand) (.ref A_NoSettings) = some false) (q_NoHand_NoNumber:PySem.W.kitOne K (.ref A_NoHand) (.ref A_NoNumber) = some false) (q_NoHand_NoBoard:PySem.W.kitOne K (.ref A_NoHand) (.ref A_NoBoard) = some false) (q_NoHand_NoAsk:PySem.W.kitOne K (.ref A_NoHand) (.ref A_NoAsk) = some false) (q_NoHand_TooMany:PySem.W.kitOne K (.ref A_NoHand) (.ref A_TooMany) = some false) (q_NoHand_ValueError:PySem.W.kitOne K (.ref A_NoHand) (.type "ValueError") = some true) (u_NoSide:PySem.W.mroIn K A_NoSide (.ref A_AskError) = some true) (k_NoSide:ExcK K A_NoSide) (q_NoSide_NoNet:PySem.W.kitOne K (.ref A_NoSide) (.ref A_NoNet) = some false) (q_NoSide_NoHand:PySem.W.kitOne K (.ref A_NoSide) (.ref A_NoHand) = some false) (q_NoSide_NoSide:PySem.W.kitOne K (.ref A_NoSide) (.ref A_NoSide) = some true) (q_NoSide_NoSettings:PySem.W.kitOne K (.ref A_NoSide) (.ref A_NoSettings) = some false) (q_NoSide_NoNumber:PySem.W.kitOne K (.ref A_NoSide) (.ref A_NoNumber) = some false) (q_NoSide_NoBoard:PySem.W.kitOne K (.ref A_NoSide) (.ref A_NoBoard) = some false) (q_NoSide_NoAsk:PySem.W.kitOne K (.ref A_NoSide) (.ref A_NoAsk) = some false) (q_NoSide_TooMany:PySem.W.kitOne K (.ref A_NoSide) (.ref A_TooMany) = some false) (q_NoSide_ValueError:PySem.W.kitOne K (.ref A_NoSide) (.type "ValueError") = some true) (u_NoSettings:PySem.W.mroIn K A_NoSettings (.ref A_AskError) = some true) (k_NoSettings:ExcK K A_NoSettings) (q_NoSettings_NoNet:PySem.W.kitOne K (.ref A_NoSettings) (.ref A_NoNet) = some false) (q_NoSettings_NoHand:PySem.W.kitOne K (.ref A_NoSettings) (.ref A_NoHand) = some false) (q_NoSettings_NoSide:PySem.W.kitOne K (.ref A_NoSettings) (.ref A_NoSide) = some false) (q_NoSettings_NoSettings:PySem.W.kitOne K (.ref A_NoSettings) (.ref A_NoSettings) = some true) (q_NoSettings_NoNumber:PySem.W.kitOne K (.ref A_NoSettings) (.ref A_NoNumber) = some false) (q_NoSettings_NoBoard:PySem.W.kitOne K (.ref A_NoSettings) (.ref A_NoBoard) = some false) (q_NoSettings_NoAsk:PySem.W.kitOne K (.ref A_NoSettings) (.ref A_NoAsk) = some false) (q_NoSettings_TooMany:PySem.W.kitOne K (.ref A_NoSettings) (.ref A_TooMany) = some false) (q_NoSettings_ValueError:PySem.W.kitOne K (.ref A_NoSettings) (.type "ValueError") = some true) (qc0:zq P w K mg base n "_law_asked" ["_law_way_of","_law_drawn_here"] (w4 (clsA A_NoNet A_NoHand A_NoSide A_NoSettings) K)) (g_ValueError:mg "ValueError" = none)   :
  FnOk P w K mg base CX0 (n + 1) f fd ["_law_way_of","_law_drawn_here"] (vF K):=by
 refine F.ok yN yk (fun cdv A outer s H vs Q E hr h=>?_)
 obtain ⟨x,y,rfl,w,l,xs,ds,m,rfl,w8,rfl,hD,q⟩:=h
 refine ⟨_,(@zd _ _ _ _ _ (Yd (K:=K) (i:=2) (E:=(fun _ c H'=>(∃ cc,dueL w ds = some cc /\ c = some (clsA A_NoNet A_NoHand A_NoSide A_NoSettings cc)) /\ Grow [] H H')) rfl rfl rfl rfl x_AskError rfl yN.nd rfl rfl rfl (fun ps=>(@zg _ _ _ (@zV _ _ _ _ (zw qc0 (Yb rfl) hr rfl (@za _ _ _ _ _ (pv 0) (@za _ _ _ _ _ (pv 1) zc (by first | rfl | decide | exact Or.inl rfl | exact Or.inr rfl | exact Or.inr (Or.inl rfl) | exact Or.inr (Or.inr rfl) | exact fun _=>rfl | exact Nat.le_of_ble_eq_true rfl)) (by first | rfl | decide | exact Or.inl rfl | exact Or.inr rfl | exact Or.inr (Or.inl rfl) | exact Or.inr (Or.inr rfl) | exact fun _=>rfl | exact Nat.le_of_ble_eq_true rfl))) (by first | rfl | decide | exact Or.inl rfl | exact Or.inr rfl | exact Or.inr (Or.inl rfl) | exact Or.inr (Or.inr rfl) | exact fun _=>rfl | exact Nat.le_of_ble_eq_true rfl)))) (fun e=>(@zd _ _ _ _ _ (@zD _ _ 3 _ _ _ _ yN.nd rfl (Or.inl rfl) (@zZ _ _ _ _ (@za _ _ _ _ _ (@zj _ _ _ _ _ _ _ _ _ (yv (K:=K) rfl) rfl B.isinstance zp (@za _ _ _ _ _ (pv 2) (@za _ _ _ _ _ (xc rfl v_NoNet (show RelV (.ref A_NoNet) (.ref A_NoNet) from rfl)) zc (by first | rfl | decide | exact Or.inl rfl | exact Or.inr rfl | exact Or.inr (Or.inl rfl) | exact Or.inr (Or.inr rfl) | exact fun _=>rfl | exact Nat.le_of_ble_eq_true rfl)) (by first | rfl | decide | exact Or.inl rfl | exact Or.inr rfl | exact Or.inr (Or.inl rfl) | exact Or.inr (Or.inr rfl) | exact fun _=>rfl | exact Nat.le_of_ble_eq_true rfl)) (by first | rfl | decide | exact Or.inl rfl | exact Or.inr rfl | exact Or.inr (Or.inl rfl) | exact Or.inr (Or.inr rfl) | exact fun _=>rfl | exact Nat.le_of_ble_eq_true rfl) (by first | rfl | decide | exact Or.inl rfl | exact Or.inr rfl | exact Or.inr (Or.inl rfl) | exact Or.inr (Or.inr rfl) | exact fun _=>rfl | exact Nat.le_of_ble_eq_true rfl) (by first | rfl | decide | exact Or.inl rfl | exact Or.inr rfl | exact Or.inr (Or.inl rfl) | exact Or.inr (Or.inr rfl) | exact fun _=>rfl | exact Nat.le_of_ble_eq_true rfl) (by first | rfl | decide | exact Or.inl rfl | exact Or.inr rfl | exact Or.inr (Or.inl rfl) | exact Or.inr (Or.inr rfl) | exact fun _=>rfl | exact Nat.le_of_ble_eq_true rfl)) (@za _ _ _ _ _ (@zj _ _ _ _ _ _ _ _ _ (yv (K:=K) rfl) rfl B.isinstance zp (@za _ _ _ _ _ (pv 2) (@za _ _ _ _ _ (xc rfl v_NoHand (show RelV (.ref A_NoHand) (.ref A_NoHand) from rfl)) zc (by first | rfl | decide | exact Or.inl rfl | exact Or.inr rfl | exact Or.inr (Or.inl rfl) | exact Or.inr (Or.inr rfl) | exact fun _=>rfl | exact Nat.le_of_ble_eq_true rfl)) (by first | rfl | decide | exact Or.inl rfl | exact Or.inr rfl | exact Or.inr (Or.inl rfl) | exact Or.inr (Or.inr rfl) | exact fun _=>rfl | exact Nat.le_of_ble_eq_true rfl)) (by first | rfl | decide | exact Or.inl rfl | exact Or.inr rfl | exact Or.inr (Or.inl rfl) | exact Or.inr (Or.inr rfl) | exact fun _=>rfl | exact Nat.le_of_ble_eq_true rfl) (by first | rfl | decide | exact Or.inl rfl | exact Or.inr rfl | exact Or.inr (Or.inl rfl) | exact Or.inr (Or.inr rfl) | exact fun _=>rfl | exact Nat.le_of_ble_eq_true rfl) (by first | rfl | decide | exact Or.inl rfl | exact Or.inr rfl | exact Or.inr (Or.inl rfl) | exact Or.inr (Or.inr rfl) | exact fun _=>rfl | exact Nat.le_of_ble_eq_true rfl) (by first | rfl | decide | exact Or.inl rfl | exact Or.inr rfl | exact Or.inr (Or.inl rfl) | exact Or.inr (Or.inr rfl) | exact fun _=>rfl | exact Nat.le_of_ble_eq_true rfl)) (@za _ _ _ _ _ (@zj _ _ _ _ _ _ _ _ _ (yv (K:=K) rfl) rfl B.isinstance zp (@za _ _ _ _ _ (pv 2) (@za _ _ _ _ _ (xc rfl v_NoSide (show RelV (.ref A_NoSide) (.ref A_NoSide) from rfl)) zc (by first | rfl | decide | exact Or.inl rfl | exact Or.inr rfl | exact Or.inr (Or.inl rfl) | exact Or.inr (Or.inr rfl) | exact fun _=>rfl | exact Nat.le_of_ble_eq_true rfl)) (by first | rfl | decide | exact Or.inl rfl | exact Or.inr rfl | exact Or.inr (Or.inl rfl) | exact Or.inr (Or.inr rfl) | exact fun _=>rfl | exact Nat.le_of_ble_eq_true rfl)) (by first | rfl | decide | exact Or.inl rfl | exact Or.inr rfl | exact Or.inr (Or.inl rfl) | exact Or.inr (Or.inr rfl) | exact fun _=>rfl | exact Nat.le_of_ble_eq_true rfl) (by first | rfl | decide | exact Or.inl rfl | exact Or.inr rfl | exact Or.inr (Or.inl rfl) | exact Or.inr (Or.inr rfl) | exact fun _=>rfl | exact Nat.le_of_ble_eq_true rfl) (by first | rfl | decide | exact Or.inl rfl | exact Or.inr rfl | exact Or.inr (Or.inl rfl) | exact Or.inr (Or.inr rfl) | exact fun _=>rfl | exact Nat.le_of_ble_eq_true rfl) (by first | rfl | decide | exact Or.inl rfl | exact Or.inr rfl | exact Or.inr (Or.inl rfl) | exact Or.inr (Or.inr rfl) | exact fun _=>rfl | exact Nat.le_of_ble_eq_true rfl)) zc (by first | rfl | decide | exact Or.inl rfl | exact Or.inr rfl | exact Or.inr (Or.inl rfl) | exact Or.inr (Or.inr rfl) | exact fun _=>rfl | exact Nat.le_of_ble_eq_true rfl)) (by first | rfl | decide | exact Or.inl rfl | exact Or.inr rfl | exact Or.inr (Or.inl rfl) | exact Or.inr (Or.inr rfl) | exact fun _=>rfl | exact Nat.le_of_ble_eq_true rfl)) (by first | rfl | decide | exact Or.inl rfl | exact Or.inr rfl | exact Or.inr (Or.inl rfl) | exact Or.inr (Or.inr rfl) | exact fun _=>rfl | exact Nat.le_of_ble_eq_true rfl))) (by first | rfl | decide | exact Or.inl rfl | exact Or.inr rfl | exact Or.inr (Or.inl rfl) | exact Or.inr (Or.inr rfl) | exact fun _=>rfl | exact Nat.le_of_ble_eq_true rfl) (by first | rfl | decide | exact Or.inl rfl | exact Or.inr rfl | exact Or.inr (Or.inl rfl) | exact Or.inr (Or.inr rfl) | exact fun _=>rfl | exact Nat.le_of_ble_eq_true rfl)) (@zd _ _ _ _ _ (@zD _ _ 3 _ _ _ _ yN.nd rfl (Or.inl rfl) (@zv _ _ _ _ _ _ _ _ t7 (pv 3) (@zZ _ _ _ _ (@za _ _ _ _ _ (@zj _ _ _ _ _ _ _ _ _ (yv (K:=K) rfl) rfl B.isinstance zp (@za _ _ _ _ _ (pv 2) (@za _ _ _ _ _ (xc rfl v_NoSettings (show RelV (.ref A_NoSettings) (.ref A_NoSettings) from rfl)) zc (by first | rfl | decide | exact Or.inl rfl | exact Or.inr rfl | exact Or.inr (Or.inl rfl) | exact Or.inr (Or.inr rfl) | exact fun _=>rfl | exact Nat.le_of_ble_eq_true rfl)) (by first | rfl | decide | exact Or.inl rfl | exact Or.inr rfl | exact Or.inr (Or.inl rfl) | exact Or.inr (Or.inr rfl) | exact fun _=>rfl | exact Nat.le_of_ble_eq_true rfl)) (by first | rfl | decide | exact Or.inl rfl | exact Or.inr rfl | exact Or.inr (Or.inl rfl) | exact Or.inr (Or.inr rfl) | exact fun _=>rfl | exact Nat.le_of_ble_eq_true rfl) (by first | rfl | decide | exact Or.inl rfl | exact Or.inr rfl | exact Or.inr (Or.inl rfl) | exact Or.inr (Or.inr rfl) | exact fun _=>rfl | exact Nat.le_of_ble_eq_true rfl) (by first | rfl | decide | exact Or.inl rfl | exact Or.inr rfl | exact Or.inr (Or.inl rfl) | exact Or.inr (Or.inr rfl) | exact fun _=>rfl | exact Nat.le_of_ble_eq_true rfl) (by first | rfl | decide | exact Or.inl rfl | exact Or.inr rfl | exact Or.inr (Or.inl rfl) | exact Or.inr (Or.inr rfl) | exact fun _=>rfl | exact Nat.le_of_ble_eq_true rfl)) (@za _ _ _ _ _ (@zj _ _ _ _ _ _ _ _ _ (yv (K:=K) rfl) rfl B.isinstance zp (@za _ _ _ _ _ (pv 2) (@za _ _ _ _ _ (xc rfl v_NoNumber (show RelV (.ref A_NoNumber) (.ref A_NoNumber) from rfl)) zc (by first | rfl | decide | exact Or.inl rfl | exact Or.inr rfl | exact Or.inr (Or.inl rfl) | exact Or.inr (Or.inr rfl) | exact fun _=>rfl | exact Nat.le_of_ble_eq_true rfl)) (by first | rfl | decide | exact Or.inl rfl | exact Or.inr rfl | exact Or.inr (Or.inl rfl) | exact Or.inr (Or.inr rfl) | exact fun _=>rfl | exact Nat.le_of_ble_eq_true rfl)) (by first | rfl | decide | exact Or.inl rfl | exact Or.inr rfl | exact Or.inr (Or.inl rfl) | exact Or.inr (Or.inr rfl) | exact fun _=>rfl | exact Nat.le_of_ble_eq_true rfl) (by first | rfl | decide | exact Or.inl rfl | exact Or.inr rfl | exact Or.inr (Or.inl rfl) | exact Or.inr (Or.inr rfl) | exact fun _=>rfl | exact Nat.le_of_ble_eq_true rfl) (by first | rfl | decide | exact Or.inl rfl | exact Or.inr rfl | exact Or.inr (Or.inl rfl) | exact Or.inr (Or.inr rfl) | exact fun _=>rfl | exact Nat.le_of_ble_eq_true rfl) (by first | rfl | decide | exact Or.inl rfl | exact Or.inr rfl | exact Or.inr (Or.inl rfl) | exact Or.inr (Or.inr rfl) | exact fun _=>rfl | exact Nat.le_of_ble_eq_true rfl)) (@za _ _ _ _ _ (@zj _ _ _ _ _ _ _ _ _ (yv (K:=K) rfl) rfl B.isinstance zp (@za _ _ _ _ _ (pv 2) (@za _ _ _ _ _ (xc rfl v_NoBoard (show RelV (.ref A_NoBoard) (.ref A_NoBoard) from rfl)) zc (by first | rfl | decide | exact Or.inl rfl | exact Or.inr rfl | exact Or.inr (Or.inl rfl) | exact Or.inr (Or.inr rfl) | exact fun _=>rfl | exact Nat.le_of_ble_eq_true rfl)) (by first | rfl | decide | exact Or.inl rfl | exact Or.inr rfl | exact Or.inr (Or.inl rfl) | exact Or.inr (Or.inr rfl) | exact fun _=>rfl | exact Nat.le_of_ble_eq_true rfl)) (by first | rfl | decide | exact Or.inl rfl | exact Or.inr rfl | exact Or.inr (Or.inl rfl) | exact Or.inr (Or.inr rfl) | exact fun _=>rfl | exact Nat.le_of_ble_eq_true rfl) (by first | rfl | decide | exact Or.inl rfl | exact Or.inr rfl | exact Or.inr (Or.inl rfl) | exact Or.inr (Or.inr rfl) | exact fun _=>rfl | exact Nat.le_of_ble_eq_true rfl) (by first | rfl | decide | exact Or.inl rfl | exact Or.inr rfl | exact Or.inr (Or.inl rfl) | exact Or.inr (Or.inr rfl) | exact fun _=>rfl | exact Nat.le_of_ble_eq_true rfl) (by first | rfl | decide | exact Or.inl rfl | exact Or.inr rfl | exact Or.inr (Or.inl rfl) | exact Or.inr (Or.inr rfl) | exact fun _=>rfl | exact Nat.le_of_ble_eq_true rfl)) zc (by first | rfl | decide | exact Or.inl rfl | exact Or.inr rfl | exact Or.inr (Or.inl rfl) | exact Or.inr (Or.inr rfl) | exact fun _=>rfl | exact Nat.le_of_ble_eq_true rfl)) (by first | rfl | decide | exact Or.inl rfl | exact Or.inr rfl | exact Or.inr (Or.inl rfl) | exact Or.inr (Or.inr rfl) | exact fun _=>rfl | exact Nat.le_of_ble_eq_true rfl)) (by first | rfl | decide | exact Or.inl rfl | exact Or.inr rfl | exact Or.inr (Or.inl rfl) | exact Or.inr (Or.inr rfl) | exact fun _=>rfl | exact Nat.le_of_ble_eq_true rfl)))) (by first | rfl | decide | exact Or.inl rfl | exact Or.inr rfl | exact Or.inr (Or.inl rfl) | exact Or.inr (Or.inr rfl) | exact fun _=>rfl | exact Nat.le_of_ble_eq_true rfl) (by first | rfl | decide | exact Or.inl rfl | exact Or.inr rfl | exact Or.inr (Or.inl rfl) | exact Or.inr (Or.inr rfl) | exact fun _=>rfl | exact Nat.le_of_ble_eq_true rfl)) (@zd _ _ _ _ _ (@zD _ _ 3 _ _ _ _ yN.nd rfl (Or.inl rfl) (@zv _ _ _ _ _ _ _ _ t7 (pv 3) (@zZ _ _ _ _ (@za _ _ _ _ _ (@zj _ _ _ _ _ _ _ _ _ (yv (K:=K) rfl) rfl B.isinstance zp (@za _ _ _ _ _ (pv 2) (@za _ _ _ _ _ (xc rfl v_NoAsk (show RelV (.ref A_NoAsk) (.ref A_NoAsk) from rfl)) zc (by first | rfl | decide | exact Or.inl rfl | exact Or.inr rfl | exact Or.inr (Or.inl rfl) | exact Or.inr (Or.inr rfl) | exact fun _=>rfl | exact Nat.le_of_ble_eq_true rfl)) (by first | rfl | decide | exact Or.inl rfl | exact Or.inr rfl | exact Or.inr (Or.inl rfl) | exact Or.inr (Or.inr rfl) | exact fun _=>rfl | exact Nat.le_of_ble_eq_true rfl)) (by first | rfl | decide | exact Or.inl rfl | exact Or.inr rfl | exact Or.inr (Or.inl rfl) | exact Or.inr (Or.inr rfl) | exact fun _=>rfl | exact Nat.le_of_ble_eq_true rfl) (by first | rfl | decide | exact Or.inl rfl | exact Or.inr rfl | exact Or.inr (Or.inl rfl) | exact Or.inr (Or.inr rfl) | exact fun _=>rfl | exact Nat.le_of_ble_eq_true rfl) (by first | rfl | decide | exact Or.inl rfl | exact Or.inr rfl | exact Or.inr (Or.inl rfl) | exact Or.inr (Or.inr rfl) | exact fun _=>rfl | exact Nat.le_of_ble_eq_true rfl) (by first | rfl | decide | exact Or.inl rfl | exact Or.inr rfl | exact Or.inr (Or.inl rfl) | exact Or.inr (Or.inr rfl) | exact fun _=>rfl | exact Nat.le_of_ble_eq_true rfl)) (@za _ _ _ _ _ (@zj _ _ _ _ _ _ _ _ _ (yv (K:=K) rfl) rfl B.isinstance zp (@za _ _ _ _ _ (pv 2) (@za _ _ _ _ _ (xc rfl v_TooMany (show RelV (.ref A_TooMany) (.ref A_TooMany) from rfl)) zc (by first | rfl | decide | exact Or.inl rfl | exact Or.inr rfl | exact Or.inr (Or.inl rfl) | exact Or.inr (Or.inr rfl) | exact fun _=>rfl | exact Nat.le_of_ble_eq_true rfl)) (by first | rfl | decide | exact Or.inl rfl | exact Or.inr rfl | exact Or.inr (Or.inl rfl) | exact Or.inr (Or.inr rfl) | exact fun _=>rfl | exact Nat.le_of_ble_eq_true rfl)) (by first | rfl | decide | exact Or.inl rfl | exact Or.inr rfl | exact Or.inr (Or.inl rfl) | exact Or.inr (Or.inr rfl) | exact fun _=>rfl | exact Nat.le_of_ble_eq_true rfl) (by first | rfl | decide | exact Or.inl rfl | exact Or.inr rfl | exact Or.inr (Or.inl rfl) | exact Or.inr (Or.inr rfl) | exact fun _=>rfl | exact Nat.le_of_ble_eq_true rfl) (by first | rfl | decide | exact Or.inl rfl | exact Or.inr rfl | exact Or.inr (Or.inl rfl) | exact Or.inr (Or.inr rfl) | exact fun _=>rfl | exact Nat.le_of_ble_eq_true rfl) (by first | rfl | decide | exact Or.inl rfl | exact Or.inr rfl | exact Or.inr (Or.inl rfl) | exact Or.inr (Or.inr rfl) | exact fun _=>rfl | exact Nat.le_of_ble_eq_true rfl)) zc (by first | rfl | decide | exact Or.inl rfl | exact Or.inr rfl | exact Or.inr (Or.inl rfl) | exact Or.inr (Or.inr rfl) | exact fun _=>rfl | exact Nat.le_of_ble_eq_true rfl)) (by first | rfl | decide | exact Or.inl rfl | exact Or.inr rfl | exact Or.inr (Or.inl rfl) | exact Or.inr (Or.inr rfl) | exact fun _=>rfl | exact Nat.le_of_ble_eq_true rfl)))) (by first | rfl | decide | exact Or.inl rfl | exact Or.inr rfl | exact Or.inr (Or.inl rfl) | exact Or.inr (Or.inr rfl) | exact fun _=>rfl | exact Nat.le_of_ble_eq_true rfl) (by first | rfl | decide | exact Or.inl rfl | exact Or.inr rfl | exact Or.inr (Or.inl rfl) | exact Or.inr (Or.inr rfl) | exact fun _=>rfl | exact Nat.le_of_ble_eq_true rfl)) (@zd _ _ _ _ _ (@zY _ _ _ _ _ _ _ _ (@PW.pt _ _ _ (@vk _ _ _ _ _ _ _ (@yt _ _ _ _ (@yr _ _ _ (@zj _ _ _ _ _ _ _ _ _ (yv (K:=K) rfl) rfl B.isinstance zp (@za _ _ _ _ _ (pv 2) (@za _ _ _ _ _ (yV rfl g_ValueError sB) zc (by first | rfl | decide | exact Or.inl rfl | exact Or.inr rfl | exact Or.inr (Or.inl rfl) | exact Or.inr (Or.inr rfl) | exact fun _=>rfl | exact Nat.le_of_ble_eq_true rfl)) (by first | rfl | decide | exact Or.inl rfl | exact Or.inr rfl | exact Or.inr (Or.inl rfl) | exact Or.inr (Or.inr rfl) | exact fun _=>rfl | exact Nat.le_of_ble_eq_true rfl)) (by first | rfl | decide | exact Or.inl rfl | exact Or.inr rfl | exact Or.inr (Or.inl rfl) | exact Or.inr (Or.inr rfl) | exact fun _=>rfl | exact Nat.le_of_ble_eq_true rfl) (by first | rfl | decide | exact Or.inl rfl | exact Or.inr rfl | exact Or.inr (Or.inl rfl) | exact Or.inr (Or.inr rfl) | exact fun _=>rfl | exact Nat.le_of_ble_eq_true rfl) (by first | rfl | decide | exact Or.inl rfl | exact Or.inr rfl | exact Or.inr (Or.inl rfl) | exact Or.inr (Or.inr rfl) | exact fun _=>rfl | exact Nat.le_of_ble_eq_true rfl) (by first | rfl | decide | exact Or.inl rfl | exact Or.inr rfl | exact Or.inr (Or.inl rfl) | exact Or.inr (Or.inr rfl) | exact fun _=>rfl | exact Nat.le_of_ble_eq_true rfl)) (by first | rfl | decide | exact Or.inl rfl | exact Or.inr rfl | exact Or.inr (Or.inl rfl) | exact Or.inr (Or.inr rfl) | exact fun _=>rfl | exact Nat.le_of_ble_eq_true rfl))) (@xI _ _ _ _ (@zz _ _ _ _ _ _ _ _ tT (@ZP _ _ _ _ _ _ _ _ _ _ _ _ PySem.F.plainAttrs_list PySem.F.slot_list_count PySem.F.type_list_count (rH (K:=K) rfl) (pv 3) (@za _ _ _ _ _ wO zc (by first | rfl | decide | exact Or.inl rfl | exact Or.inr rfl | exact Or.inr (Or.inl rfl) | exact Or.inr (Or.inr rfl) | exact fun _=>rfl | exact Nat.le_of_ble_eq_true rfl)) (by first | rfl | decide | exact Or.inl rfl | exact Or.inr rfl | exact Or.inr (Or.inl rfl) | exact Or.inr (Or.inr rfl) | exact fun _=>rfl | exact Nat.le_of_ble_eq_true rfl) (by first | rfl | decide | exact Or.inl rfl | exact Or.inr rfl | exact Or.inr (Or.inl rfl) | exact Or.inr (Or.inr rfl) | exact fun _=>rfl | exact Nat.le_of_ble_eq_true rfl) (by first | rfl | decide | exact Or.inl rfl | exact Or.inr rfl | exact Or.inr (Or.inl rfl) | exact Or.inr (Or.inr rfl) | exact fun _=>rfl | exact Nat.le_of_ble_eq_true rfl) (by first | rfl | decide | exact Or.inl rfl | exact Or.inr rfl | exact Or.inr (Or.inl rfl) | exact Or.inr (Or.inr rfl) | exact fun _=>rfl | exact Nat.le_of_ble_eq_true rfl) (by first | rfl | decide | exact Or.inl rfl | exact Or.inr rfl | exact Or.inr (Or.inl rfl) | exact Or.inr (Or.inr rfl) | exact fun _=>rfl | exact Nat.le_of_ble_eq_true rfl)) ze (zA _))))) (@zg _ _ _ (@zo _ _ _ _ zX)) zx) (@zg _ _ _ (@zo _ _ _ _ (@yj _ _ _ _ _ _ _ zJ (@zv _ _ _ _ _ _ _ _ t7 (@zZ _ _ _ _ (@za _ _ _ _ _ zX (@za _ _ _ _ _ zX (@za _ _ _ _ _ zX (@za _ _ _ _ _ zX zc (by first | rfl | decide | exact Or.inl rfl | exact Or.inr rfl | exact Or.inr (Or.inl rfl) | exact Or.inr (Or.inr rfl) | exact fun _=>rfl | exact Nat.le_of_ble_eq_true rfl)) (by first | rfl | decide | exact Or.inl rfl | exact Or.inr rfl | exact Or.inr (Or.inl rfl) | exact Or.inr (Or.inr rfl) | exact fun _=>rfl | exact Nat.le_of_ble_eq_true rfl)) (by first | rfl | decide | exact Or.inl rfl | exact Or.inr rfl | exact Or.inr (Or.inl rfl) | exact Or.inr (Or.inr rfl) | exact fun _=>rfl | exact Nat.le_of_ble_eq_true rfl)) (by first | rfl | decide | exact Or.inl rfl | exact Or.inr rfl | exact Or.inr (Or.inl rfl) | exact Or.inr (Or.inr rfl) | exact fun _=>rfl | exact Nat.le_of_ble_eq_true rfl))) (@zv _ _ _ _ _ _ _ _ Yo (@zZ _ _ _ _ (@za _ _ _ _ _ zX zc (by first | rfl | decide | exact Or.inl rfl | exact Or.inr rfl | exact Or.inr (Or.inl rfl) | exact Or.inr (Or.inr rfl) | exact fun _=>rfl | exact Nat.le_of_ble_eq_true rfl))) ze)) (@ZP _ _ _ _ _ _ _ _ _ _ _ _ PySem.F.plainAttrs_list PySem.F.slot_list_index PySem.F.type_list_index (rJ (K:=K) rfl) (pv 3) (@za _ _ _ _ _ wO zc (by first | rfl | decide | exact Or.inl rfl | exact Or.inr rfl | exact Or.inr (Or.inl rfl) | exact Or.inr (Or.inr rfl) | exact fun _=>rfl | exact Nat.le_of_ble_eq_true rfl)) (by first | rfl | decide | exact Or.inl rfl | exact Or.inr rfl | exact Or.inr (Or.inl rfl) | exact Or.inr (Or.inr rfl) | exact fun _=>rfl | exact Nat.le_of_ble_eq_true rfl) (by first | rfl | decide | exact Or.inl rfl | exact Or.inr rfl | exact Or.inr (Or.inl rfl) | exact Or.inr (Or.inr rfl) | exact fun _=>rfl | exact Nat.le_of_ble_eq_true rfl) (by first | rfl | decide | exact Or.inl rfl | exact Or.inr rfl | exact Or.inr (Or.inl rfl) | exact Or.inr (Or.inr rfl) | exact fun _=>rfl | exact Nat.le_of_ble_eq_true rfl) (by first | rfl | decide | exact Or.inl rfl | exact Or.inr rfl | exact Or.inr (Or.inl rfl) | exact Or.inr (Or.inr rfl) | exact fun _=>rfl | exact Nat.le_of_ble_eq_true rfl) (by first | rfl | decide | exact Or.inl rfl | exact Or.inr rfl | exact Or.inr (Or.inl rfl) | exact Or.inr (Or.inr rfl) | exact fun _=>rfl | exact Nat.le_of_ble_eq_true rfl)) (fun _ _=>rfl)))))))))) (@zg _ _ _ (@zo _ _ _ _ xG))),?_⟩
 refine ⟨⟨_,rfl,_,rfl,_,_,rfl,w,l,xs,ds,m,rfl,w8,rfl,hD,fun hdue r H' g=>?_,fun c hc e H' g=>⟨⟨c,hc,rfl⟩,g⟩⟩,fun e C' σ' H' hl' hn hE=>?_⟩
 ·rw [hdue] at q
  exact q _ g
 obtain ⟨⟨cc,hcc,hC⟩,g⟩:=hE
 obtain ⟨s0,s1,s2,s3,rfl⟩:∃ a b c d,σ' = [a,b,c,d]:=by
  match σ',hl' with
  | [a,b,c,d],_=>exact ⟨a,b,c,d,rfl⟩
 rw [hcc] at q
 cases cc with
 | net =>
  obtain rfl:A_NoNet = C':=(Option.some.inj hC).symm
  refine ⟨u_NoNet,?_⟩
  have gn:=Grow.new (m:=[]) hn (ExO e A_NoNet)
  have he:=zb (H:=H') (a:=e) (o:=ExO e A_NoNet)
  generalize upd H' e _ = H1 at gn he ⊢
  refine ⟨_,rfl,e,_,_,_,_,rfl,he,(fun _ r=>r),k_NoNet,q_NoNet_NoNet,_,rfl,e,_,_,_,_,rfl,he,(fun _ r=>r),k_NoNet,q_NoNet_NoHand,_,rfl,e,_,_,_,_,rfl,he,(fun _ r=>r),k_NoNet,q_NoNet_NoSide,szl rfl,fun l1 hl1=>?_⟩
  have g1:=Grow.new (m:=[]) hl1 (.lst [.bl true,.bl false,.bl false])
  have h1:=zb (H:=H1) (a:=l1) (o:=.lst [.bl true,.bl false,.bl false])
  have he1:=g1.keep _ _ (by simp) he
  have G1:=gn.trans g1
  generalize upd H1 l1 _ = H2 at G1 h1 he1 ⊢
  refine ⟨_,rfl,_,rfl,e,_,_,_,_,rfl,he1,(fun _ r=>r),k_NoNet,q_NoNet_NoSettings,_,rfl,e,_,_,_,_,rfl,he1,(fun _ r=>r),k_NoNet,q_NoNet_NoNumber,_,rfl,e,_,_,_,_,rfl,he1,(fun _ r=>r),k_NoNet,q_NoNet_NoBoard,szl rfl,fun l2 hl2=>?_⟩
  have g2:=Grow.new (m:=[]) hl2 (.lst [.bl false,.bl false,.bl false])
  refine ⟨l1,l2,_,_,rfl,rfl,g2.keep _ _ (by simp) h1,zb,szl rfl,fun l3 hl3=>?_⟩
  have g3:=g2.trans (Grow.new (m:=[]) hl3 (.lst ([V.bl true,.bl false,.bl false] ++ [.bl false,.bl false,.bl false])))
  have h3:=zb (H:=upd H2 l2 (.lst [.bl false,.bl false,.bl false])) (a:=l3) (o:=.lst ([V.bl true,.bl false,.bl false] ++ [.bl false,.bl false,.bl false]))
  have he3:=g3.keep _ _ (by simp) he1
  have G3:=G1.trans g3
  generalize upd (upd H2 l2 _) l3 _ = H3 at G3 h3 he3 ⊢
  refine ⟨_,rfl,_,rfl,e,_,_,_,_,rfl,he3,(fun _ r=>r),k_NoNet,q_NoNet_NoAsk,_,rfl,e,_,_,_,_,rfl,he3,(fun _ r=>r),k_NoNet,q_NoNet_TooMany,szl rfl,fun l4 hl4=>?_⟩
  have g4:=Grow.new (m:=[]) hl4 (.lst [.bl false,.bl false])
  refine ⟨l3,l4,_,_,rfl,rfl,g4.keep _ _ (by simp) h3,zb,szl rfl,fun l5 hl5=>?_⟩
  have g5:=g4.trans (Grow.new (m:=[]) hl5 (.lst (([V.bl true,.bl false,.bl false] ++ [.bl false,.bl false,.bl false]) ++ [.bl false,.bl false])))
  have h5:=zb (H:=upd H3 l4 (.lst [.bl false,.bl false])) (a:=l5) (o:=.lst (([V.bl true,.bl false,.bl false] ++ [.bl false,.bl false,.bl false]) ++ [.bl false,.bl false]))
  have he5:=g5.keep _ _ (by simp) he3
  have G5:=G3.trans g5
  generalize upd (upd H3 l4 _) l5 _ = H5 at G5 h5 he5 ⊢
  refine ⟨_,rfl,e,_,_,_,_,rfl,he5,(fun _ r=>r),k_NoNet,q_NoNet_ValueError,_,rfl,iteF ?_⟩
  refine ⟨_,rfl,.inl ⟨rfl,_,SqL.of h5⟩,l5,[true,false,false,false,false,false,false,false],rfl,rfl,SqL.of h5,rfl,_,rfl,zy rfl ?_⟩
  refine ⟨szl rfl,fun l6 hl6=>⟨szl rfl,fun l7 hl7=>?_⟩⟩
  have g6:=Grow.new (m:=[]) hl6 (.lst [.str "NoNet",.str "NoHand",.str "NoSide",.str "NoSettings"])
  have g7:=Grow.new (m:=[]) hl7 (.lst [.str "other"])
  refine ⟨l7,4,_,rfl,rfl,zb,by decide,by decide,Nat.le_of_lt (zm (by show 1 * 4 <= 1000; decide)),fun l8 hl8=>?_⟩
  have g8:=Grow.new (m:=[]) hl8 (.lst (List.replicate (4:Int).toNat [V.str "other"]).flatten)
  refine ⟨l6,l8,_,_,rfl,rfl,(g7.trans g8).keep _ _ (by simp) zb,zb,szl rfl,fun l9 hl9=>?_⟩
  have g9:=(g6.trans (g7.trans g8)).trans (Grow.new (m:=[]) hl9 (.lst ([V.str "NoNet",.str "NoHand",.str "NoSide",.str "NoSettings"] ++ (List.replicate (4:Int).toNat [V.str "other"]).flatten)))
  have h9:=g9.keep _ _ (by simp) h5
  refine ⟨_,rfl,.inl ⟨rfl,_,SqL.of h9⟩,l5,[true,false,false,false,false,false,false,false],rfl,rfl,SqL.of h9,by decide,by decide,?_⟩
  exact ⟨l9,_,0,_,rfl,rfl,SqL.of zb,zR (j:=0) rfl,q _ (g.trans (G5.trans g9))⟩
 | hand =>
  obtain rfl:A_NoHand = C':=(Option.some.inj hC).symm
  refine ⟨u_NoHand,?_⟩
  have gn:=Grow.new (m:=[]) hn (ExO e A_NoHand)
  have he:=zb (H:=H') (a:=e) (o:=ExO e A_NoHand)
  generalize upd H' e _ = H1 at gn he ⊢
  refine ⟨_,rfl,e,_,_,_,_,rfl,he,(fun _ r=>r),k_NoHand,q_NoHand_NoNet,_,rfl,e,_,_,_,_,rfl,he,(fun _ r=>r),k_NoHand,q_NoHand_NoHand,_,rfl,e,_,_,_,_,rfl,he,(fun _ r=>r),k_NoHand,q_NoHand_NoSide,szl rfl,fun l1 hl1=>?_⟩
  have g1:=Grow.new (m:=[]) hl1 (.lst [.bl false,.bl true,.bl false])
  have h1:=zb (H:=H1) (a:=l1) (o:=.lst [.bl false,.bl true,.bl false])
  have he1:=g1.keep _ _ (by simp) he
  have G1:=gn.trans g1
  generalize upd H1 l1 _ = H2 at G1 h1 he1 ⊢
  refine ⟨_,rfl,_,rfl,e,_,_,_,_,rfl,he1,(fun _ r=>r),k_NoHand,q_NoHand_NoSettings,_,rfl,e,_,_,_,_,rfl,he1,(fun _ r=>r),k_NoHand,q_NoHand_NoNumber,_,rfl,e,_,_,_,_,rfl,he1,(fun _ r=>r),k_NoHand,q_NoHand_NoBoard,szl rfl,fun l2 hl2=>?_⟩
  have g2:=Grow.new (m:=[]) hl2 (.lst [.bl false,.bl false,.bl false])
  refine ⟨l1,l2,_,_,rfl,rfl,g2.keep _ _ (by simp) h1,zb,szl rfl,fun l3 hl3=>?_⟩
  have g3:=g2.trans (Grow.new (m:=[]) hl3 (.lst ([V.bl false,.bl true,.bl false] ++ [.bl false,.bl false,.bl false])))
  have h3:=zb (H:=upd H2 l2 (.lst [.bl false,.bl false,.bl false])) (a:=l3) (o:=.lst ([V.bl false,.bl true,.bl false] ++ [.bl false,.bl false,.bl false]))
  have he3:=g3.keep _ _ (by simp) he1
  have G3:=G1.trans g3
  generalize upd (upd H2 l2 _) l3 _ = H3 at G3 h3 he3 ⊢
  refine ⟨_,rfl,_,rfl,e,_,_,_,_,rfl,he3,(fun _ r=>r),k_NoHand,q_NoHand_NoAsk,_,rfl,e,_,_,_,_,rfl,he3,(fun _ r=>r),k_NoHand,q_NoHand_TooMany,szl rfl,fun l4 hl4=>?_⟩
  have g4:=Grow.new (m:=[]) hl4 (.lst [.bl false,.bl false])
  refine ⟨l3,l4,_,_,rfl,rfl,g4.keep _ _ (by simp) h3,zb,szl rfl,fun l5 hl5=>?_⟩
  have g5:=g4.trans (Grow.new (m:=[]) hl5 (.lst (([V.bl false,.bl true,.bl false] ++ [.bl false,.bl false,.bl false]) ++ [.bl false,.bl false])))
  have h5:=zb (H:=upd H3 l4 (.lst [.bl false,.bl false])) (a:=l5) (o:=.lst (([V.bl false,.bl true,.bl false] ++ [.bl false,.bl false,.bl false]) ++ [.bl false,.bl false]))
  have he5:=g5.keep _ _ (by simp) he3
  have G5:=G3.trans g5
  generalize upd (upd H3 l4 _) l5 _ = H5 at G5 h5 he5 ⊢
  refine ⟨_,rfl,e,_,_,_,_,rfl,he5,(fun _ r=>r),k_NoHand,q_NoHand_ValueError,_,rfl,iteF ?_⟩
  refine ⟨_,rfl,.inl ⟨rfl,_,SqL.of h5⟩,l5,[false,true,false,false,false,false,false,false],rfl,rfl,SqL.of h5,rfl,_,rfl,zy rfl ?_⟩
  refine ⟨szl rfl,fun l6 hl6=>⟨szl rfl,fun l7 hl7=>?_⟩⟩
  have g6:=Grow.new (m:=[]) hl6 (.lst [.str "NoNet",.str "NoHand",.str "NoSide",.str "NoSettings"])
  have g7:=Grow.new (m:=[]) hl7 (.lst [.str "other"])
  refine ⟨l7,4,_,rfl,rfl,zb,by decide,by decide,Nat.le_of_lt (zm (by show 1 * 4 <= 1000; decide)),fun l8 hl8=>?_⟩
  have g8:=Grow.new (m:=[]) hl8 (.lst (List.replicate (4:Int).toNat [V.str "other"]).flatten)
  refine ⟨l6,l8,_,_,rfl,rfl,(g7.trans g8).keep _ _ (by simp) zb,zb,szl rfl,fun l9 hl9=>?_⟩
  have g9:=(g6.trans (g7.trans g8)).trans (Grow.new (m:=[]) hl9 (.lst ([V.str "NoNet",.str "NoHand",.str "NoSide",.str "NoSettings"] ++ (List.replicate (4:Int).toNat [V.str "other"]).flatten)))
  have h9:=g9.keep _ _ (by simp) h5
  refine ⟨_,rfl,.inl ⟨rfl,_,SqL.of h9⟩,l5,[false,true,false,false,false,false,false,false],rfl,rfl,SqL.of h9,by decide,by decide,?_⟩
  exact ⟨l9,_,1,_,rfl,rfl,SqL.of zb,zR (j:=1) rfl,q _ (g.trans (G5.trans g9))⟩
 | side =>
  obtain rfl:A_NoSide = C':=(Option.some.inj hC).symm
  refine ⟨u_NoSide,?_⟩
  have gn:=Grow.new (m:=[]) hn (ExO e A_NoSide)
  have he:=zb (H:=H') (a:=e) (o:=ExO e A_NoSide)
  generalize upd H' e _ = H1 at gn he ⊢
  refine ⟨_,rfl,e,_,_,_,_,rfl,he,(fun _ r=>r),k_NoSide,q_NoSide_NoNet,_,rfl,e,_,_,_,_,rfl,he,(fun _ r=>r),k_NoSide,q_NoSide_NoHand,_,rfl,e,_,_,_,_,rfl,he,(fun _ r=>r),k_NoSide,q_NoSide_NoSide,szl rfl,fun l1 hl1=>?_⟩
  have g1:=Grow.new (m:=[]) hl1 (.lst [.bl false,.bl false,.bl true])
  have h1:=zb (H:=H1) (a:=l1) (o:=.lst [.bl false,.bl false,.bl true])
  have he1:=g1.keep _ _ (by simp) he
  have G1:=gn.trans g1
  generalize upd H1 l1 _ = H2 at G1 h1 he1 ⊢
  refine ⟨_,rfl,_,rfl,e,_,_,_,_,rfl,he1,(fun _ r=>r),k_NoSide,q_NoSide_NoSettings,_,rfl,e,_,_,_,_,rfl,he1,(fun _ r=>r),k_NoSide,q_NoSide_NoNumber,_,rfl,e,_,_,_,_,rfl,he1,(fun _ r=>r),k_NoSide,q_NoSide_NoBoard,szl rfl,fun l2 hl2=>?_⟩
  have g2:=Grow.new (m:=[]) hl2 (.lst [.bl false,.bl false,.bl false])
  refine ⟨l1,l2,_,_,rfl,rfl,g2.keep _ _ (by simp) h1,zb,szl rfl,fun l3 hl3=>?_⟩
  have g3:=g2.trans (Grow.new (m:=[]) hl3 (.lst ([V.bl false,.bl false,.bl true] ++ [.bl false,.bl false,.bl false])))
  have h3:=zb (H:=upd H2 l2 (.lst [.bl false,.bl false,.bl false])) (a:=l3) (o:=.lst ([V.bl false,.bl false,.bl true] ++ [.bl false,.bl false,.bl false]))
  have he3:=g3.keep _ _ (by simp) he1
  have G3:=G1.trans g3
  generalize upd (upd H2 l2 _) l3 _ = H3 at G3 h3 he3 ⊢
  refine ⟨_,rfl,_,rfl,e,_,_,_,_,rfl,he3,(fun _ r=>r),k_NoSide,q_NoSide_NoAsk,_,rfl,e,_,_,_,_,rfl,he3,(fun _ r=>r),k_NoSide,q_NoSide_TooMany,szl rfl,fun l4 hl4=>?_⟩
  have g4:=Grow.new (m:=[]) hl4 (.lst [.bl false,.bl false])
  refine ⟨l3,l4,_,_,rfl,rfl,g4.keep _ _ (by simp) h3,zb,szl rfl,fun l5 hl5=>?_⟩
  have g5:=g4.trans (Grow.new (m:=[]) hl5 (.lst (([V.bl false,.bl false,.bl true] ++ [.bl false,.bl false,.bl false]) ++ [.bl false,.bl false])))
  have h5:=zb (H:=upd H3 l4 (.lst [.bl false,.bl false])) (a:=l5) (o:=.lst (([V.bl false,.bl false,.bl true] ++ [.bl false,.bl false,.bl false]) ++ [.bl false,.bl false]))
  have he5:=g5.keep _ _ (by simp) he3
  have G5:=G3.trans g5
  generalize upd (upd H3 l4 _) l5 _ = H5 at G5 h5 he5 ⊢
  refine ⟨_,rfl,e,_,_,_,_,rfl,he5,(fun _ r=>r),k_NoSide,q_NoSide_ValueError,_,rfl,iteF ?_⟩
  refine ⟨_,rfl,.inl ⟨rfl,_,SqL.of h5⟩,l5,[false,false,true,false,false,false,false,false],rfl,rfl,SqL.of h5,rfl,_,rfl,zy rfl ?_⟩
  refine ⟨szl rfl,fun l6 hl6=>⟨szl rfl,fun l7 hl7=>?_⟩⟩
  have g6:=Grow.new (m:=[]) hl6 (.lst [.str "NoNet",.str "NoHand",.str "NoSide",.str "NoSettings"])
  have g7:=Grow.new (m:=[]) hl7 (.lst [.str "other"])
  refine ⟨l7,4,_,rfl,rfl,zb,by decide,by decide,Nat.le_of_lt (zm (by show 1 * 4 <= 1000; decide)),fun l8 hl8=>?_⟩
  have g8:=Grow.new (m:=[]) hl8 (.lst (List.replicate (4:Int).toNat [V.str "other"]).flatten)
  refine ⟨l6,l8,_,_,rfl,rfl,(g7.trans g8).keep _ _ (by simp) zb,zb,szl rfl,fun l9 hl9=>?_⟩
  have g9:=(g6.trans (g7.trans g8)).trans (Grow.new (m:=[]) hl9 (.lst ([V.str "NoNet",.str "NoHand",.str "NoSide",.str "NoSettings"] ++ (List.replicate (4:Int).toNat [V.str "other"]).flatten)))
  have h9:=g9.keep _ _ (by simp) h5
  refine ⟨_,rfl,.inl ⟨rfl,_,SqL.of h9⟩,l5,[false,false,true,false,false,false,false,false],rfl,rfl,SqL.of h9,by decide,by decide,?_⟩
  exact ⟨l9,_,2,_,rfl,rfl,SqL.of zb,zR (j:=2) rfl,q _ (g.trans (G5.trans g9))⟩
 | sett =>
  obtain rfl:A_NoSettings = C':=(Option.some.inj hC).symm
  refine ⟨u_NoSettings,?_⟩
  have gn:=Grow.new (m:=[]) hn (ExO e A_NoSettings)
  have he:=zb (H:=H') (a:=e) (o:=ExO e A_NoSettings)
  generalize upd H' e _ = H1 at gn he ⊢
  refine ⟨_,rfl,e,_,_,_,_,rfl,he,(fun _ r=>r),k_NoSettings,q_NoSettings_NoNet,_,rfl,e,_,_,_,_,rfl,he,(fun _ r=>r),k_NoSettings,q_NoSettings_NoHand,_,rfl,e,_,_,_,_,rfl,he,(fun _ r=>r),k_NoSettings,q_NoSettings_NoSide,szl rfl,fun l1 hl1=>?_⟩
  have g1:=Grow.new (m:=[]) hl1 (.lst [.bl false,.bl false,.bl false])
  have h1:=zb (H:=H1) (a:=l1) (o:=.lst [.bl false,.bl false,.bl false])
  have he1:=g1.keep _ _ (by simp) he
  have G1:=gn.trans g1
  generalize upd H1 l1 _ = H2 at G1 h1 he1 ⊢
  refine ⟨_,rfl,_,rfl,e,_,_,_,_,rfl,he1,(fun _ r=>r),k_NoSettings,q_NoSettings_NoSettings,_,rfl,e,_,_,_,_,rfl,he1,(fun _ r=>r),k_NoSettings,q_NoSettings_NoNumber,_,rfl,e,_,_,_,_,rfl,he1,(fun _ r=>r),k_NoSettings,q_NoSettings_NoBoard,szl rfl,fun l2 hl2=>?_⟩
  have g2:=Grow.new (m:=[]) hl2 (.lst [.bl true,.bl false,.bl false])
  refine ⟨l1,l2,_,_,rfl,rfl,g2.keep _ _ (by simp) h1,zb,szl rfl,fun l3 hl3=>?_⟩
  have g3:=g2.trans (Grow.new (m:=[]) hl3 (.lst ([V.bl false,.bl false,.bl false] ++ [.bl true,.bl false,.bl false])))
  have h3:=zb (H:=upd H2 l2 (.lst [.bl true,.bl false,.bl false])) (a:=l3) (o:=.lst ([V.bl false,.bl false,.bl false] ++ [.bl true,.bl false,.bl false]))
  have he3:=g3.keep _ _ (by simp) he1
  have G3:=G1.trans g3
  generalize upd (upd H2 l2 _) l3 _ = H3 at G3 h3 he3 ⊢
  refine ⟨_,rfl,_,rfl,e,_,_,_,_,rfl,he3,(fun _ r=>r),k_NoSettings,q_NoSettings_NoAsk,_,rfl,e,_,_,_,_,rfl,he3,(fun _ r=>r),k_NoSettings,q_NoSettings_TooMany,szl rfl,fun l4 hl4=>?_⟩
  have g4:=Grow.new (m:=[]) hl4 (.lst [.bl false,.bl false])
  refine ⟨l3,l4,_,_,rfl,rfl,g4.keep _ _ (by simp) h3,zb,szl rfl,fun l5 hl5=>?_⟩
  have g5:=g4.trans (Grow.new (m:=[]) hl5 (.lst (([V.bl false,.bl false,.bl false] ++ [.bl true,.bl false,.bl false]) ++ [.bl false,.bl false])))
  have h5:=zb (H:=upd H3 l4 (.lst [.bl false,.bl false])) (a:=l5) (o:=.lst (([V.bl false,.bl false,.bl false] ++ [.bl true,.bl false,.bl false]) ++ [.bl false,.bl false]))
  have he5:=g5.keep _ _ (by simp) he3
  have G5:=G3.trans g5
  generalize upd (upd H3 l4 _) l5 _ = H5 at G5 h5 he5 ⊢
  refine ⟨_,rfl,e,_,_,_,_,rfl,he5,(fun _ r=>r),k_NoSettings,q_NoSettings_ValueError,_,rfl,iteF ?_⟩
  refine ⟨_,rfl,.inl ⟨rfl,_,SqL.of h5⟩,l5,[false,false,false,true,false,false,false,false],rfl,rfl,SqL.of h5,rfl,_,rfl,zy rfl ?_⟩
  refine ⟨szl rfl,fun l6 hl6=>⟨szl rfl,fun l7 hl7=>?_⟩⟩
  have g6:=Grow.new (m:=[]) hl6 (.lst [.str "NoNet",.str "NoHand",.str "NoSide",.str "NoSettings"])
  have g7:=Grow.new (m:=[]) hl7 (.lst [.str "other"])
  refine ⟨l7,4,_,rfl,rfl,zb,by decide,by decide,Nat.le_of_lt (zm (by show 1 * 4 <= 1000; decide)),fun l8 hl8=>?_⟩
  have g8:=Grow.new (m:=[]) hl8 (.lst (List.replicate (4:Int).toNat [V.str "other"]).flatten)
  refine ⟨l6,l8,_,_,rfl,rfl,(g7.trans g8).keep _ _ (by simp) zb,zb,szl rfl,fun l9 hl9=>?_⟩
  have g9:=(g6.trans (g7.trans g8)).trans (Grow.new (m:=[]) hl9 (.lst ([V.str "NoNet",.str "NoHand",.str "NoSide",.str "NoSettings"] ++ (List.replicate (4:Int).toNat [V.str "other"]).flatten)))
  have h9:=g9.keep _ _ (by simp) h5
  refine ⟨_,rfl,.inl ⟨rfl,_,SqL.of h9⟩,l5,[false,false,false,true,false,false,false,false],rfl,rfl,SqL.of h9,by decide,by decide,?_⟩
  exact ⟨l9,_,3,_,rfl,rfl,SqL.of zb,zR (j:=3) rfl,q _ (g.trans (G5.trans g9))⟩
theorem ux:FnScope ["_law_thing"] ["_law_thing"] (zh (top 48)):=⟨rfl,rfl,rfl,by decide +kernel,rfl,by decide +kernel,by decide +kernel⟩
theorem uy (F:Fun K "_law_number" "_law_number" (top 48) f fd) (B:Blt mg)     :
  FnOk P w K mg base CX0 (n + 1) f fd ["_law_thing"] (yM K):=by
 refine F.ok ux wQ (fun cdv A outer s H vs Q E hr h=>?_)
 obtain ⟨x,rfl,d,m,hd,q⟩:=h
 refine ⟨_,(zg (zo (xJ (zj (zU (K:=K) rfl) rfl B.isinstance zp (za (pv 0) (za (yV rfl B.int u7) zc))) (xz (vf (zj (zU (K:=K) rfl) rfl B.isinstance zp (za (pv 0) (za (yV rfl B.bool Yp) zc)))))))),?_⟩
 refine ⟨_,rfl,_,d,m,_,_,rfl,hd,Zo,_,rfl,?_⟩
 cases d with
 | int i=>exact iteT ⟨_,rfl,_,_,m,_,_,rfl,hd,vB,_,rfl,q⟩
 | bool b=>exact iteT ⟨_,rfl,_,_,m,_,_,rfl,hd,vB,_,rfl,q⟩
 | _=>exact iteF q
theorem uz:FnScope ["_law_k","_law_thing"] ["_law_k","_law_thing"] (zh (top 49)):=⟨rfl,rfl,rfl,by decide +kernel,rfl,by decide +kernel,by decide +kernel⟩
theorem uA (F:Fun K "_law_within" "_law_within" (top 49) f fd) (B:Blt mg) (qc0:zi P w K mg base n "_law_number" ["_law_thing"] (yM K))    :
  FnOk P w K mg base CX0 (n + 1) f fd ["_law_k","_law_thing"] (yR K):=by
 refine F.ok uz yk (fun cdv A outer s H vs Q E hr h=>?_)
 obtain ⟨x,y,rfl,k,d,m,rfl,k4,hd,q⟩:=h
 refine ⟨_,(zg (zo (xJ (zf qc0 hr rfl (za (pv 1) zc)) (xz (qd ZM jB ze (pv 1) (zv y4 ze (pv 0))))))),?_⟩
 have e1k:(1:Int) * 2 ^ ((k:Int)).toNat = ((2 ^ k:Nat):Int):=yW
 refine ⟨_,rfl,_,rfl,d,m,hd,_,rfl,?_⟩
 cases d with
 | int i =>
  obtain rfl:=hd.inv_int
  have q':Q (.bl (decide (0 <= i) && decide (i <= ((2 ^ k:Nat):Int) - 1))) H:=q
  refine iteT ⟨_,rfl,_,_,rfl,rfl,_,rfl,?_⟩
  by_cases c:0 <= i
  ·rw [decide_eq_true c,Bool.true_and] at q'
   refine yd (decide_eq_true c) ⟨_,rfl,_,_,rfl,rfl,vh k4,_,_,rfl,rfl,?_⟩
   show Q (V.bl (decide (i < 1 * 2 ^ (k:Int).toNat))) H
   rw [e1k]
   have e:decide (i < ((2 ^ k:Nat):Int)) = decide (i <= ((2 ^ k:Nat):Int) - 1):=by
    by_cases z:i < ((2 ^ k:Nat):Int)
    ·rw [decide_eq_true z,decide_eq_true (by omega)]
    ·rw [decide_eq_false z,decide_eq_false (by omega)]
   rw [e]; exact q'
  ·rw [decide_eq_false c,Bool.false_and] at q'
   exact zy (decide_eq_false c) q'
 | _=>exact iteF q
theorem yQ:FnScope ["_law_k","_law_thing","_law_row"] ["_law_k","_law_thing"] (zh (top 60)):=⟨rfl,rfl,rfl,by decide +kernel,rfl,by decide +kernel,by decide +kernel⟩
theorem wj (F:Fun K "_law_are_settings" "_law_are_settings" (top 60) f fd) (B:Blt mg) (qc0:zi P w K mg base n "_law_within" ["_law_k","_law_thing"] (yR K))    :
  FnOk P w K mg base CX0 (n + 1) f fd ["_law_k","_law_thing"] (Zt K):=by
 refine F.ok yQ yk (fun cdv A outer s H vs Q E hr h=>?_)
 obtain ⟨x,y,rfl,k,d,m,rfl,k4,hd,q⟩:=h
 refine ⟨_,(zd (zY (PW.pt (vk (yt (yr (zj (zU (K:=K) rfl) rfl B.isinstance zp (za (pv 1) (za (yV rfl B.tuple z9) zc))))) (xI (zz tT (zj zC rfl B.len wu (za (pv 1) zc)) (pv 0) (zA _))))) (zg (zo wO)) zx) (zd (yZ PassesOwn.never rfl (xk (pv 1)) (zn (i:=2) yQ.nd rfl (Or.inl rfl)) (zd (zY (PW.pt (vk (yt (yr (zj (zU (K:=K) rfl) rfl B.isinstance zp (za (pv 2) (za (yV rfl B.tuple z9) zc))))) (xI (zz tT (zj zC rfl B.len wu (za (pv 2) zc)) (zv y4 ze (zv y0 (pv 0) ze)) (zA _))))) (zg (zo wO)) zx) (zg (zY (yt (yr (zj (yi rfl) rfl B.all uj (za (ya (CSc.of (N':=["_law_one"]) (sub:=[none]) (zh (top 60)) ["_law_k","_law_thing","_law_row"] rfl rfl (by decide +kernel) rfl) rfl (xk (pv 2)) (fun _ _ _ _ _ _=>zn (i:=0) (show (["_law_one"]:List Str).Nodup by decide +kernel) rfl (Or.inl rfl)) (fun _ _ _ _ _ _=>zP) (fun _ _ _ _ _ _=>(zf qc0 hr rfl (za ze (za (pv 0) zc))))) zc)))) (zg (zo wO)) zx)))) (zg (zo wO)))),?_⟩
 have p16:=xr k4
 refine ⟨_,rfl,_,d,m,_,_,rfl,hd,xh,_,rfl,?_⟩
 cases d with
 | tuple ds =>
  obtain ⟨a,xs,rfl,hs,ha⟩:=hd.inv_tup
  have hl:=ha.length
  refine iteF ⟨_,rfl,a,_,rfl,.inr hs,_,rfl,rfl,_,rfl,?_⟩
  by_cases c:ds.length = k
  ·refine zy (by rw [decide_eq_true (congrArg V.int (by omega))]; rfl) ?_
   have e:setP k (.tuple ds) = ds.all (yP k):=by show (decide (ds.length = k) && _) = _; rw [decide_eq_true c]; rfl
   rw [e] at q
   refine ⟨_,rfl,a,rfl,⟨_,hs⟩,sZ (xs:=xs) (fun i σ H'=>∃ (e2:Option V),σ = [some (.int k),some (.ref a),e2] /\ Grow [] H H' /\ (ds.take i).all (yP k) = true) ⟨_,rfl,Grow.refl _ _,rfl⟩ (fun i σ H' _ ⟨_,_,g,_⟩=>g.sqT hs) ?_ ?_⟩
   ·rintro i x σ H1 hx ⟨e2,rfl,g1,hb⟩
    obtain ⟨e,he,oe⟩:=ha.get hx
    have hi:=(List.getElem?_eq_some_iff.mp he).1
    have k1:1 <= k:=by omega
    have e1k:(1:Int) * 2 ^ (((k:Int) - 1)).toNat = (2 ^ k / 2:Nat):=by rw [show (k:Int) - 1 = ((k - 1:Nat):Int) by omega,yW,rm k1]
    have bad:yP k e = false -> ∀ H',Grow [] H1 H' -> Q (.bl false) H':=fun hb H' g=>by
     have:=q _ (g1.trans g)
     rw [tI he hb] at this; exact this
    refine ⟨_,rfl,_,e,m,_,_,rfl,oe.grow g1.wk,xh,_,rfl,?_⟩
    match e,oe,bad,he with
    | .tuple es,oe,bad,he =>
     obtain ⟨b,zs,rfl,hz,hza⟩:=oe.inv_tup
     have zl:=hza.length
     refine iteF ⟨_,rfl,b,_,rfl,.inr (g1.sqT hz),_,rfl,_,_,rfl,rfl,_,_,rfl,rfl,⟨by omega,by omega,by decide⟩,rfl,_,rfl,?_⟩
     by_cases cz:es.length = 2 ^ k / 2
     ·refine zy (by rw [decide_eq_true (congrArg V.int (by rw [e1k]; omega))]; rfl) ?_
      have em:yP k (.tuple es) = es.all (zk 0 1):=by show (decide (es.length = 2 ^ k / 2) && _) = _; rw [decide_eq_true cz]; rfl
      refine ⟨_,rfl,b,rfl,⟨_,g1.sqT hz⟩,xn (xs:=zs) (fun j ys H'=>ys = ((es.take j).map (zk 0 1)).map V.bl /\ Grow [] H1 H') ⟨rfl,Grow.refl _ _⟩ (fun j ys H' p=>(g1.trans p.2).sqT hz) ?_ ?_⟩
      ·rintro j x ys H' hx ⟨rfl,g⟩
       obtain ⟨e',he',oe'⟩:=hza.get hx
       refine ⟨_,rfl,_,_,rfl,1,e',m,rfl,by decide,oe'.grow (g1.trans g).wk,zm (by rw [List.length_map,List.length_map,List.length_take]; omega),?_,g⟩
       rw [sJ he',List.map_append]; rfl
      ·rintro ys H' ⟨rfl,g⟩ l hl'
       rw [zl,List.take_length]
       have g2:=g.trans (Grow.new hl' (.lst ((es.map (zk 0 1)).map V.bl)))
       refine ⟨l,es.map (zk 0 1),rfl,SqL.of zb,_,rfl,?_⟩
       rw [wH,← em]
       cases cm:yP k (.tuple es) with
       | true=>exact iteF ⟨_,rfl,g1.trans g2,by rw [wY he,hb,cm]; rfl⟩
       | false=>exact iteT (bad cm _ g2)
     ·refine yd (by rw [decide_eq_false fun z=>cz (by have:=V.int.inj z; rw [e1k] at this; omega)]; rfl) ?_
      exact bad (by show (decide (es.length = 2 ^ k / 2) && _) = _; rw [decide_eq_false cz]; rfl) _ (Grow.refl _ _)
    | .none,_,bad,_=>exact iteT (bad rfl _ (Grow.refl _ _))
    | .bool _,_,bad,_=>exact iteT (bad rfl _ (Grow.refl _ _))
    | .int _,_,bad,_=>exact iteT (bad rfl _ (Grow.refl _ _))
    | .str _,_,bad,_=>exact iteT (bad rfl _ (Grow.refl _ _))
    | .list _,_,bad,_=>exact iteT (bad rfl _ (Grow.refl _ _))
    | .dict _,_,bad,_=>exact iteT (bad rfl _ (Grow.refl _ _))
   ·rintro σ H1 ⟨e2,rfl,g1,hb⟩
    rw [hl,List.take_length] at hb
    rw [hb] at q
    exact q _ g1
  ·refine yd (by rw [decide_eq_false fun z=>c (by have:=V.int.inj z; omega)]; rfl) ?_
   have q':=q _ (Grow.refl _ _)
   have e:setP k (.tuple ds) = false:=by show (decide (ds.length = k) && _) = _; rw [decide_eq_false c]; rfl
   rw [e] at q'
   exact q'
 | _=>exact iteT (q _ (Grow.refl _ _))
theorem w5:FnScope ["_law_k","_law_sides"] ["_law_k","_law_sides"] (zh (top 59)):=⟨rfl,rfl,rfl,by decide +kernel,rfl,by decide +kernel,by decide +kernel⟩
theorem w6 (F:Fun K "_law_are_sides" "_law_are_sides" (top 59) f fd) (B:Blt mg) (qc0:zi P w K mg base n "_law_within" ["_law_k","_law_thing"] (yR K))    :
  FnOk P w K mg base CX0 (n + 1) f fd ["_law_k","_law_sides"] (wL K):=by
 refine F.ok w5 yk (fun cdv A outer s H vs Q E hr h=>?_)
 obtain ⟨x,y,rfl,k,d,m,rfl,k4,hd,q⟩:=h
 refine ⟨_,(zg (zo (xJ (zj (zU (K:=K) rfl) rfl B.isinstance zp (za (pv 1) (za (yV rfl B.tuple z9) zc))) (xJ (xp yI (zj zC rfl B.len wu (za (pv 1) zc)) (zv y4 ze (pv 0)) (zA _)) (xz (zj (yi rfl) rfl B.all uj (za (ya (CSc.of (N':=["_law_goal","_law_k"]) (sub:=[none,some 0]) (zh (top 59)) ["_law_k","_law_sides"] rfl rfl (by decide +kernel) rfl) rfl (xk (pv 1)) (fun _ _ _ _ _ _=>zn (i:=0) (show (["_law_goal","_law_k"]:List Str).Nodup by decide +kernel) rfl (Or.inl rfl)) (fun _ _ _ _ _ _=>zP) (fun _ _ _ _ _ _=>(zf qc0 hr rfl (za (pv 1) (za (pv 0) zc))))) zc))))))),?_⟩
 have p:=xr k4
 have e1k:(1:Int) * 2 ^ ((k:Int)).toNat = ((2 ^ k:Nat):Int):=yW
 refine ⟨_,rfl,_,d,m,_,_,rfl,hd,xh,_,rfl,?_⟩
 cases d with
 | tuple ds =>
  obtain ⟨a,xs,rfl,hs,ha⟩:=hd.inv_tup
  have hl:=ha.length
  refine iteT ⟨_,rfl,a,_,rfl,.inr hs,_,rfl,_,_,rfl,rfl,vh k4,rfl,_,rfl,?_⟩
  by_cases c:ds.length = 2 ^ k
  ·refine yd (decide_eq_true (congrArg V.int (by rw [e1k]; omega))) ?_
   refine ⟨_,rfl,a,rfl,⟨_,hs⟩,xn (xs:=xs) (fun i ys H'=>ys = ((ds.take i).map (zF k)).map V.bl /\ Grow [] H H') ⟨rfl,Grow.refl _ _⟩ (fun i ys H' p=>p.2.sqT hs) ?_ ?_⟩
   ·rintro i x ys H' hx ⟨rfl,g⟩
    obtain ⟨e,he,oe⟩:=ha.get hx
    refine ⟨_,rfl,_,rfl,_,_,rfl,k,e,m,rfl,k4,oe.grow g.wk,zm (by rw [List.length_map,List.length_map,List.length_take]; omega),?_,g⟩
    rw [sJ he,List.map_append]; rfl
   ·rintro ys H' ⟨rfl,g⟩ l hl'
    rw [hl,List.take_length]
    refine ⟨l,ds.map (zF k),rfl,SqL.of zb,?_⟩
    have q':=q _ (g.trans (Grow.new hl' (.lst ((ds.map (zF k)).map V.bl))))
    have e:xC k (.tuple ds) = (ds.map (zF k)).all id:=by show (decide (ds.length = 2 ^ k) && _) = _; rw [decide_eq_true c,wH]; rfl
    rw [e] at q'
    exact q'
  ·refine zy (decide_eq_false fun z=>c (by have:=V.int.inj z; rw [e1k] at this; omega)) ?_
   have q':=q _ (Grow.refl _ _)
   have e:xC k (.tuple ds) = false:=by show (decide (ds.length = 2 ^ k) && _) = _; rw [decide_eq_false c]; rfl
   rw [e] at q'
   exact q'
 | _=>exact iteF (q _ (Grow.refl _ _))
theorem w9:FnScope ["_law_thing"] ["_law_thing"] (zh (top 57)):=⟨rfl,rfl,rfl,by decide +kernel,rfl,by decide +kernel,by decide +kernel⟩
theorem vc (F:Fun K "_law_are_pairs" "_law_are_pairs" (top 57) f fd) (B:Blt mg)     :
  FnOk P w K mg base CX0 (n + 1) f fd ["_law_thing"] (wK K):=by
 refine F.ok w9 wQ (fun cdv A outer s H vs Q E hr h=>?_)
 obtain ⟨x,rfl,d,m,hd,few,q⟩:=h
 refine ⟨_,(zg (zo (xJ (zj (zU (K:=K) rfl) rfl B.isinstance zp (za (pv 0) (za (yV rfl B.tuple z9) zc))) (xz (xp (Yh (K:=K) rfl hr) (ya (CSc.of (N':=["_law_one"]) (sub:=[none]) (zh (top 57)) ["_law_thing"] rfl rfl (by decide +kernel) rfl) rfl (xk (pv 0)) (fun _ _ _ _ _ _=>zn (i:=0) (show (["_law_one"]:List Str).Nodup by decide +kernel) rfl (Or.inl rfl)) (fun _ _ _ _ _ _=>(qi (PW.pt (vk (yt (yr (zj (zU (K:=K) rfl) rfl B.isinstance zp (za (pv 0) (za (yV rfl B.tuple z9) zc))))) (xI (zz tT (zj (sg (K:=K) rfl) rfl B.len wu (za (pv 0) zc)) ze (zA _))))))) (fun _ _ _ _ _ _=>(pv 0))) (zZ zc) (zA _)))))),?_⟩
 refine ⟨_,rfl,_,d,m,_,_,rfl,hd,xh,_,rfl,?_⟩
 cases d with
 | tuple ds =>
  obtain ⟨a,xs,rfl,hs,ha⟩:=hd.inv_tup
  have hl:=ha.length
  have l40:=wJ few
  refine iteT ⟨_,rfl,a,rfl,⟨_,hs⟩,vz (xs:=xs) (fun i ys σ' H'=>(∃ e,σ' = [e]) /\ ys.length = ((ds.take i).filter fun d=>!(xj d)).length /\ H' = H) ⟨⟨_,rfl⟩,rfl,rfl⟩ (fun i ys σ' H' _ p=>by rw [p.2.2]; exact hs) ?_ ?_⟩
  ·rintro i x ys σ' H' hx ⟨⟨e0,rfl⟩,hy,rfl⟩
   obtain ⟨e,he,oe⟩:=ha.get hx
   have hi:i < ds.length:=(List.getElem?_eq_some_iff.mp he).1
   have fl:=X2 (p:=fun d=>!(xj d)) he
   have fin:∀ b:Bool,(!(xj e)) = b -> if b = true then (tVar 0) [some x] H' (fun y H5=>ys.length < sizeLine /\ (∃ e,[some x] = [e]) /\ (ys ++ [y]).length = ((ds.take (i + 1)).filter fun d=>!(xj d)).length /\ H5 = H') else (∃ e,[some x] = [e]) /\ ys.length = ((ds.take (i + 1)).filter fun d=>!(xj d)).length /\ H' = H':=by
    intro b hb
    cases b with
    | true =>
     have h1:=List.length_filter_le (fun d=>!(xj d)) (ds.take i)
     rw [List.length_take] at h1
     refine iteT ⟨_,rfl,zm (by omega),⟨_,rfl⟩,?_,rfl⟩
     rw [fl,if_pos hb,List.length_append,List.length_append,hy]; rfl
    | false =>
     refine iteF ⟨⟨_,rfl⟩,?_,rfl⟩
     rw [fl,if_neg (by rw [hb]; decide),List.append_nil]; exact hy
   refine ⟨_,rfl,_,e,m,_,_,rfl,oe,xh,_,rfl,?_⟩
   match e,oe,fin with
   | .tuple es,oe,fin =>
    obtain ⟨b,zs,rfl,hz,hza⟩:=oe.inv_tup
    have zl:=hza.length
    refine iteF ⟨_,rfl,b,_,rfl,.inr hz,rfl,_,rfl,fin _ ?_⟩
    match es,zl with
    | [],zl=>exact (congrArg (!·) (decide_eq_false fun z=>by have:=V.int.inj z; simp only [List.length_cons,List.length_nil] at zl; omega)).symm
    | [_],zl=>exact (congrArg (!·) (decide_eq_false fun z=>by have:=V.int.inj z; simp only [List.length_cons,List.length_nil] at zl; omega)).symm
    | [_,_],zl=>exact (congrArg (!·) (decide_eq_true (congrArg V.int (by simp only [List.length_cons,List.length_nil] at zl; omega)))).symm
    | _ :: _ :: _ :: _,zl=>exact (congrArg (!·) (decide_eq_false fun z=>by have:=V.int.inj z; simp only [List.length_cons,List.length_nil] at zl; omega)).symm
   | .none,_,fin=>exact iteT (fin true rfl)
   | .bool _,_,fin=>exact iteT (fin true rfl)
   | .int _,_,fin=>exact iteT (fin true rfl)
   | .str _,_,fin=>exact iteT (fin true rfl)
   | .list _,_,fin=>exact iteT (fin true rfl)
   | .dict _,_,fin=>exact iteT (fin true rfl)
  ·rintro ys σ' H' ⟨_,hy,rfl⟩ l hl'
   rw [hl,List.take_length] at hy
   refine ⟨szl rfl,fun l2 hl2=>⟨l,l2,_,rfl,rfl,SqL.of ((Grow.new (m:=[]) hl2 (.lst [])).keep _ _ (by simp) zb),SqL.of zb,?_⟩⟩
   have e1:ys.isEmpty = (ds.filter fun d=>!(xj d)).isEmpty:=by
    rw [Bool.eq_iff_iff,List.isEmpty_iff_length_eq_zero,List.isEmpty_iff_length_eq_zero,hy]
   rw [e1,Zv]
   exact q _ ((Grow.new (m:=[]) hl' (.lst ys)).trans (Grow.new hl2 (.lst [])))
 | _=>exact iteF (q _ (Grow.refl _ _))
theorem vd:FnScope ["_law_k","_law_pairs_here"] ["_law_k","_law_pairs_here"] (zh (top 58)):=⟨rfl,rfl,rfl,by decide +kernel,rfl,by decide +kernel,by decide +kernel⟩
theorem ve (F:Fun K "_law_pairs_due" "_law_pairs_due" (top 58) f fd) (B:Blt mg) (qc0:zi P w K mg base n "_law_within" ["_law_k","_law_thing"] (yR K)) (qc1:zi P w K mg base n "_law_are_pairs" ["_law_thing"] (wK K))    :
  FnOk P w K mg base CX0 (n + 1) f fd ["_law_k","_law_pairs_here"] (ua K):=by
 refine F.ok vd yk (fun cdv A outer s H vs Q E hr h=>?_)
 obtain ⟨x,y,rfl,k,d,m,rfl,k4,hd,few,q⟩:=h
 refine ⟨_,(zd (zY (PW.pt (vk (yt (yr (zf qc1 hr rfl (za (pv 1) zc)))) (xI (yt (yr (zj (yi rfl) rfl B.all uj (za (ya (CSc.of (N':=["_law_hand","_law_goal","_law_k"]) (sub:=[none,none,some 0]) (zh (top 58)) ["_law_k","_law_pairs_here"] rfl rfl (by decide +kernel) rfl) rfl (xk (pv 1)) (fun _ _ _ _ _ _=>tf (K:=K) 2 rfl rfl (zt (zn (i:=0) (show (["_law_hand","_law_goal","_law_k"]:List Str).Nodup by decide +kernel) rfl (Or.inl rfl) (Or.inr rfl)) (zt (zn (i:=1) (show (["_law_hand","_law_goal","_law_k"]:List Str).Nodup by decide +kernel) rfl (Or.inl rfl) (Or.inr rfl)) yx)) rfl rfl) (fun _ _ _ _ _ _=>zP) (fun _ _ _ _ _ _=>(zf qc0 hr rfl (za (pv 2) (za (pv 0) zc))))) zc))))))) (zg (zo zX)) zx) (zg (zo (yj zJ (zZ (za xG (za zX zc))) (zH yU rfl B.int u7 (za (vf (zj (yi rfl) rfl B.all uj (za (ya (CSc.of (N':=["_law_hand","_law_goal","_law_k"]) (sub:=[none,none,some 0]) (zh (top 58)) ["_law_k","_law_pairs_here"] rfl rfl (by decide +kernel) rfl) rfl (xk (pv 1)) (fun _ _ _ _ _ _=>tf (K:=K) 2 rfl rfl (zt (zn (i:=0) (show (["_law_hand","_law_goal","_law_k"]:List Str).Nodup by decide +kernel) rfl (Or.inl rfl) (Or.inr rfl)) (zt (zn (i:=1) (show (["_law_hand","_law_goal","_law_k"]:List Str).Nodup by decide +kernel) rfl (Or.inl rfl) (Or.inr rfl)) yx)) rfl rfl) (fun _ _ _ _ _ _=>zP) (fun _ _ _ _ _ _=>(zf qc0 hr rfl (za (pv 2) (za (pv 1) zc))))) zc))) zc)) (fun _ _=>rfl))))),?_⟩
 refine ⟨_,rfl,_,rfl,d,m,hd,few,fun H1 g1=>⟨_,rfl,?_⟩⟩
 unfold xS at q
 cases hp:uU d with
 | false =>
  rw [hp] at q
  exact iteT (q _ g1)
 | true =>
 match d,hp,hd,few,q with
 | .tuple ds,hp,hd,few,q =>
 rw [hp,Bool.true_and] at q
 have hp':ds.all xj = true:=hp
 obtain ⟨a,xs,rfl,hs,ha⟩:=hd.inv_tup
 have hl:=ha.length
 have l40:=wJ few
 refine iteF ⟨_,rfl,a,rfl,⟨_,g1.sqT hs⟩,ub (xs:=xs) (fun i ys σ' H'=>(∃ e0 e1:Option V,σ' = [e0,e1,some (.int k)]) /\ ys = ((ds.take i).map fun p=>zF k (fstD p)).map V.bl /\ H' = H1) ⟨⟨_,_,rfl⟩,rfl,rfl⟩ (fun i ys σ' H' _ z=>by rw [z.2.2]; exact g1.sqT hs) ?_ ?_⟩
 ·rintro i x ys σ' H' hx ⟨⟨e0,e1,rfl⟩,rfl,rfl⟩
  obtain ⟨e,he,oe⟩:=ha.get hx
  have hi:=(List.getElem?_eq_some_iff.mp he).1
  obtain ⟨b,u,v,ee,ff,rfl,rfl,hb',o1,o2⟩:=xU oe (List.all_eq_true.mp hp' e (List.mem_of_getElem? he))
  refine ⟨b,_,rfl,g1.sqT hb',rfl,_,_,rfl,_,_,rfl,rfl,_,rfl,_,rfl,_,_,rfl,k,ee,m,rfl,k4,o1.grow g1.wk,zm (by rw [List.length_map,List.length_map,List.length_take]; omega),⟨_,_,rfl⟩,?_,rfl⟩
  rw [sJ he,List.map_append]; rfl
 rintro ys σ' H' ⟨_,rfl,rfl⟩ l hl'
 rw [hl,List.take_length]
 have g2:=g1.trans (Grow.new (m:=[]) hl' (.lst ((ds.map fun p=>zF k (fstD p)).map V.bl)))
 refine ⟨l,ds.map fun p=>zF k (fstD p),rfl,SqL.of zb,_,rfl,?_⟩
 rw [wH]
 generalize upd H' l _ = H2 at g2 ⊢
 cases hh:xQ k ds with
 | false =>
  rw [show xQ k (xB (.tuple ds)) = false from hh] at q
  rw [show (ds.all fun p=>zF k (fstD p)) = false from hh]
  exact iteT (q _ g2)
 | true =>
 rw [show xQ k (xB (.tuple ds)) = true from hh,if_pos rfl] at q
 rw [show (ds.all fun p=>zF k (fstD p)) = true from hh]
 refine iteF ?_
 refine ⟨szl rfl,fun ln hln=>?_⟩
 have g3:=g2.trans (Grow.new (m:=[]) hln (.lst [V.non,.str "NoSide"]))
 have h3:=zb (H:=H2) (a:=ln) (o:=.lst [V.non,.str "NoSide"])
 generalize upd H2 ln _ = H3 at g3 h3 ⊢
 refine ⟨_,rfl,a,rfl,⟨_,g3.sqT hs⟩,ub (xs:=xs) (fun i ys σ' H'=>(∃ e0 e1:Option V,σ' = [e0,e1,some (.int k)]) /\ ys = ((ds.take i).map fun p=>zF k (sndD p)).map V.bl /\ H' = H3) ⟨⟨_,_,rfl⟩,rfl,rfl⟩ (fun i ys σ' H' _ z=>by rw [z.2.2]; exact g3.sqT hs) ?_ ?_⟩
 ·rintro i x ys σ' H' hx ⟨⟨e0,e1,rfl⟩,rfl,rfl⟩
  obtain ⟨e,he,oe⟩:=ha.get hx
  have hi:=(List.getElem?_eq_some_iff.mp he).1
  obtain ⟨b,u,v,ee,ff,rfl,rfl,hb',o1,o2⟩:=xU oe (List.all_eq_true.mp hp' e (List.mem_of_getElem? he))
  refine ⟨b,_,rfl,g3.sqT hb',rfl,_,_,rfl,_,_,rfl,rfl,_,rfl,_,rfl,_,_,rfl,k,ff,m,rfl,k4,o2.grow g3.wk,zm (by rw [List.length_map,List.length_map,List.length_take]; omega),⟨_,_,rfl⟩,?_,rfl⟩
  rw [sJ he,List.map_append]; rfl
 rintro ys σ' H' ⟨_,rfl,rfl⟩ l2 hl2
 rw [hl,List.take_length]
 have g4:=g3.trans (Grow.new (m:=[]) hl2 (.lst ((ds.map fun p=>zF k (sndD p)).map V.bl)))
 have h4:=(Grow.new (m:=[]) hl2 (.lst ((ds.map fun p=>zF k (sndD p)).map V.bl))).keep _ _ (by simp) h3
 refine ⟨l2,ds.map fun p=>zF k (sndD p),rfl,SqL.of zb,_,rfl,.inr ⟨_,rfl,?_⟩⟩
 rw [wH]
 generalize upd H' l2 _ = H4 at g4 h4 ⊢
 cases hg:xR k ds with
 | false =>
  rw [show xR k (xB (.tuple ds)) = false from hg] at q
  rw [show (ds.all fun p=>zF k (sndD p)) = false from hg]
  exact ⟨ln,_,1,_,rfl,rfl,SqL.of h4,zR (j:=1) rfl,q _ g4⟩
 | true =>
  rw [show xR k (xB (.tuple ds)) = true from hg] at q
  rw [show (ds.all fun p=>zF k (sndD p)) = true from hg]
  exact ⟨ln,_,0,_,rfl,rfl,SqL.of h4,zR (j:=0) rfl,q _ g4⟩
theorem zO:FnScope ["_law_way_of","_law_drawn_here","_law_k","_law_one","_law_other","_law_goal","_law_last","_law_pairs_here","_law_sides","_law_settings_here","_law_hands","_law_goals"] ["_law_way_of","_law_drawn_here"] (zh (top 61)):=⟨rfl,rfl,rfl,by decide +kernel,rfl,by decide +kernel,by decide +kernel⟩
theorem rV (F:Fun K "_law_due" "_law_due" (top 61) f fd) (B:Blt mg) (qc0:zi P w K mg base n "_law_are_settings" ["_law_k","_law_thing"] (Zt K)) (qc1:zi P w K mg base n "_law_are_sides" ["_law_k","_law_sides"] (wL K)) (qc2:zi P w K mg base n "_law_pairs_due" ["_law_k","_law_pairs_here"] (ua K)) (qc3:zi P w K mg base n "_law_within" ["_law_k","_law_thing"] (yR K)) (qc4:zi P w K mg base n "_law_number" ["_law_thing"] (yM K))    :
  FnOk P w K mg base CX0 (n + 1) f fd ["_law_way_of","_law_drawn_here"] (vF K):=by
 refine F.ok zO yk (fun cdv A outer s H vs Q E hr h=>?_)
 obtain ⟨x,y,rfl,w,l,xs,ds,m,rfl,w8,rfl,hD,q⟩:=h
 refine ⟨_,(zd (wC (y6 vK (pv 1) xM (xO ze)) (vD rfl (zt (zn (i:=2) zO.nd rfl (Or.inl rfl)) (zt (zn (i:=3) zO.nd rfl (Or.inl rfl)) (zt (zn (i:=4) zO.nd rfl (Or.inl rfl)) (zt (zn (i:=5) zO.nd rfl (Or.inl rfl)) (zt (zn (i:=6) zO.nd rfl (Or.inl rfl)) yx))))))) (zd (wC (y6 vK (pv 1) (xO ze) xM) (vD rfl (zt (zn (i:=7) zO.nd rfl (Or.inl rfl)) (zt (zn (i:=8) zO.nd rfl (Or.inl rfl)) (zt (zn (i:=9) zO.nd rfl (Or.inl rfl)) yx))))) (zd (zY (PW.pt (vk (yt (yr (zf qc4 hr rfl (za (pv 2) zc)))) (vk (zz jB (pv 2) ze (zA _)) (xI (zz YN (pv 2) ze (zA _)))))) (zg (zo zX)) zx) (zd (zD (i:=10) zO.nd rfl (Or.inl rfl) (zZ (za (zf qc3 hr rfl (za (pv 2) (za (pv 3) zc))) (za (zf qc3 hr rfl (za (pv 2) (za (pv 4) zc))) zc)))) (zd (zD (i:=11) zO.nd rfl (Or.inl rfl) (zZ (za (zf qc3 hr rfl (za (pv 2) (za (pv 5) zc))) (za (zf qc3 hr rfl (za (pv 2) (za (pv 6) zc))) zc)))) (zd (zY (zz jB (pv 0) ze (zA _)) (zg (zo (r6 (yt (yr (yj zJ (pv 10) ze (fun _ _=>rfl)))) zX (yj zJ (zZ (za xG (za zX zc))) (zH yU rfl B.int u7 (za (vf (yj zJ (pv 11) ze (fun _ _=>rfl))) zc)) (fun _ _=>rfl))))) zx) (zd (zY (zz yI (pv 0) ze (zA _)) (zg (zo (yj zJ (zZ (za xG (za zX zc))) (zH yU rfl B.int u7 (za (Xr (vf (zj (yi rfl) rfl B.all uj (za (pv 10) zc))) (xz (xp yI (pv 3) (pv 4) (zA _)))) zc)) (fun _ _=>rfl)))) zx) (zd (zY (zz yI (pv 0) ze (zA _)) (zg (zo (yj zJ (zZ (za xG (za zX zc))) (zH yU rfl B.int u7 (za (Xr (vf (zj (yi rfl) rfl B.all uj (za (pv 11) zc))) (xz (xp yI (pv 5) (pv 6) (zA _)))) zc)) (fun _ _=>rfl)))) zx) (zd (zY (zz yI (pv 0) ze (zA _)) (zg (zo (zf qc2 hr rfl (za (pv 2) (za (pv 7) zc))))) zx) (zd (zY (zz yI (pv 0) ze (zA _)) (zg (zo (yj zJ (zZ (za xG (za zX zc))) (zH yU rfl B.int u7 (za (vf (zf qc1 hr rfl (za (pv 2) (za (pv 8) zc)))) zc)) (fun _ _=>rfl)))) zx) (zg (zo (yj zJ (zZ (za xG (za zX zc))) (zH yU rfl B.int u7 (za (xJ (xp yI (pv 0) ze (zA _)) (xz (vf (zf qc0 hr rfl (za (pv 2) (za (pv 9) zc)))))) zc)) (fun _ _=>rfl)))))))))))))),?_⟩
 obtain ⟨hq,ho,hlen,few⟩:=hD
 obtain ⟨x0,x1,x2,x3,x4,x5,x6,x7,d0,d1,d2,d3,d4,d5,d6,d7,rfl,rfl,o0,o1,o2,o3,o4,o5,o6,o7⟩:=qI ho hlen
 have few5:xT d5:=few
 refine ⟨_,rfl,5,rfl,l,_,rfl,hq,fun p1 hp1=>?_⟩
 have g1:=Grow.new (m:=[]) hp1 (.lst (cutV [x0,x1,x2,x3,x4,x5,x6,x7] none (some 5)))
 refine ⟨p1,[x0,x1,x2,x3,x4],rfl,SqL.of zb,rfl,_,_,rfl,_,_,rfl,_,_,rfl,_,_,rfl,_,_,rfl,rfl,?_⟩
 refine ⟨_,rfl,5,rfl,l,_,rfl,g1.sqL hq,fun p2 hp2=>?_⟩
 refine ⟨p2,[x5,x6,x7],rfl,SqL.of zb,rfl,_,_,rfl,_,_,rfl,_,_,rfl,rfl,?_⟩
 have G:Grow [] H _:=g1.trans (Grow.new (m:=[]) hp2 (.lst (cutV [x0,x1,x2,x3,x4,x5,x6,x7] (some 5) none)))
 generalize upd (upd H p1 _) p2 _ = H2 at G ⊢
 replace o0:=o0.grow (G.wk (m:=m))
 replace o1:=o1.grow (G.wk (m:=m))
 replace o2:=o2.grow (G.wk (m:=m))
 replace o3:=o3.grow (G.wk (m:=m))
 replace o4:=o4.grow (G.wk (m:=m))
 replace o5:=o5.grow (G.wk (m:=m))
 replace o6:=o6.grow (G.wk (m:=m))
 replace o7:=o7.grow (G.wk (m:=m))
 have qn:zk 0 4 d0 = false -> ∀ H',Grow [] H2 H' -> Q (.str "NoNet") H':=fun hw H' g=>by
  have:=q H' (G.trans g)
  change Q (sayV (Zx w d0 d1 d2 d3 d4 d5 d6 d7)) H' at this
  unfold Zx at this
  rw [yF hw] at this
  exact this
 refine c_nx ?_
 refine c_if (fun σ' H'=>σ' = [some (.int w),some (.ref l),some x0,some x1,some x2,some x3,some x4,some x5,some x6,some x7,none,none] /\ H' = H2 /\ zk 0 4 d0 = true) ?_ (fun kk=>?_)
 rotate_left
 ·refine ⟨_,rfl,_,rfl,d0,m,o0,_,rfl,?_⟩
  cases d0 with
  | int i =>
   obtain rfl:=o0.inv_int
   have ew:zk 0 4 (.int i) = (decide (0 <= i) && decide (i <= 4)):=rfl
   refine iteF ⟨_,rfl,_,_,rfl,rfl,_,rfl,?_⟩
   by_cases c1:i < 0
   ·exact yd (decide_eq_true c1) (qn (by rw [ew,decide_eq_false (by omega)]; rfl) _ (Grow.refl _ _))
   ·refine zy (decide_eq_false c1) ⟨_,rfl,_,_,rfl,rfl,_,rfl,?_⟩
    by_cases c2:4 < i
    ·exact yd (decide_eq_true c2) (qn (by rw [ew,decide_eq_false (show ¬ i <= 4 by omega),Bool.and_false]) _ (Grow.refl _ _))
    ·exact zy (decide_eq_false c2) (kk _ _ ⟨rfl,rfl,by rw [ew,decide_eq_true (by omega),decide_eq_true (by omega)]; rfl⟩)
  | _=>exact iteT (qn rfl _ (Grow.refl _ _))
 rintro σ' H3 ⟨rfl,rfl,hw⟩
 change ∀ H',Grow [] H H' -> Q (sayV (Zx w d0 d1 d2 d3 d4 d5 d6 d7)) H' at q
 unfold Zx at q
 rw [yE hw] at q
 clear qn
 obtain ⟨k,rfl,k4⟩:=xi hw
 obtain rfl:=o0.inv_int
 rw [zW] at q
 refine ⟨_,rfl,_,rfl,_,_,rfl,k,d1,m,rfl,k4,o1,_,rfl,_,rfl,_,_,rfl,k,d2,m,rfl,k4,o2,szl rfl,fun l1 hl1=>?_⟩
 have e1:=Grow.new (m:=[]) hl1 (.lst [.bl (zk 0 (((2 ^ k:Nat):Int) - 1) d1),.bl (zk 0 (((2 ^ k:Nat):Int) - 1) d2)])
 refine ⟨_,rfl,_,rfl,_,_,rfl,k,d3,m,rfl,k4,o3.grow (e1.wk (m:=m)),_,rfl,_,rfl,_,_,rfl,k,d4,m,rfl,k4,o4.grow (e1.wk (m:=m)),szl rfl,fun l2 hl2=>?_⟩
 have e2:=Grow.new (m:=[]) hl2 (.lst [.bl (zk 0 (((2 ^ k:Nat):Int) - 1) d3),.bl (zk 0 (((2 ^ k:Nat):Int) - 1) d4)])
 have h1:=e2.keep _ _ (by simp) (zb (H:=H3) (a:=l1) (o:=.lst [.bl (zk 0 (((2 ^ k:Nat):Int) - 1) d1),.bl (zk 0 (((2 ^ k:Nat):Int) - 1) d2)]))
 have h2:=zb (H:=upd H3 l1 (.lst [.bl (zk 0 (((2 ^ k:Nat):Int) - 1) d1),.bl (zk 0 (((2 ^ k:Nat):Int) - 1) d2)])) (a:=l2) (o:=.lst [.bl (zk 0 (((2 ^ k:Nat):Int) - 1) d3),.bl (zk 0 (((2 ^ k:Nat):Int) - 1) d4)])
 have E3:=G.trans (e1.trans e2)
 replace o5:=o5.grow ((e1.trans e2).wk (m:=m))
 replace o6:=o6.grow ((e1.trans e2).wk (m:=m))
 replace o7:=o7.grow ((e1.trans e2).wk (m:=m))
 replace o1:=o1.grow ((e1.trans e2).wk (m:=m))
 replace o2:=o2.grow ((e1.trans e2).wk (m:=m))
 replace o3:=o3.grow ((e1.trans e2).wk (m:=m))
 replace o4:=o4.grow ((e1.trans e2).wk (m:=m))
 clear e1 e2
 generalize upd (upd H3 l1 _) l2 _ = H4 at h1 h2 E3 o1 o2 o3 o4 o5 o6 o7 ⊢
 change H4 l1 = some (HO.lst [.bl (zF k d1),.bl (zF k d2)]) at h1
 change H4 l2 = some (HO.lst [.bl (zF k d3),.bl (zF k d4)]) at h2
 refine XY ?_
 rcases (by omega:w = 0 \/ w = 1 \/ w = 2 \/ w = 3 \/ w = 4 \/ w = 5 \/ w = 6 \/ w = 7) with rfl | rfl | rfl | rfl | rfl | rfl | rfl | rfl
 ·have q':∀ H',Grow [] H H' -> Q (sayV (xo k d1 d3)) H':=q
  unfold xo at q'
  refine ⟨_,rfl,_,_,rfl,rfl,_,rfl,yd (decide_eq_true (by decide)) ⟨_,rfl,l1,_,0,_,rfl,rfl,SqL.of h1,zR (j:=0) rfl,_,rfl,?_⟩⟩
  cases c1:zF k d1 with
  | false =>
   rw [c1] at q'
   exact iteT (q' _ E3)
  | true =>
   rw [c1,if_pos rfl] at q'
   refine iteF ⟨szl rfl,fun ln hln=>⟨_,rfl,l2,_,0,_,rfl,rfl,SqL.of ((Grow.new (m:=[]) hln _).keep _ _ (by simp) h2),zR (j:=0) rfl,_,rfl,.inr ⟨_,rfl,qJ zb ?_⟩⟩⟩
   have:=q' _ (E3.trans (Grow.new hln (.lst [V.non,.str "NoSide"])))
   cases c3:zF k d3 with
   | true=>rw [c3] at this; exact this
   | false=>rw [c3] at this; exact this
 ·have q':∀ H',Grow [] H H' -> Q (sayV (xo k d1 d3)) H':=q
  unfold xo at q'
  refine ⟨_,rfl,_,_,rfl,rfl,_,rfl,yd (decide_eq_true (by decide)) ⟨_,rfl,l1,_,0,_,rfl,rfl,SqL.of h1,zR (j:=0) rfl,_,rfl,?_⟩⟩
  cases c1:zF k d1 with
  | false =>
   rw [c1] at q'
   exact iteT (q' _ E3)
  | true =>
   rw [c1,if_pos rfl] at q'
   refine iteF ⟨szl rfl,fun ln hln=>⟨_,rfl,l2,_,0,_,rfl,rfl,SqL.of ((Grow.new (m:=[]) hln _).keep _ _ (by simp) h2),zR (j:=0) rfl,_,rfl,.inr ⟨_,rfl,qJ zb ?_⟩⟩⟩
   have:=q' _ (E3.trans (Grow.new hln (.lst [V.non,.str "NoSide"])))
   cases c3:zF k d3 with
   | true=>rw [c3] at this; exact this
   | false=>rw [c3] at this; exact this
 ·have q':∀ H',Grow [] H H' -> Q (sayV (wn .hand k d1 d2)) H':=q
  unfold wn at q'
  refine ⟨_,rfl,_,_,rfl,rfl,_,rfl,zy (decide_eq_false (by decide)) ?_⟩
  refine ⟨_,rfl,rfl,_,rfl,yd (decide_eq_true rfl) ⟨szl rfl,fun ln hln=>?_⟩⟩
  have gl:=Grow.new (m:=[]) hln (.lst [V.non,.str "NoHand"])
  have hn:=zb (H:=H4) (a:=ln) (o:=.lst [V.non,.str "NoHand"])
  have hk:=gl.keep _ _ (by simp) h1
  have q2:=q' _ (E3.trans gl)
  generalize upd H4 ln _ = H5 at gl hn hk q2 ⊢
  refine ⟨_,rfl,l1,[zF k d1,zF k d2],rfl,SqL.of hk,_,rfl,_,rfl,?_⟩
  cases ca:zF k d1 with
  | false =>
   rw [ca] at q2
   refine yd rfl (.inr ⟨_,rfl,wA hn q2⟩)
  | true =>
   cases cb:zF k d2 with
   | false =>
    rw [ca,cb] at q2
    refine yd rfl (.inr ⟨_,rfl,wA hn q2⟩)
   | true =>
    rw [ca,cb] at q2
    obtain ⟨a,rfl,ha⟩:=yb ca
    obtain ⟨b,rfl,hb⟩:=yb cb
    obtain rfl:=o1.inv_int
    obtain rfl:=o2.inv_int
    rw [zW,zW] at q2
    refine zy rfl ⟨_,rfl,_,rfl,rfl,.inr ⟨_,rfl,wA hn ?_⟩⟩
    by_cases c:a = b
    ·rw [decide_eq_true c] at q2
     rw [decide_eq_true (congrArg V.int (by omega))]
     exact q2
    ·rw [decide_eq_false c] at q2
     rw [decide_eq_false fun z=>c (by have:=V.int.inj z; omega)]
     exact q2
 ·have q':∀ H',Grow [] H H' -> Q (sayV (wn .side k d3 d4)) H':=q
  unfold wn at q'
  refine ⟨_,rfl,_,_,rfl,rfl,_,rfl,zy (decide_eq_false (by decide)) ?_⟩
  refine ⟨_,rfl,rfl,_,rfl,zy (decide_eq_false fun z=>absurd (V.int.inj z) (by decide)) ?_⟩
  refine ⟨_,rfl,rfl,_,rfl,yd (decide_eq_true rfl) ⟨szl rfl,fun ln hln=>?_⟩⟩
  have gl:=Grow.new (m:=[]) hln (.lst [V.non,.str "NoSide"])
  have hn:=zb (H:=H4) (a:=ln) (o:=.lst [V.non,.str "NoSide"])
  have hk:=gl.keep _ _ (by simp) h2
  have q2:=q' _ (E3.trans gl)
  generalize upd H4 ln _ = H5 at gl hn hk q2 ⊢
  refine ⟨_,rfl,l2,[zF k d3,zF k d4],rfl,SqL.of hk,_,rfl,_,rfl,?_⟩
  cases ca:zF k d3 with
  | false =>
   rw [ca] at q2
   refine yd rfl (.inr ⟨_,rfl,wA hn q2⟩)
  | true =>
   cases cb:zF k d4 with
   | false =>
    rw [ca,cb] at q2
    refine yd rfl (.inr ⟨_,rfl,wA hn q2⟩)
   | true =>
    rw [ca,cb] at q2
    obtain ⟨a,rfl,ha⟩:=yb ca
    obtain ⟨b,rfl,hb⟩:=yb cb
    obtain rfl:=o3.inv_int
    obtain rfl:=o4.inv_int
    rw [zW,zW] at q2
    refine zy rfl ⟨_,rfl,_,rfl,rfl,.inr ⟨_,rfl,wA hn ?_⟩⟩
    by_cases c:a = b
    ·rw [decide_eq_true c] at q2
     rw [decide_eq_true (congrArg V.int (by omega))]
     exact q2
    ·rw [decide_eq_false c] at q2
     rw [decide_eq_false fun z=>c (by have:=V.int.inj z; omega)]
     exact q2
 ·have q':∀ H',Grow [] H H' -> Q (sayV (xS k d5)) H':=q
  refine ⟨_,rfl,_,_,rfl,rfl,_,rfl,zy (decide_eq_false (by decide)) ?_⟩
  refine ⟨_,rfl,rfl,_,rfl,zy (decide_eq_false fun z=>absurd (V.int.inj z) (by decide)) ?_⟩
  refine ⟨_,rfl,rfl,_,rfl,zy (decide_eq_false fun z=>absurd (V.int.inj z) (by decide)) ?_⟩
  exact ⟨_,rfl,rfl,_,rfl,yd (decide_eq_true rfl) ⟨_,rfl,_,rfl,_,_,rfl,k,d5,m,rfl,k4,o5,few5,fun H' g=>q' _ (E3.trans g)⟩⟩
 ·have q':∀ H',Grow [] H H' -> Q (sayV (wd k d6)) H':=q
  unfold wd at q'
  refine ⟨_,rfl,_,_,rfl,rfl,_,rfl,zy (decide_eq_false (by decide)) ?_⟩
  refine ⟨_,rfl,rfl,_,rfl,zy (decide_eq_false fun z=>absurd (V.int.inj z) (by decide)) ?_⟩
  refine ⟨_,rfl,rfl,_,rfl,zy (decide_eq_false fun z=>absurd (V.int.inj z) (by decide)) ?_⟩
  refine ⟨_,rfl,rfl,_,rfl,zy (decide_eq_false fun z=>absurd (V.int.inj z) (by decide)) ?_⟩
  refine ⟨_,rfl,rfl,_,rfl,yd (decide_eq_true rfl) ⟨szl rfl,fun ln hln=>?_⟩⟩
  have gl:=Grow.new (m:=[]) hln (.lst [V.non,.str "NoSide"])
  have hn:=zb (H:=H4) (a:=ln) (o:=.lst [V.non,.str "NoSide"])
  refine ⟨_,rfl,_,rfl,_,_,rfl,k,d6,m,rfl,k4,o6.grow (gl.wk (m:=m)),fun H' g=>⟨_,rfl,.inr ⟨_,rfl,qJ (g.keep _ _ (by simp) hn) ?_⟩⟩⟩
  have:=q' _ (E3.trans (gl.trans g))
  cases c3:xC k d6 with
  | true=>rw [c3] at this; exact this
  | false=>rw [c3] at this; exact this
 ·have q':∀ H',Grow [] H H' -> Q (sayV (wo k d7)) H':=q
  unfold wo at q'
  refine ⟨_,rfl,_,_,rfl,rfl,_,rfl,zy (decide_eq_false (by decide)) ?_⟩
  refine ⟨_,rfl,rfl,_,rfl,zy (decide_eq_false fun z=>absurd (V.int.inj z) (by decide)) ?_⟩
  refine ⟨_,rfl,rfl,_,rfl,zy (decide_eq_false fun z=>absurd (V.int.inj z) (by decide)) ?_⟩
  refine ⟨_,rfl,rfl,_,rfl,zy (decide_eq_false fun z=>absurd (V.int.inj z) (by decide)) ?_⟩
  refine ⟨_,rfl,rfl,_,rfl,zy (decide_eq_false fun z=>absurd (V.int.inj z) (by decide)) ?_⟩
  refine ⟨szl rfl,fun ln hln=>?_⟩
  have gl:=Grow.new (m:=[]) hln (.lst [V.non,.str "NoSettings"])
  have hn:=zb (H:=H4) (a:=ln) (o:=.lst [V.non,.str "NoSettings"])
  refine ⟨_,rfl,rfl,_,rfl,yd (decide_eq_true rfl) ⟨_,rfl,_,rfl,_,_,rfl,k,d7,m,rfl,k4,o7.grow (gl.wk (m:=m)),fun H' g=>⟨_,rfl,.inr ⟨_,rfl,qJ (g.keep _ _ (by simp) hn) ?_⟩⟩⟩⟩
  have:=q' _ (E3.trans (gl.trans g))
  cases c3:setP k d7 with
  | true=>rw [c3] at this; exact this
  | false=>rw [c3] at this; exact this
 ·have q':∀ H',Grow [] H H' -> Q .non H':=q
  refine ⟨_,rfl,_,_,rfl,rfl,_,rfl,zy (decide_eq_false (by decide)) ?_⟩
  refine ⟨_,rfl,rfl,_,rfl,zy (decide_eq_false fun z=>absurd (V.int.inj z) (by decide)) ?_⟩
  refine ⟨_,rfl,rfl,_,rfl,zy (decide_eq_false fun z=>absurd (V.int.inj z) (by decide)) ?_⟩
  refine ⟨_,rfl,rfl,_,rfl,zy (decide_eq_false fun z=>absurd (V.int.inj z) (by decide)) ?_⟩
  refine ⟨_,rfl,rfl,_,rfl,zy (decide_eq_false fun z=>absurd (V.int.inj z) (by decide)) ?_⟩
  refine ⟨szl rfl,fun ln hln=>?_⟩
  have gl:=Grow.new (m:=[]) hln (.lst [V.non,.str "NoSettings"])
  have hn:=zb (H:=H4) (a:=ln) (o:=.lst [V.non,.str "NoSettings"])
  exact ⟨_,rfl,rfl,_,rfl,zy (decide_eq_false fun z=>absurd (V.int.inj z) (by decide)) (.inr ⟨_,rfl,wA (b:=false) hn (q' _ (E3.trans gl))⟩)⟩
theorem yq:FnScope ["_law_cell","_law_turn","_law_found","_law_k","_law_prime","_law_seed"] ["_law_cell","_law_turn"] (zh (top 45)):=⟨rfl,rfl,rfl,by decide +kernel,rfl,by decide +kernel,by decide +kernel⟩
theorem sW (F:Fun K "_law_rich" "_law_rich" (top 45) f fd) (B:Blt mg)  (g_enumerate:mg "enumerate" = none)   :
  FnOk P w K mg base CX0 (n + 1) f fd ["_law_cell","_law_turn"] (qr K):=by
 refine F.ok yq yk (fun cdv A outer s H vs Q E hr h=>?_)
 obtain ⟨x,y,rfl,c0,t0,rfl,rfl,q⟩:=h
 refine ⟨_,(zd (zD (i:=2) yq.nd rfl (Or.inl rfl) ze) (zd (yZ PassesOwn.never rfl (qq true (K:=K) rfl rfl g_enumerate (za (yg (za ze (za ze (za ze (za ze (za ze (za ze zc))))))) zc)) (uD rfl (zt (zn (i:=3) yq.nd rfl (Or.inl rfl)) (zt (zn (i:=4) yq.nd rfl (Or.inl rfl)) yx))) (zd (zD (i:=5) yq.nd rfl (Or.inl rfl) (zv qa (zv vO (zv yH (zv qa (zj ZN rfl B.abs Ws (za (pv 0) zc)) (pv 4)) ze) (zv yH (zv yH (zv vO ze (pv 1)) (zv vO ze (pv 3))) ze)) (pv 4))) (zg (zD (i:=2) yq.nd rfl (Or.inl rfl) (zv yH (zv vO (pv 2) (pv 4)) (zv qa (zv yH (zv yH (zv qb (pv 5) ze) (zv vO ze (pv 5))) (pv 3)) (pv 4))))))) (zg (zo (pv 2))))),?_⟩
 refine ⟨szl rfl,fun a ha=>?_⟩
 have ga:Grow [] H (upd H a (.tup (([2147483647,2147483629,2147483587,2147483579,2147483563,2147483549]:List Int).map V.int))):=Grow.new ha _
 refine ⟨a,([2147483647,2147483629,2147483587,2147483579,2147483563,2147483549]:List Int).map V.int,rfl,SqT.of zb,ZY (xs:=([2147483647,2147483629,2147483587,2147483579,2147483563,2147483549]:List Int).map V.int) (fun i σ H'=>∃ (f:Int) (e3 e4 e5:Option V),σ = [some (.int c0),some (.int t0),some (.int f),e3,e4,e5] /\ 0 <= f /\ Grow [] (upd H a (.tup (([2147483647,2147483629,2147483587,2147483579,2147483563,2147483549]:List Int).map V.int))) H') ⟨1,_,_,_,rfl,by decide,Grow.refl _ _⟩ ?_ ?_ ?_⟩
 ·rintro i σ H' _ ⟨f,e3,e4,e5,_,_,g⟩
  exact g.sqT (SqT.of zb)
 ·rintro i x σ H1 T hx ⟨f,e3,e4,e5,rfl,f0,g⟩ hT
  have hi6:i < 6:=(List.getElem?_eq_some_iff.mp hx).1
  obtain ⟨pr,hpr,rfl⟩:=List.mem_map.mp (List.mem_of_getElem? hx)
  have hp:2147483549 <= pr /\ pr <= 2147483647:=by
   simp only [List.mem_cons,List.mem_nil_iff,or_false] at hpr
   omega
  refine ⟨T,_,rfl,SqT.of zb,rfl,_,_,rfl,_,_,rfl,rfl,?_⟩
  have b0:0 <= (if c0 < 0 then -c0 else c0) % pr:=Int.emod_nonneg _ (by omega)
  have b1:(if c0 < 0 then -c0 else c0) % pr < pr:=Int.emod_lt_of_pos _ (by omega)
  refine ⟨_,rfl,_,rfl,_,rfl,_,_,rfl,rfl,(by show (0:Int) < pr; omega),_,_,rfl,rfl,_,rfl,_,_,rfl,rfl,qm ⟨by decide,by decide⟩,_,rfl,_,_,rfl,rfl,qm ⟨by decide,by decide⟩,_,_,rfl,rfl,_,_,rfl,rfl,_,_,rfl,rfl,qm ⟨by omega,by omega⟩,_,rfl,_,_,rfl,rfl,(by show (0:Int) < pr; omega),?_⟩
  have s0:0 <= (((if c0 < 0 then -c0 else c0) % pr + 1) * (7 * t0 + 1000003 * (i:Int) + 68)) % pr:=Int.emod_nonneg _ (by omega)
  have s1:(((if c0 < 0 then -c0 else c0) % pr + 1) * (7 * t0 + 1000003 * (i:Int) + 68)) % pr < pr:=Int.emod_lt_of_pos _ (by omega)
  refine ⟨_,rfl,_,rfl,_,_,rfl,rfl,XB ⟨by omega,by omega⟩,_,rfl,_,_,rfl,rfl,⟨by decide,by decide,?_⟩,_,rfl,_,_,rfl,rfl,qm ⟨by decide,by decide⟩,_,_,rfl,rfl,_,rfl,_,_,rfl,rfl,_,rfl,_,_,rfl,rfl,(by show (0:Int) < pr; omega),_,_,rfl,rfl,?_⟩
  ·show ((((if c0 < 0 then -c0 else c0) % pr + 1) * (7 * t0 + 1000003 * (i:Int) + 68)) % pr).natAbs < 2 ^ 64
   generalize (((if c0 < 0 then -c0 else c0) % pr + 1) * (7 * t0 + 1000003 * (i:Int) + 68)) % pr = sd at s0 s1
   omega
  refine ⟨_,_,_,_,rfl,?_,g.trans (Grow.new hT _)⟩
  exact Int.add_nonneg (Int.mul_nonneg f0 (by omega)) (Int.emod_nonneg _ (by omega))
 ·rintro σ H1 ⟨f,e3,e4,e5,rfl,f0,g⟩
  exact ⟨_,rfl,q _ _ f0 (ga.trans g)⟩
theorem vj:FnScope ["_law_purse_here","_law_many","_law_digit"] ["_law_purse_here","_law_many"] (zh (top 47)):=⟨rfl,rfl,rfl,by decide +kernel,rfl,by decide +kernel,by decide +kernel⟩
theorem sX (F:Fun K "_law_take" "_law_take" (top 47) f fd) (B:Blt mg) (qc0:zi P w K mg base n "_law_rich" ["_law_cell","_law_turn"] (qr K))    :
  FnOk P w K mg base CX0 (n + 1) f fd ["_law_purse_here","_law_many"] (xt K):=by
 refine F.ok vj yk (fun cdv A outer s H vs Q E hr h=>?_)
 obtain ⟨x,y,rfl,a,m,rfl,rfl,⟨p0,c0,t0,hp,h0⟩,hm,hm2,q⟩:=h
 refine ⟨_,(zd (zY (zz yI (yj zJ (pv 0) ze (fun _ _=>rfl)) ze (zA _)) (zd (wC (zf qc0 hr rfl (za (yj zJ (pv 0) ze (fun _ _=>rfl)) (za (yj zJ (pv 0) ze (fun _ _=>rfl)) zc))) (uE (pv 0) ze xX)) (zg (wC (zv yH (yj zJ (pv 0) ze (fun _ _=>rfl)) ze) (uE (pv 0) ze xX)))) zx) (zd (zD (i:=2) vj.nd rfl (Or.inl rfl) (zv qa (yj zJ (pv 0) ze (fun _ _=>rfl)) (pv 1))) (zd (wC (zv ZU (yj zJ (pv 0) ze (fun _ _=>rfl)) (pv 1)) (uE (pv 0) ze xX)) (zg (zo (pv 2)))))),?_⟩
 refine ⟨_,rfl,a,_,_,_,rfl,rfl,SqL.of hp,rfl,rfl,_,rfl,?_⟩
 by_cases c:p0 = 0
 ·refine yd (decide_eq_true (congrArg V.int c)) ?_
  refine ⟨_,rfl,a,_,_,_,rfl,rfl,SqL.of hp,rfl,_,rfl,a,_,_,_,rfl,rfl,SqL.of hp,rfl,_,_,rfl,c0,t0,rfl,rfl,fun n1 H1 l1 g1=>?_⟩
  have hp1:=g1.keep _ _ (by simp) hp
  refine ⟨_,rfl,a,_,0,0,rfl,rfl,hp1,rfl,?_⟩
  refine ⟨_,rfl,a,_,_,_,rfl,rfl,SqL.of zb,rfl,_,_,rfl,rfl,_,rfl,a,_,2,2,rfl,rfl,zb,rfl,?_⟩
  refine ⟨_,rfl,a,_,_,_,rfl,rfl,SqL.of zb,rfl,_,rfl,n1,m,rfl,rfl,hm,?_⟩
  refine ⟨_,rfl,a,_,_,_,rfl,rfl,SqL.of zb,rfl,_,rfl,n1,m,rfl,rfl,⟨hm,hm2⟩,_,rfl,a,_,0,0,rfl,rfl,zb,rfl,?_⟩
  exact ⟨_,rfl,q _ _ (Int.emod_nonneg _ (by omega)) (Int.emod_lt_of_pos _ hm) ((g1.wk (m:=[a])).trans ((Grow.set hp1 (by simp) _).trans ((Grow.set zb (by simp) _).trans (Grow.set zb (by simp) _)))) ⟨_,_,_,zb,Int.ediv_nonneg l1 (by omega)⟩⟩
 ·refine zy (decide_eq_false fun z=>c (V.int.inj z)) ?_
  refine ⟨_,rfl,a,_,_,_,rfl,rfl,SqL.of hp,rfl,_,rfl,p0,m,rfl,rfl,hm,?_⟩
  refine ⟨_,rfl,a,_,_,_,rfl,rfl,SqL.of hp,rfl,_,rfl,p0,m,rfl,rfl,⟨hm,hm2⟩,_,rfl,a,_,0,0,rfl,rfl,hp,rfl,?_⟩
  exact ⟨_,rfl,q _ _ (Int.emod_nonneg _ (by omega)) (Int.emod_lt_of_pos _ hm) (Grow.set hp (by simp) _) ⟨_,_,_,zb,Int.ediv_nonneg h0 (by omega)⟩⟩
theorem xy:FnScope ["_law_purse_here","_law_many","_law_far","_law_near","_law_some"] ["_law_purse_here","_law_many"] (zh (top 50)):=⟨rfl,rfl,rfl,by decide +kernel,rfl,by decide +kernel,by decide +kernel⟩
theorem rW (F:Fun K "_law_odd" "_law_odd" (top 50) f fd) (B:Blt mg) (qc0:zi P w K mg base n "_law_take" ["_law_purse_here","_law_many"] (xt K))    :
  FnOk P w K mg base CX0 (n + 1) f fd ["_law_purse_here","_law_many"] (tJ K):=by
 refine F.ok xy yk (fun cdv A outer s H vs Q E hr h=>?_)
 obtain ⟨x,y,rfl,p,M,m,rfl,pp,rfl,pm,om,q⟩:=h
 refine ⟨_,(@zd _ _ _ _ _ (@zD _ _ 2 _ _ _ _ xy.nd rfl (Or.inl rfl) (@zv _ _ _ _ _ _ _ _ y0 (@zv _ _ _ _ _ _ _ _ y0 (@zv _ _ _ _ _ _ _ _ qb ze ze) ze) (@zf _ _ _ _ _ _ _ _ _ _ qc0 hr rfl (@za _ _ _ _ _ (pv 0) (@za _ _ _ _ _ (@zv _ _ _ _ _ _ _ _ qb ze ze) zc (by first | rfl | decide | exact Or.inl rfl | exact Or.inr rfl | exact Or.inr (Or.inl rfl) | exact Or.inr (Or.inr rfl) | exact fun _=>rfl | exact Nat.le_of_ble_eq_true rfl)) (by first | rfl | decide | exact Or.inl rfl | exact Or.inr rfl | exact Or.inr (Or.inl rfl) | exact Or.inr (Or.inr rfl) | exact fun _=>rfl | exact Nat.le_of_ble_eq_true rfl)) (by first | rfl | decide | exact Or.inl rfl | exact Or.inr rfl | exact Or.inr (Or.inl rfl) | exact Or.inr (Or.inr rfl) | exact fun _=>rfl | exact Nat.le_of_ble_eq_true rfl) (by first | rfl | decide | exact Or.inl rfl | exact Or.inr rfl | exact Or.inr (Or.inl rfl) | exact Or.inr (Or.inr rfl) | exact fun _=>rfl | exact Nat.le_of_ble_eq_true rfl) (by first | rfl | decide | exact Or.inl rfl | exact Or.inr rfl | exact Or.inr (Or.inl rfl) | exact Or.inr (Or.inr rfl) | exact fun _=>rfl | exact Nat.le_of_ble_eq_true rfl))) (by first | rfl | decide | exact Or.inl rfl | exact Or.inr rfl | exact Or.inr (Or.inl rfl) | exact Or.inr (Or.inr rfl) | exact fun _=>rfl | exact Nat.le_of_ble_eq_true rfl) (by first | rfl | decide | exact Or.inl rfl | exact Or.inr rfl | exact Or.inr (Or.inl rfl) | exact Or.inr (Or.inr rfl) | exact fun _=>rfl | exact Nat.le_of_ble_eq_true rfl)) (@zd _ _ _ _ _ (@zD _ _ 3 _ _ _ _ xy.nd rfl (Or.inl rfl) (@zf _ _ _ _ _ _ _ _ _ _ qc0 hr rfl (@za _ _ _ _ _ (pv 0) (@za _ _ _ _ _ ze zc (by first | rfl | decide | exact Or.inl rfl | exact Or.inr rfl | exact Or.inr (Or.inl rfl) | exact Or.inr (Or.inr rfl) | exact fun _=>rfl | exact Nat.le_of_ble_eq_true rfl)) (by first | rfl | decide | exact Or.inl rfl | exact Or.inr rfl | exact Or.inr (Or.inl rfl) | exact Or.inr (Or.inr rfl) | exact fun _=>rfl | exact Nat.le_of_ble_eq_true rfl)) (by first | rfl | decide | exact Or.inl rfl | exact Or.inr rfl | exact Or.inr (Or.inl rfl) | exact Or.inr (Or.inr rfl) | exact fun _=>rfl | exact Nat.le_of_ble_eq_true rfl) (by first | rfl | decide | exact Or.inl rfl | exact Or.inr rfl | exact Or.inr (Or.inl rfl) | exact Or.inr (Or.inr rfl) | exact fun _=>rfl | exact Nat.le_of_ble_eq_true rfl) (by first | rfl | decide | exact Or.inl rfl | exact Or.inr rfl | exact Or.inr (Or.inl rfl) | exact Or.inr (Or.inr rfl) | exact fun _=>rfl | exact Nat.le_of_ble_eq_true rfl)) (by first | rfl | decide | exact Or.inl rfl | exact Or.inr rfl | exact Or.inr (Or.inl rfl) | exact Or.inr (Or.inr rfl) | exact fun _=>rfl | exact Nat.le_of_ble_eq_true rfl) (by first | rfl | decide | exact Or.inl rfl | exact Or.inr rfl | exact Or.inr (Or.inl rfl) | exact Or.inr (Or.inr rfl) | exact fun _=>rfl | exact Nat.le_of_ble_eq_true rfl)) (@zd _ _ _ _ _ (@zD _ _ 4 _ _ _ _ xy.nd rfl (Or.inl rfl) (@zZ _ _ _ _ (@za _ _ _ _ _ (@zv _ _ _ _ _ _ _ _ y0 (@YM _ _ _ _ _ _ jx ze) (pv 3)) (@za _ _ _ _ _ (pv 1) (@za _ _ _ _ _ (@zv _ _ _ _ _ _ _ _ yH (@zv _ _ _ _ _ _ _ _ yH (pv 1) ze) (pv 3)) (@za _ _ _ _ _ (pv 2) (@za _ _ _ _ _ (@YM _ _ _ _ _ _ jx (pv 2)) (@za _ _ _ _ _ wO (@za _ _ _ _ _ wO (@za _ _ _ _ _ xG (@za _ _ _ _ _ zX (@za _ _ _ _ _ (@sF _ K _ _ _ _ _ (@yL _ _ _ _ _ _ _ wm wy (by first | rfl | decide | exact Or.inl rfl | exact Or.inr rfl | exact Or.inr (Or.inl rfl) | exact Or.inr (Or.inr rfl) | exact fun _=>rfl | exact Nat.le_of_ble_eq_true rfl)) (by first | rfl | decide | exact Or.inl rfl | exact Or.inr rfl | exact Or.inr (Or.inl rfl) | exact Or.inr (Or.inr rfl) | exact fun _=>rfl | exact Nat.le_of_ble_eq_true rfl)) (@za _ _ _ _ _ (@Yz _ K _ _ _ _ (@yL _ _ _ _ _ _ _ wm wy (by first | rfl | decide | exact Or.inl rfl | exact Or.inr rfl | exact Or.inr (Or.inl rfl) | exact Or.inr (Or.inr rfl) | exact fun _=>rfl | exact Nat.le_of_ble_eq_true rfl)) (by first | rfl | decide | exact Or.inl rfl | exact Or.inr rfl | exact Or.inr (Or.inl rfl) | exact Or.inr (Or.inr rfl) | exact fun _=>rfl | exact Nat.le_of_ble_eq_true rfl)) (@za _ _ _ _ _ (Xe (K:=K)) (@za _ _ _ _ _ (@sF _ K _ _ _ _ _ wy (by first | rfl | decide | exact Or.inl rfl | exact Or.inr rfl | exact Or.inr (Or.inl rfl) | exact Or.inr (Or.inr rfl) | exact fun _=>rfl | exact Nat.le_of_ble_eq_true rfl)) zc (by first | rfl | decide | exact Or.inl rfl | exact Or.inr rfl | exact Or.inr (Or.inl rfl) | exact Or.inr (Or.inr rfl) | exact fun _=>rfl | exact Nat.le_of_ble_eq_true rfl)) sE) sK) (by first | rfl | decide | exact Or.inl rfl | exact Or.inr rfl | exact Or.inr (Or.inl rfl) | exact Or.inr (Or.inr rfl) | exact fun _=>rfl | exact Nat.le_of_ble_eq_true rfl)) (by first | rfl | decide | exact Or.inl rfl | exact Or.inr rfl | exact Or.inr (Or.inl rfl) | exact Or.inr (Or.inr rfl) | exact fun _=>rfl | exact Nat.le_of_ble_eq_true rfl)) (by first | rfl | decide | exact Or.inl rfl | exact Or.inr rfl | exact Or.inr (Or.inl rfl) | exact Or.inr (Or.inr rfl) | exact fun _=>rfl | exact Nat.le_of_ble_eq_true rfl)) (by first | rfl | decide | exact Or.inl rfl | exact Or.inr rfl | exact Or.inr (Or.inl rfl) | exact Or.inr (Or.inr rfl) | exact fun _=>rfl | exact Nat.le_of_ble_eq_true rfl)) (by first | rfl | decide | exact Or.inl rfl | exact Or.inr rfl | exact Or.inr (Or.inl rfl) | exact Or.inr (Or.inr rfl) | exact fun _=>rfl | exact Nat.le_of_ble_eq_true rfl)) (by first | rfl | decide | exact Or.inl rfl | exact Or.inr rfl | exact Or.inr (Or.inl rfl) | exact Or.inr (Or.inr rfl) | exact fun _=>rfl | exact Nat.le_of_ble_eq_true rfl)) (by first | rfl | decide | exact Or.inl rfl | exact Or.inr rfl | exact Or.inr (Or.inl rfl) | exact Or.inr (Or.inr rfl) | exact fun _=>rfl | exact Nat.le_of_ble_eq_true rfl)) (by first | rfl | decide | exact Or.inl rfl | exact Or.inr rfl | exact Or.inr (Or.inl rfl) | exact Or.inr (Or.inr rfl) | exact fun _=>rfl | exact Nat.le_of_ble_eq_true rfl)) (by first | rfl | decide | exact Or.inl rfl | exact Or.inr rfl | exact Or.inr (Or.inl rfl) | exact Or.inr (Or.inr rfl) | exact fun _=>rfl | exact Nat.le_of_ble_eq_true rfl)) (by first | rfl | decide | exact Or.inl rfl | exact Or.inr rfl | exact Or.inr (Or.inl rfl) | exact Or.inr (Or.inr rfl) | exact fun _=>rfl | exact Nat.le_of_ble_eq_true rfl))) (by first | rfl | decide | exact Or.inl rfl | exact Or.inr rfl | exact Or.inr (Or.inl rfl) | exact Or.inr (Or.inr rfl) | exact fun _=>rfl | exact Nat.le_of_ble_eq_true rfl) (by first | rfl | decide | exact Or.inl rfl | exact Or.inr rfl | exact Or.inr (Or.inl rfl) | exact Or.inr (Or.inr rfl) | exact fun _=>rfl | exact Nat.le_of_ble_eq_true rfl)) (@zg _ _ _ (@zo _ _ _ _ (@yj _ _ _ _ _ _ _ zJ (pv 4) (@zf _ _ _ _ _ _ _ _ _ _ qc0 hr rfl (@za _ _ _ _ _ (pv 0) (@za _ _ _ _ _ (@zj _ _ _ _ _ _ _ _ _ zC rfl B.len wu (@za _ _ _ _ _ (pv 4) zc (by first | rfl | decide | exact Or.inl rfl | exact Or.inr rfl | exact Or.inr (Or.inl rfl) | exact Or.inr (Or.inr rfl) | exact fun _=>rfl | exact Nat.le_of_ble_eq_true rfl)) (by first | rfl | decide | exact Or.inl rfl | exact Or.inr rfl | exact Or.inr (Or.inl rfl) | exact Or.inr (Or.inr rfl) | exact fun _=>rfl | exact Nat.le_of_ble_eq_true rfl) (by first | rfl | decide | exact Or.inl rfl | exact Or.inr rfl | exact Or.inr (Or.inl rfl) | exact Or.inr (Or.inr rfl) | exact fun _=>rfl | exact Nat.le_of_ble_eq_true rfl) (by first | rfl | decide | exact Or.inl rfl | exact Or.inr rfl | exact Or.inr (Or.inl rfl) | exact Or.inr (Or.inr rfl) | exact fun _=>rfl | exact Nat.le_of_ble_eq_true rfl) (by first | rfl | decide | exact Or.inl rfl | exact Or.inr rfl | exact Or.inr (Or.inl rfl) | exact Or.inr (Or.inr rfl) | exact fun _=>rfl | exact Nat.le_of_ble_eq_true rfl)) zc (by first | rfl | decide | exact Or.inl rfl | exact Or.inr rfl | exact Or.inr (Or.inl rfl) | exact Or.inr (Or.inr rfl) | exact fun _=>rfl | exact Nat.le_of_ble_eq_true rfl)) (by first | rfl | decide | exact Or.inl rfl | exact Or.inr rfl | exact Or.inr (Or.inl rfl) | exact Or.inr (Or.inr rfl) | exact fun _=>rfl | exact Nat.le_of_ble_eq_true rfl)) (by first | rfl | decide | exact Or.inl rfl | exact Or.inr rfl | exact Or.inr (Or.inl rfl) | exact Or.inr (Or.inr rfl) | exact fun _=>rfl | exact Nat.le_of_ble_eq_true rfl) (by first | rfl | decide | exact Or.inl rfl | exact Or.inr rfl | exact Or.inr (Or.inl rfl) | exact Or.inr (Or.inr rfl) | exact fun _=>rfl | exact Nat.le_of_ble_eq_true rfl) (by first | rfl | decide | exact Or.inl rfl | exact Or.inr rfl | exact Or.inr (Or.inl rfl) | exact Or.inr (Or.inr rfl) | exact fun _=>rfl | exact Nat.le_of_ble_eq_true rfl)) (fun _ _=>rfl))))))),?_⟩
 have pm':∀ b ∈ [p],b ∈ m:=fun b hb=>by rw [List.mem_singleton.mp hb]; exact pm
 refine wx (fun v H'=>∃ f:Int,v = .int f /\ Grow [p] H H' /\ zB H' p) (fun Kk hk=>?_) ?_
 ·exact ⟨_,_,rfl,rfl,⟨by decide,by decide,by decide⟩,_,_,rfl,rfl,_,rfl,_,_,rfl,rfl,⟨by decide,by decide,by decide⟩,_,_,rfl,p,_,rfl,rfl,pp,by decide,by decide,fun n H' n0 n1 g pp'=>⟨_,_,rfl,rfl,hk _ _ ⟨_,rfl,g,pp'⟩⟩⟩
 rintro _ H1 ⟨f,rfl,g1,pp1⟩
 refine wx (fun v H'=>∃ f:Int,v = .int f /\ Grow [p] H1 H' /\ zB H' p) (fun Kk hk=>⟨_,rfl,_,_,rfl,p,99,rfl,rfl,pp1,by decide,by decide,fun n H' n0 n1 g pp'=>hk _ _ ⟨n,rfl,g,pp'⟩⟩) ?_
 rintro _ H2 ⟨f2,rfl,g2,pp2⟩
 have om2:=occF g2 pp2 (occF g1 pp1 om)
 have G2:Grow [p] H H2:=g1.trans g2
 refine wx (fun v H'=>∃ l xs ds,v = .ref l /\ H' l = some (.lst xs) /\ l ∉ [p] /\ xs.length = 13 /\ Ods K m H' xs ds /\ Grow [] H2 H') (fun Kk hk=>⟨_,rfl,_,rfl,_,_,rfl,rfl,_,rfl,_,rfl,_,_,rfl,rfl,_,rfl,_,_,rfl,rfl,_,rfl,_,rfl,_,rfl,m,trivial,om2,fun x1 Ha ga oa=>⟨m,trivial,zN ga om2,fun x2 Hb gb ob=>⟨m,trivial,zN (ga.trans gb) om2,fun x3 Hc gc oc=>⟨m,trivial,zN (ga.trans (gb.trans gc)) om2,fun x4 Hd gd od=>⟨szl rfl,fun l hl=>?_⟩⟩⟩⟩⟩) ?_
 ·have g4:=ga.trans (gb.trans (gc.trans gd))
  have gl:=Grow.new (m:=[]) hl (.lst [V.int (-1 - f2),.int M,.int (M + 1 + f2),.int f,.int (-f),.bl true,.bl false,.non,.str "0",x1,x2,x3,x4])
  have os:Ods K m _ [V.int (-1 - f2),.int M,.int (M + 1 + f2),.int f,.int (-f),.bl true,.bl false,.non,.str "0",x1,x2,x3,x4] [.int (-1 - f2),.int M,.int (M + 1 + f2),.int f,.int (-f),.bool true,.bool false,.none,.str "0",.tuple [.int 0],.list [.int 0],.dict [],.tuple []]:=(Ods.cons (.int _) (.cons (.int _) (.cons (.int _) (.cons (.int _) (.cons (.int _) (.cons (.bl _) (.cons (.bl _) (.cons .non (.cons (.str _) (.cons (oa.grow (gb.trans (gc.trans gd)).wk) (.cons (ob.grow (gc.trans gd).wk) (.cons (oc.grow gd.wk) (.cons od .nil))))))))))))).grow (gl.wk (m:=m))
  exact hk _ _ ⟨l,_,_,rfl,zb,(pp2.grow g4).ne hl,rfl,os,g4.trans gl⟩
 rintro _ H3 ⟨l,xs,ds,rfl,hl,nl,x13,os,g3⟩
 have pp3:=pp2.grow g3
 refine ⟨_,rfl,_,rfl,_,rfl,l,_,rfl,.inl (SqL.of hl),_,_,rfl,p,_,rfl,rfl,pp3,by rw [x13]; decide,by rw [x13]; decide,fun n H' n0 n1 g pp'=>?_⟩
 obtain ⟨j,rfl⟩:∃ j:Nat,n = j:=⟨n.toNat,by omega⟩
 obtain ⟨x,hx⟩:∃ x,xs[j]? = some x:=⟨_,List.getElem?_eq_getElem (by omega)⟩
 obtain ⟨d,_,o⟩:=os.get hx
 exact ⟨l,_,j,x,rfl,rfl,SqL.of (g.keep _ _ nl hl),zR hx,q _ d _ (G2.trans (g3.wk.trans g)) pp' (o.grow (g.mono pm'))⟩
theorem rX:FnScope ["_law_row","_law_at","_law_thing"] ["_law_row","_law_at","_law_thing"] (zh (top 53)):=⟨rfl,rfl,rfl,by decide +kernel,rfl,by decide +kernel,by decide +kernel⟩
theorem rY (F:Fun K "_law_put" "_law_put" (top 53) f fd) (B:Blt mg)     :
  FnOk P w K mg base CX0 (n + 1) f fd ["_law_row","_law_at","_law_thing"] (Zu K):=by
 refine F.ok rX xq (fun cdv A outer s H vs Q E hr h=>?_)
 obtain ⟨x,y,z,rfl,a,xs,i,rfl,hs,rfl,hi,hl,q⟩:=h
 refine ⟨_,(zg (zo (zv (vY (K:=K) rfl) (zv (vY (K:=K) rfl) (y6 (rA (K:=K) rfl) (pv 0) xM (xO (pv 1))) (yg (za (pv 2) zc))) (y6 (rA (K:=K) rfl) (pv 0) (xO (zv yH (pv 1) ze)) xM)))),?_⟩
 refine ⟨_,rfl,_,rfl,i,rfl,a,xs,rfl,hs,fun p1 H1 g1 h1=>⟨_,rfl,szl rfl,fun t ht=>?_⟩⟩
 rw [X3 (by omega)] at h1
 have gt:=Grow.new (m:=[]) ht (.tup [z])
 refine ⟨p1,t,_,_,rfl,rfl,gt.sqT h1,SqT.of zb,Nat.le_of_lt (zm (by rw [List.length_take]; show min i xs.length + 1 <= 1000; omega)),fun p2 H2 g2 h2=>?_⟩
 refine ⟨_,rfl,_,rfl,_,_,rfl,rfl,((i + 1:Nat):Int),congrArg V.int (by omega),a,xs,rfl,(g1.trans (gt.trans g2)).sqT hs,fun p3 H3 g3 h3=>?_⟩
 rw [X4 (by omega)] at h3
 exact ⟨p2,p3,_,_,rfl,rfl,g3.sqT h2,h3,Nat.le_of_lt (zm (by rw [List.length_append,List.length_take,List.length_drop]; show min i xs.length + 1 + _ <= 1000; omega)),fun p4 H4 g4 h4=>q _ _ (g1.trans (gt.trans (g2.trans (g3.trans g4)))) h4⟩
theorem yY:FnScope ["_law_purse_here","_law_row","_law_thing","_law_turn","_law_alike"] ["_law_purse_here","_law_row","_law_thing"] (zh (top 54)):=⟨rfl,rfl,rfl,by decide +kernel,rfl,by decide +kernel,by decide +kernel⟩
theorem ui (F:Fun K "_law_bad_row" "_law_bad_row" (top 54) f fd) (B:Blt mg) (qc0:zi P w K mg base n "_law_take" ["_law_purse_here","_law_many"] (xt K)) (qc1:zi P w K mg base n "_law_put" ["_law_row","_law_at","_law_thing"] (Zu K))    :
  FnOk P w K mg base CX0 (n + 1) f fd ["_law_purse_here","_law_row","_law_thing"] (tK K):=by
 refine F.ok yY xq (fun cdv A outer s H vs Q E hr h=>?_)
 obtain ⟨x,y,z,rfl,p,a,xs,ds,d,m,rfl,pp,rfl,hs,os,x16,od,pm,om,q⟩:=h
 refine ⟨_,(@zd _ _ _ _ _ (@zD _ _ 3 _ _ _ _ yY.nd rfl (Or.inl rfl) (@zf _ _ _ _ _ _ _ _ _ _ qc0 hr rfl (@za _ _ _ _ _ (pv 0) (@za _ _ _ _ _ ze zc (by first | rfl | decide | exact Or.inl rfl | exact Or.inr rfl | exact Or.inr (Or.inl rfl) | exact Or.inr (Or.inr rfl) | exact fun _=>rfl | exact Nat.le_of_ble_eq_true rfl)) (by first | rfl | decide | exact Or.inl rfl | exact Or.inr rfl | exact Or.inr (Or.inl rfl) | exact Or.inr (Or.inr rfl) | exact fun _=>rfl | exact Nat.le_of_ble_eq_true rfl)) (by first | rfl | decide | exact Or.inl rfl | exact Or.inr rfl | exact Or.inr (Or.inl rfl) | exact Or.inr (Or.inr rfl) | exact fun _=>rfl | exact Nat.le_of_ble_eq_true rfl) (by first | rfl | decide | exact Or.inl rfl | exact Or.inr rfl | exact Or.inr (Or.inl rfl) | exact Or.inr (Or.inr rfl) | exact fun _=>rfl | exact Nat.le_of_ble_eq_true rfl) (by first | rfl | decide | exact Or.inl rfl | exact Or.inr rfl | exact Or.inr (Or.inl rfl) | exact Or.inr (Or.inr rfl) | exact fun _=>rfl | exact Nat.le_of_ble_eq_true rfl)) (by first | rfl | decide | exact Or.inl rfl | exact Or.inr rfl | exact Or.inr (Or.inl rfl) | exact Or.inr (Or.inr rfl) | exact fun _=>rfl | exact Nat.le_of_ble_eq_true rfl) (by first | rfl | decide | exact Or.inl rfl | exact Or.inr rfl | exact Or.inr (Or.inl rfl) | exact Or.inr (Or.inr rfl) | exact fun _=>rfl | exact Nat.le_of_ble_eq_true rfl)) (@zd _ _ _ _ _ (@zY _ _ _ _ _ _ _ _ (@PW.pt _ _ _ (@Xq _ _ _ _ _ _ _ (@zz _ _ _ _ _ _ _ _ jB (pv 3) ze (zA _)) (@YK _ _ _ _ (@zz _ _ _ _ _ _ _ _ (rK (K:=K) rfl hr) (pv 1) (@yg _ _ _ _ _ zc) (zA _))))) (@zg _ _ _ (@zo _ _ _ _ (@zf _ _ _ _ _ _ _ _ _ _ qc1 hr rfl (@za _ _ _ _ _ (pv 1) (@za _ _ _ _ _ (@zf _ _ _ _ _ _ _ _ _ _ qc0 hr rfl (@za _ _ _ _ _ (pv 0) (@za _ _ _ _ _ (@zj _ _ _ _ _ _ _ _ _ zC rfl B.len wu (@za _ _ _ _ _ (pv 1) zc (by first | rfl | decide | exact Or.inl rfl | exact Or.inr rfl | exact Or.inr (Or.inl rfl) | exact Or.inr (Or.inr rfl) | exact fun _=>rfl | exact Nat.le_of_ble_eq_true rfl)) (by first | rfl | decide | exact Or.inl rfl | exact Or.inr rfl | exact Or.inr (Or.inl rfl) | exact Or.inr (Or.inr rfl) | exact fun _=>rfl | exact Nat.le_of_ble_eq_true rfl) (by first | rfl | decide | exact Or.inl rfl | exact Or.inr rfl | exact Or.inr (Or.inl rfl) | exact Or.inr (Or.inr rfl) | exact fun _=>rfl | exact Nat.le_of_ble_eq_true rfl) (by first | rfl | decide | exact Or.inl rfl | exact Or.inr rfl | exact Or.inr (Or.inl rfl) | exact Or.inr (Or.inr rfl) | exact fun _=>rfl | exact Nat.le_of_ble_eq_true rfl) (by first | rfl | decide | exact Or.inl rfl | exact Or.inr rfl | exact Or.inr (Or.inl rfl) | exact Or.inr (Or.inr rfl) | exact fun _=>rfl | exact Nat.le_of_ble_eq_true rfl)) zc (by first | rfl | decide | exact Or.inl rfl | exact Or.inr rfl | exact Or.inr (Or.inl rfl) | exact Or.inr (Or.inr rfl) | exact fun _=>rfl | exact Nat.le_of_ble_eq_true rfl)) (by first | rfl | decide | exact Or.inl rfl | exact Or.inr rfl | exact Or.inr (Or.inl rfl) | exact Or.inr (Or.inr rfl) | exact fun _=>rfl | exact Nat.le_of_ble_eq_true rfl)) (by first | rfl | decide | exact Or.inl rfl | exact Or.inr rfl | exact Or.inr (Or.inl rfl) | exact Or.inr (Or.inr rfl) | exact fun _=>rfl | exact Nat.le_of_ble_eq_true rfl) (by first | rfl | decide | exact Or.inl rfl | exact Or.inr rfl | exact Or.inr (Or.inl rfl) | exact Or.inr (Or.inr rfl) | exact fun _=>rfl | exact Nat.le_of_ble_eq_true rfl) (by first | rfl | decide | exact Or.inl rfl | exact Or.inr rfl | exact Or.inr (Or.inl rfl) | exact Or.inr (Or.inr rfl) | exact fun _=>rfl | exact Nat.le_of_ble_eq_true rfl)) (@za _ _ _ _ _ (pv 2) zc (by first | rfl | decide | exact Or.inl rfl | exact Or.inr rfl | exact Or.inr (Or.inl rfl) | exact Or.inr (Or.inr rfl) | exact fun _=>rfl | exact Nat.le_of_ble_eq_true rfl)) (by first | rfl | decide | exact Or.inl rfl | exact Or.inr rfl | exact Or.inr (Or.inl rfl) | exact Or.inr (Or.inr rfl) | exact fun _=>rfl | exact Nat.le_of_ble_eq_true rfl)) (by first | rfl | decide | exact Or.inl rfl | exact Or.inr rfl | exact Or.inr (Or.inl rfl) | exact Or.inr (Or.inr rfl) | exact fun _=>rfl | exact Nat.le_of_ble_eq_true rfl)) (by first | rfl | decide | exact Or.inl rfl | exact Or.inr rfl | exact Or.inr (Or.inl rfl) | exact Or.inr (Or.inr rfl) | exact fun _=>rfl | exact Nat.le_of_ble_eq_true rfl) (by first | rfl | decide | exact Or.inl rfl | exact Or.inr rfl | exact Or.inr (Or.inl rfl) | exact Or.inr (Or.inr rfl) | exact fun _=>rfl | exact Nat.le_of_ble_eq_true rfl) (by first | rfl | decide | exact Or.inl rfl | exact Or.inr rfl | exact Or.inr (Or.inl rfl) | exact Or.inr (Or.inr rfl) | exact fun _=>rfl | exact Nat.le_of_ble_eq_true rfl)))) zx) (@zd _ _ _ _ _ (@zD _ _ 4 _ _ _ _ yY.nd rfl (Or.inl rfl) (@zH _ _ _ _ _ _ _ _ _ (ji hr) rfl B.dict XA (@za _ _ _ _ _ (@jL _ _ _ _ _ _ _ _ _ _ _ _ _ _ (CSc.of (N':=["_law_place"]) (sub:=[none]) (zh (top 54)) ["_law_purse_here","_law_row","_law_thing","_law_turn","_law_alike"] rfl rfl (by decide +kernel) rfl) rfl (@yh _ _ _ _ _ _ rfl B.range (@za _ _ _ _ _ (@zj _ _ _ _ _ _ _ _ _ zC rfl B.len wu (@za _ _ _ _ _ (pv 1) zc (by first | rfl | decide | exact Or.inl rfl | exact Or.inr rfl | exact Or.inr (Or.inl rfl) | exact Or.inr (Or.inr rfl) | exact fun _=>rfl | exact Nat.le_of_ble_eq_true rfl)) (by first | rfl | decide | exact Or.inl rfl | exact Or.inr rfl | exact Or.inr (Or.inl rfl) | exact Or.inr (Or.inr rfl) | exact fun _=>rfl | exact Nat.le_of_ble_eq_true rfl) (by first | rfl | decide | exact Or.inl rfl | exact Or.inr rfl | exact Or.inr (Or.inl rfl) | exact Or.inr (Or.inr rfl) | exact fun _=>rfl | exact Nat.le_of_ble_eq_true rfl) (by first | rfl | decide | exact Or.inl rfl | exact Or.inr rfl | exact Or.inr (Or.inl rfl) | exact Or.inr (Or.inr rfl) | exact fun _=>rfl | exact Nat.le_of_ble_eq_true rfl) (by first | rfl | decide | exact Or.inl rfl | exact Or.inr rfl | exact Or.inr (Or.inl rfl) | exact Or.inr (Or.inr rfl) | exact fun _=>rfl | exact Nat.le_of_ble_eq_true rfl)) zc (by first | rfl | decide | exact Or.inl rfl | exact Or.inr rfl | exact Or.inr (Or.inl rfl) | exact Or.inr (Or.inr rfl) | exact fun _=>rfl | exact Nat.le_of_ble_eq_true rfl)) (by first | rfl | decide | exact Or.inl rfl | exact Or.inr rfl | exact Or.inr (Or.inl rfl) | exact Or.inr (Or.inr rfl) | exact fun _=>rfl | exact Nat.le_of_ble_eq_true rfl)) (fun _ _ _ _ _ _=>zn (i:=0) (show (["_law_place"]:List Str).Nodup by decide +kernel) rfl (Or.inl rfl)) (fun _ _ _ _ _ _=>zP) (fun _ _ _ _ _ _=>(@yg _ _ _ _ _ (@za _ _ _ _ _ (pv 0) (@za _ _ _ _ _ ze zc (by first | rfl | decide | exact Or.inl rfl | exact Or.inr rfl | exact Or.inr (Or.inl rfl) | exact Or.inr (Or.inr rfl) | exact fun _=>rfl | exact Nat.le_of_ble_eq_true rfl)) (by first | rfl | decide | exact Or.inl rfl | exact Or.inr rfl | exact Or.inr (Or.inl rfl) | exact Or.inr (Or.inr rfl) | exact fun _=>rfl | exact Nat.le_of_ble_eq_true rfl)))) (by first | rfl | decide | exact Or.inl rfl | exact Or.inr rfl | exact Or.inr (Or.inl rfl) | exact Or.inr (Or.inr rfl) | exact fun _=>rfl | exact Nat.le_of_ble_eq_true rfl)) zc (by first | rfl | decide | exact Or.inl rfl | exact Or.inr rfl | exact Or.inr (Or.inl rfl) | exact Or.inr (Or.inr rfl) | exact fun _=>rfl | exact Nat.le_of_ble_eq_true rfl)) (by first | rfl | decide | exact Or.inl rfl | exact Or.inr rfl | exact Or.inr (Or.inl rfl) | exact Or.inr (Or.inr rfl) | exact fun _=>rfl | exact Nat.le_of_ble_eq_true rfl) (by first | rfl | decide | exact Or.inl rfl | exact Or.inr rfl | exact Or.inr (Or.inl rfl) | exact Or.inr (Or.inr rfl) | exact fun _=>rfl | exact Nat.le_of_ble_eq_true rfl) (by first | rfl | decide | exact Or.inl rfl | exact Or.inr rfl | exact Or.inr (Or.inl rfl) | exact Or.inr (Or.inr rfl) | exact fun _=>rfl | exact Nat.le_of_ble_eq_true rfl) (by first | rfl | decide | exact Or.inl rfl | exact Or.inr rfl | exact Or.inr (Or.inl rfl) | exact Or.inr (Or.inr rfl) | exact fun _=>rfl | exact Nat.le_of_ble_eq_true rfl)) (by first | rfl | decide | exact Or.inl rfl | exact Or.inr rfl | exact Or.inr (Or.inl rfl) | exact Or.inr (Or.inr rfl) | exact fun _=>rfl | exact Nat.le_of_ble_eq_true rfl) (by first | rfl | decide | exact Or.inl rfl | exact Or.inr rfl | exact Or.inr (Or.inl rfl) | exact Or.inr (Or.inr rfl) | exact fun _=>rfl | exact Nat.le_of_ble_eq_true rfl)) (@zg _ _ _ (@zo _ _ _ _ (@yj _ _ _ _ _ _ _ zJ (@zZ _ _ _ _ (@za _ _ _ _ _ (@zv _ _ _ _ _ _ _ _ (vY (K:=K) rfl) (pv 1) (@yg _ _ _ _ _ (@za _ _ _ _ _ (pv 2) zc (by first | rfl | decide | exact Or.inl rfl | exact Or.inr rfl | exact Or.inr (Or.inl rfl) | exact Or.inr (Or.inr rfl) | exact fun _=>rfl | exact Nat.le_of_ble_eq_true rfl)))) (@za _ _ _ _ _ (@y6 _ _ _ _ _ _ _ _ _ _ (rA (K:=K) rfl) (pv 1) (@xO _ _ _ ze) xM) (@za _ _ _ _ _ (@zH _ _ _ _ _ _ _ _ _ (jg (K:=K) rfl) rfl B.list Yq (@za _ _ _ _ _ (pv 1) zc (by first | rfl | decide | exact Or.inl rfl | exact Or.inr rfl | exact Or.inr (Or.inl rfl) | exact Or.inr (Or.inr rfl) | exact fun _=>rfl | exact Nat.le_of_ble_eq_true rfl)) (by first | rfl | decide | exact Or.inl rfl | exact Or.inr rfl | exact Or.inr (Or.inl rfl) | exact Or.inr (Or.inr rfl) | exact fun _=>rfl | exact Nat.le_of_ble_eq_true rfl) (by first | rfl | decide | exact Or.inl rfl | exact Or.inr rfl | exact Or.inr (Or.inl rfl) | exact Or.inr (Or.inr rfl) | exact fun _=>rfl | exact Nat.le_of_ble_eq_true rfl) (by first | rfl | decide | exact Or.inl rfl | exact Or.inr rfl | exact Or.inr (Or.inl rfl) | exact Or.inr (Or.inr rfl) | exact fun _=>rfl | exact Nat.le_of_ble_eq_true rfl) (by first | rfl | decide | exact Or.inl rfl | exact Or.inr rfl | exact Or.inr (Or.inl rfl) | exact Or.inr (Or.inr rfl) | exact fun _=>rfl | exact Nat.le_of_ble_eq_true rfl)) (@za _ _ _ _ _ xG (@za _ _ _ _ _ (@zv _ _ _ _ _ _ _ _ (vY (K:=K) rfl) (pv 1) (pv 1)) (@za _ _ _ _ _ (@zv _ _ _ _ _ _ _ _ Xg zX (@zj _ _ _ _ _ _ _ _ _ zC rfl B.len wu (@za _ _ _ _ _ (pv 1) zc (by first | rfl | decide | exact Or.inl rfl | exact Or.inr rfl | exact Or.inr (Or.inl rfl) | exact Or.inr (Or.inr rfl) | exact fun _=>rfl | exact Nat.le_of_ble_eq_true rfl)) (by first | rfl | decide | exact Or.inl rfl | exact Or.inr rfl | exact Or.inr (Or.inl rfl) | exact Or.inr (Or.inr rfl) | exact fun _=>rfl | exact Nat.le_of_ble_eq_true rfl) (by first | rfl | decide | exact Or.inl rfl | exact Or.inr rfl | exact Or.inr (Or.inl rfl) | exact Or.inr (Or.inr rfl) | exact fun _=>rfl | exact Nat.le_of_ble_eq_true rfl) (by first | rfl | decide | exact Or.inl rfl | exact Or.inr rfl | exact Or.inr (Or.inl rfl) | exact Or.inr (Or.inr rfl) | exact fun _=>rfl | exact Nat.le_of_ble_eq_true rfl) (by first | rfl | decide | exact Or.inl rfl | exact Or.inr rfl | exact Or.inr (Or.inl rfl) | exact Or.inr (Or.inr rfl) | exact fun _=>rfl | exact Nat.le_of_ble_eq_true rfl))) (@za _ _ _ _ _ (pv 4) zc (by first | rfl | decide | exact Or.inl rfl | exact Or.inr rfl | exact Or.inr (Or.inl rfl) | exact Or.inr (Or.inr rfl) | exact fun _=>rfl | exact Nat.le_of_ble_eq_true rfl)) (by first | rfl | decide | exact Or.inl rfl | exact Or.inr rfl | exact Or.inr (Or.inl rfl) | exact Or.inr (Or.inr rfl) | exact fun _=>rfl | exact Nat.le_of_ble_eq_true rfl)) (by first | rfl | decide | exact Or.inl rfl | exact Or.inr rfl | exact Or.inr (Or.inl rfl) | exact Or.inr (Or.inr rfl) | exact fun _=>rfl | exact Nat.le_of_ble_eq_true rfl)) (by first | rfl | decide | exact Or.inl rfl | exact Or.inr rfl | exact Or.inr (Or.inl rfl) | exact Or.inr (Or.inr rfl) | exact fun _=>rfl | exact Nat.le_of_ble_eq_true rfl)) (by first | rfl | decide | exact Or.inl rfl | exact Or.inr rfl | exact Or.inr (Or.inl rfl) | exact Or.inr (Or.inr rfl) | exact fun _=>rfl | exact Nat.le_of_ble_eq_true rfl)) (by first | rfl | decide | exact Or.inl rfl | exact Or.inr rfl | exact Or.inr (Or.inl rfl) | exact Or.inr (Or.inr rfl) | exact fun _=>rfl | exact Nat.le_of_ble_eq_true rfl)) (by first | rfl | decide | exact Or.inl rfl | exact Or.inr rfl | exact Or.inr (Or.inl rfl) | exact Or.inr (Or.inr rfl) | exact fun _=>rfl | exact Nat.le_of_ble_eq_true rfl))) (@zf _ _ _ _ _ _ _ _ _ _ qc0 hr rfl (@za _ _ _ _ _ (pv 0) (@za _ _ _ _ _ ze zc (by first | rfl | decide | exact Or.inl rfl | exact Or.inr rfl | exact Or.inr (Or.inl rfl) | exact Or.inr (Or.inr rfl) | exact fun _=>rfl | exact Nat.le_of_ble_eq_true rfl)) (by first | rfl | decide | exact Or.inl rfl | exact Or.inr rfl | exact Or.inr (Or.inl rfl) | exact Or.inr (Or.inr rfl) | exact fun _=>rfl | exact Nat.le_of_ble_eq_true rfl)) (by first | rfl | decide | exact Or.inl rfl | exact Or.inr rfl | exact Or.inr (Or.inl rfl) | exact Or.inr (Or.inr rfl) | exact fun _=>rfl | exact Nat.le_of_ble_eq_true rfl) (by first | rfl | decide | exact Or.inl rfl | exact Or.inr rfl | exact Or.inr (Or.inl rfl) | exact Or.inr (Or.inr rfl) | exact fun _=>rfl | exact Nat.le_of_ble_eq_true rfl) (by first | rfl | decide | exact Or.inl rfl | exact Or.inr rfl | exact Or.inr (Or.inl rfl) | exact Or.inr (Or.inr rfl) | exact fun _=>rfl | exact Nat.le_of_ble_eq_true rfl)) (fun _ _=>rfl))))))),?_⟩
 have pm':∀ b ∈ [p],b ∈ m:=fun b hb=>by rw [List.mem_singleton.mp hb]; exact pm
 have b200:(1000:Int) < 2 ^ 200:=by decide
 have hl:=os.length
 refine wx (fun v H'=>∃ t:Nat,v = .int t /\ t < 6 /\ Grow [p] H H' /\ zB H' p) (fun Kk hk=>⟨_,rfl,_,_,rfl,p,6,rfl,rfl,pp,by decide,by decide,fun n H' n0 n1 g pp'=>hk _ _ ⟨n.toNat,congrArg V.int (by omega),by omega,g,pp'⟩⟩) ?_
 rintro _ H1 ⟨t,rfl,t6,g1,pp1⟩
 have om1:=occF g1 pp1 om
 have hs1:=g1.sqT hs
 have os1:=os.grow (g1.mono pm')
 have od1:=od.grow (g1.mono pm')
 refine c_if (fun σ' H'=>∃ e4,σ' = [some (.ref p),some (.ref a),some z,some (.int t),e4] /\ Grow [] H1 H') ?_ (fun kk=>?_)
 ·rintro σ' H2 ⟨e4,rfl,g2⟩
  have pp2:=pp1.grow g2
  have om2:=zN g2 om1
  have hs2:=g2.sqT hs1
  have os2:=os1.grow (g2.wk (m:=m))
  have od2:=od1.grow (g2.wk (m:=m))
  refine wx (fun v H'=>∃ d,Od K m H' v d /\ xT d /\ Grow [] H2 H') (fun Kk hk=>⟨_,rfl,a,_,rfl,.inr hs2,_,rfl,by omega,by omega,xZ (fun j zs H'=>PrsI H' zs (List.replicate j (.int 0)) /\ Grow [] H2 H') ⟨⟨rfl,fun i v h=>by cases h⟩,Grow.refl _ _⟩ ?_ ?_⟩) ?_
  ·rintro j zs H' hj ⟨⟨z1,z2⟩,g⟩
   rw [List.length_replicate] at z1
   refine ⟨_,rfl,szl rfl,fun tt htt=>⟨zm (by omega),⟨by rw [List.length_append,List.length_replicate,z1]; rfl,fun i' v hv=>?_⟩,g.trans (Grow.new htt _)⟩⟩
   have gt:=Grow.new (m:=[]) htt (.tup [V.int (0 + (j:Int)),.int 0])
   have hi':i' < j + 1:=by have:=(List.getElem?_eq_some_iff.mp hv).1; rwa [List.length_replicate] at this
   by_cases e:i' < j
   ·have hv':(List.replicate j (V.int 0))[i']? = some v:=by
     rw [List.getElem?_replicate,if_pos hi'] at hv
     rw [List.getElem?_replicate,if_pos e]; exact hv
    obtain ⟨T,h1,h2⟩:=z2 i' v hv'
    exact ⟨T,by rw [List.getElem?_append_left (by omega)]; exact h1,gt.keep _ _ (by simp) h2⟩
   ·obtain rfl:i' = j:=by omega
    rw [List.getElem?_replicate,if_pos hi'] at hv
    obtain rfl:=Option.some.inj hv
    exact ⟨tt,by rw [List.getElem?_append_right (by omega),z1,Nat.sub_self]; rfl,by rw [zb,Int.zero_add]⟩
  ·rintro zs H' ⟨hz,g⟩ l hl'
   have gl:=Grow.new (m:=[]) hl' (.lst zs)
   refine ⟨l,zs,_,rfl,zb,⟨hz.1,fun i' v hv=>let ⟨T,h1,h2⟩:=hz.2 i' v hv; ⟨T,h1,gl.keep _ _ (by simp) h2⟩⟩,fun l2 hl2 nb=>?_⟩
   have omz:=zN (g.trans gl) om2
   have gd:=Grow.new (m:=[]) hl2 (DcO l2 (kvI 0 (List.replicate ((xs.length:Int)).toNat (.int 0))))
   exact hk _ _ ⟨_,Yj zb (fun z=>omz l2 z hl2) nb YD,nofun,g.trans (gl.trans gd)⟩
  rintro xa H3 ⟨da,oa,fa,g3⟩
  have hs3:=g3.sqT hs2
  have os3:=os2.grow (g3.wk (m:=m))
  have od3:=od2.grow (g3.wk (m:=m))
  have om3:=zN g3 om2
  have pp3:=pp2.grow g3
  refine ⟨_,rfl,_,rfl,szl rfl,fun t1 ht1=>?_⟩
  have gt1:=Grow.new (m:=[]) ht1 (.tup [z])
  refine ⟨a,t1,_,_,rfl,rfl,gt1.sqT hs3,SqT.of zb,Nat.le_of_lt (zm (by show xs.length + 1 <= 1000; omega)),fun p1 Ha ga ha=>?_⟩
  have gA:=gt1.trans ga
  refine ⟨_,rfl,1,rfl,a,xs,rfl,gA.sqT hs3,fun p2 Hb gb hb=>?_⟩
  rw [show (1:Int) = ((1:Nat):Int) from rfl,Y6] at hb
  have gB:=gA.trans gb
  refine ⟨_,rfl,a,_,rfl,.inr (gB.sqT hs3),fun l1 hl1 nb1=>?_⟩
  have gl1:=Grow.new (m:=[]) hl1 (.lst xs)
  have gC:=gB.trans gl1
  have oL:Od K m (upd Hb l1 (.lst xs)) (.ref l1) (.list ds):=.lst zb (fun z=>zN gB om3 l1 z hl1) nb1 (os3.grow (gC.wk (m:=m)))
  refine ⟨_,rfl,_,rfl,a,a,_,_,rfl,rfl,gC.sqT hs3,gC.sqT hs3,Nat.le_of_lt (zm (by omega)),fun p3 Hd gd hd=>?_⟩
  have gD:=gC.trans gd
  refine ⟨_,rfl,a,_,rfl,.inr (gD.sqT hs3),_,xs.length,rfl,rfl,rfl,by omega,fun z'=>⟨_,rfl,szl rfl,fun l2 hl2=>?_⟩⟩
  have gl2:=Grow.new (m:=[]) hl2 (.lst [.ref p1,.ref p2,.ref l1,.non,.ref p3,.str z',xa])
  have gE:=gD.trans gl2
  have gw:∀ {h:Hp},Grow [] h Hd -> Grow m h (upd Hd l2 (.lst [.ref p1,.ref p2,.ref l1,.non,.ref p3,.str z',xa])):=fun g=>(g.trans gl2).wk
  have o1:Od K m Ha (.ref p1) (.tuple (ds ++ [d])):=.tup ha ((os3.grow (gA.wk (m:=m))).append (.cons (od3.grow (gA.wk (m:=m))) .nil))
  have o2:Od K m Hb (.ref p2) (.tuple (ds.drop 1)):=.tup hb ((os3.grow (gB.wk (m:=m))).drop 1)
  have o3:Od K m Hd (.ref p3) (.tuple (ds ++ ds)):=.tup hd ((os3.grow (gD.wk (m:=m))).append (os3.grow (gD.wk (m:=m))))
  have ol:Ods K m (upd Hd l2 (.lst [.ref p1,.ref p2,.ref l1,.non,.ref p3,.str z',xa])) [.ref p1,.ref p2,.ref l1,.non,.ref p3,.str z',xa] [.tuple (ds ++ [d]),.tuple (ds.drop 1),.list ds,.none,.tuple (ds ++ ds),.str z',da]:=.cons (o1.grow (gw (gb.trans (gl1.trans gd)))) (.cons (o2.grow (gw (gl1.trans gd))) (.cons (oL.grow (gw gd)) (.cons .non (.cons (o3.grow (gw (Grow.refl _ _))) (.cons (.str z') (.cons (oa.grow (gE.wk (m:=m))) .nil))))))
  have fw:∀ e ∈ [.tuple (ds ++ [d]),.tuple (ds.drop 1),.list ds,.none,.tuple (ds ++ ds),.str z',da],xT e:=by
   intro e he
   simp only [List.mem_cons,List.not_mem_nil,or_false] at he
   rcases he with rfl | rfl | rfl | rfl | rfl | rfl | rfl
   ·exact xV (by rw [List.length_append]; show ds.length + 1 <= 40; omega)
   ·exact xV (by rw [List.length_drop]; omega)
   ·exact ZC
   ·exact nofun
   ·exact xV (by rw [List.length_append]; omega)
   ·exact nofun
   ·exact fa
  have n2:=(pp3.grow gD).ne hl2
  have h2:upd Hd l2 (.lst [.ref p1,.ref p2,.ref l1,.non,.ref p3,.str z',xa]) l2 = some (.lst [.ref p1,.ref p2,.ref l1,.non,.ref p3,.str z',xa]):=zb
  have ppE:=pp3.grow gE
  generalize upd Hd l2 _ = He at gE ol h2 ppE
  refine ⟨_,rfl,_,_,rfl,p,7,rfl,rfl,ppE,by decide,by decide,fun n H' n0 n1 g pp'=>?_⟩
  obtain ⟨j,rfl⟩:∃ j:Nat,n = j:=⟨n.toNat,by omega⟩
  obtain ⟨x,hx⟩:∃ x,([.ref p1,.ref p2,.ref l1,.non,.ref p3,.str z',xa]:List V)[j]? = some x:=⟨_,List.getElem?_eq_getElem (by show j < 7; omega)⟩
  obtain ⟨e,he,o⟩:=ol.get hx
  exact ⟨l2,_,j,x,rfl,rfl,SqL.of (g.keep _ _ n2 h2),zR hx,q _ e _ (fw e (List.mem_of_getElem? he)) (g1.trans ((g2.trans (g3.trans gE)).wk.trans g)) pp' (o.grow (g.mono pm'))⟩
 ·refine ⟨_,rfl,_,_,rfl,rfl,_,rfl,?_⟩
  by_cases t2:(t:Int) < 2
  ·refine yd (decide_eq_true t2) ⟨_,rfl,szl rfl,fun t0 ht0=>?_⟩
   have g0:=Grow.new (m:=[]) ht0 (.tup [])
   refine ⟨a,t0,xs,rfl,rfl,g0.sqT hs1,SqT.of zb,_,rfl,?_⟩
   have pp0:=pp1.grow g0
   generalize upd H1 t0 _ = H2 at g0 pp0 ⊢
   cases hx:xs with
   | nil=>exact iteF (kk _ _ ⟨_,rfl,g0⟩)
   | cons x0 xs0 =>
    rw [← hx]
    have x1:1 <= xs.length:=by rw [hx,List.length_cons]; omega
    refine yd (by rw [hx]; rfl) ⟨_,rfl,_,rfl,_,rfl,a,_,rfl,.inr (g0.sqT hs1),_,_,rfl,p,_,rfl,rfl,pp0,by omega,by omega,fun n H' n0 n1 g pp'=>⟨_,rfl,_,_,_,rfl,a,xs,n.toNat,rfl,g.sqT (g0.sqT hs1),congrArg V.int (by omega),by omega,by omega,fun p' H'' g' h'=>?_⟩⟩
    have gg:Grow m H1 H'':=(g0.wk (m:=m)).trans ((g.mono pm').trans g'.wk)
    refine q _ _ _ ?_ (g1.trans (g0.wk.trans (g.trans g'.wk))) (pp'.grow g') (.tup h' ((((os1.grow gg).take n.toNat).append (.cons (od1.grow gg) .nil)).append ((os1.grow gg).drop (n.toNat + 1))))
    exact xV (by rw [List.length_append,List.length_append,List.length_take,List.length_drop]; show min n.toNat ds.length + 1 + _ <= 40; omega)
  ·exact zy (decide_eq_false t2) (kk _ _ ⟨_,rfl,Grow.refl _ _⟩)
theorem uB:FnScope ["_law_purse_here","_law_good","_law_many"] ["_law_purse_here","_law_good","_law_many"] (zh (top 51)):=⟨rfl,rfl,rfl,by decide +kernel,rfl,by decide +kernel,by decide +kernel⟩
theorem uC (F:Fun K "_law_or_odd" "_law_or_odd" (top 51) f fd) (B:Blt mg) (qc0:zi P w K mg base n "_law_take" ["_law_purse_here","_law_many"] (xt K)) (qc1:zi P w K mg base n "_law_odd" ["_law_purse_here","_law_many"] (tJ K))    :
  FnOk P w K mg base CX0 (n + 1) f fd ["_law_purse_here","_law_good","_law_many"] (wZ K):=by
 refine F.ok uB xq (fun cdv A outer s H vs Q E hr h=>?_)
 obtain ⟨x,y,z,rfl,p,M,d,m,rfl,pp,od,rfl,pm,om,q⟩:=h
 refine ⟨_,(zd (zY (zz yI (zf qc0 hr rfl (za (pv 0) (za ze zc))) ze (zA _)) (zg (zo (zf qc1 hr rfl (za (pv 0) (za (pv 2) zc))))) zx) (zg (zo (pv 1)))),?_⟩
 refine ⟨_,rfl,_,_,rfl,p,4,rfl,rfl,pp,by decide,by decide,fun n H1 n0 n1 g1 pp1=>⟨rfl,_,rfl,?_⟩⟩
 have pm':∀ b ∈ [p],b ∈ m:=fun b hb=>by rw [List.mem_singleton.mp hb]; exact pm
 refine ite2 (fun c=>?_) (fun c=>?_)
 ·exact ⟨_,rfl,_,rfl,_,_,rfl,p,M,m,rfl,pp1,rfl,pm,occF g1 pp1 om,fun v d H' g pp' o=>q v d H' (g1.trans g) pp' o⟩
 ·exact ⟨_,rfl,q _ d _ g1 pp1 (od.grow (g1.mono pm'))⟩
theorem zL:FnScope ["_law_purse_here","_law_k","_law_many","_law_turn","_law_row","_law_place","_law_hand","_law_goal","_law_pair"] ["_law_purse_here","_law_k"] (zh (top 55)):=⟨rfl,rfl,rfl,by decide +kernel,rfl,by decide +kernel,by decide +kernel⟩
theorem tP (F:Fun K "_law_pairs" "_law_pairs" (top 55) f fd) (B:Blt mg) (qc0:zi P w K mg base n "_law_bad_row" ["_law_purse_here","_law_row","_law_thing"] (tK K)) (qc1:zi P w K mg base n "_law_take" ["_law_purse_here","_law_many"] (xt K)) (qc2:zi P w K mg base n "_law_or_odd" ["_law_purse_here","_law_good","_law_many"] (wZ K))    :
  FnOk P w K mg base CX0 (n + 1) f fd ["_law_purse_here","_law_k"] (uV K):=by
 refine F.ok zL yk (fun cdv A outer s H vs Q E hr h=>?_)
 obtain ⟨x,y,rfl,p,k,m,rfl,pp,rfl,k4,pm,om,q⟩:=h
 refine ⟨_,(@zd _ _ _ _ _ (@zD _ _ 2 _ _ _ _ zL.nd rfl (Or.inl rfl) (@zv _ _ _ _ _ _ _ _ y4 ze (pv 1)) (by first | rfl | decide | exact Or.inl rfl | exact Or.inr rfl | exact Or.inr (Or.inl rfl) | exact Or.inr (Or.inr rfl) | exact fun _=>rfl | exact Nat.le_of_ble_eq_true rfl) (by first | rfl | decide | exact Or.inl rfl | exact Or.inr rfl | exact Or.inr (Or.inl rfl) | exact Or.inr (Or.inr rfl) | exact fun _=>rfl | exact Nat.le_of_ble_eq_true rfl)) (@zd _ _ _ _ _ (@zD _ _ 3 _ _ _ _ zL.nd rfl (Or.inl rfl) (@zf _ _ _ _ _ _ _ _ _ _ qc1 hr rfl (@za _ _ _ _ _ (pv 0) (@za _ _ _ _ _ ze zc (by first | rfl | decide | exact Or.inl rfl | exact Or.inr rfl | exact Or.inr (Or.inl rfl) | exact Or.inr (Or.inr rfl) | exact fun _=>rfl | exact Nat.le_of_ble_eq_true rfl)) (by first | rfl | decide | exact Or.inl rfl | exact Or.inr rfl | exact Or.inr (Or.inl rfl) | exact Or.inr (Or.inr rfl) | exact fun _=>rfl | exact Nat.le_of_ble_eq_true rfl)) (by first | rfl | decide | exact Or.inl rfl | exact Or.inr rfl | exact Or.inr (Or.inl rfl) | exact Or.inr (Or.inr rfl) | exact fun _=>rfl | exact Nat.le_of_ble_eq_true rfl) (by first | rfl | decide | exact Or.inl rfl | exact Or.inr rfl | exact Or.inr (Or.inl rfl) | exact Or.inr (Or.inr rfl) | exact fun _=>rfl | exact Nat.le_of_ble_eq_true rfl) (by first | rfl | decide | exact Or.inl rfl | exact Or.inr rfl | exact Or.inr (Or.inl rfl) | exact Or.inr (Or.inr rfl) | exact fun _=>rfl | exact Nat.le_of_ble_eq_true rfl)) (by first | rfl | decide | exact Or.inl rfl | exact Or.inr rfl | exact Or.inr (Or.inl rfl) | exact Or.inr (Or.inr rfl) | exact fun _=>rfl | exact Nat.le_of_ble_eq_true rfl) (by first | rfl | decide | exact Or.inl rfl | exact Or.inr rfl | exact Or.inr (Or.inl rfl) | exact Or.inr (Or.inr rfl) | exact fun _=>rfl | exact Nat.le_of_ble_eq_true rfl)) (@zd _ _ _ _ _ (@zD _ _ 4 _ _ _ _ zL.nd rfl (Or.inl rfl) (@yg _ _ _ _ _ zc) (by first | rfl | decide | exact Or.inl rfl | exact Or.inr rfl | exact Or.inr (Or.inl rfl) | exact Or.inr (Or.inr rfl) | exact fun _=>rfl | exact Nat.le_of_ble_eq_true rfl) (by first | rfl | decide | exact Or.inl rfl | exact Or.inr rfl | exact Or.inr (Or.inl rfl) | exact Or.inr (Or.inr rfl) | exact fun _=>rfl | exact Nat.le_of_ble_eq_true rfl)) (@zd _ _ _ _ _ (@yZ _ _ _ _ _ _ _ _ PassesOwn.never rfl (@yh _ _ _ _ _ _ rfl B.range (@za _ _ _ _ _ (@zf _ _ _ _ _ _ _ _ _ _ qc1 hr rfl (@za _ _ _ _ _ (pv 0) (@za _ _ _ _ _ ze zc (by first | rfl | decide | exact Or.inl rfl | exact Or.inr rfl | exact Or.inr (Or.inl rfl) | exact Or.inr (Or.inr rfl) | exact fun _=>rfl | exact Nat.le_of_ble_eq_true rfl)) (by first | rfl | decide | exact Or.inl rfl | exact Or.inr rfl | exact Or.inr (Or.inl rfl) | exact Or.inr (Or.inr rfl) | exact fun _=>rfl | exact Nat.le_of_ble_eq_true rfl)) (by first | rfl | decide | exact Or.inl rfl | exact Or.inr rfl | exact Or.inr (Or.inl rfl) | exact Or.inr (Or.inr rfl) | exact fun _=>rfl | exact Nat.le_of_ble_eq_true rfl) (by first | rfl | decide | exact Or.inl rfl | exact Or.inr rfl | exact Or.inr (Or.inl rfl) | exact Or.inr (Or.inr rfl) | exact fun _=>rfl | exact Nat.le_of_ble_eq_true rfl) (by first | rfl | decide | exact Or.inl rfl | exact Or.inr rfl | exact Or.inr (Or.inl rfl) | exact Or.inr (Or.inr rfl) | exact fun _=>rfl | exact Nat.le_of_ble_eq_true rfl)) zc (by first | rfl | decide | exact Or.inl rfl | exact Or.inr rfl | exact Or.inr (Or.inl rfl) | exact Or.inr (Or.inr rfl) | exact fun _=>rfl | exact Nat.le_of_ble_eq_true rfl)) (by first | rfl | decide | exact Or.inl rfl | exact Or.inr rfl | exact Or.inr (Or.inl rfl) | exact Or.inr (Or.inr rfl) | exact fun _=>rfl | exact Nat.le_of_ble_eq_true rfl)) (zn (i:=5) zL.nd rfl (Or.inl rfl)) (@zd _ _ _ _ _ (@Yl _ _ 6 7 _ _ _ _ _ _ _ _ _ _ _ rfl zL.nd rfl rfl (by decide) rfl rfl (@za _ _ _ _ _ (@zf _ _ _ _ _ _ _ _ _ _ qc1 hr rfl (@za _ _ _ _ _ (pv 0) (@za _ _ _ _ _ (pv 2) zc (by first | rfl | decide | exact Or.inl rfl | exact Or.inr rfl | exact Or.inr (Or.inl rfl) | exact Or.inr (Or.inr rfl) | exact fun _=>rfl | exact Nat.le_of_ble_eq_true rfl)) (by first | rfl | decide | exact Or.inl rfl | exact Or.inr rfl | exact Or.inr (Or.inl rfl) | exact Or.inr (Or.inr rfl) | exact fun _=>rfl | exact Nat.le_of_ble_eq_true rfl)) (by first | rfl | decide | exact Or.inl rfl | exact Or.inr rfl | exact Or.inr (Or.inl rfl) | exact Or.inr (Or.inr rfl) | exact fun _=>rfl | exact Nat.le_of_ble_eq_true rfl) (by first | rfl | decide | exact Or.inl rfl | exact Or.inr rfl | exact Or.inr (Or.inl rfl) | exact Or.inr (Or.inr rfl) | exact fun _=>rfl | exact Nat.le_of_ble_eq_true rfl) (by first | rfl | decide | exact Or.inl rfl | exact Or.inr rfl | exact Or.inr (Or.inl rfl) | exact Or.inr (Or.inr rfl) | exact fun _=>rfl | exact Nat.le_of_ble_eq_true rfl)) (@za _ _ _ _ _ (@zf _ _ _ _ _ _ _ _ _ _ qc1 hr rfl (@za _ _ _ _ _ (pv 0) (@za _ _ _ _ _ (pv 2) zc (by first | rfl | decide | exact Or.inl rfl | exact Or.inr rfl | exact Or.inr (Or.inl rfl) | exact Or.inr (Or.inr rfl) | exact fun _=>rfl | exact Nat.le_of_ble_eq_true rfl)) (by first | rfl | decide | exact Or.inl rfl | exact Or.inr rfl | exact Or.inr (Or.inl rfl) | exact Or.inr (Or.inr rfl) | exact fun _=>rfl | exact Nat.le_of_ble_eq_true rfl)) (by first | rfl | decide | exact Or.inl rfl | exact Or.inr rfl | exact Or.inr (Or.inl rfl) | exact Or.inr (Or.inr rfl) | exact fun _=>rfl | exact Nat.le_of_ble_eq_true rfl) (by first | rfl | decide | exact Or.inl rfl | exact Or.inr rfl | exact Or.inr (Or.inl rfl) | exact Or.inr (Or.inr rfl) | exact fun _=>rfl | exact Nat.le_of_ble_eq_true rfl) (by first | rfl | decide | exact Or.inl rfl | exact Or.inr rfl | exact Or.inr (Or.inl rfl) | exact Or.inr (Or.inr rfl) | exact fun _=>rfl | exact Nat.le_of_ble_eq_true rfl)) zc (by first | rfl | decide | exact Or.inl rfl | exact Or.inr rfl | exact Or.inr (Or.inl rfl) | exact Or.inr (Or.inr rfl) | exact fun _=>rfl | exact Nat.le_of_ble_eq_true rfl)) (by first | rfl | decide | exact Or.inl rfl | exact Or.inr rfl | exact Or.inr (Or.inl rfl) | exact Or.inr (Or.inr rfl) | exact fun _=>rfl | exact Nat.le_of_ble_eq_true rfl)) rfl (by first | rfl | decide | exact Or.inl rfl | exact Or.inr rfl | exact Or.inr (Or.inl rfl) | exact Or.inr (Or.inr rfl) | exact fun _=>rfl | exact Nat.le_of_ble_eq_true rfl)) (@zd _ _ _ _ _ (@zY _ _ _ _ _ _ _ _ (@zz _ _ _ _ _ _ _ _ yI (pv 3) ze (zA _)) (@zg _ _ _ (@Yl _ _ 6 7 _ _ _ _ _ _ _ _ _ _ _ rfl zL.nd rfl rfl (by decide) rfl rfl (@za _ _ _ _ _ (@zf _ _ _ _ _ _ _ _ _ _ qc2 hr rfl (@za _ _ _ _ _ (pv 0) (@za _ _ _ _ _ (pv 6) (@za _ _ _ _ _ (pv 2) zc (by first | rfl | decide | exact Or.inl rfl | exact Or.inr rfl | exact Or.inr (Or.inl rfl) | exact Or.inr (Or.inr rfl) | exact fun _=>rfl | exact Nat.le_of_ble_eq_true rfl)) (by first | rfl | decide | exact Or.inl rfl | exact Or.inr rfl | exact Or.inr (Or.inl rfl) | exact Or.inr (Or.inr rfl) | exact fun _=>rfl | exact Nat.le_of_ble_eq_true rfl)) (by first | rfl | decide | exact Or.inl rfl | exact Or.inr rfl | exact Or.inr (Or.inl rfl) | exact Or.inr (Or.inr rfl) | exact fun _=>rfl | exact Nat.le_of_ble_eq_true rfl)) (by first | rfl | decide | exact Or.inl rfl | exact Or.inr rfl | exact Or.inr (Or.inl rfl) | exact Or.inr (Or.inr rfl) | exact fun _=>rfl | exact Nat.le_of_ble_eq_true rfl) (by first | rfl | decide | exact Or.inl rfl | exact Or.inr rfl | exact Or.inr (Or.inl rfl) | exact Or.inr (Or.inr rfl) | exact fun _=>rfl | exact Nat.le_of_ble_eq_true rfl) (by first | rfl | decide | exact Or.inl rfl | exact Or.inr rfl | exact Or.inr (Or.inl rfl) | exact Or.inr (Or.inr rfl) | exact fun _=>rfl | exact Nat.le_of_ble_eq_true rfl)) (@za _ _ _ _ _ (@zf _ _ _ _ _ _ _ _ _ _ qc2 hr rfl (@za _ _ _ _ _ (pv 0) (@za _ _ _ _ _ (pv 7) (@za _ _ _ _ _ (pv 2) zc (by first | rfl | decide | exact Or.inl rfl | exact Or.inr rfl | exact Or.inr (Or.inl rfl) | exact Or.inr (Or.inr rfl) | exact fun _=>rfl | exact Nat.le_of_ble_eq_true rfl)) (by first | rfl | decide | exact Or.inl rfl | exact Or.inr rfl | exact Or.inr (Or.inl rfl) | exact Or.inr (Or.inr rfl) | exact fun _=>rfl | exact Nat.le_of_ble_eq_true rfl)) (by first | rfl | decide | exact Or.inl rfl | exact Or.inr rfl | exact Or.inr (Or.inl rfl) | exact Or.inr (Or.inr rfl) | exact fun _=>rfl | exact Nat.le_of_ble_eq_true rfl)) (by first | rfl | decide | exact Or.inl rfl | exact Or.inr rfl | exact Or.inr (Or.inl rfl) | exact Or.inr (Or.inr rfl) | exact fun _=>rfl | exact Nat.le_of_ble_eq_true rfl) (by first | rfl | decide | exact Or.inl rfl | exact Or.inr rfl | exact Or.inr (Or.inl rfl) | exact Or.inr (Or.inr rfl) | exact fun _=>rfl | exact Nat.le_of_ble_eq_true rfl) (by first | rfl | decide | exact Or.inl rfl | exact Or.inr rfl | exact Or.inr (Or.inl rfl) | exact Or.inr (Or.inr rfl) | exact fun _=>rfl | exact Nat.le_of_ble_eq_true rfl)) zc (by first | rfl | decide | exact Or.inl rfl | exact Or.inr rfl | exact Or.inr (Or.inl rfl) | exact Or.inr (Or.inr rfl) | exact fun _=>rfl | exact Nat.le_of_ble_eq_true rfl)) (by first | rfl | decide | exact Or.inl rfl | exact Or.inr rfl | exact Or.inr (Or.inl rfl) | exact Or.inr (Or.inr rfl) | exact fun _=>rfl | exact Nat.le_of_ble_eq_true rfl)) rfl (by first | rfl | decide | exact Or.inl rfl | exact Or.inr rfl | exact Or.inr (Or.inl rfl) | exact Or.inr (Or.inr rfl) | exact fun _=>rfl | exact Nat.le_of_ble_eq_true rfl))) zx) (@zg _ _ _ (@zD _ _ 4 _ _ _ _ zL.nd rfl (Or.inl rfl) (@zv _ _ _ _ _ _ _ _ (vY (K:=K) rfl) (pv 4) (@yg _ _ _ _ _ (@za _ _ _ _ _ (@yg _ _ _ _ _ (@za _ _ _ _ _ (pv 6) (@za _ _ _ _ _ (pv 7) zc (by first | rfl | decide | exact Or.inl rfl | exact Or.inr rfl | exact Or.inr (Or.inl rfl) | exact Or.inr (Or.inr rfl) | exact fun _=>rfl | exact Nat.le_of_ble_eq_true rfl)) (by first | rfl | decide | exact Or.inl rfl | exact Or.inr rfl | exact Or.inr (Or.inl rfl) | exact Or.inr (Or.inr rfl) | exact fun _=>rfl | exact Nat.le_of_ble_eq_true rfl))) zc (by first | rfl | decide | exact Or.inl rfl | exact Or.inr rfl | exact Or.inr (Or.inl rfl) | exact Or.inr (Or.inr rfl) | exact fun _=>rfl | exact Nat.le_of_ble_eq_true rfl)))) (by first | rfl | decide | exact Or.inl rfl | exact Or.inr rfl | exact Or.inr (Or.inl rfl) | exact Or.inr (Or.inr rfl) | exact fun _=>rfl | exact Nat.le_of_ble_eq_true rfl) (by first | rfl | decide | exact Or.inl rfl | exact Or.inr rfl | exact Or.inr (Or.inl rfl) | exact Or.inr (Or.inr rfl) | exact fun _=>rfl | exact Nat.le_of_ble_eq_true rfl))))) (by first | rfl | decide | exact Or.inl rfl | exact Or.inr rfl | exact Or.inr (Or.inl rfl) | exact Or.inr (Or.inr rfl) | exact fun _=>rfl | exact Nat.le_of_ble_eq_true rfl)) (@zd _ _ _ _ _ (@zY _ _ _ _ _ _ _ _ (@zz _ _ _ _ _ _ _ _ YN (pv 3) ze (zA _)) (@zg _ _ _ (@zo _ _ _ _ (pv 4))) zx) (@zd _ _ _ _ _ (@zD _ _ 8 _ _ _ _ zL.nd rfl (Or.inl rfl) (@yg _ _ _ _ _ (@za _ _ _ _ _ (@zf _ _ _ _ _ _ _ _ _ _ qc2 hr rfl (@za _ _ _ _ _ (pv 0) (@za _ _ _ _ _ ze (@za _ _ _ _ _ (pv 2) zc (by first | rfl | decide | exact Or.inl rfl | exact Or.inr rfl | exact Or.inr (Or.inl rfl) | exact Or.inr (Or.inr rfl) | exact fun _=>rfl | exact Nat.le_of_ble_eq_true rfl)) (by first | rfl | decide | exact Or.inl rfl | exact Or.inr rfl | exact Or.inr (Or.inl rfl) | exact Or.inr (Or.inr rfl) | exact fun _=>rfl | exact Nat.le_of_ble_eq_true rfl)) (by first | rfl | decide | exact Or.inl rfl | exact Or.inr rfl | exact Or.inr (Or.inl rfl) | exact Or.inr (Or.inr rfl) | exact fun _=>rfl | exact Nat.le_of_ble_eq_true rfl)) (by first | rfl | decide | exact Or.inl rfl | exact Or.inr rfl | exact Or.inr (Or.inl rfl) | exact Or.inr (Or.inr rfl) | exact fun _=>rfl | exact Nat.le_of_ble_eq_true rfl) (by first | rfl | decide | exact Or.inl rfl | exact Or.inr rfl | exact Or.inr (Or.inl rfl) | exact Or.inr (Or.inr rfl) | exact fun _=>rfl | exact Nat.le_of_ble_eq_true rfl) (by first | rfl | decide | exact Or.inl rfl | exact Or.inr rfl | exact Or.inr (Or.inl rfl) | exact Or.inr (Or.inr rfl) | exact fun _=>rfl | exact Nat.le_of_ble_eq_true rfl)) (@za _ _ _ _ _ (@zf _ _ _ _ _ _ _ _ _ _ qc2 hr rfl (@za _ _ _ _ _ (pv 0) (@za _ _ _ _ _ ze (@za _ _ _ _ _ (pv 2) zc (by first | rfl | decide | exact Or.inl rfl | exact Or.inr rfl | exact Or.inr (Or.inl rfl) | exact Or.inr (Or.inr rfl) | exact fun _=>rfl | exact Nat.le_of_ble_eq_true rfl)) (by first | rfl | decide | exact Or.inl rfl | exact Or.inr rfl | exact Or.inr (Or.inl rfl) | exact Or.inr (Or.inr rfl) | exact fun _=>rfl | exact Nat.le_of_ble_eq_true rfl)) (by first | rfl | decide | exact Or.inl rfl | exact Or.inr rfl | exact Or.inr (Or.inl rfl) | exact Or.inr (Or.inr rfl) | exact fun _=>rfl | exact Nat.le_of_ble_eq_true rfl)) (by first | rfl | decide | exact Or.inl rfl | exact Or.inr rfl | exact Or.inr (Or.inl rfl) | exact Or.inr (Or.inr rfl) | exact fun _=>rfl | exact Nat.le_of_ble_eq_true rfl) (by first | rfl | decide | exact Or.inl rfl | exact Or.inr rfl | exact Or.inr (Or.inl rfl) | exact Or.inr (Or.inr rfl) | exact fun _=>rfl | exact Nat.le_of_ble_eq_true rfl) (by first | rfl | decide | exact Or.inl rfl | exact Or.inr rfl | exact Or.inr (Or.inl rfl) | exact Or.inr (Or.inr rfl) | exact fun _=>rfl | exact Nat.le_of_ble_eq_true rfl)) zc (by first | rfl | decide | exact Or.inl rfl | exact Or.inr rfl | exact Or.inr (Or.inl rfl) | exact Or.inr (Or.inr rfl) | exact fun _=>rfl | exact Nat.le_of_ble_eq_true rfl)) (by first | rfl | decide | exact Or.inl rfl | exact Or.inr rfl | exact Or.inr (Or.inl rfl) | exact Or.inr (Or.inr rfl) | exact fun _=>rfl | exact Nat.le_of_ble_eq_true rfl))) (by first | rfl | decide | exact Or.inl rfl | exact Or.inr rfl | exact Or.inr (Or.inl rfl) | exact Or.inr (Or.inr rfl) | exact fun _=>rfl | exact Nat.le_of_ble_eq_true rfl) (by first | rfl | decide | exact Or.inl rfl | exact Or.inr rfl | exact Or.inr (Or.inl rfl) | exact Or.inr (Or.inr rfl) | exact fun _=>rfl | exact Nat.le_of_ble_eq_true rfl)) (@zg _ _ _ (@zo _ _ _ _ (@zf _ _ _ _ _ _ _ _ _ _ qc0 hr rfl (@za _ _ _ _ _ (pv 0) (@za _ _ _ _ _ (pv 4) (@za _ _ _ _ _ (@yj _ _ _ _ _ _ _ zJ (@zZ _ _ _ _ (@za _ _ _ _ _ (pv 8) (@za _ _ _ _ _ (pv 8) (@za _ _ _ _ _ (@sF _ K _ _ _ _ _ (@yL _ _ _ _ _ _ _ wm wy (by first | rfl | decide | exact Or.inl rfl | exact Or.inr rfl | exact Or.inr (Or.inl rfl) | exact Or.inr (Or.inr rfl) | exact fun _=>rfl | exact Nat.le_of_ble_eq_true rfl)) (by first | rfl | decide | exact Or.inl rfl | exact Or.inr rfl | exact Or.inr (Or.inl rfl) | exact Or.inr (Or.inr rfl) | exact fun _=>rfl | exact Nat.le_of_ble_eq_true rfl)) (@za _ _ _ _ _ (@sF _ K _ _ _ _ _ (@yL _ _ _ _ _ _ _ wm (@yL _ _ _ _ _ _ _ wm (@yL _ _ _ _ _ _ _ wm wy (by first | rfl | decide | exact Or.inl rfl | exact Or.inr rfl | exact Or.inr (Or.inl rfl) | exact Or.inr (Or.inr rfl) | exact fun _=>rfl | exact Nat.le_of_ble_eq_true rfl)) (by first | rfl | decide | exact Or.inl rfl | exact Or.inr rfl | exact Or.inr (Or.inl rfl) | exact Or.inr (Or.inr rfl) | exact fun _=>rfl | exact Nat.le_of_ble_eq_true rfl)) (by first | rfl | decide | exact Or.inl rfl | exact Or.inr rfl | exact Or.inr (Or.inl rfl) | exact Or.inr (Or.inr rfl) | exact fun _=>rfl | exact Nat.le_of_ble_eq_true rfl)) (by first | rfl | decide | exact Or.inl rfl | exact Or.inr rfl | exact Or.inr (Or.inl rfl) | exact Or.inr (Or.inr rfl) | exact fun _=>rfl | exact Nat.le_of_ble_eq_true rfl)) (@za _ _ _ _ _ (@Yz _ K _ _ _ _ (@yL _ _ _ _ _ _ _ wm (@yL _ _ _ _ _ _ _ wm wy (by first | rfl | decide | exact Or.inl rfl | exact Or.inr rfl | exact Or.inr (Or.inl rfl) | exact Or.inr (Or.inr rfl) | exact fun _=>rfl | exact Nat.le_of_ble_eq_true rfl)) (by first | rfl | decide | exact Or.inl rfl | exact Or.inr rfl | exact Or.inr (Or.inl rfl) | exact Or.inr (Or.inr rfl) | exact fun _=>rfl | exact Nat.le_of_ble_eq_true rfl)) (by first | rfl | decide | exact Or.inl rfl | exact Or.inr rfl | exact Or.inr (Or.inl rfl) | exact Or.inr (Or.inr rfl) | exact fun _=>rfl | exact Nat.le_of_ble_eq_true rfl)) (@za _ _ _ _ _ zX (@za _ _ _ _ _ (@X0 _ _ _ _ _ _ (@qw _ _ _ _ _ _ _ _ _ _ wm (@qw _ _ _ _ _ _ _ _ _ _ wm Xd)) (show ([some (.inl 0),some (.inl 1)]:List OKey).Nodup by decide) rfl rfl (fun z=>nomatch z) (by decide)) (@za _ _ _ _ _ ze zc (by first | rfl | decide | exact Or.inl rfl | exact Or.inr rfl | exact Or.inr (Or.inl rfl) | exact Or.inr (Or.inr rfl) | exact fun _=>rfl | exact Nat.le_of_ble_eq_true rfl)) sE) (by first | rfl | decide | exact Or.inl rfl | exact Or.inr rfl | exact Or.inr (Or.inl rfl) | exact Or.inr (Or.inr rfl) | exact fun _=>rfl | exact Nat.le_of_ble_eq_true rfl)) sK) (by first | rfl | decide | exact Or.inl rfl | exact Or.inr rfl | exact Or.inr (Or.inl rfl) | exact Or.inr (Or.inr rfl) | exact fun _=>rfl | exact Nat.le_of_ble_eq_true rfl)) (by first | rfl | decide | exact Or.inl rfl | exact Or.inr rfl | exact Or.inr (Or.inl rfl) | exact Or.inr (Or.inr rfl) | exact fun _=>rfl | exact Nat.le_of_ble_eq_true rfl)) (by first | rfl | decide | exact Or.inl rfl | exact Or.inr rfl | exact Or.inr (Or.inl rfl) | exact Or.inr (Or.inr rfl) | exact fun _=>rfl | exact Nat.le_of_ble_eq_true rfl)) (by first | rfl | decide | exact Or.inl rfl | exact Or.inr rfl | exact Or.inr (Or.inl rfl) | exact Or.inr (Or.inr rfl) | exact fun _=>rfl | exact Nat.le_of_ble_eq_true rfl))) (@zf _ _ _ _ _ _ _ _ _ _ qc1 hr rfl (@za _ _ _ _ _ (pv 0) (@za _ _ _ _ _ ze zc (by first | rfl | decide | exact Or.inl rfl | exact Or.inr rfl | exact Or.inr (Or.inl rfl) | exact Or.inr (Or.inr rfl) | exact fun _=>rfl | exact Nat.le_of_ble_eq_true rfl)) (by first | rfl | decide | exact Or.inl rfl | exact Or.inr rfl | exact Or.inr (Or.inl rfl) | exact Or.inr (Or.inr rfl) | exact fun _=>rfl | exact Nat.le_of_ble_eq_true rfl)) (by first | rfl | decide | exact Or.inl rfl | exact Or.inr rfl | exact Or.inr (Or.inl rfl) | exact Or.inr (Or.inr rfl) | exact fun _=>rfl | exact Nat.le_of_ble_eq_true rfl) (by first | rfl | decide | exact Or.inl rfl | exact Or.inr rfl | exact Or.inr (Or.inl rfl) | exact Or.inr (Or.inr rfl) | exact fun _=>rfl | exact Nat.le_of_ble_eq_true rfl) (by first | rfl | decide | exact Or.inl rfl | exact Or.inr rfl | exact Or.inr (Or.inl rfl) | exact Or.inr (Or.inr rfl) | exact fun _=>rfl | exact Nat.le_of_ble_eq_true rfl)) (fun _ _=>rfl)) zc (by first | rfl | decide | exact Or.inl rfl | exact Or.inr rfl | exact Or.inr (Or.inl rfl) | exact Or.inr (Or.inr rfl) | exact fun _=>rfl | exact Nat.le_of_ble_eq_true rfl)) (by first | rfl | decide | exact Or.inl rfl | exact Or.inr rfl | exact Or.inr (Or.inl rfl) | exact Or.inr (Or.inr rfl) | exact fun _=>rfl | exact Nat.le_of_ble_eq_true rfl)) (by first | rfl | decide | exact Or.inl rfl | exact Or.inr rfl | exact Or.inr (Or.inl rfl) | exact Or.inr (Or.inr rfl) | exact fun _=>rfl | exact Nat.le_of_ble_eq_true rfl)) (by first | rfl | decide | exact Or.inl rfl | exact Or.inr rfl | exact Or.inr (Or.inl rfl) | exact Or.inr (Or.inr rfl) | exact fun _=>rfl | exact Nat.le_of_ble_eq_true rfl) (by first | rfl | decide | exact Or.inl rfl | exact Or.inr rfl | exact Or.inr (Or.inl rfl) | exact Or.inr (Or.inr rfl) | exact fun _=>rfl | exact Nat.le_of_ble_eq_true rfl) (by first | rfl | decide | exact Or.inl rfl | exact Or.inr rfl | exact Or.inr (Or.inl rfl) | exact Or.inr (Or.inr rfl) | exact fun _=>rfl | exact Nat.le_of_ble_eq_true rfl)))))))))),?_⟩
 have pm':∀ b ∈ [p],b ∈ m:=fun b hb=>by rw [List.mem_singleton.mp hb]; exact pm
 have p16:=xr k4
 have hpos:0 < 2 ^ k:=Nat.two_pow_pos k
 have b200:(1000:Int) < 2 ^ 200:=by decide
 have e1k:(1:Int) * 2 ^ ((k:Int)).toNat = ((2 ^ k:Nat):Int):=yW
 obtain ⟨W,hW⟩:∃ W:Nat,W = 2 ^ k:=⟨_,rfl⟩
 rw [← hW] at e1k p16 hpos
 refine wx (fun v H'=>v = .int (W:Int) /\ H' = H) (fun Kk hk=>⟨_,rfl,_,_,rfl,rfl,vh k4,hk _ _ ⟨congrArg V.int e1k,rfl⟩⟩) ?_
 rintro _ H0 ⟨rfl,rfl⟩
 refine wx (fun v H'=>∃ t:Nat,v = .int t /\ t < 4 /\ Grow [p] H0 H' /\ zB H' p) (fun Kk hk=>⟨_,rfl,_,_,rfl,p,4,rfl,rfl,pp,by decide,by decide,fun n H' n0 n1 g pp'=>hk _ _ ⟨n.toNat,congrArg V.int (by omega),by omega,g,pp'⟩⟩) ?_
 rintro _ H1 ⟨t,rfl,t4,g1,pp1⟩
 refine wx (fun v H'=>∃ r,v = .ref r /\ SqT K H' r [] /\ Grow [] H1 H') (fun Kk hk=>⟨szl rfl,fun t0 ht0=>hk _ _ ⟨t0,rfl,SqT.of zb,Grow.new ht0 _⟩⟩) ?_
 rintro _ H2 ⟨r0,rfl,hr0,g2⟩
 have G2:Grow [p] H0 H2:=g1.trans g2.wk
 refine ⟨_,rfl,_,_,rfl,p,6,rfl,rfl,pp1.grow g2,by decide,by decide,fun n H3 n0 n1 g3 pp3=>⟨_,rfl,by omega,by omega,yG (fun i σ H'=>∃ (r:Addr) (xs:List V) (ds:List PyData) (e5 e6 e7:Option V),σ = [some (.ref p),some (.int k),some (.int W),some (.int t),some (.ref r),e5,e6,e7,none] /\ Grow [p] H0 H' /\ zB H' p /\ SqT K H' r xs /\ Ods K m H' xs ds /\ xs.length = i) ⟨r0,[],[],_,_,_,rfl,G2.trans g3,pp3,g3.sqT hr0,.nil,rfl⟩ ?_ ?_⟩⟩
 ·rintro i σ H4 hi ⟨r,xs,ds,e5,e6,e7,rfl,g4,pp4,hr,os,xl⟩
  have om4:=occF g4 pp4 om
  refine ⟨_,rfl,_,rfl,_,_,rfl,p,_,rfl,rfl,pp4,by omega,by omega,fun a1 H5 a0 a2 g5 pp5=>⟨_,rfl,_,rfl,_,_,rfl,p,_,rfl,rfl,pp5,by omega,by omega,fun b1 H6 b0 b2 g6 pp6=>?_⟩⟩
  refine ⟨_,_,rfl,?_⟩
  have G6:Grow [p] H4 H6:=g5.trans g6
  refine c_nx ?_
  refine c_if (fun σ' H'=>∃ (u v:V) (du dv:PyData) (e5:Option V),σ' = [some (.ref p),some (.int k),some (.int W),some (.int t),some (.ref r),e5,some u,some v,none] /\ Grow [p] H4 H' /\ zB H' p /\ Od K m H' u du /\ Od K m H' v dv) ?_ (fun kk=>?_)
  ·rintro σ' H7 ⟨u,v,du,dv,e5,rfl,g7,pp7,ou,ov⟩
   refine ⟨_,rfl,_,rfl,_,rfl,szl rfl,fun t1 ht1=>⟨szl rfl,fun t2 ht2=>?_⟩⟩
   have gt1:=Grow.new (m:=[]) ht1 (.tup [u,v])
   have gt2:=Grow.new (m:=[]) ht2 (.tup [.ref t1])
   have g9:=gt1.trans gt2
   refine ⟨r,t2,_,_,rfl,rfl,g9.sqT (g7.sqT hr),SqT.of zb,Nat.le_of_lt (zm (by show xs.length + 1 <= 1000; omega)),fun r' H' g' h'=>?_⟩
   have gg:Grow [] H7 H':=g9.trans g'
   have o1:Od K m (upd H7 t1 (.tup [u,v])) (.ref t1) (.tuple [du,dv]):=.tup (SqT.of zb) (.cons (ou.grow (gt1.wk (m:=m))) (.cons (ov.grow (gt1.wk (m:=m))) .nil))
   refine ⟨r',_,ds ++ [.tuple [du,dv]],_,_,_,rfl,g4.trans (g7.trans gg.wk),pp7.grow gg,h',?_,by rw [List.length_append,xl]; rfl⟩
   exact ((os.grow (g7.mono pm')).grow (gg.wk (m:=m))).append (.cons (o1.grow ((gt2.trans g').wk (m:=m))) .nil)
  ·refine ⟨_,rfl,rfl,_,rfl,?_⟩
   by_cases c:t = 1
   ·refine yd (decide_eq_true (congrArg V.int (by omega))) ?_
    have om6:=occF G6 pp6 om4
    refine ⟨_,rfl,_,rfl,_,rfl,_,_,_,rfl,p,W,.int a1,m,rfl,pp6,.int _,rfl,pm,om6,fun u du H7 g7 pp7 ou=>?_⟩
    refine ⟨_,rfl,_,rfl,_,rfl,_,_,_,rfl,p,W,.int b1,m,rfl,pp7,.int _,rfl,pm,occF g7 pp7 om6,fun v dv H8 g8 pp8 ov=>?_⟩
    exact ⟨_,_,rfl,kk _ _ ⟨u,v,du,dv,_,rfl,G6.trans (g7.trans g8),pp8,ou.grow (g8.mono pm'),ov⟩⟩
   ·exact zy (decide_eq_false fun z=>c (by have:=V.int.inj z; omega)) (kk _ _ ⟨.int a1,.int b1,.int a1,.int b1,_,rfl,G6,pp6,.int _,.int _⟩)
 rintro σ H4 ⟨r,xs,ds,e5,e6,e7,rfl,g4,pp4,hr,os,xl⟩
 have om4:=occF g4 pp4 om
 have x6:xs.length <= 6:=by omega
 have dl:=os.length
 refine ⟨_,rfl,_,_,rfl,rfl,_,rfl,?_⟩
 by_cases c:0 < (t:Int)
 ·exact yd (decide_eq_true c) ⟨_,rfl,q _ _ _ (xV (by omega)) g4 pp4 (.tup hr os)⟩
 refine zy (decide_eq_false c) ?_
 refine c_nx ?_
 refine wx (fun v H'=>∃ d,Od K m H' v d /\ Grow [p] H4 H' /\ zB H' p) (fun Kk hk=>?_) ?_
 ·refine ⟨_,rfl,_,rfl,_,_,_,rfl,p,W,.int 0,m,rfl,pp4,.int _,rfl,pm,om4,fun u du H7 g7 pp7 ou=>?_⟩
  refine ⟨_,rfl,_,rfl,_,_,_,rfl,p,W,.int 0,m,rfl,pp7,.int _,rfl,pm,occF g7 pp7 om4,fun v dv H8 g8 pp8 ov=>⟨szl rfl,fun t1 ht1=>?_⟩⟩
  have gt:=Grow.new (m:=[]) ht1 (.tup [u,v])
  exact hk _ _ ⟨_,.tup (SqT.of zb) (.cons ((ou.grow (g8.mono pm')).grow (gt.wk (m:=m))) (.cons (ov.grow (gt.wk (m:=m))) .nil)),g7.trans (g8.trans gt.wk),pp8.grow gt⟩
 rintro pv H5 ⟨dp,op,g5,pp5⟩
 have om5:=occF g5 pp5 om4
 have os5:=os.grow (g5.mono pm')
 have hr5:=g5.sqT hr
 refine ⟨_,rfl,_,rfl,_,rfl,_,rfl,m,trivial,om5,fun x1 Ha ga oa=>⟨m,trivial,zN ga om5,fun x2 Hb gb ob=>⟨m,trivial,zN (ga.trans gb) om5,fun x3 Hc gc oc=>⟨m,trivial,zN (ga.trans (gb.trans gc)) om5,fun x4 Hd gd od=>⟨szl rfl,fun l hl=>?_⟩⟩⟩⟩⟩
 have g6:=ga.trans (gb.trans (gc.trans gd))
 have gl:=Grow.new (m:=[]) hl (.lst [pv,pv,x1,x2,x3,.str "00",x4,.int 0])
 have ppl:=(pp5.grow g6).grow gl
 have nl:=(pp5.grow g6).ne hl
 have ol:Ods K m _ [pv,pv,x1,x2,x3,.str "00",x4,.int 0] [dp,dp,.tuple [.int 0],.tuple [.int 0,.int 0,.int 0],.list [.int 0,.int 0],.str "00",_,.int 0]:=(Ods.cons (op.grow (g6.wk (m:=m))) (.cons (op.grow (g6.wk (m:=m))) (.cons (oa.grow (gb.trans (gc.trans gd)).wk) (.cons (ob.grow (gc.trans gd).wk) (.cons (oc.grow gd.wk) (.cons (.str _) (.cons od (.cons (.int 0) .nil)))))))).grow (gl.wk (m:=m))
 have hl':upd Hd l (.lst [pv,pv,x1,x2,x3,.str "00",x4,.int 0]) l = some (.lst [pv,pv,x1,x2,x3,.str "00",x4,.int 0]):=zb
 have g7:=g6.trans gl
 generalize upd Hd l _ = He at ppl ol hl' g7 ⊢
 refine ⟨_,rfl,_,_,rfl,p,8,rfl,rfl,ppl,by decide,by decide,fun n H' n0 n1 g pp'=>?_⟩
 obtain ⟨j,rfl⟩:∃ j:Nat,n = j:=⟨n.toNat,by omega⟩
 obtain ⟨x,hx⟩:∃ x,([pv,pv,x1,x2,x3,.str "00",x4,.int 0]:List V)[j]? = some x:=⟨_,List.getElem?_eq_getElem (by show j < 8; omega)⟩
 obtain ⟨e,he,o⟩:=ol.get hx
 refine ⟨l,_,j,x,rfl,rfl,SqL.of (g.keep _ _ nl hl'),zR hx,?_⟩
 have g8:Grow [p] H5 H':=g7.wk.trans g
 exact ⟨_,_,_,rfl,p,r,xs,ds,e,m,rfl,pp',rfl,g8.sqT hr5,os5.grow (g8.mono pm'),by omega,o.grow (g.mono pm'),pm,occF g8 pp' om5,fun v d H'' fw g9 pp9 o9=>q v d H'' fw (g4.trans (g5.trans (g8.trans g9))) pp9 o9⟩
theorem yO:FnScope ["_law_purse_here","_law_k","_law_rows","_law_stage"] ["_law_purse_here","_law_k"] (zh (top 52)):=⟨rfl,rfl,rfl,by decide +kernel,rfl,by decide +kernel,by decide +kernel⟩
theorem vy (F:Fun K "_law_settings" "_law_settings" (top 52) f fd) (B:Blt mg) (qc0:zi P w K mg base n "_law_take" ["_law_purse_here","_law_many"] (xt K))    :
  FnOk P w K mg base CX0 (n + 1) f fd ["_law_purse_here","_law_k"] (vR K):=by
 refine F.ok yO yk (fun cdv A outer s H vs Q E hr h=>?_)
 obtain ⟨x,y,rfl,a,k,rfl,rfl,k4,pp,q⟩:=h
 refine ⟨_,(zd (zD (i:=2) yO.nd rfl (Or.inl rfl) (zZ zc)) (zd (yZ PassesOwn.never rfl (yh rfl B.range (za (pv 1) zc)) (zn (i:=3) yO.nd rfl (Or.inl rfl)) (zg (zV (ZP PySem.F.plainAttrs_list PySem.F.slot_list_append PySem.F.type_list_append t5 (pv 2) (za (zH zT rfl B.tuple z9 (za (ya (CSc.of (N':=["_law_number_here","_law_purse_here"]) (sub:=[none,some 0]) (zh (top 52)) ["_law_purse_here","_law_k","_law_rows","_law_stage"] rfl rfl (by decide +kernel) rfl) rfl (yh rfl B.range (za (zv y4 ze (zv y0 (pv 1) ze)) zc)) (fun _ _ _ _ _ _=>zn (i:=0) (show (["_law_number_here","_law_purse_here"]:List Str).Nodup by decide +kernel) rfl (Or.inl rfl)) (fun _ _ _ _ _ _=>zP) (fun _ _ _ _ _ _=>(zf qc0 hr rfl (za (pv 1) (za ze zc))))) zc)) zc))))) (zg (zo (zH zT rfl B.tuple z9 (za (pv 2) zc)))))),?_⟩
 refine ⟨szl rfl,fun lf hlf=>?_⟩
 have nf:=pp.ne hlf
 have gf:Grow [a,lf] H (upd H lf (.lst [])):=Grow.new hlf _
 refine ⟨_,rfl,_,rfl,by omega,by omega,yG (fun i σ H'=>∃ (e3:Option V) (xs:List V) (rows:List (List Int)),σ = [some (.ref a),some (.int k),some (.ref lf),e3] /\ Grow [a,lf] H H' /\ zB H' a /\ H' lf = some (.lst xs) /\ AllR (zS K H') xs rows /\ rows.length = i /\ ∀ r ∈ rows,r.length = 2 ^ (k - 1) /\ ∀ b ∈ r,b = 0 \/ b = 1) ⟨_,[],[],rfl,gf,pp.new hlf _,zb,trivial,rfl,(fun r hr=>by cases hr)⟩ ?_ ?_⟩
 ·rintro i σ H1 hi ⟨e3,xs,rows,rfl,g1,pp1,hl1,ha1,rl,ro⟩
  have hk1:1 <= k:=by omega
  obtain ⟨W,hW⟩:∃ W:Nat,W = 2 ^ (k - 1):=⟨_,rfl⟩
  have pw:W <= 16:=by rw [hW]; exact xr (by omega)
  have e1k:(1:Int) * 2 ^ (((k:Int) - 1)).toNat = W:=by rw [show (k:Int) - 1 = ((k - 1:Nat):Int) by omega,yW,hW]
  refine ⟨_,rfl,.inl ⟨rfl,_,SqL.of hl1⟩,?_⟩
  refine ⟨_,rfl,_,_,rfl,rfl,_,_,rfl,rfl,⟨by omega,by omega,by decide⟩,_,rfl,by rw [e1k]; omega,by rw [e1k]; omega,xZ (fun j ys H'=>∃ bs:List Int,ys = bs.map V.int /\ bs.length = j /\ (∀ b ∈ bs,b = 0 \/ b = 1) /\ Grow [a] H1 H' /\ zB H' a) ⟨[],rfl,rfl,(fun b hb=>by cases hb),Grow.refl _ _,pp1⟩ ?_ ?_⟩
  ·rintro j ys H2 hj ⟨bs,rfl,bl,bo,g2,pp2⟩
   have hj16:j < 16:=by rw [e1k] at hj; omega
   refine ⟨_,rfl,_,_,rfl,a,2,rfl,rfl,pp2,by decide,by decide,fun n H3 l3 u3 g3 pp3=>⟨zm (by rw [List.length_map]; omega),bs ++ [n],by rw [List.map_append]; rfl,by rw [List.length_append]; show bs.length + 1 = _; omega,?_,g2.trans g3,pp3⟩⟩
   intro b hb
   rcases List.mem_append.mp hb with z | z
   ·exact bo b z
   ·rw [List.mem_singleton.mp z]; omega
  rintro ys H2 ⟨bs,rfl,bl,bo,g2,pp2⟩ l2 hl2
  refine ⟨l2,_,rfl,.inl ⟨SqL.of zb,fun r hr=>?_⟩⟩
  have g3:Grow [] H2 (upd (upd H2 l2 (.lst (bs.map V.int))) r (.tup (bs.map V.int))):=(Grow.new hl2 _).trans (Grow.new hr _)
  have hl3:=g3.keep _ _ (by simp) (g2.keep _ _ nf hl1)
  have g13:Grow [a] H1 _:=g2.trans g3.wk
  have gs:=Grow.set (m:=[a,lf]) hl3 (by simp) (xs ++ [.ref r])
  have gA:=(g13.mono (m':=[a,lf]) (by simp)).trans gs
  refine ⟨lf,xs,_,rfl,rfl,hl3,zm (by rw [ha1.len]; omega),_,xs ++ [.ref r],rows ++ [bs],rfl,g1.trans gA,?_,zb,(gA.boardsR ha1).app (.one ⟨r,rfl,gs.sqT (SqT.of zb)⟩),by rw [List.length_append]; show rows.length + 1 = _; omega,?_⟩
  ·obtain ⟨z1,z2,z3,hz,z0⟩:=pp2.grow g3
   exact ⟨z1,z2,z3,by rw [zu (show a ≠ lf from fun z=>nf (by rw [z]; simp))]; exact hz,z0⟩
  ·intro rw' hrw
   rcases List.mem_append.mp hrw with z | z
   ·exact ro rw' z
   ·rw [List.mem_singleton.mp z]
    refine ⟨?_,bo⟩
    rw [bl,e1k,← hW]; exact Int.toNat_natCast W
 ·rintro σ H1 ⟨e3,xs,rows,rfl,g1,pp1,hl1,ha1,rl,ro⟩
  refine ⟨_,rfl,lf,_,rfl,.inl ⟨SqL.of hl1,fun r hr=>?_⟩⟩
  have g2:=Grow.new (m:=[]) hr (.tup xs)
  refine q _ rows _ (((g1.less (m':=[a]) fun z hz=>?_)).trans g2.wk) (pp1.grow g2) ⟨r,xs,rfl,SqT.of zb,g2.boardsR ha1⟩ ⟨by omega,ro⟩
  simp only [List.mem_cons,List.mem_nil_iff,or_false] at hz
  rcases hz with rfl | rfl
  ·exact .inl (by simp)
  ·exact .inr hlf
theorem zM:FnScope ["_law_purse_here","_law_k","_law_many","_law_found","_law_sides","_law_settings_here"] ["_law_purse_here"] (zh (top 56)):=⟨rfl,rfl,rfl,by decide +kernel,rfl,by decide +kernel,by decide +kernel⟩
theorem tQ (F:Fun K "_law_drawn" "_law_drawn" (top 56) f fd) (B:Blt mg) (qc0:zi P w K mg base n "_law_odd" ["_law_purse_here","_law_many"] (tJ K)) (qc1:zi P w K mg base n "_law_take" ["_law_purse_here","_law_many"] (xt K)) (qc2:zi P w K mg base n "_law_pairs" ["_law_purse_here","_law_k"] (uV K)) (qc3:zi P w K mg base n "_law_bad_row" ["_law_purse_here","_law_row","_law_thing"] (tK K)) (qc4:zi P w K mg base n "_law_settings" ["_law_purse_here","_law_k"] (vR K)) (qc5:zi P w K mg base n "_law_or_odd" ["_law_purse_here","_law_good","_law_many"] (wZ K))    :
  FnOk P w K mg base CX0 (n + 1) f fd ["_law_purse_here"] (uW K):=by
 refine F.ok zM wQ (fun cdv A outer s H vs Q E hr h=>?_)
 obtain ⟨x,rfl,p,m,rfl,pp,pm,om,q⟩:=h
 refine ⟨_,(@zd _ _ _ _ _ (@zD _ _ 1 _ _ _ _ zM.nd rfl (Or.inl rfl) (@zf _ _ _ _ _ _ _ _ _ _ qc1 hr rfl (@za _ _ _ _ _ (pv 0) (@za _ _ _ _ _ ze zc (by first | rfl | decide | exact Or.inl rfl | exact Or.inr rfl | exact Or.inr (Or.inl rfl) | exact Or.inr (Or.inr rfl) | exact fun _=>rfl | exact Nat.le_of_ble_eq_true rfl)) (by first | rfl | decide | exact Or.inl rfl | exact Or.inr rfl | exact Or.inr (Or.inl rfl) | exact Or.inr (Or.inr rfl) | exact fun _=>rfl | exact Nat.le_of_ble_eq_true rfl)) (by first | rfl | decide | exact Or.inl rfl | exact Or.inr rfl | exact Or.inr (Or.inl rfl) | exact Or.inr (Or.inr rfl) | exact fun _=>rfl | exact Nat.le_of_ble_eq_true rfl) (by first | rfl | decide | exact Or.inl rfl | exact Or.inr rfl | exact Or.inr (Or.inl rfl) | exact Or.inr (Or.inr rfl) | exact fun _=>rfl | exact Nat.le_of_ble_eq_true rfl) (by first | rfl | decide | exact Or.inl rfl | exact Or.inr rfl | exact Or.inr (Or.inl rfl) | exact Or.inr (Or.inr rfl) | exact fun _=>rfl | exact Nat.le_of_ble_eq_true rfl)) (by first | rfl | decide | exact Or.inl rfl | exact Or.inr rfl | exact Or.inr (Or.inl rfl) | exact Or.inr (Or.inr rfl) | exact fun _=>rfl | exact Nat.le_of_ble_eq_true rfl) (by first | rfl | decide | exact Or.inl rfl | exact Or.inr rfl | exact Or.inr (Or.inl rfl) | exact Or.inr (Or.inr rfl) | exact fun _=>rfl | exact Nat.le_of_ble_eq_true rfl)) (@zd _ _ _ _ _ (@zD _ _ 2 _ _ _ _ zM.nd rfl (Or.inr rfl) (@zv _ _ _ _ _ _ _ _ y4 ze (pv 1)) (by first | rfl | decide | exact Or.inl rfl | exact Or.inr rfl | exact Or.inr (Or.inl rfl) | exact Or.inr (Or.inr rfl) | exact fun _=>rfl | exact Nat.le_of_ble_eq_true rfl) (by first | rfl | decide | exact Or.inl rfl | exact Or.inr rfl | exact Or.inr (Or.inl rfl) | exact Or.inr (Or.inr rfl) | exact fun _=>rfl | exact Nat.le_of_ble_eq_true rfl)) (@zd _ _ _ _ _ (@YY _ _ _ _ _ _ _ _ _ _ _ _ _ _ 3 _ _ _ zM.nd rfl rfl (CSc.of (N':=["_law_turn","_law_purse_here","_law_many"]) (sub:=[none,some 0,some 2]) (zh (top 56)) ["_law_purse_here","_law_k","_law_many","_law_found","_law_sides","_law_settings_here"] rfl rfl (by decide +kernel) rfl) rfl (@yh _ _ _ _ _ _ rfl B.range (@za _ _ _ _ _ ze zc (by first | rfl | decide | exact Or.inl rfl | exact Or.inr rfl | exact Or.inr (Or.inl rfl) | exact Or.inr (Or.inr rfl) | exact fun _=>rfl | exact Nat.le_of_ble_eq_true rfl)) (by first | rfl | decide | exact Or.inl rfl | exact Or.inr rfl | exact Or.inr (Or.inl rfl) | exact Or.inr (Or.inr rfl) | exact fun _=>rfl | exact Nat.le_of_ble_eq_true rfl)) (fun _ _ _ _ _ _=>zn (i:=0) (show (["_law_turn","_law_purse_here","_law_many"]:List Str).Nodup by decide +kernel) rfl (Or.inl rfl)) (fun _ _ _ _ _ _=>zP) (fun _ _ _ _ _ _=>(@zf _ _ _ _ _ _ _ _ _ _ qc5 hr rfl (@za _ _ _ _ _ (pv 1) (@za _ _ _ _ _ (@zf _ _ _ _ _ _ _ _ _ _ qc1 hr rfl (@za _ _ _ _ _ (pv 1) (@za _ _ _ _ _ (pv 2) zc (by first | rfl | decide | exact Or.inl rfl | exact Or.inr rfl | exact Or.inr (Or.inl rfl) | exact Or.inr (Or.inr rfl) | exact fun _=>rfl | exact Nat.le_of_ble_eq_true rfl)) (by first | rfl | decide | exact Or.inl rfl | exact Or.inr rfl | exact Or.inr (Or.inl rfl) | exact Or.inr (Or.inr rfl) | exact fun _=>rfl | exact Nat.le_of_ble_eq_true rfl)) (by first | rfl | decide | exact Or.inl rfl | exact Or.inr rfl | exact Or.inr (Or.inl rfl) | exact Or.inr (Or.inr rfl) | exact fun _=>rfl | exact Nat.le_of_ble_eq_true rfl) (by first | rfl | decide | exact Or.inl rfl | exact Or.inr rfl | exact Or.inr (Or.inl rfl) | exact Or.inr (Or.inr rfl) | exact fun _=>rfl | exact Nat.le_of_ble_eq_true rfl) (by first | rfl | decide | exact Or.inl rfl | exact Or.inr rfl | exact Or.inr (Or.inl rfl) | exact Or.inr (Or.inr rfl) | exact fun _=>rfl | exact Nat.le_of_ble_eq_true rfl)) (@za _ _ _ _ _ (pv 2) zc (by first | rfl | decide | exact Or.inl rfl | exact Or.inr rfl | exact Or.inr (Or.inl rfl) | exact Or.inr (Or.inr rfl) | exact fun _=>rfl | exact Nat.le_of_ble_eq_true rfl)) (by first | rfl | decide | exact Or.inl rfl | exact Or.inr rfl | exact Or.inr (Or.inl rfl) | exact Or.inr (Or.inr rfl) | exact fun _=>rfl | exact Nat.le_of_ble_eq_true rfl)) (by first | rfl | decide | exact Or.inl rfl | exact Or.inr rfl | exact Or.inr (Or.inl rfl) | exact Or.inr (Or.inr rfl) | exact fun _=>rfl | exact Nat.le_of_ble_eq_true rfl)) (by first | rfl | decide | exact Or.inl rfl | exact Or.inr rfl | exact Or.inr (Or.inl rfl) | exact Or.inr (Or.inr rfl) | exact fun _=>rfl | exact Nat.le_of_ble_eq_true rfl) (by first | rfl | decide | exact Or.inl rfl | exact Or.inr rfl | exact Or.inr (Or.inl rfl) | exact Or.inr (Or.inr rfl) | exact fun _=>rfl | exact Nat.le_of_ble_eq_true rfl) (by first | rfl | decide | exact Or.inl rfl | exact Or.inr rfl | exact Or.inr (Or.inl rfl) | exact Or.inr (Or.inr rfl) | exact fun _=>rfl | exact Nat.le_of_ble_eq_true rfl))) (by first | rfl | decide | exact Or.inl rfl | exact Or.inr rfl | exact Or.inr (Or.inl rfl) | exact Or.inr (Or.inr rfl) | exact fun _=>rfl | exact Nat.le_of_ble_eq_true rfl) (by first | rfl | decide | exact Or.inl rfl | exact Or.inr rfl | exact Or.inr (Or.inl rfl) | exact Or.inr (Or.inr rfl) | exact fun _=>rfl | exact Nat.le_of_ble_eq_true rfl)) (@zd _ _ _ _ _ (@zY _ _ _ _ _ _ _ _ (@zz _ _ _ _ _ _ _ _ yI (@zf _ _ _ _ _ _ _ _ _ _ qc1 hr rfl (@za _ _ _ _ _ (pv 0) (@za _ _ _ _ _ ze zc (by first | rfl | decide | exact Or.inl rfl | exact Or.inr rfl | exact Or.inr (Or.inl rfl) | exact Or.inr (Or.inr rfl) | exact fun _=>rfl | exact Nat.le_of_ble_eq_true rfl)) (by first | rfl | decide | exact Or.inl rfl | exact Or.inr rfl | exact Or.inr (Or.inl rfl) | exact Or.inr (Or.inr rfl) | exact fun _=>rfl | exact Nat.le_of_ble_eq_true rfl)) (by first | rfl | decide | exact Or.inl rfl | exact Or.inr rfl | exact Or.inr (Or.inl rfl) | exact Or.inr (Or.inr rfl) | exact fun _=>rfl | exact Nat.le_of_ble_eq_true rfl) (by first | rfl | decide | exact Or.inl rfl | exact Or.inr rfl | exact Or.inr (Or.inl rfl) | exact Or.inr (Or.inr rfl) | exact fun _=>rfl | exact Nat.le_of_ble_eq_true rfl) (by first | rfl | decide | exact Or.inl rfl | exact Or.inr rfl | exact Or.inr (Or.inl rfl) | exact Or.inr (Or.inr rfl) | exact fun _=>rfl | exact Nat.le_of_ble_eq_true rfl)) ze (zA _)) (@zg _ _ _ (@wC _ _ _ _ _ _ (@yg _ _ _ _ _ (@za _ _ _ _ _ (@yj _ _ _ _ _ _ _ zJ (pv 3) ze (fun _ _=>rfl)) (@za _ _ _ _ _ (@yj _ _ _ _ _ _ _ zJ (pv 3) ze (fun _ _=>rfl)) zc (by first | rfl | decide | exact Or.inl rfl | exact Or.inr rfl | exact Or.inr (Or.inl rfl) | exact Or.inr (Or.inr rfl) | exact fun _=>rfl | exact Nat.le_of_ble_eq_true rfl)) (by first | rfl | decide | exact Or.inl rfl | exact Or.inr rfl | exact Or.inr (Or.inl rfl) | exact Or.inr (Or.inr rfl) | exact fun _=>rfl | exact Nat.le_of_ble_eq_true rfl))) (uD rfl (zt (uE (pv 3) ze xX) (zt (uE (pv 3) ze xX) yx))) (by first | rfl | decide | exact Or.inl rfl | exact Or.inr rfl | exact Or.inr (Or.inl rfl) | exact Or.inr (Or.inr rfl) | exact fun _=>rfl | exact Nat.le_of_ble_eq_true rfl) (by first | rfl | decide | exact Or.inl rfl | exact Or.inr rfl | exact Or.inr (Or.inl rfl) | exact Or.inr (Or.inr rfl) | exact fun _=>rfl | exact Nat.le_of_ble_eq_true rfl) (by first | rfl | decide | exact Or.inl rfl | exact Or.inr rfl | exact Or.inr (Or.inl rfl) | exact Or.inr (Or.inr rfl) | exact fun _=>rfl | exact Nat.le_of_ble_eq_true rfl))) zx) (@zd _ _ _ _ _ (@zD _ _ 4 _ _ _ _ zM.nd rfl (Or.inl rfl) (@zH _ _ _ _ _ _ _ _ _ zT rfl B.tuple z9 (@za _ _ _ _ _ (@jL _ _ _ _ _ _ _ _ _ _ _ _ _ _ (CSc.of (N':=["_law_hand","_law_purse_here","_law_many"]) (sub:=[none,some 0,some 2]) (zh (top 56)) ["_law_purse_here","_law_k","_law_many","_law_found","_law_sides","_law_settings_here"] rfl rfl (by decide +kernel) rfl) rfl (@yh _ _ _ _ _ _ rfl B.range (@za _ _ _ _ _ (pv 2) zc (by first | rfl | decide | exact Or.inl rfl | exact Or.inr rfl | exact Or.inr (Or.inl rfl) | exact Or.inr (Or.inr rfl) | exact fun _=>rfl | exact Nat.le_of_ble_eq_true rfl)) (by first | rfl | decide | exact Or.inl rfl | exact Or.inr rfl | exact Or.inr (Or.inl rfl) | exact Or.inr (Or.inr rfl) | exact fun _=>rfl | exact Nat.le_of_ble_eq_true rfl)) (fun _ _ _ _ _ _=>zn (i:=0) (show (["_law_hand","_law_purse_here","_law_many"]:List Str).Nodup by decide +kernel) rfl (Or.inl rfl)) (fun _ _ _ _ _ _=>zP) (fun _ _ _ _ _ _=>(@zf _ _ _ _ _ _ _ _ _ _ qc1 hr rfl (@za _ _ _ _ _ (pv 1) (@za _ _ _ _ _ (pv 2) zc (by first | rfl | decide | exact Or.inl rfl | exact Or.inr rfl | exact Or.inr (Or.inl rfl) | exact Or.inr (Or.inr rfl) | exact fun _=>rfl | exact Nat.le_of_ble_eq_true rfl)) (by first | rfl | decide | exact Or.inl rfl | exact Or.inr rfl | exact Or.inr (Or.inl rfl) | exact Or.inr (Or.inr rfl) | exact fun _=>rfl | exact Nat.le_of_ble_eq_true rfl)) (by first | rfl | decide | exact Or.inl rfl | exact Or.inr rfl | exact Or.inr (Or.inl rfl) | exact Or.inr (Or.inr rfl) | exact fun _=>rfl | exact Nat.le_of_ble_eq_true rfl) (by first | rfl | decide | exact Or.inl rfl | exact Or.inr rfl | exact Or.inr (Or.inl rfl) | exact Or.inr (Or.inr rfl) | exact fun _=>rfl | exact Nat.le_of_ble_eq_true rfl) (by first | rfl | decide | exact Or.inl rfl | exact Or.inr rfl | exact Or.inr (Or.inl rfl) | exact Or.inr (Or.inr rfl) | exact fun _=>rfl | exact Nat.le_of_ble_eq_true rfl))) (by first | rfl | decide | exact Or.inl rfl | exact Or.inr rfl | exact Or.inr (Or.inl rfl) | exact Or.inr (Or.inr rfl) | exact fun _=>rfl | exact Nat.le_of_ble_eq_true rfl)) zc (by first | rfl | decide | exact Or.inl rfl | exact Or.inr rfl | exact Or.inr (Or.inl rfl) | exact Or.inr (Or.inr rfl) | exact fun _=>rfl | exact Nat.le_of_ble_eq_true rfl)) (by first | rfl | decide | exact Or.inl rfl | exact Or.inr rfl | exact Or.inr (Or.inl rfl) | exact Or.inr (Or.inr rfl) | exact fun _=>rfl | exact Nat.le_of_ble_eq_true rfl) (by first | rfl | decide | exact Or.inl rfl | exact Or.inr rfl | exact Or.inr (Or.inl rfl) | exact Or.inr (Or.inr rfl) | exact fun _=>rfl | exact Nat.le_of_ble_eq_true rfl) (by first | rfl | decide | exact Or.inl rfl | exact Or.inr rfl | exact Or.inr (Or.inl rfl) | exact Or.inr (Or.inr rfl) | exact fun _=>rfl | exact Nat.le_of_ble_eq_true rfl) (by first | rfl | decide | exact Or.inl rfl | exact Or.inr rfl | exact Or.inr (Or.inl rfl) | exact Or.inr (Or.inr rfl) | exact fun _=>rfl | exact Nat.le_of_ble_eq_true rfl)) (by first | rfl | decide | exact Or.inl rfl | exact Or.inr rfl | exact Or.inr (Or.inl rfl) | exact Or.inr (Or.inr rfl) | exact fun _=>rfl | exact Nat.le_of_ble_eq_true rfl) (by first | rfl | decide | exact Or.inl rfl | exact Or.inr rfl | exact Or.inr (Or.inl rfl) | exact Or.inr (Or.inr rfl) | exact fun _=>rfl | exact Nat.le_of_ble_eq_true rfl)) (@zd _ _ _ _ _ (@zY _ _ _ _ _ _ _ _ (@zz _ _ _ _ _ _ _ _ yI (@zf _ _ _ _ _ _ _ _ _ _ qc1 hr rfl (@za _ _ _ _ _ (pv 0) (@za _ _ _ _ _ ze zc (by first | rfl | decide | exact Or.inl rfl | exact Or.inr rfl | exact Or.inr (Or.inl rfl) | exact Or.inr (Or.inr rfl) | exact fun _=>rfl | exact Nat.le_of_ble_eq_true rfl)) (by first | rfl | decide | exact Or.inl rfl | exact Or.inr rfl | exact Or.inr (Or.inl rfl) | exact Or.inr (Or.inr rfl) | exact fun _=>rfl | exact Nat.le_of_ble_eq_true rfl)) (by first | rfl | decide | exact Or.inl rfl | exact Or.inr rfl | exact Or.inr (Or.inl rfl) | exact Or.inr (Or.inr rfl) | exact fun _=>rfl | exact Nat.le_of_ble_eq_true rfl) (by first | rfl | decide | exact Or.inl rfl | exact Or.inr rfl | exact Or.inr (Or.inl rfl) | exact Or.inr (Or.inr rfl) | exact fun _=>rfl | exact Nat.le_of_ble_eq_true rfl) (by first | rfl | decide | exact Or.inl rfl | exact Or.inr rfl | exact Or.inr (Or.inl rfl) | exact Or.inr (Or.inr rfl) | exact fun _=>rfl | exact Nat.le_of_ble_eq_true rfl)) ze (zA _)) (@zg _ _ _ (@zD _ _ 4 _ _ _ _ zM.nd rfl (Or.inl rfl) (@zf _ _ _ _ _ _ _ _ _ _ qc3 hr rfl (@za _ _ _ _ _ (pv 0) (@za _ _ _ _ _ (pv 4) (@za _ _ _ _ _ (@zf _ _ _ _ _ _ _ _ _ _ qc0 hr rfl (@za _ _ _ _ _ (pv 0) (@za _ _ _ _ _ (pv 2) zc (by first | rfl | decide | exact Or.inl rfl | exact Or.inr rfl | exact Or.inr (Or.inl rfl) | exact Or.inr (Or.inr rfl) | exact fun _=>rfl | exact Nat.le_of_ble_eq_true rfl)) (by first | rfl | decide | exact Or.inl rfl | exact Or.inr rfl | exact Or.inr (Or.inl rfl) | exact Or.inr (Or.inr rfl) | exact fun _=>rfl | exact Nat.le_of_ble_eq_true rfl)) (by first | rfl | decide | exact Or.inl rfl | exact Or.inr rfl | exact Or.inr (Or.inl rfl) | exact Or.inr (Or.inr rfl) | exact fun _=>rfl | exact Nat.le_of_ble_eq_true rfl) (by first | rfl | decide | exact Or.inl rfl | exact Or.inr rfl | exact Or.inr (Or.inl rfl) | exact Or.inr (Or.inr rfl) | exact fun _=>rfl | exact Nat.le_of_ble_eq_true rfl) (by first | rfl | decide | exact Or.inl rfl | exact Or.inr rfl | exact Or.inr (Or.inl rfl) | exact Or.inr (Or.inr rfl) | exact fun _=>rfl | exact Nat.le_of_ble_eq_true rfl)) zc (by first | rfl | decide | exact Or.inl rfl | exact Or.inr rfl | exact Or.inr (Or.inl rfl) | exact Or.inr (Or.inr rfl) | exact fun _=>rfl | exact Nat.le_of_ble_eq_true rfl)) (by first | rfl | decide | exact Or.inl rfl | exact Or.inr rfl | exact Or.inr (Or.inl rfl) | exact Or.inr (Or.inr rfl) | exact fun _=>rfl | exact Nat.le_of_ble_eq_true rfl)) (by first | rfl | decide | exact Or.inl rfl | exact Or.inr rfl | exact Or.inr (Or.inl rfl) | exact Or.inr (Or.inr rfl) | exact fun _=>rfl | exact Nat.le_of_ble_eq_true rfl)) (by first | rfl | decide | exact Or.inl rfl | exact Or.inr rfl | exact Or.inr (Or.inl rfl) | exact Or.inr (Or.inr rfl) | exact fun _=>rfl | exact Nat.le_of_ble_eq_true rfl) (by first | rfl | decide | exact Or.inl rfl | exact Or.inr rfl | exact Or.inr (Or.inl rfl) | exact Or.inr (Or.inr rfl) | exact fun _=>rfl | exact Nat.le_of_ble_eq_true rfl) (by first | rfl | decide | exact Or.inl rfl | exact Or.inr rfl | exact Or.inr (Or.inl rfl) | exact Or.inr (Or.inr rfl) | exact fun _=>rfl | exact Nat.le_of_ble_eq_true rfl)) (by first | rfl | decide | exact Or.inl rfl | exact Or.inr rfl | exact Or.inr (Or.inl rfl) | exact Or.inr (Or.inr rfl) | exact fun _=>rfl | exact Nat.le_of_ble_eq_true rfl) (by first | rfl | decide | exact Or.inl rfl | exact Or.inr rfl | exact Or.inr (Or.inl rfl) | exact Or.inr (Or.inr rfl) | exact fun _=>rfl | exact Nat.le_of_ble_eq_true rfl))) zx) (@zd _ _ _ _ _ (@zD _ _ 5 _ _ _ _ zM.nd rfl (Or.inl rfl) (@zf _ _ _ _ _ _ _ _ _ _ qc4 hr rfl (@za _ _ _ _ _ (pv 0) (@za _ _ _ _ _ (pv 1) zc (by first | rfl | decide | exact Or.inl rfl | exact Or.inr rfl | exact Or.inr (Or.inl rfl) | exact Or.inr (Or.inr rfl) | exact fun _=>rfl | exact Nat.le_of_ble_eq_true rfl)) (by first | rfl | decide | exact Or.inl rfl | exact Or.inr rfl | exact Or.inr (Or.inl rfl) | exact Or.inr (Or.inr rfl) | exact fun _=>rfl | exact Nat.le_of_ble_eq_true rfl)) (by first | rfl | decide | exact Or.inl rfl | exact Or.inr rfl | exact Or.inr (Or.inl rfl) | exact Or.inr (Or.inr rfl) | exact fun _=>rfl | exact Nat.le_of_ble_eq_true rfl) (by first | rfl | decide | exact Or.inl rfl | exact Or.inr rfl | exact Or.inr (Or.inl rfl) | exact Or.inr (Or.inr rfl) | exact fun _=>rfl | exact Nat.le_of_ble_eq_true rfl) (by first | rfl | decide | exact Or.inl rfl | exact Or.inr rfl | exact Or.inr (Or.inl rfl) | exact Or.inr (Or.inr rfl) | exact fun _=>rfl | exact Nat.le_of_ble_eq_true rfl)) (by first | rfl | decide | exact Or.inl rfl | exact Or.inr rfl | exact Or.inr (Or.inl rfl) | exact Or.inr (Or.inr rfl) | exact fun _=>rfl | exact Nat.le_of_ble_eq_true rfl) (by first | rfl | decide | exact Or.inl rfl | exact Or.inr rfl | exact Or.inr (Or.inl rfl) | exact Or.inr (Or.inr rfl) | exact fun _=>rfl | exact Nat.le_of_ble_eq_true rfl)) (@zd _ _ _ _ _ (@zY _ _ _ _ _ _ _ _ (@zz _ _ _ _ _ _ _ _ yI (@zf _ _ _ _ _ _ _ _ _ _ qc1 hr rfl (@za _ _ _ _ _ (pv 0) (@za _ _ _ _ _ ze zc (by first | rfl | decide | exact Or.inl rfl | exact Or.inr rfl | exact Or.inr (Or.inl rfl) | exact Or.inr (Or.inr rfl) | exact fun _=>rfl | exact Nat.le_of_ble_eq_true rfl)) (by first | rfl | decide | exact Or.inl rfl | exact Or.inr rfl | exact Or.inr (Or.inl rfl) | exact Or.inr (Or.inr rfl) | exact fun _=>rfl | exact Nat.le_of_ble_eq_true rfl)) (by first | rfl | decide | exact Or.inl rfl | exact Or.inr rfl | exact Or.inr (Or.inl rfl) | exact Or.inr (Or.inr rfl) | exact fun _=>rfl | exact Nat.le_of_ble_eq_true rfl) (by first | rfl | decide | exact Or.inl rfl | exact Or.inr rfl | exact Or.inr (Or.inl rfl) | exact Or.inr (Or.inr rfl) | exact fun _=>rfl | exact Nat.le_of_ble_eq_true rfl) (by first | rfl | decide | exact Or.inl rfl | exact Or.inr rfl | exact Or.inr (Or.inl rfl) | exact Or.inr (Or.inr rfl) | exact fun _=>rfl | exact Nat.le_of_ble_eq_true rfl)) ze (zA _)) (@zg _ _ _ (@zD _ _ 5 _ _ _ _ zM.nd rfl (Or.inl rfl) (@zf _ _ _ _ _ _ _ _ _ _ qc3 hr rfl (@za _ _ _ _ _ (pv 0) (@za _ _ _ _ _ (pv 5) (@za _ _ _ _ _ (@yj _ _ _ _ _ _ _ zJ (@zZ _ _ _ _ (@za _ _ _ _ _ (@sF _ K _ _ _ _ _ wy (by first | rfl | decide | exact Or.inl rfl | exact Or.inr rfl | exact Or.inr (Or.inl rfl) | exact Or.inr (Or.inr rfl) | exact fun _=>rfl | exact Nat.le_of_ble_eq_true rfl)) (@za _ _ _ _ _ (@zv _ _ _ _ _ _ _ _ (rD (K:=K) rfl) (@yg _ _ _ _ _ (@za _ _ _ _ _ ze zc (by first | rfl | decide | exact Or.inl rfl | exact Or.inr rfl | exact Or.inr (Or.inl rfl) | exact Or.inr (Or.inr rfl) | exact fun _=>rfl | exact Nat.le_of_ble_eq_true rfl))) (@zv _ _ _ _ _ _ _ _ y4 ze (@zj _ _ _ _ _ _ _ _ _ (vG rfl) rfl B.max ZS (@za _ _ _ _ _ ze (@za _ _ _ _ _ (@zv _ _ _ _ _ _ _ _ y0 (pv 1) ze) zc (by first | rfl | decide | exact Or.inl rfl | exact Or.inr rfl | exact Or.inr (Or.inl rfl) | exact Or.inr (Or.inr rfl) | exact fun _=>rfl | exact Nat.le_of_ble_eq_true rfl)) (by first | rfl | decide | exact Or.inl rfl | exact Or.inr rfl | exact Or.inr (Or.inl rfl) | exact Or.inr (Or.inr rfl) | exact fun _=>rfl | exact Nat.le_of_ble_eq_true rfl)) (by first | rfl | decide | exact Or.inl rfl | exact Or.inr rfl | exact Or.inr (Or.inl rfl) | exact Or.inr (Or.inr rfl) | exact fun _=>rfl | exact Nat.le_of_ble_eq_true rfl) (by first | rfl | decide | exact Or.inl rfl | exact Or.inr rfl | exact Or.inr (Or.inl rfl) | exact Or.inr (Or.inr rfl) | exact fun _=>rfl | exact Nat.le_of_ble_eq_true rfl) (by first | rfl | decide | exact Or.inl rfl | exact Or.inr rfl | exact Or.inr (Or.inl rfl) | exact Or.inr (Or.inr rfl) | exact fun _=>rfl | exact Nat.le_of_ble_eq_true rfl) (by first | rfl | decide | exact Or.inl rfl | exact Or.inr rfl | exact Or.inr (Or.inl rfl) | exact Or.inr (Or.inr rfl) | exact fun _=>rfl | exact Nat.le_of_ble_eq_true rfl)))) (@za _ _ _ _ _ ze (@za _ _ _ _ _ xG zc (by first | rfl | decide | exact Or.inl rfl | exact Or.inr rfl | exact Or.inr (Or.inl rfl) | exact Or.inr (Or.inr rfl) | exact fun _=>rfl | exact Nat.le_of_ble_eq_true rfl)) (by first | rfl | decide | exact Or.inl rfl | exact Or.inr rfl | exact Or.inr (Or.inl rfl) | exact Or.inr (Or.inr rfl) | exact fun _=>rfl | exact Nat.le_of_ble_eq_true rfl)) (by first | rfl | decide | exact Or.inl rfl | exact Or.inr rfl | exact Or.inr (Or.inl rfl) | exact Or.inr (Or.inr rfl) | exact fun _=>rfl | exact Nat.le_of_ble_eq_true rfl)) (by first | rfl | decide | exact Or.inl rfl | exact Or.inr rfl | exact Or.inr (Or.inl rfl) | exact Or.inr (Or.inr rfl) | exact fun _=>rfl | exact Nat.le_of_ble_eq_true rfl))) (@zf _ _ _ _ _ _ _ _ _ _ qc1 hr rfl (@za _ _ _ _ _ (pv 0) (@za _ _ _ _ _ ze zc (by first | rfl | decide | exact Or.inl rfl | exact Or.inr rfl | exact Or.inr (Or.inl rfl) | exact Or.inr (Or.inr rfl) | exact fun _=>rfl | exact Nat.le_of_ble_eq_true rfl)) (by first | rfl | decide | exact Or.inl rfl | exact Or.inr rfl | exact Or.inr (Or.inl rfl) | exact Or.inr (Or.inr rfl) | exact fun _=>rfl | exact Nat.le_of_ble_eq_true rfl)) (by first | rfl | decide | exact Or.inl rfl | exact Or.inr rfl | exact Or.inr (Or.inl rfl) | exact Or.inr (Or.inr rfl) | exact fun _=>rfl | exact Nat.le_of_ble_eq_true rfl) (by first | rfl | decide | exact Or.inl rfl | exact Or.inr rfl | exact Or.inr (Or.inl rfl) | exact Or.inr (Or.inr rfl) | exact fun _=>rfl | exact Nat.le_of_ble_eq_true rfl) (by first | rfl | decide | exact Or.inl rfl | exact Or.inr rfl | exact Or.inr (Or.inl rfl) | exact Or.inr (Or.inr rfl) | exact fun _=>rfl | exact Nat.le_of_ble_eq_true rfl)) (fun _ _=>rfl)) zc (by first | rfl | decide | exact Or.inl rfl | exact Or.inr rfl | exact Or.inr (Or.inl rfl) | exact Or.inr (Or.inr rfl) | exact fun _=>rfl | exact Nat.le_of_ble_eq_true rfl)) (by first | rfl | decide | exact Or.inl rfl | exact Or.inr rfl | exact Or.inr (Or.inl rfl) | exact Or.inr (Or.inr rfl) | exact fun _=>rfl | exact Nat.le_of_ble_eq_true rfl)) (by first | rfl | decide | exact Or.inl rfl | exact Or.inr rfl | exact Or.inr (Or.inl rfl) | exact Or.inr (Or.inr rfl) | exact fun _=>rfl | exact Nat.le_of_ble_eq_true rfl)) (by first | rfl | decide | exact Or.inl rfl | exact Or.inr rfl | exact Or.inr (Or.inl rfl) | exact Or.inr (Or.inr rfl) | exact fun _=>rfl | exact Nat.le_of_ble_eq_true rfl) (by first | rfl | decide | exact Or.inl rfl | exact Or.inr rfl | exact Or.inr (Or.inl rfl) | exact Or.inr (Or.inr rfl) | exact fun _=>rfl | exact Nat.le_of_ble_eq_true rfl) (by first | rfl | decide | exact Or.inl rfl | exact Or.inr rfl | exact Or.inr (Or.inl rfl) | exact Or.inr (Or.inr rfl) | exact fun _=>rfl | exact Nat.le_of_ble_eq_true rfl)) (by first | rfl | decide | exact Or.inl rfl | exact Or.inr rfl | exact Or.inr (Or.inl rfl) | exact Or.inr (Or.inr rfl) | exact fun _=>rfl | exact Nat.le_of_ble_eq_true rfl) (by first | rfl | decide | exact Or.inl rfl | exact Or.inr rfl | exact Or.inr (Or.inl rfl) | exact Or.inr (Or.inr rfl) | exact fun _=>rfl | exact Nat.le_of_ble_eq_true rfl))) zx) (@zd _ _ _ _ _ (@zD _ _ 3 _ _ _ _ zM.nd rfl (Or.inl rfl) (@zv _ _ _ _ _ _ _ _ t7 (pv 3) (@zZ _ _ _ _ (@za _ _ _ _ _ (@zf _ _ _ _ _ _ _ _ _ _ qc2 hr rfl (@za _ _ _ _ _ (pv 0) (@za _ _ _ _ _ (pv 1) zc (by first | rfl | decide | exact Or.inl rfl | exact Or.inr rfl | exact Or.inr (Or.inl rfl) | exact Or.inr (Or.inr rfl) | exact fun _=>rfl | exact Nat.le_of_ble_eq_true rfl)) (by first | rfl | decide | exact Or.inl rfl | exact Or.inr rfl | exact Or.inr (Or.inl rfl) | exact Or.inr (Or.inr rfl) | exact fun _=>rfl | exact Nat.le_of_ble_eq_true rfl)) (by first | rfl | decide | exact Or.inl rfl | exact Or.inr rfl | exact Or.inr (Or.inl rfl) | exact Or.inr (Or.inr rfl) | exact fun _=>rfl | exact Nat.le_of_ble_eq_true rfl) (by first | rfl | decide | exact Or.inl rfl | exact Or.inr rfl | exact Or.inr (Or.inl rfl) | exact Or.inr (Or.inr rfl) | exact fun _=>rfl | exact Nat.le_of_ble_eq_true rfl) (by first | rfl | decide | exact Or.inl rfl | exact Or.inr rfl | exact Or.inr (Or.inl rfl) | exact Or.inr (Or.inr rfl) | exact fun _=>rfl | exact Nat.le_of_ble_eq_true rfl)) (@za _ _ _ _ _ (pv 4) (@za _ _ _ _ _ (pv 5) zc (by first | rfl | decide | exact Or.inl rfl | exact Or.inr rfl | exact Or.inr (Or.inl rfl) | exact Or.inr (Or.inr rfl) | exact fun _=>rfl | exact Nat.le_of_ble_eq_true rfl)) (by first | rfl | decide | exact Or.inl rfl | exact Or.inr rfl | exact Or.inr (Or.inl rfl) | exact Or.inr (Or.inr rfl) | exact fun _=>rfl | exact Nat.le_of_ble_eq_true rfl)) (by first | rfl | decide | exact Or.inl rfl | exact Or.inr rfl | exact Or.inr (Or.inl rfl) | exact Or.inr (Or.inr rfl) | exact fun _=>rfl | exact Nat.le_of_ble_eq_true rfl)))) (by first | rfl | decide | exact Or.inl rfl | exact Or.inr rfl | exact Or.inr (Or.inl rfl) | exact Or.inr (Or.inr rfl) | exact fun _=>rfl | exact Nat.le_of_ble_eq_true rfl) (by first | rfl | decide | exact Or.inl rfl | exact Or.inr rfl | exact Or.inr (Or.inl rfl) | exact Or.inr (Or.inr rfl) | exact fun _=>rfl | exact Nat.le_of_ble_eq_true rfl)) (@zg _ _ _ (@zo _ _ _ _ (@zv _ _ _ _ _ _ _ _ t7 (@zZ _ _ _ _ (@za _ _ _ _ _ (@yj _ _ _ _ _ _ _ zJ (@zZ _ _ _ _ (@za _ _ _ _ _ (@zf _ _ _ _ _ _ _ _ _ _ qc0 hr rfl (@za _ _ _ _ _ (pv 0) (@za _ _ _ _ _ ze zc (by first | rfl | decide | exact Or.inl rfl | exact Or.inr rfl | exact Or.inr (Or.inl rfl) | exact Or.inr (Or.inr rfl) | exact fun _=>rfl | exact Nat.le_of_ble_eq_true rfl)) (by first | rfl | decide | exact Or.inl rfl | exact Or.inr rfl | exact Or.inr (Or.inl rfl) | exact Or.inr (Or.inr rfl) | exact fun _=>rfl | exact Nat.le_of_ble_eq_true rfl)) (by first | rfl | decide | exact Or.inl rfl | exact Or.inr rfl | exact Or.inr (Or.inl rfl) | exact Or.inr (Or.inr rfl) | exact fun _=>rfl | exact Nat.le_of_ble_eq_true rfl) (by first | rfl | decide | exact Or.inl rfl | exact Or.inr rfl | exact Or.inr (Or.inl rfl) | exact Or.inr (Or.inr rfl) | exact fun _=>rfl | exact Nat.le_of_ble_eq_true rfl) (by first | rfl | decide | exact Or.inl rfl | exact Or.inr rfl | exact Or.inr (Or.inl rfl) | exact Or.inr (Or.inr rfl) | exact fun _=>rfl | exact Nat.le_of_ble_eq_true rfl)) (@za _ _ _ _ _ (pv 1) zc (by first | rfl | decide | exact Or.inl rfl | exact Or.inr rfl | exact Or.inr (Or.inl rfl) | exact Or.inr (Or.inr rfl) | exact fun _=>rfl | exact Nat.le_of_ble_eq_true rfl)) (by first | rfl | decide | exact Or.inl rfl | exact Or.inr rfl | exact Or.inr (Or.inl rfl) | exact Or.inr (Or.inr rfl) | exact fun _=>rfl | exact Nat.le_of_ble_eq_true rfl))) (@zH _ _ _ _ _ _ _ _ _ yU rfl B.int u7 (@za _ _ _ _ _ (@xp _ _ _ _ _ _ _ _ YN (@zf _ _ _ _ _ _ _ _ _ _ qc1 hr rfl (@za _ _ _ _ _ (pv 0) (@za _ _ _ _ _ ze zc (by first | rfl | decide | exact Or.inl rfl | exact Or.inr rfl | exact Or.inr (Or.inl rfl) | exact Or.inr (Or.inr rfl) | exact fun _=>rfl | exact Nat.le_of_ble_eq_true rfl)) (by first | rfl | decide | exact Or.inl rfl | exact Or.inr rfl | exact Or.inr (Or.inl rfl) | exact Or.inr (Or.inr rfl) | exact fun _=>rfl | exact Nat.le_of_ble_eq_true rfl)) (by first | rfl | decide | exact Or.inl rfl | exact Or.inr rfl | exact Or.inr (Or.inl rfl) | exact Or.inr (Or.inr rfl) | exact fun _=>rfl | exact Nat.le_of_ble_eq_true rfl) (by first | rfl | decide | exact Or.inl rfl | exact Or.inr rfl | exact Or.inr (Or.inl rfl) | exact Or.inr (Or.inr rfl) | exact fun _=>rfl | exact Nat.le_of_ble_eq_true rfl) (by first | rfl | decide | exact Or.inl rfl | exact Or.inr rfl | exact Or.inr (Or.inl rfl) | exact Or.inr (Or.inr rfl) | exact fun _=>rfl | exact Nat.le_of_ble_eq_true rfl)) ze (zA _)) zc (by first | rfl | decide | exact Or.inl rfl | exact Or.inr rfl | exact Or.inr (Or.inl rfl) | exact Or.inr (Or.inr rfl) | exact fun _=>rfl | exact Nat.le_of_ble_eq_true rfl)) (by first | rfl | decide | exact Or.inl rfl | exact Or.inr rfl | exact Or.inr (Or.inl rfl) | exact Or.inr (Or.inr rfl) | exact fun _=>rfl | exact Nat.le_of_ble_eq_true rfl) (by first | rfl | decide | exact Or.inl rfl | exact Or.inr rfl | exact Or.inr (Or.inl rfl) | exact Or.inr (Or.inr rfl) | exact fun _=>rfl | exact Nat.le_of_ble_eq_true rfl) (by first | rfl | decide | exact Or.inl rfl | exact Or.inr rfl | exact Or.inr (Or.inl rfl) | exact Or.inr (Or.inr rfl) | exact fun _=>rfl | exact Nat.le_of_ble_eq_true rfl) (by first | rfl | decide | exact Or.inl rfl | exact Or.inr rfl | exact Or.inr (Or.inl rfl) | exact Or.inr (Or.inr rfl) | exact fun _=>rfl | exact Nat.le_of_ble_eq_true rfl)) (fun _ _=>rfl)) zc (by first | rfl | decide | exact Or.inl rfl | exact Or.inr rfl | exact Or.inr (Or.inl rfl) | exact Or.inr (Or.inr rfl) | exact fun _=>rfl | exact Nat.le_of_ble_eq_true rfl))) (pv 3))))))))))))),?_⟩
 have pm':∀ b ∈ [p],b ∈ m:=fun b hb=>by rw [List.mem_singleton.mp hb]; exact pm
 have b200:(1000:Int) < 2 ^ 200:=by decide
 refine wx (fun v H'=>∃ k:Nat,v = .int k /\ k <= 4 /\ Grow [p] H H' /\ zB H' p) (fun Kk hk=>⟨_,rfl,_,_,rfl,p,5,rfl,rfl,pp,by decide,by decide,fun n H' n0 n1 g pp'=>hk _ _ ⟨n.toNat,congrArg V.int (by omega),by omega,g,pp'⟩⟩) ?_
 rintro _ H1 ⟨k,rfl,k4,g1,pp1⟩
 have om1:=occF g1 pp1 om
 have p16:=xr k4
 have hpos:0 < 2 ^ k:=Nat.two_pow_pos k
 have e1k:(1:Int) * 2 ^ ((k:Int)).toNat = ((2 ^ k:Nat):Int):=yW
 obtain ⟨W,hW⟩:∃ W:Nat,W = 2 ^ k:=⟨_,rfl⟩
 rw [← hW] at e1k p16 hpos
 refine wx (fun v H'=>v = .int (W:Int) /\ H' = H1) (fun Kk hk=>⟨_,rfl,_,_,rfl,rfl,vh k4,hk _ _ ⟨congrArg V.int e1k,rfl⟩⟩) ?_
 rintro _ H1' ⟨rfl,rfl⟩
 refine wx (fun v H'=>∃ l xs ds,v = .ref l /\ H' l = some (.lst xs) /\ H1' l = none /\ xs.length = 4 /\ Ods K (l :: m) H' xs ds /\ Grow [p] H1' H' /\ zB H' p /\ (∀ b ∈ l :: m,H' b ≠ none)) (fun Kk hk=>⟨_,rfl,by decide,by decide,xZ (fun j ys H'=>∃ ds,Ods K m H' ys ds /\ ys.length = j /\ Grow [p] H1' H' /\ zB H' p) ⟨[],.nil,rfl,Grow.refl _ _,pp1⟩ ?_ ?_⟩) ?_
 ·rintro j ys H2 hj ⟨ds,os,yl,g2,pp2⟩
  have j4:j < 4:=hj
  refine ⟨_,rfl,_,rfl,_,rfl,_,_,rfl,p,_,rfl,rfl,pp2,by omega,by omega,fun n H3 n0 n1 g3 pp3=>⟨_,rfl,_,_,_,rfl,p,W,.int n,m,rfl,pp3,.int _,rfl,pm,occF g3 pp3 (occF g2 pp2 om1),fun v d H4 g4 pp4 o4=>⟨zm (by omega),ds ++ [d],(os.grow ((g3.trans g4).mono pm')).append (.cons o4 .nil),by rw [List.length_append,yl]; rfl,g2.trans (g3.trans g4),pp4⟩⟩⟩
 ·rintro ys H2 ⟨ds,os,yl,g2,pp2⟩ l hl
  have gl:Grow (l :: m) H2 (upd H2 l (.lst ys)):=Grow.new hl _
  have om2:=occF g2 pp2 om1
  refine hk _ _ ⟨l,ys,ds,rfl,zb,g2.free (pp2.ne hl) hl,yl,(os.more37 hl).grow gl,g2.trans (Grow.new hl _),pp2.new hl _,fun b hb z=>?_⟩
  rcases List.mem_cons.mp hb with e | e
  ·rw [e,zb] at z; cases z
  ·rw [zu (fun w=>om2 b e (by rw [w]; exact hl))] at z
   exact om2 b e z
 rintro _ H2 ⟨l,xs,ds,rfl,hl,hl1,x4,os,g2,pp2,om2⟩
 have nl:l ∉ [p]:=fun z=>by
  have e:=List.mem_singleton.mp z
  rw [e] at hl1
  obtain ⟨z1,z2,z3,hz,_⟩:=pp1
  rw [hz] at hl1; cases hl1
 have pm2:∀ b ∈ [p],b ∈ l :: m:=fun b hb=>List.mem_cons_of_mem _ (pm' b hb)
 have pmem:p ∈ l :: m:=List.mem_cons_of_mem _ pm
 refine c_if (fun σ' H'=>∃ xs ds,σ' = [some (.ref p),some (.int k),some (.int W),some (.ref l),none,none] /\ H' l = some (.lst xs) /\ xs.length = 4 /\ Ods K (l :: m) H' xs ds /\ Grow [p] H1' H' /\ zB H' p /\ (∀ b ∈ l :: m,H' b ≠ none)) ?_ (fun kk=>?_)
 rotate_left
 ·refine ⟨_,rfl,_,_,rfl,p,4,rfl,rfl,pp2,by decide,by decide,fun n H3 n0 n1 g3 pp3=>⟨rfl,_,rfl,?_⟩⟩
  have hl3:=g3.keep _ _ nl hl
  have os3:=os.grow (g3.mono pm2)
  have om3:=occF g3 pp3 om2
  refine ite2 (fun c=>?_) (fun c=>kk _ _ ⟨xs,ds,rfl,hl3,x4,os3,g2.trans g3,pp3,om3⟩)
  obtain ⟨x0,x1,x2,x3,rfl⟩:∃ a b c d,xs = [a,b,c,d]:=by
   match xs,x4 with
   | [a,b,c,d],_=>exact ⟨a,b,c,d,rfl⟩
  refine ⟨_,rfl,l,_,0,_,rfl,rfl,SqL.of hl3,zR (j:=0) rfl,_,rfl,l,_,2,_,rfl,rfl,SqL.of hl3,zR (j:=2) rfl,szl rfl,fun t ht=>?_⟩
  have gt:=Grow.new (m:=[]) ht (.tup [x0,x2])
  have hl4:=gt.keep _ _ (by simp) hl3
  refine ⟨t,_,rfl,SqT.of zb,rfl,_,_,rfl,_,rfl,l,_,1,1,rfl,rfl,hl4,rfl,?_⟩
  refine ⟨_,_,rfl,_,rfl,l,_,3,3,rfl,rfl,zb,rfl,rfl,?_⟩
  obtain ⟨d0,_,o0⟩:=os3.get (show ([x0,x1,x2,x3]:List V)[0]? = some x0 from rfl)
  obtain ⟨d2,_,o2⟩:=os3.get (show ([x0,x1,x2,x3]:List V)[2]? = some x2 from rfl)
  have lm:l ∈ l :: m:=List.mem_cons_self ..
  have G:Grow (l :: m) H3 (upd (upd (upd H3 t (.tup [x0,x2])) l (.lst ([x0,x1,x2,x3].set 1 x0))) l (.lst (([x0,x1,x2,x3].set 1 x0).set 3 x2))):=gt.wk.trans ((Grow.set hl4 lm _).trans (Grow.set zb lm _))
  have A0:=o0.grow G
  have A2:=o2.grow G
  exact kk _ _ ⟨[x0,x0,x2,x2],[d0,d0,d2,d2],rfl,zb,rfl,.cons A0 (.cons A0 (.cons A2 (.cons A2 .nil))),((g2.trans (g3.trans gt.wk)).put37 hl1 _).put37 hl1 _,qK (qK (pp3.grow gt) nl) nl,YF (YF (zN gt om3))⟩
 clear os hl g2 pp2 om2 x4 H2
 rintro σ' H3 ⟨xs,ds,rfl,hl3,x4,os3,g3,pp3,om3⟩
 refine wx (fun v H'=>∃ (r:Addr) (bs:List Int),v = .ref r /\ SqT K H' r (bs.map V.int) /\ bs.length = W /\ Grow [p] H3 H' /\ zB H' p) (fun Kk hk=>⟨_,rfl,_,rfl,by omega,by omega,xZ (fun j ys H'=>∃ bs:List Int,ys = bs.map V.int /\ bs.length = j /\ Grow [p] H3 H' /\ zB H' p) ⟨[],rfl,rfl,Grow.refl _ _,pp3⟩ ?_ ?_⟩) ?_
 ·rintro j ys H4 hj ⟨bs,rfl,bl,g4,pp4⟩
  have hjW:j < W:=by omega
  exact ⟨_,rfl,_,rfl,_,_,rfl,p,_,rfl,rfl,pp4,by omega,by omega,fun n H5 n0 n1 g5 pp5=>⟨zm (by rw [List.length_map]; omega),bs ++ [n],by rw [List.map_append]; rfl,by rw [List.length_append,bl]; rfl,g4.trans g5,pp5⟩⟩
 ·rintro ys H4 ⟨bs,rfl,bl,g4,pp4⟩ l4 hl4
  refine ⟨l4,_,rfl,.inl ⟨SqL.of zb,fun r hr=>?_⟩⟩
  have g5:=(Grow.new (m:=[]) hl4 (.lst (bs.map V.int))).trans (Grow.new (m:=[]) hr (.tup (bs.map V.int)))
  exact hk _ _ ⟨r,bs,rfl,SqT.of zb,by omega,g4.trans g5.wk,pp4.grow g5⟩
 rintro _ H4 ⟨r,bs,rfl,hr,bl,g4,pp4⟩
 have om4:=occF g4 pp4 om3
 refine c_if (fun σ' H'=>∃ v d,σ' = [some (.ref p),some (.int k),some (.int W),some (.ref l),some v,none] /\ Od K (l :: m) H' v d /\ Grow [p] H4 H' /\ zB H' p) ?_ (fun kk=>?_)
 rotate_left
 ·refine ⟨_,rfl,_,_,rfl,p,3,rfl,rfl,pp4,by decide,by decide,fun n H5 n0 n1 g5 pp5=>⟨rfl,_,rfl,?_⟩⟩
  have om5:=occF g5 pp5 om4
  refine ite2 (fun c=>?_) (fun c=>kk _ _ ⟨_,_,rfl,.tup (g5.sqT hr) Xi,g5,pp5⟩)
  refine ⟨_,rfl,_,rfl,_,rfl,_,rfl,_,_,rfl,p,W,l :: m,rfl,pp5,rfl,pmem,om5,fun u du H6 g6 pp6 ou=>?_⟩
  exact ⟨_,_,_,rfl,p,r,bs.map V.int,bs.map .int,du,l :: m,rfl,pp6,rfl,g6.sqT (g5.sqT hr),Xi,by rw [List.length_map]; omega,ou,pmem,occF g6 pp6 om5,fun v d H7 fw g7 pp7 o7=>kk _ _ ⟨v,d,rfl,o7,g5.trans (g6.trans g7),pp7⟩⟩
 rintro σ' H5 ⟨sv,sd,rfl,osd,g5,pp5⟩
 have om5:=occF g5 pp5 om4
 refine wx (fun v H'=>∃ rows,vg K H' v rows /\ rows.length = k /\ Grow [p] H5 H' /\ zB H' p) (fun Kk hk=>⟨_,rfl,_,rfl,_,_,rfl,p,k,rfl,rfl,k4,pp5,fun y rows H' g pp' hR hset=>hk _ _ ⟨rows,hR,hset.1,g,pp'⟩⟩) ?_
 rintro tv0 H6 ⟨rows,hR,rl,g6,pp6⟩
 have om6:=occF g6 pp6 om5
 refine c_if (fun σ' H'=>∃ v d,σ' = [some (.ref p),some (.int k),some (.int W),some (.ref l),some sv,some v] /\ Od K (l :: m) H' v d /\ Grow [p] H6 H' /\ zB H' p) ?_ (fun kk=>?_)
 rotate_left
 ·refine ⟨_,rfl,_,_,rfl,p,3,rfl,rfl,pp6,by decide,by decide,fun n H7 n0 n1 g7 pp7=>⟨rfl,_,rfl,?_⟩⟩
  have om7:=occF g7 pp7 om6
  have hR7:=g7.rows hR
  refine ite2 (fun c=>?_) (fun c=>kk _ _ ⟨_,_,rfl,qG hR7,g7,pp7⟩)
  obtain ⟨rr,rxs,rfl,hrr,hrx⟩:=hR7
  have rxl:=hrx.len
  have q16:=xr (show k - 1 <= 4 by omega)
  have em:(if (k:Int) - 1 > 0 then (k:Int) - 1 else 0) = ((k - 1:Nat):Int):=by split <;> omega
  refine ⟨_,rfl,_,rfl,l :: m,trivial,om7,fun x1 Ha ga oa=>⟨szl rfl,fun t ht=>?_⟩⟩
  have gt:=Grow.new (m:=[]) ht (.tup [.int 2])
  refine ⟨_,rfl,_,_,rfl,rfl,_,_,rfl,_,_,rfl,rfl,⟨by rw [em]; omega,by rw [em]; omega,by decide⟩,t,2 ^ (k - 1),[.int 2],rfl,congrArg V.int (by rw [em]; exact yW),SqT.of zb,by simp,Nat.le_of_lt (zm (by show 1 * _ <= 1000; omega)),fun p1 Hb gb hb=>⟨szl rfl,fun la hla=>?_⟩⟩
  rw [YC] at hb
  have g8:=ga.trans (gt.trans gb)
  have gl:=Grow.new (m:=[]) hla (.lst [x1,.ref p1,.int 0,.non])
  have ol:Ods K (l :: m) _ [x1,.ref p1,.int 0,.non] [.tuple [],.tuple (List.replicate (2 ^ (k - 1)) (.int 2)),.int 0,.none]:=(Ods.cons (oa.grow (gt.trans gb).wk) (.cons (.tup hb (qL _)) (.cons (.int 0) (.cons .non .nil)))).grow (gl.wk (m:=l :: m))
  have nla:=(pp7.grow g8).ne hla
  have ppl:=(pp7.grow g8).grow gl
  have hla':upd Hb la (.lst [x1,.ref p1,.int 0,.non]) la = some (.lst [x1,.ref p1,.int 0,.non]):=zb
  have g9:=g8.trans gl
  generalize upd Hb la _ = Hc at ol ppl hla' g9 ⊢
  refine ⟨_,rfl,_,_,rfl,p,4,rfl,rfl,ppl,by decide,by decide,fun n H8 n0 n1 g10 pp8=>?_⟩
  obtain ⟨j,rfl⟩:∃ j:Nat,n = j:=⟨n.toNat,by omega⟩
  obtain ⟨x,hx⟩:∃ x,([x1,.ref p1,.int 0,.non]:List V)[j]? = some x:=⟨_,List.getElem?_eq_getElem (by show j < 4; omega)⟩
  obtain ⟨e,he,o⟩:=ol.get hx
  refine ⟨la,_,j,x,rfl,rfl,SqL.of (g10.keep _ _ nla hla'),zR hx,?_⟩
  have gB:Grow [p] H7 H8:=g9.wk.trans g10
  exact ⟨_,_,_,rfl,p,rr,rxs,rows.map rowD,e,l :: m,rfl,pp8,rfl,gB.sqT hrr,tG (gB.boardsR hrx),by omega,o.grow (g10.mono pm2),pmem,occF gB pp8 om7,fun v d H9 fw g11 pp9 o9=>kk _ _ ⟨v,d,rfl,o9,g7.trans (gB.trans g11),pp9⟩⟩
 rintro σ' H7 ⟨tv,td,rfl,otd,g7,pp7⟩
 have om7:=occF g7 pp7 om6
 have G7:Grow [p] H3 H7:=g4.trans (g5.trans (g6.trans g7))
 refine wx (fun v H'=>∃ (l3:Addr) (pv:V) (dp:PyData),v = .ref l3 /\ l3 ∉ [p] /\ H' l3 = some (.lst (xs ++ [pv,sv,tv])) /\ Ods K (l :: m) H' (xs ++ [pv,sv,tv]) (ds ++ [dp,sd,td]) /\ xT dp /\ Grow [p] H7 H' /\ zB H' p) (fun Kk hk=>?_) ?_
 ·refine ⟨_,rfl,_,rfl,_,rfl,_,_,rfl,p,k,l :: m,rfl,pp7,rfl,k4,pmem,om7,fun pv dp H8 fw g8 pp8 o8=>⟨_,rfl,_,rfl,szl rfl,fun l2 hl2=>?_⟩⟩
  have gl2:=Grow.new (m:=[]) hl2 (.lst [pv,sv,tv])
  have hl8:=gl2.keep _ _ (by simp) (g8.keep _ _ nl (G7.keep _ _ nl hl3))
  refine ⟨l,l2,_,_,rfl,rfl,hl8,zb,Nat.le_of_lt (zm (by rw [x4]; show 4 + 3 <= 1000; decide)),fun l3 hl3'=>?_⟩
  have gl3:=Grow.new (m:=[]) hl3' (.lst (xs ++ [pv,sv,tv]))
  have gE:Grow (l :: m) H8 (upd (upd H8 l2 (.lst [pv,sv,tv])) l3 (.lst (xs ++ [pv,sv,tv]))):=(gl2.trans gl3).wk
  have g8':=g8.mono pm2
  exact hk _ _ ⟨l3,pv,dp,rfl,(pp8.grow gl2).ne hl3',zb,(os3.grow ((G7.mono pm2).trans (g8'.trans gE))).append (.cons (o8.grow gE) (.cons (osd.grow ((g6.mono pm2).trans ((g7.mono pm2).trans (g8'.trans gE)))) (.cons (otd.grow (g8'.trans gE)) .nil))),fw,g8.trans (gl2.trans gl3).wk,(pp8.grow gl2).grow gl3⟩
 rintro _ H8 ⟨l3,pv,dp,rfl,nl3,hl8,os8,fw,g8,pp8⟩
 have om8:=occF g8 pp8 om7
 refine ⟨_,rfl,_,_,rfl,p,5,l :: m,rfl,pp8,rfl,pmem,om8,fun u du H9 g9 pp9 ou=>⟨_,rfl,szl rfl,fun la hla=>?_⟩⟩
 have gla:=Grow.new (m:=[]) hla (.lst [u,.int k])
 have nla:=pp9.ne hla
 have ppa:=pp9.grow gla
 have hla':upd H9 la (.lst [u,.int k]) la = some (.lst [u,.int k]):=zb
 have oua:=ou.grow (gla.wk (m:=l :: m))
 have g9a:=g9.trans gla.wk
 generalize upd H9 la _ = Ha at gla ppa hla' oua g9a ⊢
 refine ⟨_,rfl,_,_,rfl,p,5,rfl,rfl,ppa,by decide,by decide,fun n H10 n0 n1 g10 pp10=>⟨_,_,rfl,rfl,.inr ⟨_,rfl,?_⟩⟩⟩
 have gA:Grow [p] H8 H10:=g9a.trans g10
 have hl10:=gA.keep _ _ nl3 hl8
 have os10:=os8.grow (gA.mono pm2)
 have dl:ds.length = 4:=by have:=os3.length; omega
 have hfew:∀ dz:PyData,xT (([dz] ++ (ds ++ [dp,sd,td])).getD 5 .none):=fun dz=>by
  match ds,dl with
  | [_,_,_,_],_=>exact fw
 have GG:Grow [p] H H10:=g1.trans (g3.trans (G7.trans (g8.trans gA)))
 by_cases c:0 < n
 ·rw [decide_eq_true c]
  refine ⟨la,_,1,_,rfl,rfl,SqL.of (g10.keep _ _ nla hla'),zR (j:=1) rfl,?_⟩
  have oz:Od K (l :: m) H10 (V.int k) (.int k):=.int _
  refine ⟨szl rfl,fun lb hlb=>?_⟩
  have glb:=Grow.new (m:=[]) hlb (.lst [(V.int k)])
  refine ⟨_,rfl,lb,l3,_,_,rfl,rfl,zb,glb.keep _ _ (by simp) hl10,Nat.le_of_lt (zm (by show 1 + (xs ++ [pv,sv,tv]).length <= 1000; rw [List.length_append,x4]; show 1 + (4 + 3) <= 1000; decide)),fun lc hlc=>?_⟩
  have glc:=Grow.new (m:=[]) hlc (.lst ([(V.int k)] ++ (xs ++ [pv,sv,tv])))
  have gz:Grow (l :: m) H10 (upd (upd H10 lb (.lst [(V.int k)])) lc (.lst ([(V.int k)] ++ (xs ++ [pv,sv,tv])))):=(glb.trans glc).wk
  have oz':Ods K (l :: m) (upd (upd H10 lb (.lst [(V.int k)])) lc (.lst ([(V.int k)] ++ (xs ++ [pv,sv,tv])))) ([(V.int k)] ++ (xs ++ [pv,sv,tv])) ([(.int k)] ++ (ds ++ [dp,sd,td])):=(Ods.cons (oz.grow gz) .nil).append (os10.grow gz)
  exact q lc _ _ _ (GG.trans (glb.trans glc).wk) ((pp10.grow glb).grow glc) zb ((pp10.grow glb).ne hlc) ⟨SqL.of zb,oz'.less37 (fun b hb=>List.mem_cons_of_mem _ hb),by rw [List.length_append,List.length_append,dl]; rfl,hfew _⟩
 ·rw [decide_eq_false c]
  refine ⟨la,_,0,_,rfl,rfl,SqL.of (g10.keep _ _ nla hla'),zR (j:=0) rfl,?_⟩
  have oz:Od K (l :: m) H10 u du:=oua.grow (g10.mono pm2)
  refine ⟨szl rfl,fun lb hlb=>?_⟩
  have glb:=Grow.new (m:=[]) hlb (.lst [u])
  refine ⟨_,rfl,lb,l3,_,_,rfl,rfl,zb,glb.keep _ _ (by simp) hl10,Nat.le_of_lt (zm (by show 1 + (xs ++ [pv,sv,tv]).length <= 1000; rw [List.length_append,x4]; show 1 + (4 + 3) <= 1000; decide)),fun lc hlc=>?_⟩
  have glc:=Grow.new (m:=[]) hlc (.lst ([u] ++ (xs ++ [pv,sv,tv])))
  have gz:Grow (l :: m) H10 (upd (upd H10 lb (.lst [u])) lc (.lst ([u] ++ (xs ++ [pv,sv,tv])))):=(glb.trans glc).wk
  have oz':Ods K (l :: m) (upd (upd H10 lb (.lst [u])) lc (.lst ([u] ++ (xs ++ [pv,sv,tv])))) ([u] ++ (xs ++ [pv,sv,tv])) ([du] ++ (ds ++ [dp,sd,td])):=(Ods.cons (oz.grow gz) .nil).append (os10.grow gz)
  exact q lc _ _ _ (GG.trans (glb.trans glc).wk) ((pp10.grow glb).grow glc) zb ((pp10.grow glb).ne hlc) ⟨SqL.of zb,oz'.less37 (fun b hb=>List.mem_cons_of_mem _ hb),by rw [List.length_append,List.length_append,dl]; rfl,hfew _⟩
theorem wN:FnScope ["_law_script","_law_k","_law_cell"] ["_law_script","_law_k"] (zh (top 46)):=⟨rfl,rfl,rfl,by decide +kernel,rfl,by decide +kernel,by decide +kernel⟩
theorem tR (F:Fun K "_law_purse" "_law_purse" (top 46) f fd) (B:Blt mg)     :
  FnOk P w K mg base CX0 (n + 1) f fd ["_law_script","_law_k"] (su K):=by
 refine F.ok wN yk (fun cdv A outer s H vs Q E hr h=>?_)
 obtain ⟨x,y,rfl,a,ns,k,rfl,rfl,hs,k0,k1,q⟩:=h
 refine ⟨_,(zd (zD (i:=2) wN.nd rfl (Or.inl rfl) (r6 (zz jB (pv 1) (zj zC rfl B.len wu (za (pv 0) zc)) (zA _)) (yj zJ (pv 0) (pv 1) (fun _ _=>rfl)) ze)) (zg (zo (zZ (za (zj (vG rfl) rfl B.max ZS (za ze (za (zv y0 (pv 2) (zv qb ze ze)) zc))) (za (pv 2) (za (pv 1) zc))))))),?_⟩
 have hs2:=hs.sq
 have hl:(ns.map V.int).length = ns.length:=List.length_map ..
 refine ⟨_,rfl,_,rfl,a,_,rfl,.inl hs2,_,_,rfl,rfl,_,rfl,?_⟩
 by_cases c:k < ((ns.map V.int).length:Int)
 ·refine yd (decide_eq_true c) ?_
  have hj:k.toNat < ns.length:=by omega
  refine ⟨_,rfl,_,rfl,a,_,_,V.int ns[k.toNat],rfl,rfl,hs2,ZX (u8 k0 (by omega)) (by rw [List.getElem?_map,List.getElem?_eq_getElem hj]; rfl),?_⟩
  refine ⟨_,rfl,_,_,rfl,rfl,⟨by decide,by decide,by decide⟩,_,_,rfl,rfl,_,_,rfl,_,rfl,_,rfl,szl rfl,fun p hp=>q p _ hp (Grow.new hp _) ⟨_,_,_,zb,?_⟩⟩
  show 0 <= (if (ns[k.toNat] - 10 ^ (18:Int).toNat) > 0 then _ else _)
  split <;> omega
 ·refine zy (decide_eq_false c) ?_
  refine ⟨_,rfl,_,_,rfl,rfl,⟨by decide,by decide,by decide⟩,_,_,rfl,rfl,_,_,rfl,_,rfl,_,rfl,szl rfl,fun p hp=>q p _ hp (Grow.new hp _) ⟨_,_,_,zb,?_⟩⟩
  show 0 <= (if ((0:Int) - 10 ^ (18:Int).toNat) > 0 then _ else _)
  split <;> omega
theorem uX:FnScope ["_law_script","_law_cell","_law_purse_here","_law_turn","_law_drawn_here","_law_way_of"] ["_law_script"] (zh (top 64)):=⟨rfl,rfl,rfl,by decide +kernel,rfl,by decide +kernel,by decide +kernel⟩
theorem X9 (F:Fun K "law" "law" (top 64) f fd) (B:Blt mg) {A_NoNet:Addr} {A_NoHand:Addr} {A_NoSide:Addr} {A_NoSettings:Addr} (x_NoNet:ExcC K mg "NoNet" A_NoNet) (x_NoHand:ExcC K mg "NoHand" A_NoHand) (x_NoSide:ExcC K mg "NoSide" A_NoSide) (x_NoSettings:ExcC K mg "NoSettings" A_NoSettings) (qc0:zq P w K mg base n "led" ["k","settings"] (vE (clsA A_NoNet A_NoHand A_NoSide A_NoSettings) K)) (qc1:zq P w K mg base n "way" ["k","hand","side"] (v8 (clsA A_NoNet A_NoHand A_NoSide A_NoSettings) K)) (qc2:zi P w K mg base n "_law_said" ["_law_way_of","_law_drawn_here"] (vF K)) (qc3:zi P w K mg base n "_law_due" ["_law_way_of","_law_drawn_here"] (vF K)) (qc4:zi P w K mg base n "_law_drawn" ["_law_purse_here"] (uW K)) (qc5:zi P w K mg base n "_law_purse" ["_law_script","_law_k"] (su K))    :
  FnOk P w K mg base CX0 (n + 1) f fd ["_law_script"] (qh K):=by
 refine F.ok uX wQ (fun cdv A outer s H vs Q E hr h=>?_)
 obtain ⟨x,rfl,a,ns,rfl,hs,h63,q⟩:=h
 refine ⟨_,(@zd _ _ _ _ _ (@yZ _ _ _ _ _ _ _ _ PassesOwn.never rfl (@yh _ _ _ _ _ _ rfl B.range (@za _ _ _ _ _ (@zj _ _ _ _ _ _ _ _ _ (vG rfl) rfl B.max ZS (@za _ _ _ _ _ ze (@za _ _ _ _ _ (@zj _ _ _ _ _ _ _ _ _ (jC rfl) rfl B.min Xz (@za _ _ _ _ _ ze (@za _ _ _ _ _ (@zj _ _ _ _ _ _ _ _ _ zC rfl B.len wu (@za _ _ _ _ _ (pv 0) zc (by first | rfl | decide | exact Or.inl rfl | exact Or.inr rfl | exact Or.inr (Or.inl rfl) | exact Or.inr (Or.inr rfl) | exact fun _=>rfl | exact Nat.le_of_ble_eq_true rfl)) (by first | rfl | decide | exact Or.inl rfl | exact Or.inr rfl | exact Or.inr (Or.inl rfl) | exact Or.inr (Or.inr rfl) | exact fun _=>rfl | exact Nat.le_of_ble_eq_true rfl) (by first | rfl | decide | exact Or.inl rfl | exact Or.inr rfl | exact Or.inr (Or.inl rfl) | exact Or.inr (Or.inr rfl) | exact fun _=>rfl | exact Nat.le_of_ble_eq_true rfl) (by first | rfl | decide | exact Or.inl rfl | exact Or.inr rfl | exact Or.inr (Or.inl rfl) | exact Or.inr (Or.inr rfl) | exact fun _=>rfl | exact Nat.le_of_ble_eq_true rfl) (by first | rfl | decide | exact Or.inl rfl | exact Or.inr rfl | exact Or.inr (Or.inl rfl) | exact Or.inr (Or.inr rfl) | exact fun _=>rfl | exact Nat.le_of_ble_eq_true rfl)) zc (by first | rfl | decide | exact Or.inl rfl | exact Or.inr rfl | exact Or.inr (Or.inl rfl) | exact Or.inr (Or.inr rfl) | exact fun _=>rfl | exact Nat.le_of_ble_eq_true rfl)) (by first | rfl | decide | exact Or.inl rfl | exact Or.inr rfl | exact Or.inr (Or.inl rfl) | exact Or.inr (Or.inr rfl) | exact fun _=>rfl | exact Nat.le_of_ble_eq_true rfl)) (by first | rfl | decide | exact Or.inl rfl | exact Or.inr rfl | exact Or.inr (Or.inl rfl) | exact Or.inr (Or.inr rfl) | exact fun _=>rfl | exact Nat.le_of_ble_eq_true rfl) (by first | rfl | decide | exact Or.inl rfl | exact Or.inr rfl | exact Or.inr (Or.inl rfl) | exact Or.inr (Or.inr rfl) | exact fun _=>rfl | exact Nat.le_of_ble_eq_true rfl) (by first | rfl | decide | exact Or.inl rfl | exact Or.inr rfl | exact Or.inr (Or.inl rfl) | exact Or.inr (Or.inr rfl) | exact fun _=>rfl | exact Nat.le_of_ble_eq_true rfl) (by first | rfl | decide | exact Or.inl rfl | exact Or.inr rfl | exact Or.inr (Or.inl rfl) | exact Or.inr (Or.inr rfl) | exact fun _=>rfl | exact Nat.le_of_ble_eq_true rfl)) zc (by first | rfl | decide | exact Or.inl rfl | exact Or.inr rfl | exact Or.inr (Or.inl rfl) | exact Or.inr (Or.inr rfl) | exact fun _=>rfl | exact Nat.le_of_ble_eq_true rfl)) (by first | rfl | decide | exact Or.inl rfl | exact Or.inr rfl | exact Or.inr (Or.inl rfl) | exact Or.inr (Or.inr rfl) | exact fun _=>rfl | exact Nat.le_of_ble_eq_true rfl)) (by first | rfl | decide | exact Or.inl rfl | exact Or.inr rfl | exact Or.inr (Or.inl rfl) | exact Or.inr (Or.inr rfl) | exact fun _=>rfl | exact Nat.le_of_ble_eq_true rfl) (by first | rfl | decide | exact Or.inl rfl | exact Or.inr rfl | exact Or.inr (Or.inl rfl) | exact Or.inr (Or.inr rfl) | exact fun _=>rfl | exact Nat.le_of_ble_eq_true rfl) (by first | rfl | decide | exact Or.inl rfl | exact Or.inr rfl | exact Or.inr (Or.inl rfl) | exact Or.inr (Or.inr rfl) | exact fun _=>rfl | exact Nat.le_of_ble_eq_true rfl) (by first | rfl | decide | exact Or.inl rfl | exact Or.inr rfl | exact Or.inr (Or.inl rfl) | exact Or.inr (Or.inr rfl) | exact fun _=>rfl | exact Nat.le_of_ble_eq_true rfl)) zc (by first | rfl | decide | exact Or.inl rfl | exact Or.inr rfl | exact Or.inr (Or.inl rfl) | exact Or.inr (Or.inr rfl) | exact fun _=>rfl | exact Nat.le_of_ble_eq_true rfl)) (by first | rfl | decide | exact Or.inl rfl | exact Or.inr rfl | exact Or.inr (Or.inl rfl) | exact Or.inr (Or.inr rfl) | exact fun _=>rfl | exact Nat.le_of_ble_eq_true rfl)) (zn (i:=1) uX.nd rfl (Or.inl rfl)) (@zd _ _ _ _ _ (@zD _ _ 2 _ _ _ _ uX.nd rfl (Or.inl rfl) (@zf _ _ _ _ _ _ _ _ _ _ qc5 hr rfl (@za _ _ _ _ _ (pv 0) (@za _ _ _ _ _ (pv 1) zc (by first | rfl | decide | exact Or.inl rfl | exact Or.inr rfl | exact Or.inr (Or.inl rfl) | exact Or.inr (Or.inr rfl) | exact fun _=>rfl | exact Nat.le_of_ble_eq_true rfl)) (by first | rfl | decide | exact Or.inl rfl | exact Or.inr rfl | exact Or.inr (Or.inl rfl) | exact Or.inr (Or.inr rfl) | exact fun _=>rfl | exact Nat.le_of_ble_eq_true rfl)) (by first | rfl | decide | exact Or.inl rfl | exact Or.inr rfl | exact Or.inr (Or.inl rfl) | exact Or.inr (Or.inr rfl) | exact fun _=>rfl | exact Nat.le_of_ble_eq_true rfl) (by first | rfl | decide | exact Or.inl rfl | exact Or.inr rfl | exact Or.inr (Or.inl rfl) | exact Or.inr (Or.inr rfl) | exact fun _=>rfl | exact Nat.le_of_ble_eq_true rfl) (by first | rfl | decide | exact Or.inl rfl | exact Or.inr rfl | exact Or.inr (Or.inl rfl) | exact Or.inr (Or.inr rfl) | exact fun _=>rfl | exact Nat.le_of_ble_eq_true rfl)) (by first | rfl | decide | exact Or.inl rfl | exact Or.inr rfl | exact Or.inr (Or.inl rfl) | exact Or.inr (Or.inr rfl) | exact fun _=>rfl | exact Nat.le_of_ble_eq_true rfl) (by first | rfl | decide | exact Or.inl rfl | exact Or.inr rfl | exact Or.inr (Or.inl rfl) | exact Or.inr (Or.inr rfl) | exact fun _=>rfl | exact Nat.le_of_ble_eq_true rfl)) (@zd _ _ _ _ _ (@yZ _ _ _ _ _ _ _ _ PassesOwn.never rfl (@yh _ _ _ _ _ _ rfl B.range (@za _ _ _ _ _ ze zc (by first | rfl | decide | exact Or.inl rfl | exact Or.inr rfl | exact Or.inr (Or.inl rfl) | exact Or.inr (Or.inr rfl) | exact fun _=>rfl | exact Nat.le_of_ble_eq_true rfl)) (by first | rfl | decide | exact Or.inl rfl | exact Or.inr rfl | exact Or.inr (Or.inl rfl) | exact Or.inr (Or.inr rfl) | exact fun _=>rfl | exact Nat.le_of_ble_eq_true rfl)) (zn (i:=3) uX.nd rfl (Or.inl rfl)) (@zd _ _ _ _ _ (@zD _ _ 4 _ _ _ _ uX.nd rfl (Or.inl rfl) (@zf _ _ _ _ _ _ _ _ _ _ qc4 hr rfl (@za _ _ _ _ _ (pv 2) zc (by first | rfl | decide | exact Or.inl rfl | exact Or.inr rfl | exact Or.inr (Or.inl rfl) | exact Or.inr (Or.inr rfl) | exact fun _=>rfl | exact Nat.le_of_ble_eq_true rfl)) (by first | rfl | decide | exact Or.inl rfl | exact Or.inr rfl | exact Or.inr (Or.inl rfl) | exact Or.inr (Or.inr rfl) | exact fun _=>rfl | exact Nat.le_of_ble_eq_true rfl) (by first | rfl | decide | exact Or.inl rfl | exact Or.inr rfl | exact Or.inr (Or.inl rfl) | exact Or.inr (Or.inr rfl) | exact fun _=>rfl | exact Nat.le_of_ble_eq_true rfl) (by first | rfl | decide | exact Or.inl rfl | exact Or.inr rfl | exact Or.inr (Or.inl rfl) | exact Or.inr (Or.inr rfl) | exact fun _=>rfl | exact Nat.le_of_ble_eq_true rfl)) (by first | rfl | decide | exact Or.inl rfl | exact Or.inr rfl | exact Or.inr (Or.inl rfl) | exact Or.inr (Or.inr rfl) | exact fun _=>rfl | exact Nat.le_of_ble_eq_true rfl) (by first | rfl | decide | exact Or.inl rfl | exact Or.inr rfl | exact Or.inr (Or.inl rfl) | exact Or.inr (Or.inr rfl) | exact fun _=>rfl | exact Nat.le_of_ble_eq_true rfl)) (@zg _ _ _ (@yZ _ _ _ _ _ _ _ _ PassesOwn.never rfl (@yh _ _ _ _ _ _ rfl B.range (@za _ _ _ _ _ ze zc (by first | rfl | decide | exact Or.inl rfl | exact Or.inr rfl | exact Or.inr (Or.inl rfl) | exact Or.inr (Or.inr rfl) | exact fun _=>rfl | exact Nat.le_of_ble_eq_true rfl)) (by first | rfl | decide | exact Or.inl rfl | exact Or.inr rfl | exact Or.inr (Or.inl rfl) | exact Or.inr (Or.inr rfl) | exact fun _=>rfl | exact Nat.le_of_ble_eq_true rfl)) (zn (i:=5) uX.nd rfl (Or.inl rfl)) (@zg _ _ _ (@zY _ _ _ _ _ _ _ _ (@zz _ _ _ _ _ _ _ _ tT (@zf _ _ _ _ _ _ _ _ _ _ qc2 hr rfl (@za _ _ _ _ _ (pv 5) (@za _ _ _ _ _ (pv 4) zc (by first | rfl | decide | exact Or.inl rfl | exact Or.inr rfl | exact Or.inr (Or.inl rfl) | exact Or.inr (Or.inr rfl) | exact fun _=>rfl | exact Nat.le_of_ble_eq_true rfl)) (by first | rfl | decide | exact Or.inl rfl | exact Or.inr rfl | exact Or.inr (Or.inl rfl) | exact Or.inr (Or.inr rfl) | exact fun _=>rfl | exact Nat.le_of_ble_eq_true rfl)) (by first | rfl | decide | exact Or.inl rfl | exact Or.inr rfl | exact Or.inr (Or.inl rfl) | exact Or.inr (Or.inr rfl) | exact fun _=>rfl | exact Nat.le_of_ble_eq_true rfl) (by first | rfl | decide | exact Or.inl rfl | exact Or.inr rfl | exact Or.inr (Or.inl rfl) | exact Or.inr (Or.inr rfl) | exact fun _=>rfl | exact Nat.le_of_ble_eq_true rfl) (by first | rfl | decide | exact Or.inl rfl | exact Or.inr rfl | exact Or.inr (Or.inl rfl) | exact Or.inr (Or.inr rfl) | exact fun _=>rfl | exact Nat.le_of_ble_eq_true rfl)) (@zf _ _ _ _ _ _ _ _ _ _ qc3 hr rfl (@za _ _ _ _ _ (pv 5) (@za _ _ _ _ _ (pv 4) zc (by first | rfl | decide | exact Or.inl rfl | exact Or.inr rfl | exact Or.inr (Or.inl rfl) | exact Or.inr (Or.inr rfl) | exact fun _=>rfl | exact Nat.le_of_ble_eq_true rfl)) (by first | rfl | decide | exact Or.inl rfl | exact Or.inr rfl | exact Or.inr (Or.inl rfl) | exact Or.inr (Or.inr rfl) | exact fun _=>rfl | exact Nat.le_of_ble_eq_true rfl)) (by first | rfl | decide | exact Or.inl rfl | exact Or.inr rfl | exact Or.inr (Or.inl rfl) | exact Or.inr (Or.inr rfl) | exact fun _=>rfl | exact Nat.le_of_ble_eq_true rfl) (by first | rfl | decide | exact Or.inl rfl | exact Or.inr rfl | exact Or.inr (Or.inl rfl) | exact Or.inr (Or.inr rfl) | exact fun _=>rfl | exact Nat.le_of_ble_eq_true rfl) (by first | rfl | decide | exact Or.inl rfl | exact Or.inr rfl | exact Or.inr (Or.inl rfl) | exact Or.inr (Or.inr rfl) | exact fun _=>rfl | exact Nat.le_of_ble_eq_true rfl)) (zA _)) (@zg _ _ _ (@zo _ _ _ _ wO)) zx)) (by first | rfl | decide | exact Or.inl rfl | exact Or.inr rfl | exact Or.inr (Or.inl rfl) | exact Or.inr (Or.inr rfl) | exact fun _=>rfl | exact Nat.le_of_ble_eq_true rfl)))) (by first | rfl | decide | exact Or.inl rfl | exact Or.inr rfl | exact Or.inr (Or.inl rfl) | exact Or.inr (Or.inr rfl) | exact fun _=>rfl | exact Nat.le_of_ble_eq_true rfl)) (@zg _ _ _ (@zY _ _ _ _ _ _ _ _ (@PW.pt _ _ _ (@vk _ _ _ _ _ _ _ (@zz _ _ _ _ _ _ _ _ (Ys hr) (zw qc1 XV hr rfl (@za _ _ _ _ _ ze (@za _ _ _ _ _ ze (@za _ _ _ _ _ ze zc (by first | rfl | decide | exact Or.inl rfl | exact Or.inr rfl | exact Or.inr (Or.inl rfl) | exact Or.inr (Or.inr rfl) | exact fun _=>rfl | exact Nat.le_of_ble_eq_true rfl)) (by first | rfl | decide | exact Or.inl rfl | exact Or.inr rfl | exact Or.inr (Or.inl rfl) | exact Or.inr (Or.inr rfl) | exact fun _=>rfl | exact Nat.le_of_ble_eq_true rfl)) (by first | rfl | decide | exact Or.inl rfl | exact Or.inr rfl | exact Or.inr (Or.inl rfl) | exact Or.inr (Or.inr rfl) | exact fun _=>rfl | exact Nat.le_of_ble_eq_true rfl))) (@yg _ _ _ _ _ (@za _ _ _ _ _ ze (@za _ _ _ _ _ ze (@za _ _ _ _ _ ze zc (by first | rfl | decide | exact Or.inl rfl | exact Or.inr rfl | exact Or.inr (Or.inl rfl) | exact Or.inr (Or.inr rfl) | exact fun _=>rfl | exact Nat.le_of_ble_eq_true rfl)) (by first | rfl | decide | exact Or.inl rfl | exact Or.inr rfl | exact Or.inr (Or.inl rfl) | exact Or.inr (Or.inr rfl) | exact fun _=>rfl | exact Nat.le_of_ble_eq_true rfl)) (by first | rfl | decide | exact Or.inl rfl | exact Or.inr rfl | exact Or.inr (Or.inl rfl) | exact Or.inr (Or.inr rfl) | exact fun _=>rfl | exact Nat.le_of_ble_eq_true rfl))) (zA _)) (@xI _ _ _ _ (@zz _ _ _ _ _ _ _ _ (Ys hr) (zw qc0 XV hr rfl (@za _ _ _ _ _ ze (@za _ _ _ _ _ (@yg _ _ _ _ _ (@za _ _ _ _ _ (@yg _ _ _ _ _ (@za _ _ _ _ _ ze zc (by first | rfl | decide | exact Or.inl rfl | exact Or.inr rfl | exact Or.inr (Or.inl rfl) | exact Or.inr (Or.inr rfl) | exact fun _=>rfl | exact Nat.le_of_ble_eq_true rfl))) zc (by first | rfl | decide | exact Or.inl rfl | exact Or.inr rfl | exact Or.inr (Or.inl rfl) | exact Or.inr (Or.inr rfl) | exact fun _=>rfl | exact Nat.le_of_ble_eq_true rfl))) zc (by first | rfl | decide | exact Or.inl rfl | exact Or.inr rfl | exact Or.inr (Or.inl rfl) | exact Or.inr (Or.inr rfl) | exact fun _=>rfl | exact Nat.le_of_ble_eq_true rfl)) (by first | rfl | decide | exact Or.inl rfl | exact Or.inr rfl | exact Or.inr (Or.inl rfl) | exact Or.inr (Or.inr rfl) | exact fun _=>rfl | exact Nat.le_of_ble_eq_true rfl))) (@yg _ _ _ _ _ (@za _ _ _ _ _ ze (@za _ _ _ _ _ ze zc (by first | rfl | decide | exact Or.inl rfl | exact Or.inr rfl | exact Or.inr (Or.inl rfl) | exact Or.inr (Or.inr rfl) | exact fun _=>rfl | exact Nat.le_of_ble_eq_true rfl)) (by first | rfl | decide | exact Or.inl rfl | exact Or.inr rfl | exact Or.inr (Or.inl rfl) | exact Or.inr (Or.inr rfl) | exact fun _=>rfl | exact Nat.le_of_ble_eq_true rfl))) (zA _))))) (@zg _ _ _ (@zo _ _ _ _ wO)) zx)))) (by first | rfl | decide | exact Or.inl rfl | exact Or.inr rfl | exact Or.inr (Or.inl rfl) | exact Or.inr (Or.inr rfl) | exact fun _=>rfl | exact Nat.le_of_ble_eq_true rfl)) (@zg _ _ _ (@zo _ _ _ _ wO))),?_⟩
 have hl:(ns.map V.int).length = ns.length:=List.length_map ..
 refine ⟨_,rfl,a,_,rfl,.inl hs.sq,_,_,rfl,_,_,rfl,_,rfl,?_,?_,?_⟩
 ·split <;> split <;> omega
 ·rw [hl]; split <;> split <;> omega
 refine yG (fun i σ H'=>∃ (e1 e2 e3 e4 e5:Option V),σ = [some (.ref a),e1,e2,e3,e4,e5] /\ Grow [] H H') ⟨_,_,_,_,_,rfl,Grow.refl _ _⟩ ?_ ?_
 ·rintro i σ H1 hi ⟨e1,e2,e3,e4,e5,rfl,g⟩
  have i63:i < 1000:=by
   have hi':=hi
   revert hi'
   split <;> split <;> omega
  refine ⟨_,rfl,_,rfl,_,_,rfl,a,ns,_,rfl,rfl,g.scr hs,by omega,by omega,fun p H2 hp g2 pp=>?_⟩
  refine ⟨_,rfl,by decide,by decide,yG (fun j σ H'=>∃ (e3 e4 e5:Option V),σ = [some (.ref a),some (.int (0 + (i:Int))),some (.ref p),e3,e4,e5] /\ Grow [p] H2 H' /\ zB H' p) ⟨_,_,_,rfl,Grow.refl _ _,pp⟩ ?_ ?_⟩
  ·rintro j σ H3 hj ⟨e3,e4,e5,rfl,g3,pp3⟩
   refine ⟨_,rfl,_,rfl,p,[p],rfl,pp3,by simp,fun b hb=>?_,fun l xs ds H4 g4 pp4 hl4 nl hD=>?_⟩
   ·rw [List.mem_singleton.mp hb]
    obtain ⟨z1,z2,z3,hz,_⟩:=pp3
    rw [hz]; exact fun z=>nomatch z
   refine ⟨_,rfl,by decide,by decide,yG (fun w σ H'=>∃ (e5:Option V),σ = [some (.ref a),some (.int (0 + (i:Int))),some (.ref p),some (.int (0 + (j:Int))),some (.ref l),e5] /\ Grow [] H4 H') ⟨_,rfl,Grow.refl _ _⟩ ?_ ?_⟩
   ·rintro w σ H5 hw ⟨e5,rfl,g5⟩
    have w8:w < 8:=hw
    refine ⟨_,rfl,_,rfl,_,_,rfl,w,l,xs,ds,[p],congrArg V.int (Int.zero_add _),w8,rfl,hD.grow g5,fun H6 g6=>?_⟩
    refine ⟨_,rfl,_,rfl,_,_,rfl,w,l,xs,ds,[p],congrArg V.int (Int.zero_add _),w8,rfl,hD.grow (g5.trans g6),fun H7 g7=>?_⟩
    exact ⟨ZD _,_,rfl,zy (by rw [decide_eq_true rfl]; rfl) ⟨_,rfl,g5.trans (g6.trans g7)⟩⟩
   ·rintro σ H5 ⟨e5,rfl,g5⟩
    exact ⟨_,_,_,rfl,g3.trans (g4.trans g5.wk),pp4.grow g5⟩
  ·rintro σ H3 ⟨e3,e4,e5,rfl,g3,pp3⟩
   have gg:Grow [] H H3:=g.trans ((g2.wk.trans g3).shrink hp)
   refine ⟨_,_,_,rfl,.int 2,.int 1,.int 2,[],.int _,.int _,.int _,fun _ r H4 g4 hb=>?_,fun c hc=>?_⟩
   ·obtain ⟨r1,rfl,hr1⟩:=hb
    have ew:yu (kOf (.int 2)) (kOf (.int 1)) (kOf (.int 2)) = [1,3,2]:=by decide
    rw [ew] at hr1
    refine ⟨szl rfl,fun t ht=>?_⟩
    have gt:=Grow.new (m:=[]) ht (.tup [.int 1,.int 3,.int 2])
    refine ⟨r1,t,_,_,rfl,rfl,gt.sqT hr1,SqT.of zb,rfl,rfl,_,rfl,zy rfl ?_⟩
    have gT:=gg.trans (g4.trans gt)
    generalize upd H4 t _ = H5 at gT ⊢
    refine ⟨szl rfl,fun t1 ht1=>⟨szl rfl,fun t2 ht2=>?_⟩⟩
    have g5:=Grow.new (m:=[]) ht1 (.tup [.int 1])
    have g6:=Grow.new (m:=[]) ht2 (.tup [.ref t1])
    have hR:vg K (upd (upd H5 t1 (.tup [.int 1])) t2 (.tup [.ref t1])) (.ref t2) [[1]]:=⟨t2,_,rfl,SqT.of zb,⟨t1,rfl,g6.sqT (SqT.of zb)⟩,trivial⟩
    refine ⟨_,_,rfl,.int 1,rn [[1]],[],.int _,qG hR,fun _ rows ed _ r H6 g7 hb=>?_,fun c hc=>?_⟩
    ·obtain rfl:=Zw ed
     obtain ⟨r2,rfl,hr2⟩:=hb
     have ew:ledL (kOf (.int 1)) [[1]] = [1,0]:=by decide
     rw [ew] at hr2
     refine ⟨szl rfl,fun t3 ht3=>?_⟩
     have g8:=Grow.new (m:=[]) ht3 (.tup [.int 1,.int 0])
     refine ⟨r2,t3,_,_,rfl,rfl,g8.sqT hr2,SqT.of zb,rfl,rfl,_,rfl,zy rfl ?_⟩
     exact ⟨_,_,_,_,_,rfl,gT.trans (g5.trans (g6.trans (g7.trans g8)))⟩
    ·have e:yw (.int 1) (wo (kOf (.int 1)) (rn [[1]])) = none:=by rfl
     rw [e] at hc; cases hc
   ·have e:yw (.int 2) (xo (kOf (.int 2)) (.int 1) (.int 2)) = none:=by rfl
    rw [e] at hc; cases hc
 ·rintro σ H1 _
  exact q _
end
theorem wB:∀ {us:List Value},us.length = 1 -> ∃ x0,us = [x0]
 | [x0],_=>⟨x0,rfl⟩
theorem zI:∀ {us:List Value},us.length = 2 -> ∃ x0,∃ x1,us = [x0,x1]
 | [x0,x1],_=>⟨x0,x1,rfl⟩
theorem yz:∀ {us:List Value},us.length = 3 -> ∃ x0,∃ x1,∃ x2,us = [x0,x1,x2]
 | [x0,x1,x2],_=>⟨x0,x1,x2,rfl⟩
theorem rZ:∀ {us:List Value},us.length = 4 -> ∃ x0,∃ x1,∃ x2,∃ x3,us = [x0,x1,x2,x3]
 | [x0,x1,x2,x3],_=>⟨x0,x1,x2,x3,rfl⟩
def FA (K:FG7) (x:Str) (t:Stmt) (f:Addr) (d:FuncData):Prop:=PySem.W.nsIn K mainGlobals x = some (some (.ref f)) /\ Fun K x x t f d
theorem FA.cl {P:Program} {w:World} {K:FG7} {h base:Heap} {mg:Str -> Option Value} {x:Str} {t:Stmt} {f:Addr} {d:FuncData} {k:Nat} {ps:List Str} {sp:Sp} (a:FA K x t f d) (X:K.In h) (G:h.Ns mainGlobals mg) (F:FnOk P w K mg base CX0 k f d ps sp) (b:vm K d ps []):zi P w K mg base k x ps sp:=⟨_,_,F,b,a.2.kp,PySem.W.mg_of X G a.1⟩
theorem all_mk {l:PySem.W.OpenLaw} {w:World} {K:FG7} {h:Heap} {mg:Str -> Option Value} {fa f1 f2 f3 f4 f5 f6 f7 f8 f9 f10 f11 f12 f13 f14 f15 f16 f17 f18 f19 f20 f21 f22 f23 f24 f25 f26 f27 f28 f29 f30 f31 f32 f33 f34 f35 f36 f37 f38 f39 f40 f41 f42 f43 f44 f45 f46 f47 f48 f49:Addr} (X:K.In h) (G:h.Ns mainGlobals mg) (hfa:mg "law" = some (.ref fa))
    {d1 d2 d3 d4 d5 d6 d7 d8 d9 d10 d11 d12 d13 d14 d15 d16 d17 d18 d19 d20 d21 d22 d23 d24 d25 d26 d27 d28 d29 d30 d31 d32 d33 d34 d35 d36 d37 d38 d39 d40 d41 d42 d43 d44 d45 d46 d47 d48 d49:FuncData}
    {A_AskError:Addr} (ax_AskError:PySem.W.nsIn K mainGlobals "AskError" = some (some (.ref A_AskError)))
    {A_NoAsk:Addr} (ax_NoAsk:PySem.W.nsIn K mainGlobals "NoAsk" = some (some (.ref A_NoAsk)))
    {A_NoBoard:Addr} (ax_NoBoard:PySem.W.nsIn K mainGlobals "NoBoard" = some (some (.ref A_NoBoard)))
    {A_NoHand:Addr} (ax_NoHand:PySem.W.nsIn K mainGlobals "NoHand" = some (some (.ref A_NoHand)))
    {A_NoNet:Addr} (ax_NoNet:PySem.W.nsIn K mainGlobals "NoNet" = some (some (.ref A_NoNet)))
    {A_NoNumber:Addr} (ax_NoNumber:PySem.W.nsIn K mainGlobals "NoNumber" = some (some (.ref A_NoNumber)))
    {A_NoSettings:Addr} (ax_NoSettings:PySem.W.nsIn K mainGlobals "NoSettings" = some (some (.ref A_NoSettings)))
    {A_NoSide:Addr} (ax_NoSide:PySem.W.nsIn K mainGlobals "NoSide" = some (some (.ref A_NoSide)))
    {A_TooMany:Addr} (ax_TooMany:PySem.W.nsIn K mainGlobals "TooMany" = some (some (.ref A_TooMany)))
    (ex_AskError:PySem.W.excIn K A_AskError veM "ValueError.__new__" = true)
    (ex_NoHand:PySem.W.excIn K A_NoHand veM "ValueError.__new__" = true)
    (ex_NoNet:PySem.W.excIn K A_NoNet veM "ValueError.__new__" = true)
    (ex_NoSettings:PySem.W.excIn K A_NoSettings veM "ValueError.__new__" = true)
    (ex_NoSide:PySem.W.excIn K A_NoSide veM "ValueError.__new__" = true)
    (u_NoHand_AskError:PySem.W.mroIn K A_NoHand (.ref A_AskError) = some true)
    (u_NoNet_AskError:PySem.W.mroIn K A_NoNet (.ref A_AskError) = some true)
    (u_NoSettings_AskError:PySem.W.mroIn K A_NoSettings (.ref A_AskError) = some true)
    (u_NoSide_AskError:PySem.W.mroIn K A_NoSide (.ref A_AskError) = some true)
    (kk_NoHand:ExcK K A_NoHand)
    (kk_NoNet:ExcK K A_NoNet)
    (kk_NoSettings:ExcK K A_NoSettings)
    (kk_NoSide:ExcK K A_NoSide)
    (q_NoHand_NoAsk:PySem.W.kitOne K (.ref A_NoHand) (.ref A_NoAsk) = some false)
    (q_NoHand_NoBoard:PySem.W.kitOne K (.ref A_NoHand) (.ref A_NoBoard) = some false)
    (q_NoHand_NoHand:PySem.W.kitOne K (.ref A_NoHand) (.ref A_NoHand) = some true)
    (q_NoHand_NoNet:PySem.W.kitOne K (.ref A_NoHand) (.ref A_NoNet) = some false)
    (q_NoHand_NoNumber:PySem.W.kitOne K (.ref A_NoHand) (.ref A_NoNumber) = some false)
    (q_NoHand_NoSettings:PySem.W.kitOne K (.ref A_NoHand) (.ref A_NoSettings) = some false)
    (q_NoHand_NoSide:PySem.W.kitOne K (.ref A_NoHand) (.ref A_NoSide) = some false)
    (q_NoHand_TooMany:PySem.W.kitOne K (.ref A_NoHand) (.ref A_TooMany) = some false)
    (q_NoHand_ValueError:PySem.W.kitOne K (.ref A_NoHand) (.type "ValueError") = some true)
    (q_NoNet_NoAsk:PySem.W.kitOne K (.ref A_NoNet) (.ref A_NoAsk) = some false)
    (q_NoNet_NoBoard:PySem.W.kitOne K (.ref A_NoNet) (.ref A_NoBoard) = some false)
    (q_NoNet_NoHand:PySem.W.kitOne K (.ref A_NoNet) (.ref A_NoHand) = some false)
    (q_NoNet_NoNet:PySem.W.kitOne K (.ref A_NoNet) (.ref A_NoNet) = some true)
    (q_NoNet_NoNumber:PySem.W.kitOne K (.ref A_NoNet) (.ref A_NoNumber) = some false)
    (q_NoNet_NoSettings:PySem.W.kitOne K (.ref A_NoNet) (.ref A_NoSettings) = some false)
    (q_NoNet_NoSide:PySem.W.kitOne K (.ref A_NoNet) (.ref A_NoSide) = some false)
    (q_NoNet_TooMany:PySem.W.kitOne K (.ref A_NoNet) (.ref A_TooMany) = some false)
    (q_NoNet_ValueError:PySem.W.kitOne K (.ref A_NoNet) (.type "ValueError") = some true)
    (q_NoSettings_NoAsk:PySem.W.kitOne K (.ref A_NoSettings) (.ref A_NoAsk) = some false)
    (q_NoSettings_NoBoard:PySem.W.kitOne K (.ref A_NoSettings) (.ref A_NoBoard) = some false)
    (q_NoSettings_NoHand:PySem.W.kitOne K (.ref A_NoSettings) (.ref A_NoHand) = some false)
    (q_NoSettings_NoNet:PySem.W.kitOne K (.ref A_NoSettings) (.ref A_NoNet) = some false)
    (q_NoSettings_NoNumber:PySem.W.kitOne K (.ref A_NoSettings) (.ref A_NoNumber) = some false)
    (q_NoSettings_NoSettings:PySem.W.kitOne K (.ref A_NoSettings) (.ref A_NoSettings) = some true)
    (q_NoSettings_NoSide:PySem.W.kitOne K (.ref A_NoSettings) (.ref A_NoSide) = some false)
    (q_NoSettings_TooMany:PySem.W.kitOne K (.ref A_NoSettings) (.ref A_TooMany) = some false)
    (q_NoSettings_ValueError:PySem.W.kitOne K (.ref A_NoSettings) (.type "ValueError") = some true)
    (q_NoSide_NoAsk:PySem.W.kitOne K (.ref A_NoSide) (.ref A_NoAsk) = some false)
    (q_NoSide_NoBoard:PySem.W.kitOne K (.ref A_NoSide) (.ref A_NoBoard) = some false)
    (q_NoSide_NoHand:PySem.W.kitOne K (.ref A_NoSide) (.ref A_NoHand) = some false)
    (q_NoSide_NoNet:PySem.W.kitOne K (.ref A_NoSide) (.ref A_NoNet) = some false)
    (q_NoSide_NoNumber:PySem.W.kitOne K (.ref A_NoSide) (.ref A_NoNumber) = some false)
    (q_NoSide_NoSettings:PySem.W.kitOne K (.ref A_NoSide) (.ref A_NoSettings) = some false)
    (q_NoSide_NoSide:PySem.W.kitOne K (.ref A_NoSide) (.ref A_NoSide) = some true)
    (q_NoSide_TooMany:PySem.W.kitOne K (.ref A_NoSide) (.ref A_TooMany) = some false)
    (q_NoSide_ValueError:PySem.W.kitOne K (.ref A_NoSide) (.type "ValueError") = some true)
 (h1:FA K "figure" ((top 20)) f1 d1)
 (h2:FA K "with_figure" ((top 21)) f2 d2)
 (h3:FA K "switch_at" ((top 23)) f3 d3)
 (h4:FA K "out_line" ((top 39)) f4 d4)
 (h5:FA K "is_whole" ((top 11)) f5 d5)
 (h6:FA K "is_within" ((top 12)) f6 d6)
 (h7:FA K "switches_in_a_stage" ((top 34)) f7 d7)
 (h8:FA K "are_marks" ((top 35)) f8 d8)
 (h9:FA K "need_net" ((top 16)) f9 d9)
 (h10:FA K "is_settings" ((top 36)) f10 d10)
 (h11:FA K "need_settings" ((top 37)) f11 d11)
 (h12:FA K "led" ((top 40)) f12 d12)
 (h13:FA K "onward" ((top 22)) f13 d13)
 (h14:FA K "way_of" ((top 24)) f14 d14)
 (h15:FA K "is_line" ((top 17)) f15 d15)
 (h16:FA K "need_side" ((top 19)) f16 d16)
 (h17:FA K "need_hand" ((top 18)) f17 d17)
 (h18:FA K "way" ((top 25)) f18 d18)
 (h19:FA K "straight" ((top 38)) f19 d19)
 (h20:FA K "marks_by" ((top 42)) f20 d20)
 (h21:FA K "shared_line" ((top 31)) f21 d21)
 (h22:FA K "need_sides" ((top 41)) f22 d22)
 (h23:FA K "settings_for" ((top 43)) f23 d23)
 (h24:FA K "need_pairs" ((top 30)) f24 d24)
 (h25:FA K "first_shared" ((top 32)) f25 d25)
 (h26:FA K "unlike_stages" ((top 27)) f26 d26)
 (h27:FA K "parting" ((top 29)) f27 d27)
 (h28:FA K "meeting" ((top 28)) f28 d28)
 (h29:FA K "switches" ((top 26)) f29 d29)
 (h30:FA K "_law_asked" ((top 62)) f30 d30)
 (h31:FA K "_law_said" ((top 63)) f31 d31)
 (h32:FA K "_law_number" ((top 48)) f32 d32)
 (h33:FA K "_law_within" ((top 49)) f33 d33)
 (h34:FA K "_law_are_settings" ((top 60)) f34 d34)
 (h35:FA K "_law_are_sides" ((top 59)) f35 d35)
 (h36:FA K "_law_are_pairs" ((top 57)) f36 d36)
 (h37:FA K "_law_pairs_due" ((top 58)) f37 d37)
 (h38:FA K "_law_due" ((top 61)) f38 d38)
 (h39:FA K "_law_rich" ((top 45)) f39 d39)
 (h40:FA K "_law_take" ((top 47)) f40 d40)
 (h41:FA K "_law_odd" ((top 50)) f41 d41)
 (h42:FA K "_law_put" ((top 53)) f42 d42)
 (h43:FA K "_law_bad_row" ((top 54)) f43 d43)
 (h44:FA K "_law_or_odd" ((top 51)) f44 d44)
 (h45:FA K "_law_pairs" ((top 55)) f45 d45)
 (h46:FA K "_law_settings" ((top 52)) f46 d46)
 (h47:FA K "_law_drawn" ((top 56)) f47 d47)
 (h48:FA K "_law_purse" ((top 46)) f48 d48)
 (h49:FA K "law" ((top 64)) f49 d49)
    {t_DEEPEST:Tok} (ga_DEEPEST:PySem.W.nsIn K mainGlobals "DEEPEST" = some (some (.int 4 t_DEEPEST)))
    {t_MOST_PAIRS:Tok} (ga_MOST_PAIRS:PySem.W.nsIn K mainGlobals "MOST_PAIRS" = some (some (.int 40 t_MOST_PAIRS)))
    (ga_ValueError:PySem.W.nsIn K mainGlobals "ValueError" = some none)
    (ga_enumerate:PySem.W.nsIn K mainGlobals "enumerate" = some none)
    (ga_sorted:PySem.W.nsIn K mainGlobals "sorted" = some none)
    (ga_zip:PySem.W.nsIn K mainGlobals "zip" = some none)
    (z_abs:PySem.W.nsIn K mainGlobals "abs" = some none)
    (z_len:PySem.W.nsIn K mainGlobals "len" = some none)
    (z_max:PySem.W.nsIn K mainGlobals "max" = some none)
    (z_min:PySem.W.nsIn K mainGlobals "min" = some none)
    (z_divmod:PySem.W.nsIn K mainGlobals "divmod" = some none)
    (z_repr:PySem.W.nsIn K mainGlobals "repr" = some none)
    (z_isinstance:PySem.W.nsIn K mainGlobals "isinstance" = some none)
    (z_all:PySem.W.nsIn K mainGlobals "all" = some none)
    (z_range:PySem.W.nsIn K mainGlobals "range" = some none)
    (z_int:PySem.W.nsIn K mainGlobals "int" = some none)
    (z_bool:PySem.W.nsIn K mainGlobals "bool" = some none)
    (z_str:PySem.W.nsIn K mainGlobals "str" = some none)
    (z_tuple:PySem.W.nsIn K mainGlobals "tuple" = some none)
    (z_list:PySem.W.nsIn K mainGlobals "list" = some none)
    (z_dict:PySem.W.nsIn K mainGlobals "dict" = some none)
    :
    ∃ fd:FuncData,(∀ (s:Shared) (v:Value),BindsTo s fd ⟨[v],[]⟩ [("_law_script",v)]) /\ ∀ base:Heap,K.In base -> base.Ns mainGlobals mg -> FnOk l.prog w K mg base CX0 9 fa fd ["_law_script"] (qh K):=by
  have e:=hfa.symm.trans (PySem.W.mg_of X G h49.1)
  cases e
  have b9:=h9.2.binds (ps:=["thing"]) fun _ _ _ _ _ _ us hl=>by obtain ⟨_,rfl⟩:=wB hl; rfl
  have b10:=h10.2.binds (ps:=["k","thing"]) fun _ _ _ _ _ _ us hl=>by obtain ⟨_,_,rfl⟩:=zI hl; rfl
  have b11:=h11.2.binds (ps:=["k","thing"]) fun _ _ _ _ _ _ us hl=>by obtain ⟨_,_,rfl⟩:=zI hl; rfl
  have b12:=h12.2.binds (ps:=["k","settings"]) fun _ _ _ _ _ _ us hl=>by obtain ⟨_,_,rfl⟩:=zI hl; rfl
  have b16:=h16.2.binds (ps:=["k","thing"]) fun _ _ _ _ _ _ us hl=>by obtain ⟨_,_,rfl⟩:=zI hl; rfl
  have b17:=h17.2.binds (ps:=["k","thing"]) fun _ _ _ _ _ _ us hl=>by obtain ⟨_,_,rfl⟩:=zI hl; rfl
  have b18:=h18.2.binds (ps:=["k","hand","side"]) fun _ _ _ _ _ _ us hl=>by obtain ⟨_,_,_,rfl⟩:=yz hl; rfl
  have b19:=h19.2.binds (ps:=["k"]) fun _ _ _ _ _ _ us hl=>by obtain ⟨_,rfl⟩:=wB hl; rfl
  have b22:=h22.2.binds (ps:=["k","thing"]) fun _ _ _ _ _ _ us hl=>by obtain ⟨_,_,rfl⟩:=zI hl; rfl
  have b23:=h23.2.binds (ps:=["k","sides"]) fun _ _ _ _ _ _ us hl=>by obtain ⟨_,_,rfl⟩:=zI hl; rfl
  have b24:=h24.2.binds (ps:=["k","thing"]) fun _ _ _ _ _ _ us hl=>by obtain ⟨_,_,rfl⟩:=zI hl; rfl
  have b25:=h25.2.binds (ps:=["k","pairs"]) fun _ _ _ _ _ _ us hl=>by obtain ⟨_,_,rfl⟩:=zI hl; rfl
  have b27:=h27.2.binds (ps:=["k","one","other"]) fun _ _ _ _ _ _ us hl=>by obtain ⟨_,_,_,rfl⟩:=yz hl; rfl
  have b28:=h28.2.binds (ps:=["k","one","other"]) fun _ _ _ _ _ _ us hl=>by obtain ⟨_,_,_,rfl⟩:=yz hl; rfl
  have b29:=h29.2.binds (ps:=["k","hand","side"]) fun _ _ _ _ _ _ us hl=>by obtain ⟨_,_,_,rfl⟩:=yz hl; rfl
  have b30:=h30.2.binds (ps:=["_law_way_of","_law_drawn_here"]) fun _ _ _ _ _ _ us hl=>by obtain ⟨_,_,rfl⟩:=zI hl; rfl
  have x_AskError:ExcC K mg "AskError" A_AskError:=excC_of (PySem.W.mg_of X G ax_AskError) ex_AskError
  have x_NoHand:ExcC K mg "NoHand" A_NoHand:=excC_of (PySem.W.mg_of X G ax_NoHand) ex_NoHand
  have x_NoNet:ExcC K mg "NoNet" A_NoNet:=excC_of (PySem.W.mg_of X G ax_NoNet) ex_NoNet
  have x_NoSettings:ExcC K mg "NoSettings" A_NoSettings:=excC_of (PySem.W.mg_of X G ax_NoSettings) ex_NoSettings
  have x_NoSide:ExcC K mg "NoSide" A_NoSide:=excC_of (PySem.W.mg_of X G ax_NoSide) ex_NoSide
  have v_AskError:mg "AskError" = some (.ref A_AskError):=PySem.W.mg_of X G ax_AskError
  have v_NoAsk:mg "NoAsk" = some (.ref A_NoAsk):=PySem.W.mg_of X G ax_NoAsk
  have v_NoBoard:mg "NoBoard" = some (.ref A_NoBoard):=PySem.W.mg_of X G ax_NoBoard
  have v_NoHand:mg "NoHand" = some (.ref A_NoHand):=PySem.W.mg_of X G ax_NoHand
  have v_NoNet:mg "NoNet" = some (.ref A_NoNet):=PySem.W.mg_of X G ax_NoNet
  have v_NoNumber:mg "NoNumber" = some (.ref A_NoNumber):=PySem.W.mg_of X G ax_NoNumber
  have v_NoSettings:mg "NoSettings" = some (.ref A_NoSettings):=PySem.W.mg_of X G ax_NoSettings
  have v_NoSide:mg "NoSide" = some (.ref A_NoSide):=PySem.W.mg_of X G ax_NoSide
  have v_TooMany:mg "TooMany" = some (.ref A_TooMany):=PySem.W.mg_of X G ax_TooMany
  have k_NoHand:=kk_NoHand
  have k_NoNet:=kk_NoNet
  have k_NoSettings:=kk_NoSettings
  have k_NoSide:=kk_NoSide
  have B:Blt mg:=⟨PySem.W.mg_none_of X G z_abs,PySem.W.mg_none_of X G z_len,PySem.W.mg_none_of X G z_max,PySem.W.mg_none_of X G z_min,PySem.W.mg_none_of X G z_divmod,PySem.W.mg_none_of X G z_repr,PySem.W.mg_none_of X G z_isinstance,PySem.W.mg_none_of X G z_all,PySem.W.mg_none_of X G z_range,PySem.W.mg_none_of X G z_int,PySem.W.mg_none_of X G z_bool,PySem.W.mg_none_of X G z_str,PySem.W.mg_none_of X G z_tuple,PySem.W.mg_none_of X G z_list,PySem.W.mg_none_of X G z_dict⟩
  obtain ⟨oc,od,kV,dc,pm,an,cd,ct,sl,rfl,lk,hc⟩:=h49.2.ex
  refine ⟨PySem.W.fnOf "law" "law" (vN (top 64)) (wq (top 64)) (zh (top 64)) .none kV dc pm an cd ct,fun s v=>.of_eq rfl,fun base _ _=>?_⟩
  have C1:zi l.prog w K mg base 1 _ _ _:=h1.cl X G (ZF h1.2 B      ) (h1.2.binds fun _ _ _ _ _ _ us hl=>by obtain ⟨_,_,_,rfl⟩:=yz hl; rfl)
  have C2:zi l.prog w K mg base 2 _ _ _:=h2.cl X G (ur h2.2 B   (C1.mono (by decide))   ) (h2.2.binds fun _ _ _ _ _ _ us hl=>by obtain ⟨_,_,_,_,rfl⟩:=rZ hl; rfl)
  have C3:zi l.prog w K mg base 1 _ _ _:=h3.cl X G (sL h3.2 B      ) (h3.2.binds fun _ _ _ _ _ _ us hl=>by obtain ⟨_,_,_,rfl⟩:=yz hl; rfl)
  have C4:zi l.prog w K mg base 3 _ _ _:=h4.cl X G (rL h4.2 B   (C2.mono (by decide)) (C1.mono (by decide)) (C3.mono (by decide))   ) (h4.2.binds fun _ _ _ _ _ _ us hl=>by obtain ⟨_,_,_,_,rfl⟩:=rZ hl; rfl)
  have C5:zi l.prog w K mg base 1 _ _ _:=h5.cl X G (rN h5.2 B      ) (h5.2.binds fun _ _ _ _ _ _ us hl=>by obtain ⟨_,rfl⟩:=wB hl; rfl)
  have C6:zi l.prog w K mg base 2 _ _ _:=h6.cl X G (sN h6.2 B   (C5.mono (by decide))   ) (h6.2.binds fun _ _ _ _ _ _ us hl=>by obtain ⟨_,_,_,rfl⟩:=yz hl; rfl)
  have C7:zi l.prog w K mg base 1 _ _ _:=h7.cl X G (xF h7.2 B      ) (h7.2.binds fun _ _ _ _ _ _ us hl=>by obtain ⟨_,rfl⟩:=wB hl; rfl)
  have C8:zi l.prog w K mg base 3 _ _ _:=h8.cl X G (sP h8.2 B   (C6.mono (by decide)) (C7.mono (by decide))   ) (h8.2.binds fun _ _ _ _ _ _ us hl=>by obtain ⟨_,_,rfl⟩:=zI hl; rfl)
  have C9:zq l.prog w K mg base 3 "need_net" ["thing"] (xv A_NoNet K):=⟨_,_,rP (P:=l.prog) (w:=w) (base:=base) (n:=2) h9.2 B x_NoNet  (C6.mono (by decide))  (PySem.W.mg_of X G ga_DEEPEST) ,b9,h9.2.kp,PySem.W.mg_of X G h9.1⟩
  have C10:zq l.prog w K mg base 4 "is_settings" ["k","thing"] (tH A_NoNet K):=⟨_,_,uu (P:=l.prog) (w:=w) (base:=base) (n:=3) h10.2 B x_NoNet  (C8.mono (by decide)) (C9.mono (by decide))   ,b10,h10.2.kp,PySem.W.mg_of X G h10.1⟩
  have C11:zq l.prog w K mg base 5 "need_settings" ["k","thing"] (wX (clsA A_NoNet A_NoHand A_NoSide A_NoSettings) K):=⟨_,_,vt (P:=l.prog) (w:=w) (base:=base) (n:=4) h11.2 B x_NoNet x_NoSettings  (C10.mono (by decide))   ,b11,h11.2.kp,PySem.W.mg_of X G h11.1⟩
  have C12:zq l.prog w K mg base 6 "led" ["k","settings"] (vE (clsA A_NoNet A_NoHand A_NoSide A_NoSettings) K):=⟨_,_,X6 (P:=l.prog) (w:=w) (base:=base) (n:=5) h12.2 B x_NoNet x_NoHand x_NoSide x_NoSettings  (C4.mono (by decide)) (C11.mono (by decide))   ,b12,h12.2.kp,PySem.W.mg_of X G h12.1⟩
  have C13:zi l.prog w K mg base 3 _ _ _:=h13.cl X G (ZH h13.2 B   (C2.mono (by decide)) (C1.mono (by decide))   ) (h13.2.binds fun _ _ _ _ _ _ us hl=>by obtain ⟨_,_,_,_,rfl⟩:=rZ hl; rfl)
  have C14:zi l.prog w K mg base 4 _ _ _:=h14.cl X G (ZI h14.2 B   (C13.mono (by decide))   ) (h14.2.binds fun _ _ _ _ _ _ us hl=>by obtain ⟨_,_,_,rfl⟩:=yz hl; rfl)
  have C15:zi l.prog w K mg base 3 _ _ _:=h15.cl X G (jk h15.2 B   (C6.mono (by decide))   ) (h15.2.binds fun _ _ _ _ _ _ us hl=>by obtain ⟨_,_,rfl⟩:=zI hl; rfl)
  have C16:zq l.prog w K mg base 4 "need_side" ["k","thing"] (yD A_NoSide K):=⟨_,_,sS (P:=l.prog) (w:=w) (base:=base) (n:=3) h16.2 B x_NoSide  (C15.mono (by decide))   ,b16,h16.2.kp,PySem.W.mg_of X G h16.1⟩
  have C17:zq l.prog w K mg base 4 "need_hand" ["k","thing"] (yD A_NoHand K):=⟨_,_,sU (P:=l.prog) (w:=w) (base:=base) (n:=3) h17.2 B x_NoHand  (C15.mono (by decide))   ,b17,h17.2.kp,PySem.W.mg_of X G h17.1⟩
  have C18:zq l.prog w K mg base 5 "way" ["k","hand","side"] (v8 (clsA A_NoNet A_NoHand A_NoSide A_NoSettings) K):=⟨_,_,X8 (P:=l.prog) (w:=w) (base:=base) (n:=4) h18.2 B x_NoSide x_NoHand x_NoNet  (C14.mono (by decide)) (C16.mono (by decide)) (C17.mono (by decide)) (C9.mono (by decide))   ,b18,h18.2.kp,PySem.W.mg_of X G h18.1⟩
  have C19:zq l.prog w K mg base 4 "straight" ["k"] (rG A_NoNet K):=⟨_,_,rR (P:=l.prog) (w:=w) (base:=base) (n:=3) h19.2 B x_NoNet  (C7.mono (by decide)) (C9.mono (by decide))   ,b19,h19.2.kp,PySem.W.mg_of X G h19.1⟩
  have C20:zi l.prog w K mg base 2 _ _ _:=h20.cl X G (rS h20.2 B   (C3.mono (by decide)) (C1.mono (by decide)) (C7.mono (by decide))   ) (h20.2.binds fun _ _ _ _ _ _ us hl=>by obtain ⟨_,_,_,rfl⟩:=yz hl; rfl)
  have C21:zi l.prog w K mg base 5 _ _ _:=h21.cl X G (uw h21.2 B   (C14.mono (by decide)) (PySem.W.mg_none_of X G ga_zip) (PySem.W.mg_none_of X G ga_sorted)  ) (h21.2.binds fun _ _ _ _ _ _ us hl=>by obtain ⟨_,_,rfl⟩:=zI hl; rfl)
  have C22:zq l.prog w K mg base 4 "need_sides" ["k","thing"] (wW A_NoSide K):=⟨_,_,tL (P:=l.prog) (w:=w) (base:=base) (n:=3) h22.2 B x_NoSide  (C15.mono (by decide))   ,b22,h22.2.kp,PySem.W.mg_of X G h22.1⟩
  have C23:zq l.prog w K mg base 6 "settings_for" ["k","sides"] (ZA (clsA A_NoNet A_NoHand A_NoSide A_NoSettings) K):=⟨_,_,ue (P:=l.prog) (w:=w) (base:=base) (n:=5) h23.2 B x_NoSide x_NoNet  (C20.mono (by decide)) (C14.mono (by decide)) (C21.mono (by decide)) (C22.mono (by decide)) (C9.mono (by decide)) (PySem.W.mg_none_of X G ga_enumerate)  ,b23,h23.2.kp,PySem.W.mg_of X G h23.1⟩
  have C24:zq l.prog w K mg base 5 "need_pairs" ["k","thing"] (v9 (clsA A_NoNet A_NoHand A_NoSide A_NoSettings) K):=⟨_,_,tM (P:=l.prog) (w:=w) (base:=base) (n:=4) h24.2 B x_NoSide x_NoHand  (C16.mono (by decide)) (C17.mono (by decide))  (PySem.W.mg_of X G ga_MOST_PAIRS) ,b24,h24.2.kp,PySem.W.mg_of X G h24.1⟩
  have C25:zq l.prog w K mg base 6 "first_shared" ["k","pairs"] (Zz (clsA A_NoNet A_NoHand A_NoSide A_NoSettings) K):=⟨_,_,ug (P:=l.prog) (w:=w) (base:=base) (n:=5) h25.2 B x_NoNet x_NoHand x_NoSide x_NoSettings  (C21.mono (by decide)) (C24.mono (by decide)) (C9.mono (by decide))   ,b25,h25.2.kp,PySem.W.mg_of X G h25.1⟩
  have C26:zi l.prog w K mg base 2 _ _ _:=h26.cl X G (vx h26.2 B   (C1.mono (by decide))   ) (h26.2.binds fun _ _ _ _ _ _ us hl=>by obtain ⟨_,_,_,rfl⟩:=yz hl; rfl)
  have C27:zq l.prog w K mg base 5 "parting" ["k","one","other"] (wV (clsA A_NoNet A_NoHand A_NoSide A_NoSettings) .side K):=⟨_,_,jm (P:=l.prog) (w:=w) (base:=base) (n:=4) h27.2 B x_NoSide x_NoNet  (C26.mono (by decide)) (C16.mono (by decide)) (C9.mono (by decide))   ,b27,h27.2.kp,PySem.W.mg_of X G h27.1⟩
  have C28:zq l.prog w K mg base 5 "meeting" ["k","one","other"] (wV (clsA A_NoNet A_NoHand A_NoSide A_NoSettings) .hand K):=⟨_,_,jo (P:=l.prog) (w:=w) (base:=base) (n:=4) h28.2 B x_NoHand x_NoNet  (C26.mono (by decide)) (C17.mono (by decide)) (C9.mono (by decide))   ,b28,h28.2.kp,PySem.W.mg_of X G h28.1⟩
  have C29:zq l.prog w K mg base 6 "switches" ["k","hand","side"] (Zy (clsA A_NoNet A_NoHand A_NoSide A_NoSettings) K):=⟨_,_,rT (P:=l.prog) (w:=w) (base:=base) (n:=5) h29.2 B x_NoNet x_NoHand x_NoSide x_NoSettings  (C3.mono (by decide)) (C18.mono (by decide))   ,b29,h29.2.kp,PySem.W.mg_of X G h29.1⟩
  have C30:zq l.prog w K mg base 7 "_law_asked" ["_law_way_of","_law_drawn_here"] (w4 (clsA A_NoNet A_NoHand A_NoSide A_NoSettings) K):=⟨_,_,tN (P:=l.prog) (w:=w) (base:=base) (n:=6) h30.2 B x_NoNet x_NoHand x_NoSide x_NoSettings  (C10.mono (by decide)) (C19.mono (by decide)) (C12.mono (by decide)) (C23.mono (by decide)) (C25.mono (by decide)) (C27.mono (by decide)) (C28.mono (by decide)) (C29.mono (by decide)) (C18.mono (by decide))   ,b30,h30.2.kp,PySem.W.mg_of X G h30.1⟩
  have C31:zi l.prog w K mg base 8 _ _ _:=h31.cl X G (sV h31.2 B x_AskError x_NoNet x_NoHand x_NoSide x_NoSettings v_TooMany v_NoAsk v_NoBoard v_NoNumber v_NoSettings v_NoSide v_NoHand v_NoNet u_NoNet_AskError k_NoNet q_NoNet_NoNet q_NoNet_NoHand q_NoNet_NoSide q_NoNet_NoSettings q_NoNet_NoNumber q_NoNet_NoBoard q_NoNet_NoAsk q_NoNet_TooMany q_NoNet_ValueError u_NoHand_AskError k_NoHand q_NoHand_NoNet q_NoHand_NoHand q_NoHand_NoSide q_NoHand_NoSettings q_NoHand_NoNumber q_NoHand_NoBoard q_NoHand_NoAsk q_NoHand_TooMany q_NoHand_ValueError u_NoSide_AskError k_NoSide q_NoSide_NoNet q_NoSide_NoHand q_NoSide_NoSide q_NoSide_NoSettings q_NoSide_NoNumber q_NoSide_NoBoard q_NoSide_NoAsk q_NoSide_TooMany q_NoSide_ValueError u_NoSettings_AskError k_NoSettings q_NoSettings_NoNet q_NoSettings_NoHand q_NoSettings_NoSide q_NoSettings_NoSettings q_NoSettings_NoNumber q_NoSettings_NoBoard q_NoSettings_NoAsk q_NoSettings_TooMany q_NoSettings_ValueError (C30.mono (by decide)) (PySem.W.mg_none_of X G ga_ValueError)  ) (h31.2.binds fun _ _ _ _ _ _ us hl=>by obtain ⟨_,_,rfl⟩:=zI hl; rfl)
  have C32:zi l.prog w K mg base 1 _ _ _:=h32.cl X G (uy h32.2 B      ) (h32.2.binds fun _ _ _ _ _ _ us hl=>by obtain ⟨_,rfl⟩:=wB hl; rfl)
  have C33:zi l.prog w K mg base 2 _ _ _:=h33.cl X G (uA h33.2 B   (C32.mono (by decide))   ) (h33.2.binds fun _ _ _ _ _ _ us hl=>by obtain ⟨_,_,rfl⟩:=zI hl; rfl)
  have C34:zi l.prog w K mg base 3 _ _ _:=h34.cl X G (wj h34.2 B   (C33.mono (by decide))   ) (h34.2.binds fun _ _ _ _ _ _ us hl=>by obtain ⟨_,_,rfl⟩:=zI hl; rfl)
  have C35:zi l.prog w K mg base 3 _ _ _:=h35.cl X G (w6 h35.2 B   (C33.mono (by decide))   ) (h35.2.binds fun _ _ _ _ _ _ us hl=>by obtain ⟨_,_,rfl⟩:=zI hl; rfl)
  have C36:zi l.prog w K mg base 1 _ _ _:=h36.cl X G (vc h36.2 B      ) (h36.2.binds fun _ _ _ _ _ _ us hl=>by obtain ⟨_,rfl⟩:=wB hl; rfl)
  have C37:zi l.prog w K mg base 3 _ _ _:=h37.cl X G (ve h37.2 B   (C33.mono (by decide)) (C36.mono (by decide))   ) (h37.2.binds fun _ _ _ _ _ _ us hl=>by obtain ⟨_,_,rfl⟩:=zI hl; rfl)
  have C38:zi l.prog w K mg base 4 _ _ _:=h38.cl X G (rV h38.2 B   (C34.mono (by decide)) (C35.mono (by decide)) (C37.mono (by decide)) (C33.mono (by decide)) (C32.mono (by decide))   ) (h38.2.binds fun _ _ _ _ _ _ us hl=>by obtain ⟨_,_,rfl⟩:=zI hl; rfl)
  have C39:zi l.prog w K mg base 1 _ _ _:=h39.cl X G (sW h39.2 B    (PySem.W.mg_none_of X G ga_enumerate)  ) (h39.2.binds fun _ _ _ _ _ _ us hl=>by obtain ⟨_,_,rfl⟩:=zI hl; rfl)
  have C40:zi l.prog w K mg base 2 _ _ _:=h40.cl X G (sX h40.2 B   (C39.mono (by decide))   ) (h40.2.binds fun _ _ _ _ _ _ us hl=>by obtain ⟨_,_,rfl⟩:=zI hl; rfl)
  have C41:zi l.prog w K mg base 3 _ _ _:=h41.cl X G (rW h41.2 B   (C40.mono (by decide))   ) (h41.2.binds fun _ _ _ _ _ _ us hl=>by obtain ⟨_,_,rfl⟩:=zI hl; rfl)
  have C42:zi l.prog w K mg base 1 _ _ _:=h42.cl X G (rY h42.2 B      ) (h42.2.binds fun _ _ _ _ _ _ us hl=>by obtain ⟨_,_,_,rfl⟩:=yz hl; rfl)
  have C43:zi l.prog w K mg base 3 _ _ _:=h43.cl X G (ui h43.2 B   (C40.mono (by decide)) (C42.mono (by decide))   ) (h43.2.binds fun _ _ _ _ _ _ us hl=>by obtain ⟨_,_,_,rfl⟩:=yz hl; rfl)
  have C44:zi l.prog w K mg base 4 _ _ _:=h44.cl X G (uC h44.2 B   (C40.mono (by decide)) (C41.mono (by decide))   ) (h44.2.binds fun _ _ _ _ _ _ us hl=>by obtain ⟨_,_,_,rfl⟩:=yz hl; rfl)
  have C45:zi l.prog w K mg base 5 _ _ _:=h45.cl X G (tP h45.2 B   (C43.mono (by decide)) (C40.mono (by decide)) (C44.mono (by decide))   ) (h45.2.binds fun _ _ _ _ _ _ us hl=>by obtain ⟨_,_,rfl⟩:=zI hl; rfl)
  have C46:zi l.prog w K mg base 3 _ _ _:=h46.cl X G (vy h46.2 B   (C40.mono (by decide))   ) (h46.2.binds fun _ _ _ _ _ _ us hl=>by obtain ⟨_,_,rfl⟩:=zI hl; rfl)
  have C47:zi l.prog w K mg base 6 _ _ _:=h47.cl X G (tQ h47.2 B   (C41.mono (by decide)) (C40.mono (by decide)) (C45.mono (by decide)) (C43.mono (by decide)) (C46.mono (by decide)) (C44.mono (by decide))   ) (h47.2.binds fun _ _ _ _ _ _ us hl=>by obtain ⟨_,rfl⟩:=wB hl; rfl)
  have C48:zi l.prog w K mg base 1 _ _ _:=h48.cl X G (tR h48.2 B      ) (h48.2.binds fun _ _ _ _ _ _ us hl=>by obtain ⟨_,_,rfl⟩:=zI hl; rfl)
  exact X9 (P:=l.prog) (w:=w) (base:=base) (n:=8) h49.2 B x_NoNet x_NoHand x_NoSide x_NoSettings  (C12.mono (by decide)) (C18.mono (by decide)) (C31.mono (by decide)) (C38.mono (by decide)) (C47.mono (by decide)) (C48.mono (by decide))
theorem walk {l:PySem.W.OpenLaw} {q:Program} {loose:List Str} {XP:(Str -> Option Value) -> Heap -> Prop} {YP:World -> Heap -> Prop} {d:DefRec} {K:Params -> FG7} (hn:l.most = some 63) (hdf:d.params.defaults = [])
  (hY:∀ (w:World) (h:Heap),YP w h -> (K w.params).In h)
  (F:∀ (w:World) (mg:Str -> Option Value) (fa:Addr) (h:Heap),(K w.params).In h -> h.Ns mainGlobals mg -> mg d.name = some (.ref fa) →
   ∃ fd:FuncData,(∀ (s:Shared) (u:Value),BindsTo s fd ⟨[u],[]⟩ [("_law_script",u)]) /\ ∀ base:Heap,(K w.params).In base -> base.Ns mainGlobals mg -> FnOk l.prog w (K w.params) mg base CX0 9 fa fd ["_law_script"] (qh (K w.params))) :
  PySem.W.WalkO q loose XP YP l.row.toRowW d [] (fun f vs=>PySem.call f vs) :=
 L2.walk_of (n:=63) (k:=9) (x:="_law_script") (CX:=fun _=>CX0) (sp:=fun w=>qh (K w.params)) hn (by decide) hdf ⟨rfl,by decide,by decide,rfl⟩ hY F (fun _ _ a ns hl hO hS=>⟨_,rfl,a,ns,rfl,Scr.of hO hS,hl,fun _=>rfl⟩) fun _ _ _ _ _ z=>z
theorem walkX {q:Program} {loose:List Str} {XP:(Str -> Option Value) -> Heap -> Prop} {K:Params -> FG7} {as:List Addr} {n t:Nat} {r:PySem.W.RowW} {d:DefRec} {kwd:List (Str × Expr)} {run:Value -> List Value -> Sem Value}
  (e:∀ P,as = (K P).map (·.1)) (W:PySem.W.WalkO q loose XP (PySem.W.InK K) r d kwd run):PySem.W.WalkX q loose XP (PySem.W.X.obsZ as) (PySem.W.X.valZ K n t) r d kwd run :=
 fun w s₀ s₁ mg mb G Y a o pm cd doc dV kV h2 h3 h4 h5 h6 h7 args vals as' L hpre hlay hrd hwl hlo =>
  W w s₀ s₁ mg mb G (PySem.W.InK.keeps w s₀.heap s₁.heap (PySem.W.X.z_facts e Y).2.1 L.keeps) a o pm cd doc dV kV h2 h3 h4 h5 h6 h7 args vals as' hpre hlay hrd hwl hlo
end My
open PySem PySem.W PyProof.Rows
def PySem.W.Fast.tw13774655606895875652:Unit:=()
def PySem.W.Fast.tw17160092608752510707:Unit:=()
def PySem.W.Fast.tw17407423738344213809:Unit:=()
def PySem.W.Fast.tw16607981489375565452:Unit:=()
def PySem.W.Fast.tw3465156539240399412:Unit:=()
def PySem.W.Fast.tw1246968057720149768:Unit:=()
def PySem.W.Fast.tw13577455060342855295:Unit:=()
def PySem.W.Fast.tw17613336337343538043:Unit:=()
def PySem.W.Fast.tw12966379212684702485:Unit:=()
def PySem.W.Fast.tw13455462981053007563:Unit:=()
def PySem.W.Fast.tw9258204997942950738:Unit:=()
def PySem.W.Fast.tw10329723972091946517:Unit:=()
def PySem.W.Fast.tw13020728449655501635:Unit:=()
def PySem.W.Fast.tw11309586278611607287:Unit:=()
def PySem.W.Fast.tw15326889963846016697:Unit:=()
def PySem.W.Fast.tw8645517861899854854:Unit:=()
def PySem.W.Fast.tw4661906420438321315:Unit:=()
def PySem.W.Fast.tw13307046166387614935:Unit:=()
def PySem.W.Fast.tw11377160282641816183:Unit:=()
def PySem.W.Fast.tw8483914768333350800:Unit:=()
def PySem.W.Fast.tw13884687254740032348:Unit:=()
def PySem.W.Fast.tw10673770514825973987:Unit:=()
def PySem.W.Fast.tw14416435751530904884:Unit:=()
def PySem.W.Fast.tw3509203903866920200:Unit:=()
def PySem.W.Fast.tw1780176006131356643:Unit:=()
def PySem.W.Fast.tw3715531772577857405:Unit:=()
def PySem.W.Fast.tw7632525840388759445:Unit:=()
def PySem.W.Fast.tw10531396942112910363:Unit:=()
def PySem.W.Fast.tw14149165867755501964:Unit:=()
def PySem.W.Fast.tw6783981890854337714:Unit:=()
def PySem.W.Fast.tw9105135282227166814:Unit:=()
def PySem.W.Fast.tw16290496785928986288:Unit:=()
def PySem.W.Fast.tw11551127951128178846:Unit:=()
def PySem.W.Fast.tw15472447803925161344:Unit:=()
def PySem.W.Fast.tw1353263577412602575:Unit:=()
def PySem.W.Fast.tw12919329095650211052:Unit:=()
def PySem.W.Fast.tw11099090426124224633:Unit:=()
def PySem.W.Fast.tw17116715204532412173:Unit:=()
def PySem.W.Fast.tw15542152618115702128:Unit:=()
def PySem.W.Fast.tw6004267423572947713:Unit:=()
def PySem.W.Fast.tw12611091992565688168:Unit:=()
def PySem.W.Fast.tw3915580792772098991:Unit:=()
def PySem.W.Fast.tw15550087019848364003:Unit:=()
def PySem.W.Fast.tw8575382046631173786:Unit:=()
def PySem.W.Fast.tw6394290315103353561:Unit:=()
def PySem.W.Fast.tw6828187400571072050:Unit:=()
def PySem.W.Fast.tw12258906798841734567:Unit:=()
def PySem.W.Fast.tw14644490276458739034:Unit:=()
def PySem.W.Fast.tw7201608273499695738:Unit:=()
def PySem.W.Fast.tw1865061430039198088:Unit:=()
def PySem.W.Fast.tw17521338901628648525:Unit:=()
def PySem.W.Fast.tw2666734294344341207:Unit:=()
def PySem.W.Fast.tw16948774172901269372:Unit:=()
def PySem.W.Fast.tw467882639821051821:Unit:=()
def PySem.W.Fast.tw4980084286978255453:Unit:=()
def PySem.W.Fast.tw3308707212640963682:Unit:=()
def PySem.W.Fast.tw12893926117515660958:Unit:=()
def PySem.W.Fast.tw13497649003761556716:Unit:=()
def PySem.W.Fast.tw17005629100148929159:Unit:=()
def PySem.W.Fast.tw4738414518445769350:Unit:=()
def PySem.W.Fast.tw7752689459301709008:Unit:=()
def PySem.W.Fast.tw1433431777416746169:Unit:=()
def PySem.W.Fast.tw11220890397674218753:Unit:=()
def PySem.W.Fast.tw7324309698427685771:Unit:=()
def PySem.W.Fast.tw7149814101270172966:Unit:=()
def PySem.W.Fast.tw12088783982276926160:Unit:=()
def PySem.W.Fast.tw17784868487257131106:Unit:=()
def PySem.W.Fast.tw6599089952558686962:Unit:=()
def PySem.W.Fast.tw17516320725662989703:Unit:=()
def PySem.W.Fast.tw7326561694119096285:Unit:=()
def PySem.W.Fast.tw15257243324903420375:Unit:=()
def PySem.W.Fast.tw9265918470258852806:Unit:=()
def PySem.W.Fast.tw116733974440909526:Unit:=()
def PySem.W.Fast.tw313619474629072812:Unit:=()
def PySem.W.Fast.tw1123409028021078635:Unit:=()
def PySem.W.Fast.tw6478245391467375880:Unit:=()
def PySem.W.Fast.tw8646747896945231840:Unit:=()
def PySem.W.Fast.tw9513267169591426463:Unit:=()
def PySem.W.Fast.tw8855978527365400071:Unit:=()
def PySem.W.Fast.tw6166235382054658197:Unit:=()
def PySem.W.Fast.tw6535955337561038633:Unit:=()
def PySem.W.Fast.tw9211525056239159090:Unit:=()
def PySem.W.Fast.tw3355807717511458291:Unit:=()
def PySem.W.Fast.tw10414679449060268488:Unit:=()
def PySem.W.Fast.tw14227651527759005540:Unit:=()
def PySem.W.Fast.tw10036090251201765306:Unit:=()
def PySem.W.Fast.tw2899033223615006211:Unit:=()
def PySem.W.Fast.tw11109128497447243817:Unit:=()
def PySem.W.Fast.tw1937402452820199572:Unit:=()
def PySem.W.Fast.tw8051130907233565963:Unit:=()
def PySem.W.Fast.tw123351173592484528:Unit:=()
def PySem.W.Fast.tw14218384649575608419:Unit:=()
def PySem.W.Fast.tw11781061793876204379:Unit:=()
def PySem.W.Fast.tw8310079393523038000:Unit:=()
def PySem.W.Fast.tw16325622089087115514:Unit:=()
def PySem.W.Fast.tw10114312061006080707:Unit:=()
def PySem.W.Fast.tw14830146767127344264:Unit:=()
def PySem.W.Fast.tw10496767531682083812:Unit:=()
def PySem.W.Fast.tw18256264622511778766:Unit:=()
def PySem.W.Fast.tw9274301336435522951:Unit:=()
def PySem.W.Fast.tw3020264687193310457:Unit:=()
def PySem.W.Fast.tw10193104864710615039:Unit:=()
def PySem.W.Fast.tw16372909794570474643:Unit:=()
def PySem.W.Fast.tw811657867521836452:Unit:=()
def PySem.W.Fast.tw9434904076761897651:Unit:=()
def PySem.W.Fast.tw16064993294309416780:Unit:=()
def PySem.W.Fast.tw5438364529379056401:Unit:=()
def PySem.W.Fast.tw3162413568218890430:Unit:=()
def PySem.W.Fast.tw6734944189954874402:Unit:=()
def PySem.W.Fast.tw596680212080542768:Unit:=()
def PySem.W.Fast.tw7163259663952034993:Unit:=()
def PySem.W.Fast.tw1001363767910597552:Unit:=()
def PySem.W.Fast.tw11804613456542680344:Unit:=()
def PySem.W.Fast.tw18385003802506580514:Unit:=()
def PySem.W.Fast.tw799780829408210457:Unit:=()
def PySem.W.Fast.tw15639793334612335859:Unit:=()
def PySem.W.Fast.tw2965927120091408785:Unit:=()
def PySem.W.Fast.tw18124398531057106879:Unit:=()
def PySem.W.Fast.tw9083622558379545242:Unit:=()
def PySem.W.Fast.tw8753612148558897164:Unit:=()
def PySem.W.Fast.tw3066721649632868399:Unit:=()
def PySem.W.Fast.tw3787466118732112420:Unit:=()
def PySem.W.Fast.tw12054821259391350522:Unit:=()
def PySem.W.Fast.tw6179888314766343029:Unit:=()
def PySem.W.Fast.tw13778726654447006042:Unit:=()
def PySem.W.Fast.tw7716537594474270965:Unit:=()
def PySem.W.Fast.tw2673412573750815975:Unit:=()
def PySem.W.Fast.tw11848301885837657763:Unit:=()
def PySem.W.Fast.tw1248806510388262990:Unit:=()
def PySem.W.Fast.tw538331104198294513:Unit:=()
def PySem.W.Fast.tw11279300529672057809:Unit:=()
def PySem.W.Fast.tw14979864239548213645:Unit:=()
def PySem.W.Fast.tw10384106102263402649:Unit:=()
def PySem.W.Fast.tw13048703566935165877:Unit:=()
def PySem.W.Fast.tw12221507248702374141:Unit:=()
def PySem.W.Fast.tw4107259827198080128:Unit:=()
def PySem.W.Fast.tw1858069021076740003:Unit:=()
def PySem.W.Fast.tw6480033795547531312:Unit:=()
def PySem.W.Fast.tw14083144195231659155:Unit:=()
def PySem.W.Fast.tw13118936242912253732:Unit:=()
def PySem.W.Fast.tw14692211941569053745:Unit:=()
def PySem.W.Fast.tw18037921011588393753:Unit:=()
def PySem.W.Fast.tw18407692571161276393:Unit:=()
def PySem.W.Fast.tw18108566103265525361:Unit:=()
def PySem.W.Fast.tw13657548714449528383:Unit:=()
def PySem.W.Fast.tw6457899277268737073:Unit:=()
def PySem.W.Fast.tw15881589934959278330:Unit:=()
def PySem.W.Fast.tw2761567591771598139:Unit:=()
def PySem.W.Fast.tw8927824279719450330:Unit:=()
def PySem.W.Fast.tw13327975183623555062:Unit:=()
def PySem.W.Fast.tw15236621166206056929:Unit:=()
def PySem.W.Fast.tw5524616979219573480:Unit:=()
def PySem.W.Fast.tw9745632419168077445:Unit:=()
def PySem.W.Fast.tw14556459684166843043:Unit:=()
def PySem.W.Fast.tw6998623958270596739:Unit:=()
def PySem.W.Fast.tw5564448728451030841:Unit:=()
def PySem.W.Fast.tw18055560776003753805:Unit:=()
def PySem.W.Fast.tw10350906801954579577:Unit:=()
def PySem.W.Fast.tw15379684641438857500:Unit:=()
def PySem.W.Fast.tw8544589935896104052:Unit:=()
def PySem.W.Fast.tw14418475786242280090:Unit:=()
def PySem.W.Fast.tw16916356495778752538:Unit:=()
def PySem.W.Fast.tw15454416890100606980:Unit:=()
def PySem.W.Fast.tw7427943319298009310:Unit:=()
def PySem.W.Fast.tw9179204547427159689:Unit:=()
def PySem.W.Fast.tw15222745852111286380:Unit:=()
def PySem.W.Fast.tw16508951087764520667:Unit:=()
def PySem.W.Fast.tw12712421721335090768:Unit:=()
def PySem.W.Fast.tw4788954771963219435:Unit:=()
def PySem.W.Fast.tw10665535069014490175:Unit:=()
def PySem.W.Fast.tw12393730640105495839:Unit:=()
def PySem.W.Fast.tw10490212391850567782:Unit:=()
def PySem.W.Fast.tw7627473106720568904:Unit:=()
def PySem.W.Fast.tw7688970662400181363:Unit:=()
def PySem.W.Fast.tw13404575325803077140:Unit:=()
def PySem.W.Fast.tw7997616283012682266:Unit:=()
def PySem.W.Fast.tw17821002870583448455:Unit:=()
def PySem.W.Fast.tw10137904639699390787:Unit:=()
def PySem.W.Fast.tw12997661611131668148:Unit:=()
def PySem.W.Fast.tw7461314731342537256:Unit:=()
def PySem.W.Fast.tw4891004469158581980:Unit:=()
def PySem.W.Fast.tw12919031096993284943:Unit:=()
def PySem.W.Fast.tw710196880602842875:Unit:=()
def PySem.W.Fast.tw18273786289101982306:Unit:=()
def PySem.W.Fast.tw10814360520018435817:Unit:=()
def PySem.W.Fast.tw12729829829837164304:Unit:=()
def PySem.W.Fast.tw3868950093327788575:Unit:=()
def PySem.W.Fast.tw12872416367444209912:Unit:=()
def PySem.W.Fast.tw4623480477873470141:Unit:=()
def PySem.W.Fast.tw9841637824410758322:Unit:=()
def PySem.W.Fast.tw14035984723562591421:Unit:=()
def PySem.W.Fast.tw12459972070133188725:Unit:=()
def PySem.W.Fast.tw10635861223973800402:Unit:=()
def PySem.W.Fast.tw3522067450326668591:Unit:=()
def PySem.W.Fast.tw17921423651678384339:Unit:=()
def PySem.W.Fast.tw7306846183038948953:Unit:=()
def PySem.W.Fast.tw16037857741466914815:Unit:=()
def PySem.W.Fast.tw15111506194173552024:Unit:=()
def PySem.W.Fast.tw11210193783521490326:Unit:=()
def PySem.W.Fast.tw2672090930612482008:Unit:=()
def PySem.W.Fast.tw12313638793768051961:Unit:=()
def PySem.W.Fast.tw12741806980362702096:Unit:=()
def PySem.W.Fast.tw6977203984061220487:Unit:=()
def PySem.W.Fast.tw5866581734410839889:Unit:=()
def PySem.W.Fast.tw18218487216820996016:Unit:=()
def PySem.W.Fast.tw343189611388131059:Unit:=()
def PySem.W.Fast.tw664042511975052709:Unit:=()
def PySem.W.Fast.tw5331124265143023325:Unit:=()
def PySem.W.Fast.tw12158645287751092919:Unit:=()
set_option maxRecDepth 100000 in
theorem PySem.Challenge.cw_joinedasks_k37_refused_in_order_holds : PySem.Challenge.rw_joinedasks_k37_refused_in_order.Holds := by
 w_on; o_law; z_head; (case hw=>w_witness2)
 refine My.walkX (fun _=>by kernel_rfl) (My.walk (l:=PySem.Challenge.rw_joinedasks_k37_refused_in_order) rfl rfl (fun w h Y=>Y) ?F)
 case F =>
  intro w mg fa h KX G hmg
  refine' My.all_mk KX G hmg  ?ax_AskError ?ax_NoAsk ?ax_NoBoard ?ax_NoHand ?ax_NoNet ?ax_NoNumber ?ax_NoSettings ?ax_NoSide ?ax_TooMany ?ex_AskError ?ex_NoHand ?ex_NoNet ?ex_NoSettings ?ex_NoSide ?u_NoHand_AskError ?u_NoNet_AskError ?u_NoSettings_AskError ?u_NoSide_AskError ?kk_NoHand ?kk_NoNet ?kk_NoSettings ?kk_NoSide ?q_NoHand_NoAsk ?q_NoHand_NoBoard ?q_NoHand_NoHand ?q_NoHand_NoNet ?q_NoHand_NoNumber ?q_NoHand_NoSettings ?q_NoHand_NoSide ?q_NoHand_TooMany ?q_NoHand_ValueError ?q_NoNet_NoAsk ?q_NoNet_NoBoard ?q_NoNet_NoHand ?q_NoNet_NoNet ?q_NoNet_NoNumber ?q_NoNet_NoSettings ?q_NoNet_NoSide ?q_NoNet_TooMany ?q_NoNet_ValueError ?q_NoSettings_NoAsk ?q_NoSettings_NoBoard ?q_NoSettings_NoHand ?q_NoSettings_NoNet ?q_NoSettings_NoNumber ?q_NoSettings_NoSettings ?q_NoSettings_NoSide ?q_NoSettings_TooMany ?q_NoSettings_ValueError ?q_NoSide_NoAsk ?q_NoSide_NoBoard ?q_NoSide_NoHand ?q_NoSide_NoNet ?q_NoSide_NoNumber ?q_NoSide_NoSettings ?q_NoSide_NoSide ?q_NoSide_TooMany ?q_NoSide_ValueError ?h1 ?h2 ?h3 ?h4 ?h5 ?h6 ?h7 ?h8 ?h9 ?h10 ?h11 ?h12 ?h13 ?h14 ?h15 ?h16 ?h17 ?h18 ?h19 ?h20 ?h21 ?h22 ?h23 ?h24 ?h25 ?h26 ?h27 ?h28 ?h29 ?h30 ?h31 ?h32 ?h33 ?h34 ?h35 ?h36 ?h37 ?h38 ?h39 ?h40 ?h41 ?h42 ?h43 ?h44 ?h45 ?h46 ?h47 ?h48 ?h49 ?ga_DEEPEST ?ga_MOST_PAIRS ?ga_ValueError ?ga_enumerate ?ga_sorted ?ga_zip ?z_abs ?z_len ?z_max ?z_min ?z_divmod ?z_repr ?z_isinstance ?z_all ?z_range ?z_int ?z_bool ?z_str ?z_tuple ?z_list ?z_dict
  (case ax_AskError=>k_is)
  (case ax_NoAsk=>k_is)
  (case ax_NoBoard=>k_is)
  (case ax_NoHand=>k_is)
  (case ax_NoNet=>k_is)
  (case ax_NoNumber=>k_is)
  (case ax_NoSettings=>k_is)
  (case ax_NoSide=>k_is)
  (case ax_TooMany=>k_is)
  (case ex_AskError=>kernel_rfl)
  (case ex_NoHand=>kernel_rfl)
  (case ex_NoNet=>kernel_rfl)
  (case ex_NoSettings=>kernel_rfl)
  (case ex_NoSide=>kernel_rfl)
  (case u_NoHand_AskError=>kernel_rfl)
  (case u_NoNet_AskError=>kernel_rfl)
  (case u_NoSettings_AskError=>kernel_rfl)
  (case u_NoSide_AskError=>kernel_rfl)
  (case kk_NoHand=>exact ⟨by kernel_rfl,by kernel_rfl,by kernel_rfl,by kernel_rfl,by kernel_rfl⟩)
  (case kk_NoNet=>exact ⟨by kernel_rfl,by kernel_rfl,by kernel_rfl,by kernel_rfl,by kernel_rfl⟩)
  (case kk_NoSettings=>exact ⟨by kernel_rfl,by kernel_rfl,by kernel_rfl,by kernel_rfl,by kernel_rfl⟩)
  (case kk_NoSide=>exact ⟨by kernel_rfl,by kernel_rfl,by kernel_rfl,by kernel_rfl,by kernel_rfl⟩)
  (case q_NoHand_NoAsk=>kernel_rfl)
  (case q_NoHand_NoBoard=>kernel_rfl)
  (case q_NoHand_NoHand=>kernel_rfl)
  (case q_NoHand_NoNet=>kernel_rfl)
  (case q_NoHand_NoNumber=>kernel_rfl)
  (case q_NoHand_NoSettings=>kernel_rfl)
  (case q_NoHand_NoSide=>kernel_rfl)
  (case q_NoHand_TooMany=>kernel_rfl)
  (case q_NoHand_ValueError=>kernel_rfl)
  (case q_NoNet_NoAsk=>kernel_rfl)
  (case q_NoNet_NoBoard=>kernel_rfl)
  (case q_NoNet_NoHand=>kernel_rfl)
  (case q_NoNet_NoNet=>kernel_rfl)
  (case q_NoNet_NoNumber=>kernel_rfl)
  (case q_NoNet_NoSettings=>kernel_rfl)
  (case q_NoNet_NoSide=>kernel_rfl)
  (case q_NoNet_TooMany=>kernel_rfl)
  (case q_NoNet_ValueError=>kernel_rfl)
  (case q_NoSettings_NoAsk=>kernel_rfl)
  (case q_NoSettings_NoBoard=>kernel_rfl)
  (case q_NoSettings_NoHand=>kernel_rfl)
  (case q_NoSettings_NoNet=>kernel_rfl)
  (case q_NoSettings_NoNumber=>kernel_rfl)
  (case q_NoSettings_NoSettings=>kernel_rfl)
  (case q_NoSettings_NoSide=>kernel_rfl)
  (case q_NoSettings_TooMany=>kernel_rfl)
  (case q_NoSettings_ValueError=>kernel_rfl)
  (case q_NoSide_NoAsk=>kernel_rfl)
  (case q_NoSide_NoBoard=>kernel_rfl)
  (case q_NoSide_NoHand=>kernel_rfl)
  (case q_NoSide_NoNet=>kernel_rfl)
  (case q_NoSide_NoNumber=>kernel_rfl)
  (case q_NoSide_NoSettings=>kernel_rfl)
  (case q_NoSide_NoSide=>kernel_rfl)
  (case q_NoSide_TooMany=>kernel_rfl)
  (case q_NoSide_ValueError=>kernel_rfl)
  (case h1=>exact ⟨by k_is,L2.fun_mk (by k_is) (by k_is) (by k_is)⟩)
  (case h2=>exact ⟨by k_is,L2.fun_mk (by k_is) (by k_is) (by k_is)⟩)
  (case h3=>exact ⟨by k_is,L2.fun_mk (by k_is) (by k_is) (by k_is)⟩)
  (case h4=>exact ⟨by k_is,L2.fun_mk (by k_is) (by k_is) (by k_is)⟩)
  (case h5=>exact ⟨by k_is,L2.fun_mk (by k_is) (by k_is) (by k_is)⟩)
  (case h6=>exact ⟨by k_is,L2.fun_mk (by k_is) (by k_is) (by k_is)⟩)
  (case h7=>exact ⟨by k_is,L2.fun_mk (by k_is) (by k_is) (by k_is)⟩)
  (case h8=>exact ⟨by k_is,L2.fun_mk (by k_is) (by k_is) (by k_is)⟩)
  (case h9=>exact ⟨by k_is,L2.fun_mk (by k_is) (by k_is) (by k_is)⟩)
  (case h10=>exact ⟨by k_is,L2.fun_mk (by k_is) (by k_is) (by k_is)⟩)
  (case h11=>exact ⟨by k_is,L2.fun_mk (by k_is) (by k_is) (by k_is)⟩)
  (case h12=>exact ⟨by k_is,L2.fun_mk (by k_is) (by k_is) (by k_is)⟩)
  (case h13=>exact ⟨by k_is,L2.fun_mk (by k_is) (by k_is) (by k_is)⟩)
  (case h14=>exact ⟨by k_is,L2.fun_mk (by k_is) (by k_is) (by k_is)⟩)
  (case h15=>exact ⟨by k_is,L2.fun_mk (by k_is) (by k_is) (by k_is)⟩)
  (case h16=>exact ⟨by k_is,L2.fun_mk (by k_is) (by k_is) (by k_is)⟩)
  (case h17=>exact ⟨by k_is,L2.fun_mk (by k_is) (by k_is) (by k_is)⟩)
  (case h18=>exact ⟨by k_is,L2.fun_mk (by k_is) (by k_is) (by k_is)⟩)
  (case h19=>exact ⟨by k_is,L2.fun_mk (by k_is) (by k_is) (by k_is)⟩)
  (case h20=>exact ⟨by k_is,L2.fun_mk (by k_is) (by k_is) (by k_is)⟩)
  (case h21=>exact ⟨by k_is,L2.fun_mk (by k_is) (by k_is) (by k_is)⟩)
  (case h22=>exact ⟨by k_is,L2.fun_mk (by k_is) (by k_is) (by k_is)⟩)
  (case h23=>exact ⟨by k_is,L2.fun_mk (by k_is) (by k_is) (by k_is)⟩)
  (case h24=>exact ⟨by k_is,L2.fun_mk (by k_is) (by k_is) (by k_is)⟩)
  (case h25=>exact ⟨by k_is,L2.fun_mk (by k_is) (by k_is) (by k_is)⟩)
  (case h26=>exact ⟨by k_is,L2.fun_mk (by k_is) (by k_is) (by k_is)⟩)
  (case h27=>exact ⟨by k_is,L2.fun_mk (by k_is) (by k_is) (by k_is)⟩)
  (case h28=>exact ⟨by k_is,L2.fun_mk (by k_is) (by k_is) (by k_is)⟩)
  (case h29=>exact ⟨by k_is,L2.fun_mk (by k_is) (by k_is) (by k_is)⟩)
  (case h30=>exact ⟨by k_is,L2.fun_mk (by k_is) (by k_is) (by k_is)⟩)
  (case h31=>exact ⟨by k_is,L2.fun_mk (by k_is) (by k_is) (by k_is)⟩)
  (case h32=>exact ⟨by k_is,L2.fun_mk (by k_is) (by k_is) (by k_is)⟩)
  (case h33=>exact ⟨by k_is,L2.fun_mk (by k_is) (by k_is) (by k_is)⟩)
  (case h34=>exact ⟨by k_is,L2.fun_mk (by k_is) (by k_is) (by k_is)⟩)
  (case h35=>exact ⟨by k_is,L2.fun_mk (by k_is) (by k_is) (by k_is)⟩)
  (case h36=>exact ⟨by k_is,L2.fun_mk (by k_is) (by k_is) (by k_is)⟩)
  (case h37=>exact ⟨by k_is,L2.fun_mk (by k_is) (by k_is) (by k_is)⟩)
  (case h38=>exact ⟨by k_is,L2.fun_mk (by k_is) (by k_is) (by k_is)⟩)
  (case h39=>exact ⟨by k_is,L2.fun_mk (by k_is) (by k_is) (by k_is)⟩)
  (case h40=>exact ⟨by k_is,L2.fun_mk (by k_is) (by k_is) (by k_is)⟩)
  (case h41=>exact ⟨by k_is,L2.fun_mk (by k_is) (by k_is) (by k_is)⟩)
  (case h42=>exact ⟨by k_is,L2.fun_mk (by k_is) (by k_is) (by k_is)⟩)
  (case h43=>exact ⟨by k_is,L2.fun_mk (by k_is) (by k_is) (by k_is)⟩)
  (case h44=>exact ⟨by k_is,L2.fun_mk (by k_is) (by k_is) (by k_is)⟩)
  (case h45=>exact ⟨by k_is,L2.fun_mk (by k_is) (by k_is) (by k_is)⟩)
  (case h46=>exact ⟨by k_is,L2.fun_mk (by k_is) (by k_is) (by k_is)⟩)
  (case h47=>exact ⟨by k_is,L2.fun_mk (by k_is) (by k_is) (by k_is)⟩)
  (case h48=>exact ⟨by k_is,L2.fun_mk (by k_is) (by k_is) (by k_is)⟩)
  (case h49=>exact ⟨by k_is,L2.fun_mk (by k_is) (by k_is) (by k_is)⟩)
  (case ga_DEEPEST=>k_is)
  (case ga_MOST_PAIRS=>k_is)
  (case ga_ValueError=>k_is)
  (case ga_enumerate=>k_is)
  (case ga_sorted=>k_is)
  (case ga_zip=>k_is)
  (case z_abs=>k_is); (case z_len=>k_is); (case z_max=>k_is); (case z_min=>k_is); (case z_divmod=>k_is); (case z_repr=>k_is); (case z_isinstance=>k_is); (case z_all=>k_is); (case z_range=>k_is); (case z_int=>k_is); (case z_bool=>k_is); (case z_str=>k_is); (case z_tuple=>k_is); (case z_list=>k_is); (case z_dict=>k_is)
